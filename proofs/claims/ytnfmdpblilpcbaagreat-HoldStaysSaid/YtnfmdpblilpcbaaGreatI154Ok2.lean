/-
 The functions of the program do as the plain functions do.
-/
import Derived.Test.YtnfmdpblilpcbaaGreatI154Ok1
namespace Go.Proofs.YtnfmdpblilpcbaaGreat.Ok
open Go Go.Pw Go.Sh Go.Proofs
set_option linter.unusedVariables false
set_option maxRecDepth 100000
set_option maxHeartbeats 4000000
theorem r15_Right_ok {a0 : r15_Heap} {r : Bool} (h : r15_Right a0 = some r) : PCalls Tryz.prog 32 [r15_Heap.Pv a0] (.bool r) := by
 unfold r15_Right at h
 refine pc_intro (N := 48) Tryz.func32 J J nl fun w0 imm0 => sR <| y1 J (o_box (d := r15_Heap.Pv a0) J J J J J) J <| yb J J <| yN <| pw_seq <| sR <| yF J J Ty.f49_0 J <| yL J J J J Ty.a42 Ty.s42 nl J <| bnE h fun v1 hv1 h => y0 J (o_call J Ty.k99 J (r06_Right_ok hv1)) <| y0 J (o_not J J) <| yB J J <| y_if J (fun hg => oF J Ty.f49_3 J) <| y_if J (fun hg => oS (ct hg) J J Ty.a44 J) <| bnE h fun v2 hv2 h => y_if J (fun hg => o_call J Ty.k100 (consE (ct hg) J) (r10_Right_ok (onlyE hv2 hg))) <| y_if J (fun hg => o_not (ct hg) J) <| y0 J (pk_or J J J (fun q => eqF q)) <| yB J J <| y_if J (fun hg => oF J Ty.f49_1 J) <| y_if J (fun hg => oS (ct hg) J J Ty.a27 J) <| y_if J (fun hg => o_lnL (f := iF) (ct hg) Ty.e27) <| y_if J (fun hg => o_cmp (ct hg) J J) <| y0 J (pk_or J J J (fun q => eqF q)) <| yB J J <| y_if J (fun hg => oF J Ty.f49_2 J) <| y_if J (fun hg => oS (ct hg) J J Ty.a43 J) <| y_if J (fun hg => o_lnL (f := r09_Cell.Pv) (ct hg) Ty.e43) <| y_if J (fun hg => o_cmp (ct hg) J J) <| y0 J (pk_or J J J (fun q => eqF q)) <| yN ?_
 refine pw_cond ((((!v1) || (!v2)) || ((a0.Roots.length : Int) != 6)) || ((a0.Cells.length : Int) != 6)) J (fun hc => ?_) (fun hc => ?_)
 ·have h := ifT h hc
  refine sR <| yb J J <| yN <| pw_ret ?_
  obtain rfl := oj h
  exact ⟨J, [_], ⟨J, tr⟩, J, io⟩
 ·have h := ifF h hc
  refine pw_skip <| dr [] Ty.mix (by kernel_rfl) (by kernel_rfl) <| d0 J (oL J J J Ty.a49 Ty.s49 nl J) J <| bnE h fun v3 hv3 h => d2 J (o_call J Ty.k101 J (r15_tasks_ok hv3)) J <| d7 J (fun _ hN => mB J) J <| d_if0 J (fun hg => oL J J J Ty.a49 Ty.s49 nl J) J <| bnE h fun v4 hv4 h => d_if2 J (fun hg => o_call J Ty.k102 (consE (ct hg) J) (r15_names_ok (onlyE hv4 hg))) J <| d7 J (fun _ hN => pk_and J J J (fun q => eqT q)) J <| d7 J (fun _ hN => mB J) J <| d_if0 J (fun hg => oL J J J Ty.a49 Ty.s49 nl J) J <| bnE h fun v5 hv5 h => d_if2 J (fun hg => o_call J Ty.k103 (consE (ct hg) J) (r15_cells_ok (onlyE hv5 hg))) J <| d7 J (fun _ hN => pk_and J J J (fun q => eqT q)) J <| d7 J (fun _ hN => mB J) J <| d_if0 J (fun hg => oL J J J Ty.a49 Ty.s49 nl J) J <| bnE h fun v6 hv6 h => d_if2 J (fun hg => o_call J Ty.k104 (consE (ct hg) J) (r15_weaks_ok (onlyE hv6 hg))) J <| d7 J (fun _ hN => pk_and J J J (fun q => eqT q)) J <| d7 J (fun _ hN => mB J) J <| d_if7 J (fun hg _ hN => oF J Ty.f49_0 J) J <| d_if0 J (fun hg => oL (ct hg) J J Ty.a42 Ty.s42 nl J) J <| d_if7 J (fun hg _ hN => oF J Ty.f49_3 J) J <| d_if0 J (fun hg => oS (ct hg) J J Ty.a44 J) J <| d_if0 J (fun hg => oL J J J Ty.a49 Ty.s49 nl J) J <| bnE h fun v7 hv7 h => d_if2f J (fun hg => o_callF J Ty.k55 (consE (ct hg) J) (r15_Outer_ok (onlyE hv7 hg))) J <| bnE h fun v8 hv8 h => d_if2 J (fun hg => o_call J Ty.k105 (consE (ct hg) (consE (ct hg) (consE (ct hg) J))) (r13_Fair_ok (onlyE hv8 hg))) J <| d7 J (fun _ hN => pk_and J J J (fun q => eqT q)) J <| d7 J (fun _ hN => aB J) J <| d_nil <| pw_ret ?_
  obtain rfl := oj h
  exact ⟨J, [_], ⟨J, tr⟩, J, io⟩

theorem w15_sound_ok {a0 : hold_Heap} {r : Bool} (h : w15_sound a0 = some r) : PCalls Tryz.prog 15 [hold_Heap.Pv a0] (.bool r) := by
 unfold w15_sound at h
 refine pc_intro (N := 16) Tryz.func15 J J nl fun w0 imm0 => sR <| y1 J (o_box (d := hold_Heap.Pv a0) J J J J J) J <| yb J J <| yN <| sR <| yL J J J J Ty.a34 Ty.s34 nl J <| bnE h fun v1 hv1 h => y0 J (o_call J Ty.k22 J (w15_few_ok hv1)) <| yB J J <| y_if J (fun hg => oF J Ty.f34_0 J) <| y_if J (fun hg => oF (ct hg) Ty.f26_1 J) <| y_if J (fun hg => oS (ct hg) J J Ty.a3 J) <| y_if J (fun hg => o_cmp (ct hg) J J) <| y0 J (pk_and J J J (fun q => eqT q)) <| yB J J <| y_if J (fun hg => oL J J J Ty.a34 Ty.s34 nl J) <| bnE h fun v2 hv2 h => y_ifc J (fun hg => o_callF J Ty.k19 (consE (ct hg) J) (w15_heap_ok (onlyE hv2 hg))) <| bnE h fun v3 hv3 h => y_if J (fun hg => o_call J Ty.k32 (consE (ct hg) J) (r15_Right_ok (onlyE hv3 hg))) <| y0 J (pk_and J J J (fun q => eqT q)) <| yb J J <| yN <| pw_ret ?_
 obtain rfl := oj h
 exact ⟨J, [_], ⟨J, tr⟩, J, io⟩

theorem slab_New_store_Obj_ok {a0 : Int} {a1 : Int} {r : slab_Slab_store_Obj} (h : slab_New_store_Obj a0 a1 = some r) : PCalls Tryz.prog 193 [.I a0, .I a1] (slab_Slab_store_Obj.Pv r) := by
 unfold slab_New_store_Obj at h
 refine pc_intro (N := 24) Tryz.func193 J J nl fun w0 imm0 => sR <| y1 J (o_alloc J Ty.z24 J J J) J <| yN <| pw_seq <| sR <| yI J J <| y0 J (o_cmp J J J) <| yB J J <| y_if J (fun hg => mI J) <| y_if J (fun hg => o_cmp (ct hg) J J) <| y0 J (pk_or J J J (fun q => eqF q)) <| yB J J <| y_if J (fun hg => mI J) <| y_if J (fun hg => o_cmp (ct hg) J J) <| y0 J (pk_or J J J (fun q => eqF q)) <| yB J J <| y_if J (fun hg => mI J) <| y_if J (fun hg => o_cmp (ct hg) J J) <| y0 J (pk_or J J J (fun q => eqF q)) <| yN ?_
 refine pw_cond ((((decide (a0 < 0)) || (decide (a0 > 24))) || (decide (a1 < 0))) || (decide (a1 > 9))) J (fun hc => ?_) (fun hc => ?_)
 ·have h := ifT h hc
  refine sR <| y0 J (o_build (cs := [.lst true (List.map slab_Cell_store_Obj.Pv []), .I 0]) J Ty.p24 Ty.z24 J J J) <| y_sto (x' := .agg [.lst true (List.map slab_Cell_store_Obj.Pv []), .I 0]) (cl' := true) J J (.inl J) Ty.s24 <| yN <| pw_ret ?_
  obtain rfl := oj h
  exact ⟨J, [_], ⟨oL J J J Ty.a24 Ty.s24 nl J, tr⟩, J, io⟩
 ·have h := ifF h hc
  refine pw_skip <| sR <| yI J J <| bnE h fun v1 hv1 h => y1 J (o_mk (f := slab_Cell_store_Obj.Pv) hv1 J J J Ty.e22 Ty.s141 Ty.z141 Ty.b141 J J J) J <| yI J J <| y0 J (o_build (cs := [.sl 21, .I a1]) J Ty.p24 Ty.z24 J J J) <| y_sto (x' := .agg [.sl 21, .I a1]) (cl' := false) J J (.inl J) Ty.s24 <| yN <| pw_ret ?_
  obtain rfl := oj h
  exact ⟨J, [_], ⟨oL J J J Ty.a24 Ty.s24 nl J, tr⟩, J, io⟩

theorem store_New_ok {a0 : Int} {a1 : Int} {r : store_Store} (h : store_New a0 a1 = some r) : PCalls Tryz.prog 134 [.I a0, .I a1] (store_Store.Pv r) := by
 unfold store_New at h
 refine pc_intro (N := 9) Tryz.func134 J J nl fun w0 imm0 => sR <| y1 J (o_alloc J Ty.z26 J J J) J <| yN <| sR <| yI J J <| yI J J <| bnE h fun v1 hv1 h => yc J (o_callF J Ty.k193 J (slab_New_store_Obj_ok hv1)) <| y0 J (o_build (cs := [.L slab_Cell_store_Obj.Pv v1.Cells, .I v1.Last, .I 0]) J Ty.p26 Ty.z26 J J J) <| y_sto (x' := .agg [.L slab_Cell_store_Obj.Pv v1.Cells, .I v1.Last, .I 0]) (cl' := true) J J (.inr J) Ty.s26 <| yN <| pw_ret ?_
 obtain rfl := oj h
 exact ⟨J, [_], ⟨oL J J J Ty.a26 Ty.s26 nl J, tr⟩, J, io⟩

theorem weak_New_ok {a0 : Int} {r : List weak_Cell} (h : weak_New a0 = some r) : PCalls Tryz.prog 135 [.I a0] (.L weak_Cell.Pv r) := by
 unfold weak_New at h
 refine pc_intro (N := 24) Tryz.func135 J J nl fun w0 imm0 => sR <| yA (d := .lst true (List.map weak_Cell.Pv [])) J J <| yN <| pw_seq <| sR <| yI J J <| y0 J (o_cmp J J J) <| yB J J <| y_if J (fun hg => mI J) <| y_if J (fun hg => o_cmp (ct hg) J J) <| y0 J (pk_or J J J (fun q => eqF q)) <| yN ?_
 refine pw_cond ((decide (a0 < 0)) || (decide (a0 > 6))) J (fun hc => ?_) (fun hc => ?_)
 ·have h := ifT h hc
  refine sR <| yA (d := .lst true (List.map weak_Cell.Pv [])) J J <| yN <| pw_ret ?_
  obtain rfl := oj h
  exact ⟨J, [_], ⟨J, tr⟩, J, io⟩
 ·have h := ifF h hc
  refine pw_skip <| sR <| yI J J <| bnE h fun v1 hv1 h => y1 J (o_mk (f := weak_Cell.Pv) hv1 J J J Ty.e28 Ty.s84 Ty.z84 Ty.b84 J J J) J <| yA (d := .sl 12) J J <| yN ?_
  obtain ⟨κ8, hκ6, h⟩ := jnE h
  refine pw_jn0 (κ := κ8) (r := r) (fun (j9 : List weak_Cell) => St.of [(3, .sl 12)] [(12, ⟨List.map weak_Cell.Pv j9, 0, true, 3, true⟩)]) (fun j9 h => ?_) ?_
  ·subst hκ6
   refine sR <| yM (d := .sl 12) J J <| yA (d := .sl 12) J J <| yN <| pw_ret ?_
   obtain rfl := oj h
   exact ⟨J, [_], ⟨J, tr⟩, J, io⟩
  ·skip
   refine sR <| yM (d := .sl 12) J J <| y0 J (o_lnR (f := weak_Cell.Pv) J J J Ty.e28) <| yI J J <| yN <| pw_block ?_
   obtain ⟨e10, hl7, hk8⟩ := bindE h
   refine pw_lp0 (fun (q : Int × (List weak_Cell)) => St.of [(3, .sl 12), (14, .I (v1.length : Int)), (15, .I q.1)] [(12, ⟨List.map weak_Cell.Pv q.2, 0, true, 3, true⟩)]) hl7 (wk_st _ _ ⟨J, J, J, J, J, J, J, J, J, tr⟩ ⟨rS, tr⟩) (fun q14 x13 h hx9 => ?_)
   obtain ⟨s11, s12⟩ := q14
   refine sR <| y0 J (o_cmp J J J) <| yN <| pw_seq ?_
   refine pw_cond (decide (s11 < (v1.length : Int))) J (fun hc => ?_) (fun hc => ?_)
   ·have h := ifT h hc
    refine pw_skip <| pw_seq <| pw_block <| sR <| yI J J <| yi J J <| yN <| s1 <| yM (d := .sl 12) J J <| yI J J <| bnE h fun v15 hv10 h => y0 J (o_ixR (f := weak_Cell.Pv) hv10 J J J J Ty.e28 Ty.s84 J) <| yF J J Ty.f84_2 J <| y_stE (f := weak_Cell.Pv) (v := (⟨v15.Target, v15.Intact, (-1)⟩ : weak_Cell)) hv10 J J (.inl J) Ty.s3 <| yN <| s1 <| y0 J (o_ari J J J) <| yI J J <| yN ?_
    exact ⟨J, (w64 (s11 + 1), (s12.set (s11).toNat (⟨v15.Target, v15.Intact, (-1)⟩ : weak_Cell))), (oj h).symm, (wk_st _ _ ⟨J, J, J, J, J, J, J, J, J, tr⟩ ⟨rS, tr⟩)⟩
   ·have h := ifF h hc
    refine pw_exit <| thenQ_exit <| thenQ_exit <| blockQ_exit ?_
    have he := hx9 _ (oj h).symm
    have h := hk8
    rw [← he] at h
    exact ⟨J, s12, h, (wk_st _ _ ⟨J, J, J, tr⟩ ⟨rS, tr⟩)⟩

theorem hash_New_ok {a0 : Int} {r : List hash_Place} (h : hash_New a0 = some r) : PCalls Tryz.prog 136 [.I a0] (.L hash_Place.Pv r) := by
 unfold hash_New at h
 refine pc_intro (N := 11) Tryz.func136 J J nl fun w0 imm0 => sR <| yA (d := .lst true (List.map hash_Place.Pv [])) J J <| yN <| pw_seq <| sR <| yI J J <| y0 J (o_cmp J J J) <| yB J J <| y_if J (fun hg => mI J) <| y_if J (fun hg => o_cmp (ct hg) J J) <| y0 J (pk_or J J J (fun q => eqF q)) <| yN ?_
 refine pw_cond ((decide (a0 < 1)) || (decide (a0 > 8))) J (fun hc => ?_) (fun hc => ?_)
 ·have h := ifT h hc
  refine sR <| yA (d := .lst true (List.map hash_Place.Pv [])) J J <| yN <| pw_ret ?_
  obtain rfl := oj h
  exact ⟨J, [_], ⟨J, tr⟩, J, io⟩
 ·have h := ifF h hc
  refine pw_skip <| sR <| yI J J <| bnE h fun v1 hv1 h => y1 J (o_mk (f := hash_Place.Pv) hv1 J J J Ty.e29 Ty.s183 Ty.z183 Ty.b183 J J J) J <| yA (d := .sl 10) J J <| yN <| pw_ret ?_
  obtain rfl := oj h
  exact ⟨J, [_], ⟨J, tr⟩, J, io⟩

theorem queue_New_task_Task_ok {a0 : Int} {r : queue_Queue_task_Task} (h : queue_New_task_Task a0 = some r) : PCalls Tryz.prog 194 [.I a0] (queue_Queue_task_Task.Pv r) := by
 unfold queue_New_task_Task at h
 refine pc_intro (N := 5) Tryz.func194 J J nl fun w0 imm0 => sR <| y1 J (o_alloc J Ty.z32 J J J) J <| yN <| sR <| yI J J <| y0 J (o_build (cs := [.lst true (List.map task_Task.Pv []), .I a0]) J Ty.p32 Ty.z32 J J J) <| y_sto (x' := .agg [.lst true (List.map task_Task.Pv []), .I a0]) (cl' := true) J J (.inl J) Ty.s32 <| yN <| pw_ret ?_
 obtain rfl := oj h
 exact ⟨J, [_], ⟨oL J J J Ty.a32 Ty.s32 nl J, tr⟩, J, io⟩

theorem task_New_ok  {r : queue_Queue_task_Task} (h : task_New = some r) : PCalls Tryz.prog 137 [] (queue_Queue_task_Task.Pv r) := by
 unfold task_New at h
 refine pc_intro (N := 2) Tryz.func137 J J nl fun w0 imm0 => sR <| y1 J (o_alloc J Ty.z32 J J J) J <| yN <| sR <| bnE h fun v1 hv1 h => yc J (o_callF J Ty.k194 J (queue_New_task_Task_ok hv1)) <| y_sto (x' := queue_Queue_task_Task.Pv v1) (cl' := true) J J (.inr J) Ty.s32 <| yN <| pw_ret ?_
 obtain rfl := oj h
 exact ⟨J, [_], ⟨oL J J J Ty.a32 Ty.s32 nl J, tr⟩, J, io⟩

theorem hold_New_ok {a0 : Int} {a1 : Int} {a2 : Int} {r : hold_Heap} (h : hold_New a0 a1 a2 = some r) : PCalls Tryz.prog 58 [.I a0, .I a1, .I a2] (hold_Heap.Pv r) := by
 unfold hold_New at h
 refine pc_intro (N := 39) Tryz.func58 J J nl fun w0 imm0 => sR <| y1 J (o_alloc J Ty.z34 J J J) J <| yN <| pw_seq <| sR <| yI J J <| y0 J (o_cmp J J J) <| yB J J <| y_if J (fun hg => mI J) <| y_if J (fun hg => o_cmp (ct hg) J J) <| y0 J (pk_or J J J (fun q => eqF q)) <| yB J J <| y_if J (fun hg => mI J) <| y_if J (fun hg => o_cmp (ct hg) J J) <| y0 J (pk_or J J J (fun q => eqF q)) <| yB J J <| y_if J (fun hg => mI J) <| y_if J (fun hg => o_cmp (ct hg) J J) <| y0 J (pk_or J J J (fun q => eqF q)) <| yB J J <| y_if J (fun hg => mI J) <| y_if J (fun hg => o_cmp (ct hg) J J) <| y0 J (pk_or J J J (fun q => eqF q)) <| yB J J <| y_if J (fun hg => mI J) <| y_if J (fun hg => o_cmp (ct hg) J J) <| y0 J (pk_or J J J (fun q => eqF q)) <| yN ?_
 refine pw_cond ((((((decide (a0 < 1)) || (decide (a0 > 24))) || (decide (a1 < 0))) || (decide (a1 > 9))) || (decide (a2 < 1))) || (decide (a2 > 8))) J (fun hc => ?_) (fun hc => ?_)
 ·have h := ifT h hc
  refine sR <| y0 J (o_build (cs := [.lst true (List.map slab_Cell_store_Obj.Pv []), .I 0, .I 0, .lst true (List.map iF []), .lst true (List.map weak_Cell.Pv []), .lst true (List.map hash_Place.Pv []), .lst true (List.map task_Task.Pv []), .I 0]) J Ty.p34 Ty.z34 J J J) <| y_sto (x' := .agg [.lst true (List.map slab_Cell_store_Obj.Pv []), .I 0, .I 0, .lst true (List.map iF []), .lst true (List.map weak_Cell.Pv []), .lst true (List.map hash_Place.Pv []), .lst true (List.map task_Task.Pv []), .I 0]) (cl' := true) J J (.inl J) Ty.s34 <| yN <| pw_ret ?_
  obtain rfl := oj h
  exact ⟨J, [_], ⟨oL J J J Ty.a34 Ty.s34 nl J, tr⟩, J, io⟩
 ·have h := ifF h hc
  refine pw_skip <| dr [] Ty.mix (by kernel_rfl) (by kernel_rfl) <| d7 J (fun _ hN => mI J) J <| d7 J (fun _ hN => mI J) J <| bnE h fun v1 hv1 h => d2f J (o_callF J Ty.k134 J (store_New_ok hv1)) J <| bnE h fun v2 hv2 h => d1 J (o_mk (f := iF) hv2 J J J Ty.e27 Ty.s3 Ty.z3 Ty.b3 J J J) J J J <| bnE h fun v3 hv3 h => d2f J (o_callF J Ty.k135 J (weak_New_ok hv3)) J <| d7 J (fun _ hN => mI J) J <| bnE h fun v4 hv4 h => d2f J (o_callF J Ty.k136 J (hash_New_ok hv4)) J <| bnE h fun v5 hv5 h => d2f J (o_callF J Ty.k137 J (task_New_ok hv5)) J <| d7 J (fun _ hN => o_build (cs := [.L slab_Cell_store_Obj.Pv v1.S.Cells, .I v1.S.Last, .I v1.Serial, .sl 33, .L weak_Cell.Pv v3, .L hash_Place.Pv v4, .L task_Task.Pv v5.L, .I v5.Cap]) J Ty.p34 Ty.z34 J J J) J <| d_sto (x' := .agg [.L slab_Cell_store_Obj.Pv v1.S.Cells, .I v1.S.Last, .I v1.Serial, .sl 33, .L weak_Cell.Pv v3, .L hash_Place.Pv v4, .L task_Task.Pv v5.L, .I v5.Cap]) (cl' := false) J J (.inr J) Ty.s34 <| d_nil <| pw_ret ?_
  obtain rfl := oj h
  exact ⟨J, [_], ⟨oL J J J Ty.a34 Ty.s34 nl J, tr⟩, J, io⟩

theorem vec_New_ok {a0 : Int} {r : (List Int) × Int} (h : vec_New a0 = some r) : PCalls Tryz.prog 138 [.I a0] (.tup [.L iF r.1, .I r.2]) := by
 unfold vec_New at h
 refine pc_intro (N := 12) Tryz.func138 J J nl fun w0 imm0 => sR <| yA (d := .lst true (List.map iF [])) J J <| yi J J <| yN <| pw_seq <| sR <| yI J J <| y0 J (o_cmp J J J) <| yB J J <| y_if J (fun hg => mI J) <| y_if J (fun hg => o_cmp (ct hg) J J) <| y0 J (pk_or J J J (fun q => eqF q)) <| yN ?_
 refine pw_cond ((decide (a0 < 0)) || (decide (a0 > 4))) J (fun hc => ?_) (fun hc => ?_)
 ·have h := ifT h hc
  refine sR <| yA (d := .lst true (List.map iF [])) J J <| yi J J <| yN <| pw_ret ?_
  obtain rfl := oj h
  exact ⟨J, [_, _], ⟨J, ⟨J, tr⟩⟩, J, io⟩
 ·have h := ifF h hc
  refine pw_skip <| sR <| yI J J <| bnE h fun v1 hv1 h => y1 J (o_mk (f := iF) hv1 J J J Ty.e27 Ty.s3 Ty.z3 Ty.b3 J J J) J <| yA (d := .sl 11) J J <| yi J J <| yN <| pw_ret ?_
  obtain rfl := oj h
  exact ⟨J, [_, _], ⟨J, ⟨J, tr⟩⟩, J, io⟩

theorem store_programFits_ok {a0 : Int} {r : Bool} (h : store_programFits a0 = some r) : PCalls Tryz.prog 139 [.I a0] (.bool r) := by
 unfold store_programFits at h
 refine pc_intro (N := 9) Tryz.func139 J J nl fun w0 imm0 => sR <| yb J J <| yN <| sR <| yI J J <| y0 J (o_cmp J J J) <| yB J J <| y_if J (fun hg => mI J) <| y_if J (fun hg => o_cmp (ct hg) J J) <| y0 J (pk_and J J J (fun q => eqT q)) <| yb J J <| yN <| pw_ret ?_
 obtain rfl := oj h
 exact ⟨J, [_], ⟨J, tr⟩, J, io⟩

theorem slab_free_store_Obj_ok {a0 : slab_Slab_store_Obj} {r : slab_Slab_store_Obj} (h : slab_free_store_Obj a0 = some r) : PCalls Tryz.prog 195 [slab_Slab_store_Obj.Pv a0] (.fn (.func 241) [.rptr (slab_Slab_store_Obj.Pc r)]) := by
 unfold slab_free_store_Obj at h
 refine pc_intro (N := 4) Tryz.func195 J J nl fun w0 imm0 => sR <| y1 J (o_box (d := slab_Slab_store_Obj.Pv a0) J J J J J) J <| yA (d := .nilfn) J J <| yN <| sR <| y0 J (o_mkFunc J) <| yA (d := .fn (.func 241) [.ptr 1 0 0]) J J <| yN <| pw_ret ?_
 obtain rfl := oj h
 exact ⟨J, [_], ⟨J, tr⟩, J, io⟩

theorem slices_Clone_slab_Cell_store_Obj_slab_Cell_store_Obj_okN {a0 r : List slab_Cell_store_Obj} (h : slices_Clone_slab_Cell_store_Obj_slab_Cell_store_Obj a0 = some r) : PCallsN Tryz.prog 242 [.L slab_Cell_store_Obj.Pv a0] ⟨List.map slab_Cell_store_Obj.Pv r, 0, true, 8, true⟩ := by
 unfold slices_Clone_slab_Cell_store_Obj_slab_Cell_store_Obj at h
 refine pc_introN (N := 8) Tryz.func242 J J nl fun w0 imm0 => sR <| yA (d := .lst true (List.map slab_Cell_store_Obj.Pv [])) J J <| yN <| pw_seq <| sR <| yM (d := .L slab_Cell_store_Obj.Pv a0) J J <| y_eqnil J Ty.e22 fun b hb => yN ?_
 refine pw_cond b J (fun hc => ?_) (fun hc => ?_)
 ·obtain rfl : a0 = [] := by simpa using hb hc
  refine sR <| yA (d := .lst true (List.map slab_Cell_store_Obj.Pv [])) J J <| yN <| pw_wk (wk_nil (t := 2) (l := 920000) (z := 8) J J) <| pw_ret ?_
  obtain rfl := oj h
  exact ⟨J, _, _, J, J, J, J⟩
 ·refine pw_skip ?_
  refine sR <| y0 J (o_nslice J Ty.e22 Ty.s141) <| yM (d := .L slab_Cell_store_Obj.Pv a0) J J <| y1 J (o_apT (f := slab_Cell_store_Obj.Pv) h J J (.inl ⟨_, J, J⟩) Ty.e22 Ty.s141 Ty.b141 Ty.z141 J (fun _ => J)) J <| yA (d := .sl 7) J J <| yN <| pw_ret ?_
  exact ⟨J, _, _, J, J, J, J⟩

theorem slices_Clone_slab_Cell_store_Obj_slab_Cell_store_Obj_ok {a0 r : List slab_Cell_store_Obj} (h : slices_Clone_slab_Cell_store_Obj_slab_Cell_store_Obj a0 = some r) : PCalls Tryz.prog 242 [.L slab_Cell_store_Obj.Pv a0] (.L slab_Cell_store_Obj.Pv r) := pcalls_ofN (slices_Clone_slab_Cell_store_Obj_slab_Cell_store_Obj_okN h) J

theorem slab_with_store_Obj_ok {a0 : slab_Slab_store_Obj} {a1 : Int} {a2 : slab_Cell_store_Obj} {r : slab_Slab_store_Obj} (h : slab_with_store_Obj a0 a1 a2 = some r) : PCalls Tryz.prog 196 [slab_Slab_store_Obj.Pv a0, .I a1, slab_Cell_store_Obj.Pv a2] (slab_Slab_store_Obj.Pv r) := by
 unfold slab_with_store_Obj at h
 refine pc_intro (N := 17) Tryz.func196 J J nl fun w0 imm0 => sR <| y1 J (o_box (d := slab_Slab_store_Obj.Pv a0) J J J J J) J <| y1 J (o_box (d := slab_Cell_store_Obj.Pv a2) J J J J J) J <| y1 J (o_alloc J Ty.z24 J J J) J <| yN <| sR <| yF J J Ty.f24_0 J <| yS J J J J Ty.a22 J <| bnE h fun v1 hv1 h => ycN J (o_callN J Ty.k242 J (slices_Clone_slab_Cell_store_Obj_slab_Cell_store_Obj_okN hv1)) J J <| yF J J Ty.f24_0 J <| y_sto (x' := .agg [.sl 9, .I a0.Last]) (cl' := false) J J (.inl J) Ty.s22 <| yN <| sR <| yF J J Ty.f24_0 J <| yS J J J J Ty.a22 J <| yI J J <| yL J J J J Ty.a141 Ty.s141 nl J <| bnE h fun v2 hv2 h => y0 J (o_ixR (f := slab_Cell_store_Obj.Pv) hv2 J J J J Ty.e22 Ty.s141 J) <| y_stE (f := slab_Cell_store_Obj.Pv) (v := a2) hv2 J J (.inr J) Ty.s141 <| yN <| sR <| yL J J J J Ty.a24 Ty.s24 nl J <| y_sto (x' := .agg [.sl 9, .I a0.Last]) (cl' := false) J J (.inl J) Ty.s24 <| yN <| pw_ret ?_
 obtain rfl := oj h
 exact ⟨J, [_], ⟨oL J J J Ty.a24 Ty.s24 nl J, tr⟩, J, io⟩

theorem handle_Pack_ok {a0 : Int} {a1 : Int} {r : Int} (h : handle_Pack a0 a1 = some r) : PCalls Tryz.prog 141 [.I a0, .I a1] (.I r) := by
 unfold handle_Pack at h
 refine pc_intro (N := 25) Tryz.func141 J J nl fun w0 imm0 => sR <| yi J J <| yN <| pw_seq <| sR <| yI J J <| y0 J (o_cmp J J J) <| yB J J <| y_if J (fun hg => mI J) <| y_if J (fun hg => o_cmp (ct hg) J J) <| y0 J (pk_or J J J (fun q => eqF q)) <| yB J J <| y_if J (fun hg => mI J) <| y_if J (fun hg => o_cmp (ct hg) J J) <| y0 J (pk_or J J J (fun q => eqF q)) <| yB J J <| y_if J (fun hg => mI J) <| y_if J (fun hg => o_cmp (ct hg) J J) <| y0 J (pk_or J J J (fun q => eqF q)) <| yN ?_
 refine pw_cond ((((decide (a0 < 0)) || (decide (a0 ≥ 24))) || (decide (a1 < 0))) || (decide (a1 > 9))) J (fun hc => ?_) (fun hc => ?_)
 ·have h := ifT h hc
  refine sR <| yi J J <| yN <| pw_ret ?_
  obtain rfl := oj h
  exact ⟨J, [_], ⟨J, tr⟩, J, io⟩
 ·have h := ifF h hc
  refine pw_skip <| sR <| yI J J <| y0 J (o_ari J J J) <| y0 J (o_ari J J J) <| yI J J <| y0 J (o_ari J J J) <| y0 J (o_ari J J J) <| yi J J <| yN <| pw_ret ?_
  obtain rfl := oj h
  exact ⟨J, [_], ⟨J, tr⟩, J, io⟩

theorem slab_Take_store_Obj_ok {a0 : slab_Slab_store_Obj} {a1 : store_Obj} {r : slab_Slab_store_Obj × Int × Int} (h : slab_Take_store_Obj a0 a1 = some r) : PCalls Tryz.prog 140 [slab_Slab_store_Obj.Pv a0, store_Obj.Pv a1] (.tup [slab_Slab_store_Obj.Pv r.1, .I r.2.1, .I r.2.2]) := by
 unfold slab_Take_store_Obj at h
 refine pc_intro (N := 28) Tryz.func140 J J nl fun w0 imm0 => sR <| y1 J (o_box (d := slab_Slab_store_Obj.Pv a0) J J J J J) J <| y1 J (o_box (d := store_Obj.Pv a1) J J J J J) J <| y1 J (o_alloc J Ty.z24 J J J) J <| y1 J (o_alloc J Ty.z3 J J J) J <| y1 J (o_alloc J Ty.z37 J J J) J <| yN ?_
 obtain ⟨κ9, hκ17, h⟩ := jnE h
 refine pw_jn0 (κ := κ9) (r := r) (fun (_ : Unit) => St.of [(2, .ptr 2005 0 0), (4, .ptr 2003 0 0), (5, .ptr 2002 0 0), (6, .ptr 2001 0 0)] [(2001, ⟨[.I 0], 0, false, 1, true⟩), (2002, ⟨[.I 0], 0, false, 1, true⟩), (2003, ⟨[.agg [.lst true (List.map slab_Cell_store_Obj.Pv []), .I 0]], 0, false, 2, true⟩), (2005, ⟨[slab_Slab_store_Obj.Pv a0], 0, false, 2, true⟩)]) (fun q10 h => ?_) ?_
 ·subst hκ17
  refine sR <| yL J J J J Ty.a24 Ty.s24 nl J <| y_sto (x' := slab_Slab_store_Obj.Pv a0) (cl' := true) J J (.inr J) Ty.s24 <| y_sto (x' := .I 0) (cl' := true) J J (.inl J) Ty.s3 <| y_sto (x' := .I 4) (cl' := true) J J (.inl J) Ty.s37 <| yN <| pw_ret ?_
  obtain rfl := oj h
  exact ⟨J, [_, _, _], ⟨oL J J J Ty.a24 Ty.s24 nl J, ⟨oS J J J Ty.a3 J, ⟨oS J J J Ty.a37 J, tr⟩⟩⟩, J, io⟩
 ·skip
  refine sR <| yL J J J J Ty.a24 Ty.s24 nl J <| bnE h fun v11 hv18 h => yc J (o_callF J Ty.k195 J (slab_free_store_Obj_ok hv18)) <| yN <| pw_block <| pw_wk (wk_stP (fun l => if l = 2006 then 6 else if l = 2007 then 5 else if l = 2008 then 4 else if l = 2009 then 3 else if l = 2010 then 2 else l) [(2, .ptr 2010 0 0), (3, .ptr 2009 0 0), (4, .ptr 2008 0 0), (5, .ptr 2007 0 0), (6, .ptr 2006 0 0), (10, .fn (.func 241) [.rptr (slab_Slab_store_Obj.Pc v11)])] [(2006, ⟨[.I 0], 0, false, 1, true⟩), (2007, ⟨[.I 0], 0, false, 1, true⟩), (2008, ⟨[.agg [.lst true (List.map slab_Cell_store_Obj.Pv []), .I 0]], 0, false, 2, true⟩), (2009, ⟨[store_Obj.Pv a1], 0, false, 6, true⟩), (2010, ⟨[slab_Slab_store_Obj.Pv a0], 0, false, 2, true⟩)] ⟨J, J, J, J, J, J, J, J, J, J, J, J, J, J, J, J, J, J, tr⟩ ⟨rN, rN, rN, rN, rN, tr⟩ J) ?_
  refine pw_range (fn := Tryz.f241) (N1 := 23) J Tryz.func241 J J nl J Ty.k241 J J (fun l19 e20 o21 hR22 => ?_)
  refine sR <| y0 J (o_fieldAddrR J Ty.f24_0 J) <| y0 J (o_loadRS J Ty.a22 J) <| y0 J (o_lnL (f := slab_Cell_store_Obj.Pv) J Ty.e22) <| yI J J <| yN <| pw_block ?_
  obtain ⟨e12, hl23, hk24⟩ := bindE h
  refine pw_lp0 (fun (s13 : Int) => St.of [(1000002, .ptr 2010 0 0), (1000003, .ptr 2009 0 0), (1000004, .ptr 2008 0 0), (1000005, .ptr 2007 0 0), (1000006, .ptr 2006 0 0), (1000010, .fn (.func 241) [.rptr (slab_Slab_store_Obj.Pc v11)]), (0, .fn (.yield l19) []), (6, .L slab_Cell_store_Obj.Pv v11.Cells), (7, .I (v11.Cells.length : Int)), (8, .I s13)] [(2006, ⟨[.I 0], 0, false, 1, true⟩), (2007, ⟨[.I 0], 0, false, 1, true⟩), (2008, ⟨[.agg [.lst true (List.map slab_Cell_store_Obj.Pv []), .I 0]], 0, false, 2, true⟩), (2009, ⟨[store_Obj.Pv a1], 0, false, 6, true⟩), (2010, ⟨[slab_Slab_store_Obj.Pv a0], 0, false, 2, true⟩)]) hl23 (wk_st _ _ ⟨J, J, J, J, J, J, J, J, J, J, J, J, J, J, J, J, J, J, J, J, J, J, J, J, J, J, J, J, J, J, tr⟩ ⟨rS, rS, rS, rS, rS, tr⟩) (fun s13 x14 h hx25 => ?_)
  refine sR <| y0 J (o_cmp J J J) <| yN <| pw_seq ?_
  refine pw_cond (decide (s13 < (v11.Cells.length : Int))) J (fun hc => ?_) (fun hc => ?_)
  ·have h := ifT h hc
   refine pw_skip <| pw_seq <| pw_block <| sR <| yI J J <| bnE h fun v15 hv26 h => y0 J (o_ixL (f := slab_Cell_store_Obj.Pv) (cs := slab_Cell_store_Obj.Pc v15) hv26 J J Ty.e22 Ty.s141 J J) <| y0 J (o_loadRA J Ty.a141 Ty.s141 nl J) <| y1 J (o_alloc J Ty.z141 J J J) J <| yi J J <| y_sto (x' := slab_Cell_store_Obj.Pv v15) (cl' := true) J J (.inr J) Ty.s141 <| yN <| sR <| yF J J Ty.f141_0 J <| yS J J J J Ty.a3 J <| y0 J (o_cmp J J J) <| yB J J <| y_if J (fun hg => om (d := .fn (.yield l19) []) J) <| y_if J (fun hg => mI J) ?_
   rcases Bool.eq_false_or_eq_true ((v15.State == 0) == true) with hg27 | hg27
   ·have h := ifT h hg27
    refine y_wk (wk_st [(1000002, .ptr 2010 0 0), (1000003, .ptr 2009 0 0), (1000004, .ptr 2008 0 0), (1000005, .ptr 2007 0 0), (1000006, .ptr 2006 0 0), (1000010, .fn (.func 241) [.rptr (slab_Slab_store_Obj.Pc v11)]), (0, .fn (.yield l19) []), (6, .L slab_Cell_store_Obj.Pv v11.Cells), (7, .I (v11.Cells.length : Int)), (8, .I s13), (16, .bool (v15.State == 0)), (17, .fn (.yield l19) []), (18, .I s13)] [(2006, ⟨[.I 0], 0, false, 1, true⟩), (2007, ⟨[.I 0], 0, false, 1, true⟩), (2008, ⟨[.agg [.lst true (List.map slab_Cell_store_Obj.Pv []), .I 0]], 0, false, 2, true⟩), (2009, ⟨[store_Obj.Pv a1], 0, false, 6, true⟩), (2010, ⟨[slab_Slab_store_Obj.Pv a0], 0, false, 2, true⟩)] ⟨J, J, J, J, J, J, J, J, J, J, J, J, J, J, J, J, J, J, J, J, J, J, J, J, J, J, J, J, J, J, J, J, J, (ct hg27), J, J, (ct hg27), J, J, tr⟩ ⟨rS, rS, rS, rS, rS, tr⟩) ?_
    refine y_yield hR22 (congrArg some hg27) J J J J J (fun e28 o29 o30 => ?_)
    refine s1 <| yi J J <| yN ?_
    refine ⟨J, ?_⟩
    refine pw_block <| sR <| yF J J Ty.f24_0 J <| yS J J J J Ty.a22 J <| yI J J <| bnE h fun v16 hv31 h => y0 J (o_ixL (f := slab_Cell_store_Obj.Pv) (cs := slab_Cell_store_Obj.Pc v16) hv31 J J Ty.e22 Ty.s141 J J) <| y0 J (o_fieldAddrR J Ty.f141_1 J) <| y0 J (o_loadRS J Ty.a3 J) <| yi J J <| yN <| sR <| yL J J J J Ty.a24 Ty.s24 nl J <| yI J J <| yI J J <| yL J J J J Ty.a91 Ty.s91 nl J <| y0 J (o_build (cs := [.I 1, .I v16.Gen, .I a1.Serial, .I a1.Strong, .I a1.Weak, .I a1.Prog, .bool a1.Started, .L iF a1.Fields]) J Ty.p141 Ty.z141 J J J) <| bnE h fun v17 hv32 h => yc J (o_callF J Ty.k196 J (slab_with_store_Obj_ok hv32)) <| yI J J <| yI J J <| bnE h fun v18 hv33 h => y0 J (o_call J Ty.k141 J (handle_Pack_ok hv33)) <| y_sto (x' := slab_Slab_store_Obj.Pv v17) (cl' := true) J J (.inr J) Ty.s24 <| y_sto (x' := .I v18) (cl' := true) J J (.inl J) Ty.s3 <| y_sto (x' := .I 0) (cl' := true) J J (.inl J) Ty.s37 <| yN <| pw_ret ?_
    refine ⟨J, ?_⟩
    refine y_wk (wk_st [(1000002, .ptr 2010 0 0), (1000003, .ptr 2009 0 0), (1000004, .ptr 2008 0 0), (1000005, .ptr 2007 0 0), (1000006, .ptr 2006 0 0), (1000010, .fn (.func 241) [.rptr (slab_Slab_store_Obj.Pc v11)]), (0, .fn (.yield l19) []), (6, .L slab_Cell_store_Obj.Pv v11.Cells), (7, .I (v11.Cells.length : Int)), (8, .I s13), (16, .bool (v15.State == 0)), (19, .bool false)] [(2006, ⟨[.I 0], 0, false, 1, true⟩), (2007, ⟨[.I v18], 0, false, 1, true⟩), (2008, ⟨[slab_Slab_store_Obj.Pv v17], 0, false, 2, true⟩), (2009, ⟨[store_Obj.Pv a1], 0, false, 6, true⟩), (2010, ⟨[slab_Slab_store_Obj.Pv a0], 0, false, 2, true⟩)] ⟨J, J, J, J, J, J, J, J, J, J, J, J, J, J, J, J, J, J, J, J, J, J, J, J, J, J, J, J, J, J, J, J, J, J, J, J, tr⟩ ⟨rS, rS, rS, rS, rS, tr⟩) <| y0 (congrArg some hg27) (o_not J J) <| y0 J (pk_andT J J hg27) <| yN ?_
    refine pw_cond true J (fun _ => ?_) (fun q => nomatch q)
    refine pw_ret ?_
    refine .inr ⟨.ret, J, jmpR ?_⟩
    have he := hx25 _ (oj h).symm
    have h := hk24
    rw [← he] at h
    obtain rfl := oj h
    exact ⟨J, [_, _, _], ⟨oL J J J Ty.a24 Ty.s24 nl J, ⟨oS J J J Ty.a3 J, ⟨oS J J J Ty.a37 J, tr⟩⟩⟩, J, io⟩
   ·have h := ifF h hg27
    refine y_skip (congrArg some hg27) <| y_skip (congrArg some hg27) <| y0 J (pk_andF J J hg27) <| yN ?_
    refine pw_cond false J (fun q => nomatch q) (fun _ => ?_)
    refine pw_skip <| s1 <| y0 J (o_ari J J J) <| yI J J <| yN ?_
    exact ⟨J, w64 (s13 + 1), (oj h).symm, (wk_st _ _ ⟨J, J, J, J, J, J, J, J, J, J, J, J, J, J, J, J, J, J, J, J, J, J, J, J, J, J, J, J, J, J, tr⟩ ⟨rS, rS, rS, rS, rS, tr⟩)⟩
  ·have h := ifF h hc
   refine pw_exit <| thenQ_exit <| thenQ_exit <| blockQ_exit ?_
   refine .inl ⟨J, ?_⟩
   have he := hx25 _ (oj h).symm
   have h := hk24
   rw [← he] at h
   exact ⟨J, (), h, (wk_stP (fun l => if l = 2005 then 2010 else if l = 2003 then 2008 else if l = 2002 then 2007 else if l = 2001 then 2006 else l) _ _ ⟨J, J, J, J, J, J, J, J, J, J, J, J, tr⟩ ⟨rN, rN, rN, rN, tr⟩ J)⟩

theorem store_Make_ok {a0 : store_Store} {a1 : Int} {a2 : Int} {r : store_Store × Int × Int} (h : store_Make a0 a1 a2 = some r) : PCalls Tryz.prog 59 [store_Store.Pv a0, .I a1, .I a2] (.tup [store_Store.Pv r.1, .I r.2.1, .I r.2.2]) := by
 unfold store_Make at h
 refine pc_intro (N := 49) Tryz.func59 J J nl fun w0 imm0 => sR <| y1 J (o_box (d := store_Store.Pv a0) J J J J J) J <| y1 J (o_alloc J Ty.z26 J J J) J <| yi J J <| yi J J <| yN <| sR <| yI J J <| bnE h fun v1 hv1 h => yc J (o_callF J Ty.k138 J (vec_New_ok hv1)) <| yM (d := .tup [.L iF v1.1, .I v1.2]) J J <| yX J J J <| yX J J J <| yA (d := .L iF v1.1) J J <| yi J J <| yN <| pw_seq <| sR <| yI J J <| y0 J (o_cmp J J J) <| yN ?_
 refine pw_cond (v1.2 != 0) J (fun hc => ?_) (fun hc => ?_)
 ·have h := ifT h hc
  refine sR <| yL J J J J Ty.a26 Ty.s26 nl J <| yI J J <| y_sto (x' := store_Store.Pv a0) (cl' := true) J J (.inr J) Ty.s26 <| yi J J <| yi J J <| yN <| pw_ret ?_
  obtain rfl := oj h
  exact ⟨J, [_, _, _], ⟨oL J J J Ty.a26 Ty.s26 nl J, ⟨J, ⟨J, tr⟩⟩⟩, J, io⟩
 ·have h := ifF h hc
  refine pw_skip <| pw_seq <| sR <| yI J J <| bnE h fun v2 hv2 h => y0 J (o_call J Ty.k139 J (store_programFits_ok hv2)) <| y0 J (o_not J J) <| yN ?_
  refine pw_cond (!v2) J (fun hc => ?_) (fun hc => ?_)
  ·have h := ifT h hc
   refine sR <| yL J J J J Ty.a26 Ty.s26 nl J <| y_sto (x' := store_Store.Pv a0) (cl' := true) J J (.inr J) Ty.s26 <| yi J J <| yi J J <| yN <| pw_ret ?_
   obtain rfl := oj h
   exact ⟨J, [_, _, _], ⟨oL J J J Ty.a26 Ty.s26 nl J, ⟨J, ⟨J, tr⟩⟩⟩, J, io⟩
  ·have h := ifF h hc
   refine pw_skip <| sR <| yF J J Ty.f26_0 J <| yL J J J J Ty.a24 Ty.s24 nl J <| yF J J Ty.f26_1 J <| yS J J J J Ty.a3 J <| y0 J (o_ari J J J) <| yI J J <| yM (d := .L iF v1.1) J J <| y0 J (o_build (cs := [.I (w64 (a0.Serial + 1)), .I 0, .I 0, .I a2, .bool false, .L iF v1.1]) J Ty.p91 Ty.z91 J J J) <| bnE h fun v3 hv3 h => yc J (o_callF J Ty.k140 J (slab_Take_store_Obj_ok hv3)) <| yM (d := .tup [slab_Slab_store_Obj.Pv v3.1, .I v3.2.1, .I v3.2.2]) J J <| yX J J J <| yX J J J <| yX J J J <| y1 J (o_alloc J Ty.z24 J J J) J <| y_sto (x' := slab_Slab_store_Obj.Pv v3.1) (cl' := true) J J (.inr J) Ty.s24 <| yi J J <| yi J J <| yN <| pw_seq <| sR <| yI J J <| y0 J (o_cmp J J J) <| yN ?_
   refine pw_cond (v3.2.2 != 0) J (fun hc => ?_) (fun hc => ?_)
   ·have h := ifT h hc
    refine sR <| yL J J J J Ty.a26 Ty.s26 nl J <| yI J J <| y_sto (x' := store_Store.Pv a0) (cl' := true) J J (.inr J) Ty.s26 <| yi J J <| yi J J <| yN <| pw_ret ?_
    obtain rfl := oj h
    exact ⟨J, [_, _, _], ⟨oL J J J Ty.a26 Ty.s26 nl J, ⟨J, ⟨J, tr⟩⟩⟩, J, io⟩
   ·have h := ifF h hc
    refine pw_skip <| sR <| yL J J J J Ty.a24 Ty.s24 nl J <| yF J J Ty.f26_1 J <| yS J J J J Ty.a3 J <| y0 J (o_ari J J J) <| y0 J (o_build (cs := [.L slab_Cell_store_Obj.Pv v3.1.Cells, .I v3.1.Last, .I (w64 (a0.Serial + 1))]) J Ty.p26 Ty.z26 J J J) <| yI J J <| y_sto (x' := .agg [.L slab_Cell_store_Obj.Pv v3.1.Cells, .I v3.1.Last, .I (w64 (a0.Serial + 1))]) (cl' := true) J J (.inr J) Ty.s26 <| yi J J <| yi J J <| yN <| pw_ret ?_
    obtain rfl := oj h
    exact ⟨J, [_, _, _], ⟨oL J J J Ty.a26 Ty.s26 nl J, ⟨J, ⟨J, tr⟩⟩⟩, J, io⟩

theorem handle_parts_ok {a0 : Int} {r : Int × Int × Bool} (h : handle_parts a0 = some r) : PCalls Tryz.prog 261 [.I a0] (.tup [.I r.1, .I r.2.1, .bool r.2.2]) := by
 unfold handle_parts at h
 refine pc_intro (N := 22) Tryz.func261 J J nl fun w0 imm0 => sR <| yi J J <| yi J J <| yb J J <| yN <| pw_seq <| sR <| yI J J <| y0 J (o_cmp J J J) <| yN ?_
 refine pw_cond (decide (a0 < 1)) J (fun hc => ?_) (fun hc => ?_)
 ·have h := ifT h hc
  refine sR <| yi J J <| yi J J <| yb J J <| yN <| pw_ret ?_
  obtain rfl := oj h
  exact ⟨J, [_, _, _], ⟨J, ⟨J, ⟨J, tr⟩⟩⟩, J, io⟩
 ·have h := ifF h hc
  refine pw_skip <| sR <| yI J J <| y0 J (o_ari J J J) <| bnE h fun v1 hv1 h => y0 J (o_ari J J hv1) <| bnE h fun v2 hv2 h => y0 J (o_ari J J hv2) <| yI J J <| y0 J (o_ari J J J) <| bnE h fun v3 hv3 h => y0 J (o_ari J J hv3) <| yi J J <| yi J J <| yN <| pw_seq <| sR <| yI J J <| y0 J (o_cmp J J J) <| yB J J <| y_if J (fun hg => mI J) <| y_if J (fun hg => o_cmp (ct hg) J J) <| y0 J (pk_or J J J (fun q => eqF q)) <| yN ?_
  refine pw_cond ((decide (v2 ≥ 24)) || (decide (v3 > 9))) J (fun hc => ?_) (fun hc => ?_)
  ·have h := ifT h hc
   refine sR <| yi J J <| yi J J <| yb J J <| yN <| pw_ret ?_
   obtain rfl := oj h
   exact ⟨J, [_, _, _], ⟨J, ⟨J, ⟨J, tr⟩⟩⟩, J, io⟩
  ·have h := ifF h hc
   refine pw_skip <| sR <| yI J J <| yI J J <| yi J J <| yi J J <| yb J J <| yN <| pw_ret ?_
   obtain rfl := oj h
   exact ⟨J, [_, _, _], ⟨J, ⟨J, ⟨J, tr⟩⟩⟩, J, io⟩

theorem handle_Slot_ok {a0 : Int} {r : Int} (h : handle_Slot a0 = some r) : PCalls Tryz.prog 221 [.I a0] (.I r) := by
 unfold handle_Slot at h
 refine pc_intro (N := 13) Tryz.func221 J J nl fun w0 imm0 => sR <| yi J J <| yN <| sR <| yI J J <| bnE h fun v1 hv1 h => y0 J (o_call J Ty.k261 J (handle_parts_ok hv1)) <| yM (d := .tup [.I v1.1, .I v1.2.1, .bool v1.2.2]) J J <| yX J J J <| yX J J J <| yX J J J <| yi J J <| yi J J <| yb J J <| yN <| sR <| yI J J <| yi J J <| yN <| pw_ret ?_
 obtain rfl := oj h
 exact ⟨J, [_], ⟨J, tr⟩, J, io⟩

theorem handle_Gen_ok {a0 : Int} {r : Int} (h : handle_Gen a0 = some r) : PCalls Tryz.prog 222 [.I a0] (.I r) := by
 unfold handle_Gen at h
 refine pc_intro (N := 13) Tryz.func222 J J nl fun w0 imm0 => sR <| yi J J <| yN <| sR <| yI J J <| bnE h fun v1 hv1 h => y0 J (o_call J Ty.k261 J (handle_parts_ok hv1)) <| yM (d := .tup [.I v1.1, .I v1.2.1, .bool v1.2.2]) J J <| yX J J J <| yX J J J <| yX J J J <| yi J J <| yi J J <| yb J J <| yN <| sR <| yI J J <| yi J J <| yN <| pw_ret ?_
 obtain rfl := oj h
 exact ⟨J, [_], ⟨J, tr⟩, J, io⟩

theorem slab_Find_store_Obj_ok {a0 : slab_Slab_store_Obj} {a1 : Int} {r : Int × Int} (h : slab_Find_store_Obj a0 a1 = some r) : PCalls Tryz.prog 164 [slab_Slab_store_Obj.Pv a0, .I a1] (.tup [.I r.1, .I r.2]) := by
 unfold slab_Find_store_Obj at h
 refine pc_intro (N := 42) Tryz.func164 J J nl fun w0 imm0 => sR <| y1 J (o_box (d := slab_Slab_store_Obj.Pv a0) J J J J J) J <| yi J J <| yi J J <| yN <| pw_seq <| sR <| yI J J <| y0 J (o_cmp J J J) <| yN ?_
 refine pw_cond (a1 == 0) J (fun hc => ?_) (fun hc => ?_)
 ·have h := ifT h hc
  refine sR <| yi J J <| yi J J <| yN <| pw_ret ?_
  obtain rfl := oj h
  exact ⟨J, [_, _], ⟨J, ⟨J, tr⟩⟩, J, io⟩
 ·have h := ifF h hc
  refine pw_skip <| sR <| yI J J <| bnE h fun v1 hv1 h => y0 J (o_call J Ty.k221 J (handle_Slot_ok hv1)) <| yi J J <| yN <| pw_seq <| sR <| yI J J <| y0 J (o_cmp J J J) <| yB J J <| y_if J (fun hg => mI J) <| y_if J (fun hg => oF J Ty.f24_0 J) <| y_if J (fun hg => oS (ct hg) J J Ty.a22 J) <| y_if J (fun hg => o_lnL (f := slab_Cell_store_Obj.Pv) (ct hg) Ty.e22) <| y_if J (fun hg => o_cmp (ct hg) (ct hg) J) <| y0 J (pk_or J J J (fun q => eqF q)) <| yN ?_
  refine pw_cond ((decide (v1 < 0)) || (decide (v1 ≥ (a0.Cells.length : Int)))) J (fun hc => ?_) (fun hc => ?_)
  ·have h := ifT h hc
   refine sR <| yi J J <| yi J J <| yN <| pw_ret ?_
   obtain rfl := oj h
   exact ⟨J, [_, _], ⟨J, ⟨J, tr⟩⟩, J, io⟩
  ·have h := ifF h hc
   refine pw_skip <| sR <| yF J J Ty.f24_0 J <| yS J J J J Ty.a22 J <| yI J J <| bnE h fun v2 hv2 h => y0 J (o_ixL (f := slab_Cell_store_Obj.Pv) (cs := slab_Cell_store_Obj.Pc v2) hv2 J J Ty.e22 Ty.s141 J J) <| y0 J (o_loadRA J Ty.a141 Ty.s141 nl J) <| y1 J (o_alloc J Ty.z141 J J J) J <| y_sto (x' := slab_Cell_store_Obj.Pv v2) (cl' := true) J J (.inr J) Ty.s141 <| yN <| pw_seq <| dr [] Ty.mix (by kernel_rfl) (by kernel_rfl) <| d7 J (fun _ hN => oF J Ty.f141_1 J) J <| d0 J (oS J J J Ty.a3 J) J <| d7 J (fun _ hN => mI J) J <| bnE h fun v3 hv3 h => d2 J (o_call J Ty.k222 J (handle_Gen_ok hv3)) J <| d7 J (fun _ hN => o_cmp J J J) J <| d7 J (fun _ hN => mB J) J <| d_if7 J (fun hg _ hN => oF J Ty.f141_0 J) J <| d_if0 J (fun hg => oS (ct hg) J J Ty.a3 J) J <| d_if7 J (fun hg _ hN => o_cmp (ct hg) J J) J <| d_if7 J (fun hg _ hN => om (d := .bool (v2.State != 1)) (ct hg)) J <| d_if7 (want2 J J J) (fun hg _ hN => oF J Ty.f141_0 J) J <| d_if0 (want2 J J J) (fun hg => oS (ct hg) J J Ty.a3 J) J <| d_if7 (want2 J J J) (fun hg _ hN => o_cmp (ct hg) J J) J <| d_if7 J (fun hg _ hN => pk_and (ct hg) J J (fun q => andI hg (eqT q))) J <| d7 J (fun _ hN => pk_or J J J (fun q => eqF q)) J <| d_nil ?_
   refine pw_cond ((v2.Gen != v3) || ((v2.State != 1) && (v2.State != 2))) J (fun hc => ?_) (fun hc => ?_)
   ·have h := ifT h hc
    refine sR <| yi J J <| yi J J <| yN <| pw_ret ?_
    obtain rfl := oj h
    exact ⟨J, [_, _], ⟨J, ⟨J, tr⟩⟩, J, io⟩
   ·have h := ifF h hc
    refine pw_skip <| sR <| yI J J <| yi J J <| yi J J <| yN <| pw_ret ?_
    obtain rfl := oj h
    exact ⟨J, [_, _], ⟨J, ⟨J, tr⟩⟩, J, io⟩

theorem slab_Get_store_Obj_ok {a0 : slab_Slab_store_Obj} {a1 : Int} {r : store_Obj × Int} (h : slab_Get_store_Obj a0 a1 = some r) : PCalls Tryz.prog 145 [slab_Slab_store_Obj.Pv a0, .I a1] (.tup [store_Obj.Pv r.1, .I r.2]) := by
 unfold slab_Get_store_Obj at h
 refine pc_intro (N := 33) Tryz.func145 J J nl fun w0 imm0 => sR <| y1 J (o_box (d := slab_Slab_store_Obj.Pv a0) J J J J J) J <| y1 J (o_alloc J Ty.z91 J J J) J <| yi J J <| yN <| sR <| y1 J (o_alloc J Ty.z91 J J J) J <| yN <| sR <| yL J J J J Ty.a24 Ty.s24 nl J <| yI J J <| bnE h fun v1 hv1 h => y0 J (o_call J Ty.k164 J (slab_Find_store_Obj_ok hv1)) <| yM (d := .tup [.I v1.1, .I v1.2]) J J <| yX J J J <| yX J J J <| yi J J <| yi J J <| yN <| pw_seq <| sR <| yI J J <| y0 J (o_cmp J J J) <| yN ?_
 refine pw_cond (v1.2 != 0) J (fun hc => ?_) (fun hc => ?_)
 ·have h := ifT h hc
  refine sR <| yL J J J J Ty.a91 Ty.s91 nl J <| yI J J <| y_sto (x' := .agg [.I 0, .I 0, .I 0, .I 0, .bool false, .lst true (List.map iF [])]) (cl' := true) J J (.inl J) Ty.s91 <| yi J J <| yN <| pw_ret ?_
  obtain rfl := oj h
  exact ⟨J, [_, _], ⟨oL J J J Ty.a91 Ty.s91 nl J, ⟨J, tr⟩⟩, J, io⟩
 ·have h := ifF h hc
  refine pw_skip <| pw_seq <| sR <| yF J J Ty.f24_0 J <| yS J J J J Ty.a22 J <| yI J J <| bnE h fun v2 hv2 h => y0 J (o_ixL (f := slab_Cell_store_Obj.Pv) (cs := slab_Cell_store_Obj.Pc v2) hv2 J J Ty.e22 Ty.s141 J J) <| y0 J (o_fieldAddrR J Ty.f141_0 J) <| y0 J (o_loadRS J Ty.a3 J) <| y0 J (o_cmp J J J) <| yN ?_
  refine pw_cond (v2.State == 2) J (fun hc => ?_) (fun hc => ?_)
  ·have h := ifT h hc
   refine sR <| yL J J J J Ty.a91 Ty.s91 nl J <| y_sto (x' := .agg [.I 0, .I 0, .I 0, .I 0, .bool false, .lst true (List.map iF [])]) (cl' := true) J J (.inl J) Ty.s91 <| yi J J <| yN <| pw_ret ?_
   obtain rfl := oj h
   exact ⟨J, [_, _], ⟨oL J J J Ty.a91 Ty.s91 nl J, ⟨J, tr⟩⟩, J, io⟩
  ·have h := ifF h hc
   refine pw_skip <| sR <| yF J J Ty.f24_0 J <| yS J J J J Ty.a22 J <| yI J J <| y0 J (o_ixL (f := slab_Cell_store_Obj.Pv) (cs := slab_Cell_store_Obj.Pc v2) hv2 J J Ty.e22 Ty.s141 J J) <| y0 J (o_fieldAddrR J Ty.f141_2 J) <| y0 J (o_loadRA J Ty.a91 Ty.s91 nl J) <| y_sto (x' := store_Obj.Pv v2.Val) (cl' := true) J J (.inr J) Ty.s91 <| yi J J <| yN <| pw_ret ?_
   obtain rfl := oj h
   exact ⟨J, [_, _], ⟨oL J J J Ty.a91 Ty.s91 nl J, ⟨J, tr⟩⟩, J, io⟩

theorem store_Get_ok {a0 : store_Store} {a1 : Int} {r : store_Obj × Int} (h : store_Get a0 a1 = some r) : PCalls Tryz.prog 61 [store_Store.Pv a0, .I a1] (.tup [store_Obj.Pv r.1, .I r.2]) := by
 unfold store_Get at h
 refine pc_intro (N := 12) Tryz.func61 J J nl fun w0 imm0 => sR <| y1 J (o_box (d := store_Store.Pv a0) J J J J J) J <| y1 J (o_alloc J Ty.z91 J J J) J <| yi J J <| yN <| sR <| yF J J Ty.f26_0 J <| yL J J J J Ty.a24 Ty.s24 nl J <| yI J J <| bnE h fun v1 hv1 h => yc J (o_callF J Ty.k145 J (slab_Get_store_Obj_ok hv1)) <| yX J J J <| yX J J J <| y_sto (x' := store_Obj.Pv v1.1) (cl' := true) J J (.inr J) Ty.s91 <| yi J J <| yN <| pw_ret ?_
 obtain rfl := oj h
 exact ⟨J, [_, _], ⟨oL J J J Ty.a91 Ty.s91 nl J, ⟨J, tr⟩⟩, J, io⟩

theorem hold_isLive_ok {a0 : hold_Heap} {a1 : Int} {r : Bool} (h : hold_isLive a0 a1 = some r) : PCalls Tryz.prog 154 [hold_Heap.Pv a0, .I a1] (.bool r) := by
 unfold hold_isLive at h
 refine pc_intro (N := 16) Tryz.func154 J J nl fun w0 imm0 => sR <| y1 J (o_box (d := hold_Heap.Pv a0) J J J J J) J <| yb J J <| yN <| sR <| yF J J Ty.f34_0 J <| yL J J J J Ty.a26 Ty.s26 nl J <| yI J J <| bnE h fun v1 hv1 h => yc J (o_callF J Ty.k61 J (store_Get_ok hv1)) <| yM (d := .tup [store_Obj.Pv v1.1, .I v1.2]) J J <| yX J J J <| yX J J J <| y1 J (o_alloc J Ty.z91 J J J) J <| y_sto (x' := store_Obj.Pv v1.1) (cl' := true) J J (.inr J) Ty.s91 <| yi J J <| yN <| sR <| yI J J <| y0 J (o_cmp J J J) <| yb J J <| yN <| pw_ret ?_
 obtain rfl := oj h
 exact ⟨J, [_], ⟨J, tr⟩, J, io⟩

theorem hold_nameable_ok {a0 : hold_Heap} {a1 : Int} {r : Bool} (h : hold_nameable a0 a1 = some r) : PCalls Tryz.prog 64 [hold_Heap.Pv a0, .I a1] (.bool r) := by
 unfold hold_nameable at h
 refine pc_intro (N := 12) Tryz.func64 J J nl fun w0 imm0 => sR <| y1 J (o_box (d := hold_Heap.Pv a0) J J J J J) J <| yb J J <| yN <| sR <| yI J J <| y0 J (o_cmp J J J) <| yB J J <| y_if J (fun hg => oL J J J Ty.a34 Ty.s34 nl J) <| y_if J (fun hg => mI J) <| bnE h fun v1 hv1 h => y_if J (fun hg => o_call J Ty.k154 (consE (ct hg) (consE (ct hg) J)) (hold_isLive_ok (onlyE hv1 hg))) <| y0 J (pk_or J J J (fun q => eqF q)) <| yb J J <| yN <| pw_ret ?_
 obtain rfl := oj h
 exact ⟨J, [_], ⟨J, tr⟩, J, io⟩

theorem count_tally_stuck_ok {a0 : Int} {r : Bool} (h : count_tally_stuck a0 = some r) : PCalls Tryz.prog 231 [.I a0] (.bool r) := by
 unfold count_tally_stuck at h
 refine pc_intro (N := 5) Tryz.func231 J J nl fun w0 imm0 => sR <| yb J J <| yN <| sR <| yI J J <| y0 J (o_cmp J J J) <| yb J J <| yN <| pw_ret ?_
 obtain rfl := oj h
 exact ⟨J, [_], ⟨J, tr⟩, J, io⟩

theorem count_tally_up_ok {a0 : Int} {r : Int × Int} (h : count_tally_up a0 = some r) : PCalls Tryz.prog 175 [.I a0] (.tup [.I r.1, .I r.2]) := by
 unfold count_tally_up at h
 refine pc_intro (N := 9) Tryz.func175 J J nl fun w0 imm0 => sR <| yi J J <| yi J J <| yN <| pw_seq <| sR <| yI J J <| bnE h fun v1 hv1 h => y0 J (o_call J Ty.k231 J (count_tally_stuck_ok hv1)) <| yN ?_
 refine pw_cond v1 J (fun hc => ?_) (fun hc => ?_)
 ·have h := ifT h hc
  refine sR <| yi J J <| yi J J <| yN <| pw_ret ?_
  obtain rfl := oj h
  exact ⟨J, [_, _], ⟨J, ⟨J, tr⟩⟩, J, io⟩
 ·have h := ifF h hc
  refine pw_skip <| sR <| yI J J <| y0 J (o_max J J J) <| y0 J (o_ari J J J) <| yi J J <| yi J J <| yN <| pw_ret ?_
  obtain rfl := oj h
  exact ⟨J, [_, _], ⟨J, ⟨J, tr⟩⟩, J, io⟩

theorem count_Inc_ok {a0 : Int} {r : Int} (h : count_Inc a0 = some r) : PCalls Tryz.prog 93 [.I a0] (.I r) := by
 unfold count_Inc at h
 refine pc_intro (N := 11) Tryz.func93 J J nl fun w0 imm0 => sR <| yi J J <| yN <| sR <| yI J J <| bnE h fun v1 hv1 h => y0 J (o_call J Ty.k175 J (count_tally_up_ok hv1)) <| yM (d := .tup [.I v1.1, .I v1.2]) J J <| yX J J J <| yX J J J <| yi J J <| yi J J <| yN <| sR <| yI J J <| yi J J <| yN <| pw_ret ?_
 obtain rfl := oj h
 exact ⟨J, [_], ⟨J, tr⟩, J, io⟩

theorem slab_Set_store_Obj_ok {a0 : slab_Slab_store_Obj} {a1 : Int} {a2 : store_Obj} {r : slab_Slab_store_Obj × Int} (h : slab_Set_store_Obj a0 a1 a2 = some r) : PCalls Tryz.prog 187 [slab_Slab_store_Obj.Pv a0, .I a1, store_Obj.Pv a2] (.tup [slab_Slab_store_Obj.Pv r.1, .I r.2]) := by
 unfold slab_Set_store_Obj at h
 refine pc_intro (N := 32) Tryz.func187 J J nl fun w0 imm0 => sR <| y1 J (o_box (d := slab_Slab_store_Obj.Pv a0) J J J J J) J <| y1 J (o_box (d := store_Obj.Pv a2) J J J J J) J <| y1 J (o_alloc J Ty.z24 J J J) J <| yi J J <| yN <| sR <| yL J J J J Ty.a24 Ty.s24 nl J <| yI J J <| bnE h fun v1 hv1 h => y0 J (o_call J Ty.k164 J (slab_Find_store_Obj_ok hv1)) <| yM (d := .tup [.I v1.1, .I v1.2]) J J <| yX J J J <| yX J J J <| yi J J <| yi J J <| yN <| pw_seq <| sR <| yI J J <| y0 J (o_cmp J J J) <| yN ?_
 refine pw_cond (v1.2 != 0) J (fun hc => ?_) (fun hc => ?_)
 ·have h := ifT h hc
  refine sR <| yL J J J J Ty.a24 Ty.s24 nl J <| yI J J <| y_sto (x' := slab_Slab_store_Obj.Pv a0) (cl' := true) J J (.inr J) Ty.s24 <| yi J J <| yN <| pw_ret ?_
  obtain rfl := oj h
  exact ⟨J, [_, _], ⟨oL J J J Ty.a24 Ty.s24 nl J, ⟨J, tr⟩⟩, J, io⟩
 ·have h := ifF h hc
  refine pw_skip <| sR <| yF J J Ty.f24_0 J <| yS J J J J Ty.a22 J <| yI J J <| bnE h fun v2 hv2 h => y0 J (o_ixL (f := slab_Cell_store_Obj.Pv) (cs := slab_Cell_store_Obj.Pc v2) hv2 J J Ty.e22 Ty.s141 J J) <| y0 J (o_loadRA J Ty.a141 Ty.s141 nl J) <| y1 J (o_alloc J Ty.z141 J J J) J <| y_sto (x' := slab_Cell_store_Obj.Pv v2) (cl' := true) J J (.inr J) Ty.s141 <| yN <| sR <| yL J J J J Ty.a91 Ty.s91 nl J <| yF J J Ty.f141_2 J <| y_sto (x' := .agg [.I v2.State, .I v2.Gen, .I a2.Serial, .I a2.Strong, .I a2.Weak, .I a2.Prog, .bool a2.Started, .L iF a2.Fields]) (cl' := true) J J (.inr J) Ty.s91 <| yN <| sR <| yL J J J J Ty.a24 Ty.s24 nl J <| yI J J <| yL J J J J Ty.a141 Ty.s141 nl J <| bnE h fun v3 hv3 h => yc J (o_callF J Ty.k196 J (slab_with_store_Obj_ok hv3)) <| y_sto (x' := slab_Slab_store_Obj.Pv v3) (cl' := true) J J (.inr J) Ty.s24 <| yi J J <| yN <| pw_ret ?_
  obtain rfl := oj h
  exact ⟨J, [_, _], ⟨oL J J J Ty.a24 Ty.s24 nl J, ⟨J, tr⟩⟩, J, io⟩

theorem store_Set_ok {a0 : store_Store} {a1 : Int} {a2 : store_Obj} {r : store_Store × Int} (h : store_Set a0 a1 a2 = some r) : PCalls Tryz.prog 113 [store_Store.Pv a0, .I a1, store_Obj.Pv a2] (.tup [store_Store.Pv r.1, .I r.2]) := by
 unfold store_Set at h
 refine pc_intro (N := 20) Tryz.func113 J J nl fun w0 imm0 => sR <| y1 J (o_box (d := store_Store.Pv a0) J J J J J) J <| y1 J (o_box (d := store_Obj.Pv a2) J J J J J) J <| y1 J (o_alloc J Ty.z26 J J J) J <| yi J J <| yN <| sR <| yi J J <| yN <| sR <| yF J J Ty.f26_0 J <| yL J J J J Ty.a24 Ty.s24 nl J <| yI J J <| yL J J J J Ty.a91 Ty.s91 nl J <| bnE h fun v1 hv1 h => yc J (o_callF J Ty.k187 J (slab_Set_store_Obj_ok hv1)) <| yM (d := .tup [slab_Slab_store_Obj.Pv v1.1, .I v1.2]) J J <| yX J J J <| yX J J J <| yF J J Ty.f26_0 J <| y_sto (x' := .agg [.L slab_Cell_store_Obj.Pv v1.1.Cells, .I v1.1.Last, .I a0.Serial]) (cl' := true) J J (.inr J) Ty.s24 <| yi J J <| yN <| sR <| yL J J J J Ty.a26 Ty.s26 nl J <| yI J J <| y_sto (x' := .agg [.L slab_Cell_store_Obj.Pv v1.1.Cells, .I v1.1.Last, .I a0.Serial]) (cl' := true) J J (.inr J) Ty.s26 <| yi J J <| yN <| pw_ret ?_
 obtain rfl := oj h
 exact ⟨J, [_, _], ⟨oL J J J Ty.a26 Ty.s26 nl J, ⟨J, tr⟩⟩, J, io⟩

theorem hold_counted__count_Inc_ok {a0 : hold_Heap} {a1 : Int} {r : hold_Heap} (h : hold_counted__count_Inc a0 a1 = some r) : PCalls Tryz.prog 92 [hold_Heap.Pv a0, .I a1, .fn (.func 93) []] (hold_Heap.Pv r) := by
 unfold hold_counted__count_Inc at h
 refine pc_intro (N := 33) Tryz.func92 J J nl fun w0 imm0 => sR <| y1 J (o_box (d := hold_Heap.Pv a0) J J J J J) J <| y1 J (o_alloc J Ty.z34 J J J) J <| yN <| sR <| yF J J Ty.f34_0 J <| yL J J J J Ty.a26 Ty.s26 nl J <| yI J J <| bnE h fun v1 hv1 h => yc J (o_callF J Ty.k61 J (store_Get_ok hv1)) <| yM (d := .tup [store_Obj.Pv v1.1, .I v1.2]) J J <| yX J J J <| yX J J J <| y1 J (o_alloc J Ty.z91 J J J) J <| y_sto (x' := store_Obj.Pv v1.1) (cl' := true) J J (.inr J) Ty.s91 <| yi J J <| yN <| pw_seq <| sR <| yI J J <| y0 J (o_cmp J J J) <| yN ?_
 refine pw_cond (v1.2 == 0) J (fun hc => ?_) (fun hc => ?_)
 ·have h := ifT h hc
  refine sR <| yM (d := .fn (.func 93) []) J J <| yF J J Ty.f91_1 J <| yS J J J J Ty.a3 J <| bnE h fun v2 hv2 h => y0 J (o_call J Ty.k93 J (count_Inc_ok hv2)) <| yF J J Ty.f91_1 J <| y_sto (x' := .agg [.I v1.1.Serial, .I v2, .I v1.1.Weak, .I v1.1.Prog, .bool v1.1.Started, .L iF v1.1.Fields]) (cl' := true) J J (.inl J) Ty.s3 <| yN <| s1 <| yF J J Ty.f34_0 J <| yL J J J J Ty.a26 Ty.s26 nl J <| yI J J <| yL J J J J Ty.a91 Ty.s91 nl J <| bnE h fun v3 hv3 h => yc J (o_callF J Ty.k113 J (store_Set_ok hv3)) <| yM (d := .tup [store_Store.Pv v3.1, .I v3.2]) J J <| yX J J J <| yX J J J <| yF J J Ty.f34_0 J <| y_sto (x' := .agg [.L slab_Cell_store_Obj.Pv v3.1.S.Cells, .I v3.1.S.Last, .I v3.1.Serial, .L iF a0.Roots, .L weak_Cell.Pv a0.Cells, .L hash_Place.Pv a0.T, .L task_Task.Pv a0.Q.L, .I a0.Q.Cap]) (cl' := true) J J (.inr J) Ty.s26 <| yN <| sR <| yL J J J J Ty.a34 Ty.s34 nl J <| y_sto (x' := .agg [.L slab_Cell_store_Obj.Pv v3.1.S.Cells, .I v3.1.S.Last, .I v3.1.Serial, .L iF a0.Roots, .L weak_Cell.Pv a0.Cells, .L hash_Place.Pv a0.T, .L task_Task.Pv a0.Q.L, .I a0.Q.Cap]) (cl' := true) J J (.inr J) Ty.s34 <| yN <| pw_ret ?_
  obtain rfl := oj h
  exact ⟨J, [_], ⟨oL J J J Ty.a34 Ty.s34 nl J, tr⟩, J, io⟩
 ·have h := ifF h hc
  refine pw_skip <| sR <| yL J J J J Ty.a34 Ty.s34 nl J <| y_sto (x' := hold_Heap.Pv a0) (cl' := true) J J (.inr J) Ty.s34 <| yN <| pw_ret ?_
  obtain rfl := oj h
  exact ⟨J, [_], ⟨oL J J J Ty.a34 Ty.s34 nl J, tr⟩, J, io⟩

theorem hold_Retain_ok {a0 : hold_Heap} {a1 : Int} {r : hold_Heap} (h : hold_Retain a0 a1 = some r) : PCalls Tryz.prog 28 [hold_Heap.Pv a0, .I a1] (hold_Heap.Pv r) := by
 unfold hold_Retain at h
 refine pc_intro (N := 8) Tryz.func28 J J nl fun w0 imm0 => sR <| y1 J (o_box (d := hold_Heap.Pv a0) J J J J J) J <| y1 J (o_alloc J Ty.z34 J J J) J <| yN <| sR <| yL J J J J Ty.a34 Ty.s34 nl J <| yI J J <| bnE h fun v1 hv1 h => yc J (o_callF J Ty.k92 J (hold_counted__count_Inc_ok hv1)) <| y_sto (x' := hold_Heap.Pv v1) (cl' := true) J J (.inr J) Ty.s34 <| yN <| pw_ret ?_
 obtain rfl := oj h
 exact ⟨J, [_], ⟨oL J J J Ty.a34 Ty.s34 nl J, tr⟩, J, io⟩

theorem slices_Clone_int_int_okN {a0 r : List Int} (h : slices_Clone_int_int a0 = some r) : PCallsN Tryz.prog 155 [.L iF a0] ⟨List.map iF r, 0, true, 1, true⟩ := by
 unfold slices_Clone_int_int at h
 refine pc_introN (N := 8) Tryz.func155 J J nl fun w0 imm0 => sR <| yA (d := .lst true (List.map iF [])) J J <| yN <| pw_seq <| sR <| yM (d := .L iF a0) J J <| y_eqnil J Ty.e27 fun b hb => yN ?_
 refine pw_cond b J (fun hc => ?_) (fun hc => ?_)
 ·obtain rfl : a0 = [] := by simpa using hb hc
  refine sR <| yA (d := .lst true (List.map iF [])) J J <| yN <| pw_wk (wk_nil (t := 2) (l := 920000) (z := 1) J J) <| pw_ret ?_
  obtain rfl := oj h
  exact ⟨J, _, _, J, J, J, J⟩
 ·refine pw_skip ?_
  refine sR <| y0 J (o_nslice J Ty.e27 Ty.s3) <| yM (d := .L iF a0) J J <| y1 J (o_apT (f := iF) h J J (.inl ⟨_, J, J⟩) Ty.e27 Ty.s3 Ty.b3 Ty.z3 J (fun _ => J)) J <| yA (d := .sl 7) J J <| yN <| pw_ret ?_
  exact ⟨J, _, _, J, J, J, J⟩

theorem slices_Clone_int_int_ok {a0 r : List Int} (h : slices_Clone_int_int a0 = some r) : PCalls Tryz.prog 155 [.L iF a0] (.L iF r) := pcalls_ofN (slices_Clone_int_int_okN h) J

theorem hold_rootPlace_say_ok {a0 : hold_rootPlace} {a1 : hold_Heap} {r : hold_Heap} (h : hold_rootPlace_say a0 a1 = some r) : PCalls Tryz.prog 66 [hold_rootPlace.Pv a0, hold_Heap.Pv a1] (hold_Heap.Pv r) := by
 unfold hold_rootPlace_say at h
 refine pc_intro (N := 17) Tryz.func66 J J nl fun w0 imm0 => sR <| y1 J (o_box (d := hold_rootPlace.Pv a0) J J J J J) J <| y1 J (o_box (d := hold_Heap.Pv a1) J J J J J) J <| y1 J (o_alloc J Ty.z34 J J J) J <| yN <| sR <| yF J J Ty.f34_1 J <| yS J J J J Ty.a27 J <| bnE h fun v1 hv1 h => ycN J (o_callN J Ty.k155 J (slices_Clone_int_int_okN hv1)) J J <| yF J J Ty.f34_1 J <| y_sto (x' := .agg [.L slab_Cell_store_Obj.Pv a1.S.S.Cells, .I a1.S.S.Last, .I a1.S.Serial, .sl 7, .L weak_Cell.Pv a1.Cells, .L hash_Place.Pv a1.T, .L task_Task.Pv a1.Q.L, .I a1.Q.Cap]) (cl' := false) J J (.inl J) Ty.s27 <| yN <| sR <| yF J J Ty.f34_1 J <| yS J J J J Ty.a27 J <| yF J J Ty.f96_0 J <| yS J J J J Ty.a3 J <| yF J J Ty.f96_1 J <| yS J J J J Ty.a3 J <| bnE h fun v2 hv2 h => y0 J (o_ixR (f := iF) hv2 J J J J Ty.e27 Ty.s3 J) <| y_stE (f := iF) (v := a0.h) hv2 J J (.inl J) Ty.s3 <| yN <| sR <| yL J J J J Ty.a34 Ty.s34 nl J <| y_sto (x' := .agg [.L slab_Cell_store_Obj.Pv a1.S.S.Cells, .I a1.S.S.Last, .I a1.S.Serial, .sl 7, .L weak_Cell.Pv a1.Cells, .L hash_Place.Pv a1.T, .L task_Task.Pv a1.Q.L, .I a1.Q.Cap]) (cl' := false) J J (.inr J) Ty.s34 <| yN <| pw_ret ?_
 obtain rfl := oj h
 exact ⟨J, [_], ⟨oL J J J Ty.a34 Ty.s34 nl J, tr⟩, J, io⟩

theorem count_tally_down_ok {a0 : Int} {r : Int × Int} (h : count_tally_down a0 = some r) : PCalls Tryz.prog 176 [.I a0] (.tup [.I r.1, .I r.2]) := by
 unfold count_tally_down at h
 refine pc_intro (N := 10) Tryz.func176 J J nl fun w0 imm0 => sR <| yi J J <| yi J J <| yN <| pw_seq <| sR <| yI J J <| bnE h fun v1 hv1 h => y0 J (o_call J Ty.k231 J (count_tally_stuck_ok hv1)) <| yN ?_
 refine pw_cond v1 J (fun hc => ?_) (fun hc => ?_)
 ·have h := ifT h hc
  refine sR <| yi J J <| yi J J <| yN <| pw_ret ?_
  obtain rfl := oj h
  exact ⟨J, [_, _], ⟨J, ⟨J, tr⟩⟩, J, io⟩
 ·have h := ifF h hc
  refine pw_skip <| pw_seq <| sR <| yI J J <| y0 J (o_cmp J J J) <| yN ?_
  refine pw_cond (decide (a0 < 1)) J (fun hc => ?_) (fun hc => ?_)
  ·have h := ifT h hc
   refine sR <| yi J J <| yi J J <| yN <| pw_ret ?_
   obtain rfl := oj h
   exact ⟨J, [_, _], ⟨J, ⟨J, tr⟩⟩, J, io⟩
  ·have h := ifF h hc
   refine pw_skip <| sR <| yI J J <| y0 J (o_ari J J J) <| yi J J <| yi J J <| yN <| pw_ret ?_
   obtain rfl := oj h
   exact ⟨J, [_, _], ⟨J, ⟨J, tr⟩⟩, J, io⟩

theorem count_Dec_ok {a0 : Int} {r : Int × Int} (h : count_Dec a0 = some r) : PCalls Tryz.prog 95 [.I a0] (.tup [.I r.1, .I r.2]) := by
 unfold count_Dec at h
 refine pc_intro (N := 13) Tryz.func95 J J nl fun w0 imm0 => sR <| yi J J <| yi J J <| yN <| sR <| yI J J <| bnE h fun v1 hv1 h => y0 J (o_call J Ty.k176 J (count_tally_down_ok hv1)) <| yM (d := .tup [.I v1.1, .I v1.2]) J J <| yX J J J <| yX J J J <| yi J J <| yi J J <| yN <| sR <| yI J J <| yI J J <| yi J J <| yi J J <| yN <| pw_ret ?_
 obtain rfl := oj h
 exact ⟨J, [_, _], ⟨J, ⟨J, tr⟩⟩, J, io⟩

theorem hold_Release_1_ok {a0 : Int} {r : Int} (h : hold_Release_1 a0 = some r) : PCalls Tryz.prog 94 [.I a0] (.I r) := by
 unfold hold_Release_1 at h
 refine pc_intro (N := 14) Tryz.func94 J J nl fun w0 imm0 => sR <| yi J J <| yN <| sR <| yI J J <| bnE h fun v1 hv1 h => y0 J (o_call J Ty.k95 J (count_Dec_ok hv1)) <| yM (d := .tup [.I v1.1, .I v1.2]) J J <| yX J J J <| yX J J J <| yi J J <| yi J J <| yN <| pw_seq <| sR <| yI J J <| y0 J (o_cmp J J J) <| yN ?_
 refine pw_cond (v1.2 != 0) J (fun hc => ?_) (fun hc => ?_)
 ·have h := ifT h hc
  refine sR <| yI J J <| yi J J <| yN <| pw_ret ?_
  obtain rfl := oj h
  exact ⟨J, [_], ⟨J, tr⟩, J, io⟩
 ·have h := ifF h hc
  refine pw_skip <| sR <| yI J J <| yi J J <| yN <| pw_ret ?_
  obtain rfl := oj h
  exact ⟨J, [_], ⟨J, tr⟩, J, io⟩

theorem hold_counted__hold_Release_1_ok {a0 : hold_Heap} {a1 : Int} {r : hold_Heap} (h : hold_counted__hold_Release_1 a0 a1 = some r) : PCalls Tryz.prog 92 [hold_Heap.Pv a0, .I a1, .fn (.func 94) []] (hold_Heap.Pv r) := by
 unfold hold_counted__hold_Release_1 at h
 refine pc_intro (N := 33) Tryz.func92 J J nl fun w0 imm0 => sR <| y1 J (o_box (d := hold_Heap.Pv a0) J J J J J) J <| y1 J (o_alloc J Ty.z34 J J J) J <| yN <| sR <| yF J J Ty.f34_0 J <| yL J J J J Ty.a26 Ty.s26 nl J <| yI J J <| bnE h fun v1 hv1 h => yc J (o_callF J Ty.k61 J (store_Get_ok hv1)) <| yM (d := .tup [store_Obj.Pv v1.1, .I v1.2]) J J <| yX J J J <| yX J J J <| y1 J (o_alloc J Ty.z91 J J J) J <| y_sto (x' := store_Obj.Pv v1.1) (cl' := true) J J (.inr J) Ty.s91 <| yi J J <| yN <| pw_seq <| sR <| yI J J <| y0 J (o_cmp J J J) <| yN ?_
 refine pw_cond (v1.2 == 0) J (fun hc => ?_) (fun hc => ?_)
 ·have h := ifT h hc
  refine sR <| yM (d := .fn (.func 94) []) J J <| yF J J Ty.f91_1 J <| yS J J J J Ty.a3 J <| bnE h fun v2 hv2 h => y0 J (o_call J Ty.k94 J (hold_Release_1_ok hv2)) <| yF J J Ty.f91_1 J <| y_sto (x' := .agg [.I v1.1.Serial, .I v2, .I v1.1.Weak, .I v1.1.Prog, .bool v1.1.Started, .L iF v1.1.Fields]) (cl' := true) J J (.inl J) Ty.s3 <| yN <| s1 <| yF J J Ty.f34_0 J <| yL J J J J Ty.a26 Ty.s26 nl J <| yI J J <| yL J J J J Ty.a91 Ty.s91 nl J <| bnE h fun v3 hv3 h => yc J (o_callF J Ty.k113 J (store_Set_ok hv3)) <| yM (d := .tup [store_Store.Pv v3.1, .I v3.2]) J J <| yX J J J <| yX J J J <| yF J J Ty.f34_0 J <| y_sto (x' := .agg [.L slab_Cell_store_Obj.Pv v3.1.S.Cells, .I v3.1.S.Last, .I v3.1.Serial, .L iF a0.Roots, .L weak_Cell.Pv a0.Cells, .L hash_Place.Pv a0.T, .L task_Task.Pv a0.Q.L, .I a0.Q.Cap]) (cl' := true) J J (.inr J) Ty.s26 <| yN <| sR <| yL J J J J Ty.a34 Ty.s34 nl J <| y_sto (x' := .agg [.L slab_Cell_store_Obj.Pv v3.1.S.Cells, .I v3.1.S.Last, .I v3.1.Serial, .L iF a0.Roots, .L weak_Cell.Pv a0.Cells, .L hash_Place.Pv a0.T, .L task_Task.Pv a0.Q.L, .I a0.Q.Cap]) (cl' := true) J J (.inr J) Ty.s34 <| yN <| pw_ret ?_
  obtain rfl := oj h
  exact ⟨J, [_], ⟨oL J J J Ty.a34 Ty.s34 nl J, tr⟩, J, io⟩
 ·have h := ifF h hc
  refine pw_skip <| sR <| yL J J J J Ty.a34 Ty.s34 nl J <| y_sto (x' := hold_Heap.Pv a0) (cl' := true) J J (.inr J) Ty.s34 <| yN <| pw_ret ?_
  obtain rfl := oj h
  exact ⟨J, [_], ⟨oL J J J Ty.a34 Ty.s34 nl J, tr⟩, J, io⟩

theorem hold_Release_ok {a0 : hold_Heap} {a1 : Int} {r : hold_Heap} (h : hold_Release a0 a1 = some r) : PCalls Tryz.prog 29 [hold_Heap.Pv a0, .I a1] (hold_Heap.Pv r) := by
 unfold hold_Release at h
 refine pc_intro (N := 8) Tryz.func29 J J nl fun w0 imm0 => sR <| y1 J (o_box (d := hold_Heap.Pv a0) J J J J J) J <| y1 J (o_alloc J Ty.z34 J J J) J <| yN <| sR <| yL J J J J Ty.a34 Ty.s34 nl J <| yI J J <| bnE h fun v1 hv1 h => yc J (o_callF J Ty.k92 J (hold_counted__hold_Release_1_ok hv1)) <| y_sto (x' := hold_Heap.Pv v1) (cl' := true) J J (.inr J) Ty.s34 <| yN <| pw_ret ?_
 obtain rfl := oj h
 exact ⟨J, [_], ⟨oL J J J Ty.a34 Ty.s34 nl J, tr⟩, J, io⟩

theorem hold_turned__hold_rootPlace_say_ok {a0 : hold_Heap} {a1 : Int} {a2 : Int} {a3 : hold_rootPlace} {r : hold_Heap} (h : hold_turned__hold_rootPlace_say a0 a1 a2 a3 = some r) : PCalls Tryz.prog 65 [hold_Heap.Pv a0, .I a1, .I a2, .abs (BFn 66 [hold_rootPlace.Pv a3])] (hold_Heap.Pv r) := by
 unfold hold_turned__hold_rootPlace_say at h
 refine pc_intro (N := 16) Tryz.func65 J J nl fun w0 imm0 => sR <| y1 J (o_box (d := hold_Heap.Pv a0) J J J J J) J <| y1 J (o_alloc J Ty.z34 J J J) J <| yN <| sR <| yM (d := .abs (BFn 66 [hold_rootPlace.Pv a3])) J J <| yL J J J J Ty.a34 Ty.s34 nl J <| yI J J <| bnE h fun v1 hv1 h => yc J (o_callF J Ty.k28 J (hold_Retain_ok hv1)) <| bnE h fun v2 hv2 h => y_callB (xs := [hold_Heap.Pv v1]) J J Ty.k66 J (hold_rootPlace_say_ok hv2) <| yI J J <| bnE h fun v3 hv3 h => yc J (o_callF J Ty.k29 J (hold_Release_ok hv3)) <| y_sto (x' := hold_Heap.Pv v3) (cl' := true) J J (.inr J) Ty.s34 <| yN <| pw_ret ?_
 obtain rfl := oj h
 exact ⟨J, [_], ⟨oL J J J Ty.a34 Ty.s34 nl J, tr⟩, J, io⟩

theorem hold_Root_ok {a0 : hold_Heap} {a1 : Int} {a2 : Int} {r : hold_Heap × Int} (h : hold_Root a0 a1 a2 = some r) : PCalls Tryz.prog 17 [hold_Heap.Pv a0, .I a1, .I a2] (.tup [hold_Heap.Pv r.1, .I r.2]) := by
 unfold hold_Root at h
 refine pc_intro (N := 35) Tryz.func17 J J nl fun w0 imm0 => sR <| y1 J (o_box (d := hold_Heap.Pv a0) J J J J J) J <| y1 J (o_alloc J Ty.z34 J J J) J <| yi J J <| yN <| pw_seq <| sR <| yI J J <| y0 J (o_cmp J J J) <| yB J J <| y_if J (fun hg => mI J) <| y_if J (fun hg => oF J Ty.f34_1 J) <| y_if J (fun hg => oS (ct hg) J J Ty.a27 J) <| y_if J (fun hg => o_lnL (f := iF) (ct hg) Ty.e27) <| y_if J (fun hg => o_cmp (ct hg) (ct hg) J) <| y0 J (pk_or J J J (fun q => eqF q)) <| yN ?_
 refine pw_cond ((decide (a1 < 0)) || (decide (a1 ≥ (a0.Roots.length : Int)))) J (fun hc => ?_) (fun hc => ?_)
 ·have h := ifT h hc
  refine sR <| yL J J J J Ty.a34 Ty.s34 nl J <| y_sto (x' := hold_Heap.Pv a0) (cl' := true) J J (.inr J) Ty.s34 <| yi J J <| yN <| pw_ret ?_
  obtain rfl := oj h
  exact ⟨J, [_, _], ⟨oL J J J Ty.a34 Ty.s34 nl J, ⟨J, tr⟩⟩, J, io⟩
 ·have h := ifF h hc
  refine pw_skip <| pw_seq <| sR <| yL J J J J Ty.a34 Ty.s34 nl J <| yI J J <| bnE h fun v1 hv1 h => y0 J (o_call J Ty.k64 J (hold_nameable_ok hv1)) <| y0 J (o_not J J) <| yN ?_
  refine pw_cond (!v1) J (fun hc => ?_) (fun hc => ?_)
  ·have h := ifT h hc
   refine sR <| yL J J J J Ty.a34 Ty.s34 nl J <| y_sto (x' := hold_Heap.Pv a0) (cl' := true) J J (.inr J) Ty.s34 <| yi J J <| yN <| pw_ret ?_
   obtain rfl := oj h
   exact ⟨J, [_, _], ⟨oL J J J Ty.a34 Ty.s34 nl J, ⟨J, tr⟩⟩, J, io⟩
  ·have h := ifF h hc
   refine pw_skip <| dr [] Ty.mix (by kernel_rfl) (by kernel_rfl) <| d0 J (oL J J J Ty.a34 Ty.s34 nl J) J <| d7 J (fun _ hN => oF J Ty.f34_1 J) J <| d0 J (oS J J J Ty.a27 J) J <| d7 J (fun _ hN => mI J) J <| bnE h fun v2 hv2 h => d0 J (o_ixL (f := iF) (cs := [.I v2]) hv2 J J Ty.e27 Ty.s3 J J) J <| d0 J (o_loadRS J Ty.a3 J) J <| d7 J (fun _ hN => mI J) J <| d7 J (fun _ hN => mI J) J <| d7 J (fun _ hN => mI J) J <| d7 J (fun _ hN => o_build (cs := [.I a1, .I a2]) J Ty.p96 Ty.z96 J J J) J <| d7 J (fun _ hN => o_mkFuncB (d := .agg [.I a1, .I a2]) J) J <| bnE h fun v3 hv3 h => d2f J (o_callF J Ty.k65 J (hold_turned__hold_rootPlace_say_ok hv3)) J <| d_sto (x' := hold_Heap.Pv v3) (cl' := true) J J (.inr J) Ty.s34 <| d7 J (fun _ hN => aI J) J <| d_nil <| pw_ret ?_
   obtain rfl := oj h
   exact ⟨J, [_, _], ⟨oL J J J Ty.a34 Ty.s34 nl J, ⟨J, tr⟩⟩, J, io⟩

theorem vec_has_ok {a0 : List Int} {a1 : Int} {r : Bool} (h : vec_has a0 a1 = some r) : PCalls Tryz.prog 218 [.L iF a0, .I a1] (.bool r) := by
 unfold vec_has at h
 refine pc_intro (N := 13) Tryz.func218 J J nl fun w0 imm0 => sR <| yb J J <| yN <| sR <| yI J J <| y0 J (o_cmp J J J) <| yB J J <| y_if J (fun hg => mI J) <| y_if J (fun hg => om (d := .L iF a0) J) <| y_if J (fun hg => o_lnL (f := iF) (ct hg) Ty.e27) <| y_if J (fun hg => o_cmp (ct hg) (ct hg) J) <| y0 J (pk_and J J J (fun q => eqT q)) <| yb J J <| yN <| pw_ret ?_
 obtain rfl := oj h
 exact ⟨J, [_], ⟨J, tr⟩, J, io⟩

theorem vec_At_ok {a0 : List Int} {a1 : Int} {r : Int × Int} (h : vec_At a0 a1 = some r) : PCalls Tryz.prog 156 [.L iF a0, .I a1] (.tup [.I r.1, .I r.2]) := by
 unfold vec_At at h
 refine pc_intro (N := 14) Tryz.func156 J J nl fun w0 imm0 => sR <| yi J J <| yi J J <| yN <| pw_seq <| sR <| yM (d := .L iF a0) J J <| yI J J <| bnE h fun v1 hv1 h => y0 J (o_call J Ty.k218 J (vec_has_ok hv1)) <| y0 J (o_not J J) <| yN ?_
 refine pw_cond (!v1) J (fun hc => ?_) (fun hc => ?_)
 ·have h := ifT h hc
  refine sR <| yi J J <| yi J J <| yN <| pw_ret ?_
  obtain rfl := oj h
  exact ⟨J, [_, _], ⟨J, ⟨J, tr⟩⟩, J, io⟩
 ·have h := ifF h hc
  refine pw_skip <| sR <| yM (d := .L iF a0) J J <| yI J J <| bnE h fun v2 hv2 h => y0 J (o_ixL (f := iF) (cs := [.I v2]) hv2 J J Ty.e27 Ty.s3 J J) <| y0 J (o_loadRS J Ty.a3 J) <| yi J J <| yi J J <| yN <| pw_ret ?_
  obtain rfl := oj h
  exact ⟨J, [_, _], ⟨J, ⟨J, tr⟩⟩, J, io⟩

theorem store_Field_ok {a0 : store_Store} {a1 : Int} {a2 : Int} {r : Int × Int} (h : store_Field a0 a1 a2 = some r) : PCalls Tryz.prog 71 [store_Store.Pv a0, .I a1, .I a2] (.tup [.I r.1, .I r.2]) := by
 unfold store_Field at h
 refine pc_intro (N := 25) Tryz.func71 J J nl fun w0 imm0 => sR <| y1 J (o_box (d := store_Store.Pv a0) J J J J J) J <| yi J J <| yi J J <| yN <| sR <| yL J J J J Ty.a26 Ty.s26 nl J <| yI J J <| bnE h fun v1 hv1 h => yc J (o_callF J Ty.k61 J (store_Get_ok hv1)) <| yM (d := .tup [store_Obj.Pv v1.1, .I v1.2]) J J <| yX J J J <| yX J J J <| y1 J (o_alloc J Ty.z91 J J J) J <| y_sto (x' := store_Obj.Pv v1.1) (cl' := true) J J (.inr J) Ty.s91 <| yi J J <| yN <| pw_seq <| sR <| yI J J <| y0 J (o_cmp J J J) <| yN ?_
 refine pw_cond (v1.2 != 0) J (fun hc => ?_) (fun hc => ?_)
 ·have h := ifT h hc
  refine sR <| yI J J <| yi J J <| yi J J <| yN <| pw_ret ?_
  obtain rfl := oj h
  exact ⟨J, [_, _], ⟨J, ⟨J, tr⟩⟩, J, io⟩
 ·have h := ifF h hc
  refine pw_skip <| sR <| yF J J Ty.f91_5 J <| yS J J J J Ty.a27 J <| yI J J <| bnE h fun v2 hv2 h => y0 J (o_call J Ty.k156 J (vec_At_ok hv2)) <| yX J J J <| yX J J J <| yi J J <| yi J J <| yN <| pw_ret ?_
  obtain rfl := oj h
  exact ⟨J, [_, _], ⟨J, ⟨J, tr⟩⟩, J, io⟩

theorem vec_With_ok {a0 : List Int} {a1 : Int} {a2 : Int} {r : (List Int) × Int} (h : vec_With a0 a1 a2 = some r) : PCalls Tryz.prog 219 [.L iF a0, .I a1, .I a2] (.tup [.L iF r.1, .I r.2]) := by
 unfold vec_With at h
 refine pc_intro (N := 25) Tryz.func219 J J nl fun w0 imm0 => sR <| yA (d := .lst true (List.map iF [])) J J <| yi J J <| yN <| pw_seq <| sR <| yM (d := .L iF a0) J J <| yI J J <| bnE h fun v1 hv1 h => y0 J (o_call J Ty.k218 J (vec_has_ok hv1)) <| y0 J (o_not J J) <| yN ?_
 refine pw_cond (!v1) J (fun hc => ?_) (fun hc => ?_)
 ·have h := ifT h hc
  refine sR <| yM (d := .L iF a0) J J <| yA (d := .L iF a0) J J <| yi J J <| yN <| pw_ret ?_
  obtain rfl := oj h
  exact ⟨J, [_, _], ⟨J, ⟨J, tr⟩⟩, J, io⟩
 ·have h := ifF h hc
  refine pw_skip <| sR <| yM (d := .L iF a0) J J <| y0 J (o_lnL (f := iF) J Ty.e27) <| bnE h fun v2 hv2 h => y1 J (o_mk (f := iF) hv2 J J J Ty.e27 Ty.s3 Ty.z3 Ty.b3 J J J) J <| yA (d := .sl 16) J J <| yN <| sR <| yM (d := .sl 16) J J <| yM (d := .L iF a0) J J <| bnE h fun v3 hv3 h => y_cp (f := iF) hv3 J J J (.inl ⟨_, J, J⟩) Ty.e27 Ty.s3 (fun _ => J) (by decide) <| yN <| sR <| yM (d := .sl 16) J J <| yI J J <| yI J J <| bnE h fun v4 hv4 h => y0 J (o_ixR (f := iF) hv4 J J J J Ty.e27 Ty.s3 J) <| y_stE (f := iF) (v := a2) hv4 J J (.inl J) Ty.s3 <| yN <| sR <| yM (d := .sl 16) J J <| yA (d := .sl 16) J J <| yi J J <| yN <| pw_ret ?_
  obtain rfl := oj h
  exact ⟨J, [_, _], ⟨J, ⟨J, tr⟩⟩, J, io⟩

theorem store_Put_ok {a0 : store_Store} {a1 : Int} {a2 : Int} {a3 : Int} {r : store_Store × Int} (h : store_Put a0 a1 a2 a3 = some r) : PCalls Tryz.prog 157 [store_Store.Pv a0, .I a1, .I a2, .I a3] (.tup [store_Store.Pv r.1, .I r.2]) := by
 unfold store_Put at h
 refine pc_intro (N := 41) Tryz.func157 J J nl fun w0 imm0 => sR <| y1 J (o_box (d := store_Store.Pv a0) J J J J J) J <| y1 J (o_alloc J Ty.z26 J J J) J <| yi J J <| yN <| sR <| yL J J J J Ty.a26 Ty.s26 nl J <| yI J J <| bnE h fun v1 hv1 h => yc J (o_callF J Ty.k61 J (store_Get_ok hv1)) <| yM (d := .tup [store_Obj.Pv v1.1, .I v1.2]) J J <| yX J J J <| yX J J J <| y1 J (o_alloc J Ty.z91 J J J) J <| y_sto (x' := store_Obj.Pv v1.1) (cl' := true) J J (.inr J) Ty.s91 <| yi J J <| yN <| pw_seq <| sR <| yI J J <| y0 J (o_cmp J J J) <| yN ?_
 refine pw_cond (v1.2 != 0) J (fun hc => ?_) (fun hc => ?_)
 ·have h := ifT h hc
  refine sR <| yL J J J J Ty.a26 Ty.s26 nl J <| yI J J <| y_sto (x' := store_Store.Pv a0) (cl' := true) J J (.inr J) Ty.s26 <| yi J J <| yN <| pw_ret ?_
  obtain rfl := oj h
  exact ⟨J, [_, _], ⟨oL J J J Ty.a26 Ty.s26 nl J, ⟨J, tr⟩⟩, J, io⟩
 ·have h := ifF h hc
  refine pw_skip <| pw_seq <| sR <| yF J J Ty.f91_5 J <| yS J J J J Ty.a27 J <| yI J J <| yI J J <| bnE h fun v2 hv2 h => yc J (o_callF J Ty.k219 J (vec_With_ok hv2)) <| yM (d := .tup [.L iF v2.1, .I v2.2]) J J <| yX J J J <| yX J J J <| yF J J Ty.f91_5 J <| y_sto (x' := .agg [.I v1.1.Serial, .I v1.1.Strong, .I v1.1.Weak, .I v1.1.Prog, .bool v1.1.Started, .L iF v2.1]) (cl' := true) J J (.inr J) Ty.s27 <| yi J J <| yN <| sR <| yI J J <| y0 J (o_cmp J J J) <| yN ?_
  refine pw_cond (v2.2 != 0) J (fun hc => ?_) (fun hc => ?_)
  ·have h := ifT h hc
   refine sR <| yL J J J J Ty.a26 Ty.s26 nl J <| yI J J <| y_sto (x' := store_Store.Pv a0) (cl' := true) J J (.inr J) Ty.s26 <| yi J J <| yN <| pw_ret ?_
   obtain rfl := oj h
   exact ⟨J, [_, _], ⟨oL J J J Ty.a26 Ty.s26 nl J, ⟨J, tr⟩⟩, J, io⟩
  ·have h := ifF h hc
   refine pw_skip <| sR <| yL J J J J Ty.a26 Ty.s26 nl J <| yI J J <| yL J J J J Ty.a91 Ty.s91 nl J <| bnE h fun v3 hv3 h => yc J (o_callF J Ty.k113 J (store_Set_ok hv3)) <| yX J J J <| yX J J J <| y_sto (x' := store_Store.Pv v3.1) (cl' := true) J J (.inr J) Ty.s26 <| yi J J <| yN <| pw_ret ?_
   obtain rfl := oj h
   exact ⟨J, [_, _], ⟨oL J J J Ty.a26 Ty.s26 nl J, ⟨J, tr⟩⟩, J, io⟩

theorem hold_fieldPlace_say_ok {a0 : hold_fieldPlace} {a1 : hold_Heap} {r : hold_Heap} (h : hold_fieldPlace_say a0 a1 = some r) : PCalls Tryz.prog 72 [hold_fieldPlace.Pv a0, hold_Heap.Pv a1] (hold_Heap.Pv r) := by
 unfold hold_fieldPlace_say at h
 refine pc_intro (N := 19) Tryz.func72 J J nl fun w0 imm0 => sR <| y1 J (o_box (d := hold_fieldPlace.Pv a0) J J J J J) J <| y1 J (o_box (d := hold_Heap.Pv a1) J J J J J) J <| y1 J (o_alloc J Ty.z34 J J J) J <| yN <| sR <| yF J J Ty.f34_0 J <| yL J J J J Ty.a26 Ty.s26 nl J <| yF J J Ty.f103_0 J <| yS J J J J Ty.a3 J <| yF J J Ty.f103_1 J <| yS J J J J Ty.a3 J <| yF J J Ty.f103_2 J <| yS J J J J Ty.a3 J <| bnE h fun v1 hv1 h => yc J (o_callF J Ty.k157 J (store_Put_ok hv1)) <| yM (d := .tup [store_Store.Pv v1.1, .I v1.2]) J J <| yX J J J <| yX J J J <| yF J J Ty.f34_0 J <| y_sto (x' := .agg [.L slab_Cell_store_Obj.Pv v1.1.S.Cells, .I v1.1.S.Last, .I v1.1.Serial, .L iF a1.Roots, .L weak_Cell.Pv a1.Cells, .L hash_Place.Pv a1.T, .L task_Task.Pv a1.Q.L, .I a1.Q.Cap]) (cl' := true) J J (.inr J) Ty.s26 <| yN <| sR <| yL J J J J Ty.a34 Ty.s34 nl J <| y_sto (x' := .agg [.L slab_Cell_store_Obj.Pv v1.1.S.Cells, .I v1.1.S.Last, .I v1.1.Serial, .L iF a1.Roots, .L weak_Cell.Pv a1.Cells, .L hash_Place.Pv a1.T, .L task_Task.Pv a1.Q.L, .I a1.Q.Cap]) (cl' := true) J J (.inr J) Ty.s34 <| yN <| pw_ret ?_
 obtain rfl := oj h
 exact ⟨J, [_], ⟨oL J J J Ty.a34 Ty.s34 nl J, tr⟩, J, io⟩

theorem hold_turned__hold_fieldPlace_say_ok {a0 : hold_Heap} {a1 : Int} {a2 : Int} {a3 : hold_fieldPlace} {r : hold_Heap} (h : hold_turned__hold_fieldPlace_say a0 a1 a2 a3 = some r) : PCalls Tryz.prog 65 [hold_Heap.Pv a0, .I a1, .I a2, .abs (BFn 72 [hold_fieldPlace.Pv a3])] (hold_Heap.Pv r) := by
 unfold hold_turned__hold_fieldPlace_say at h
 refine pc_intro (N := 16) Tryz.func65 J J nl fun w0 imm0 => sR <| y1 J (o_box (d := hold_Heap.Pv a0) J J J J J) J <| y1 J (o_alloc J Ty.z34 J J J) J <| yN <| sR <| yM (d := .abs (BFn 72 [hold_fieldPlace.Pv a3])) J J <| yL J J J J Ty.a34 Ty.s34 nl J <| yI J J <| bnE h fun v1 hv1 h => yc J (o_callF J Ty.k28 J (hold_Retain_ok hv1)) <| bnE h fun v2 hv2 h => y_callB (xs := [hold_Heap.Pv v1]) J J Ty.k72 J (hold_fieldPlace_say_ok hv2) <| yI J J <| bnE h fun v3 hv3 h => yc J (o_callF J Ty.k29 J (hold_Release_ok hv3)) <| y_sto (x' := hold_Heap.Pv v3) (cl' := true) J J (.inr J) Ty.s34 <| yN <| pw_ret ?_
 obtain rfl := oj h
 exact ⟨J, [_], ⟨oL J J J Ty.a34 Ty.s34 nl J, tr⟩, J, io⟩

theorem hold_Field_ok {a0 : hold_Heap} {a1 : Int} {a2 : Int} {a3 : Int} {r : hold_Heap × Int} (h : hold_Field a0 a1 a2 a3 = some r) : PCalls Tryz.prog 20 [hold_Heap.Pv a0, .I a1, .I a2, .I a3] (.tup [hold_Heap.Pv r.1, .I r.2]) := by
 unfold hold_Field at h
 refine pc_intro (N := 38) Tryz.func20 J J nl fun w0 imm0 => sR <| y1 J (o_box (d := hold_Heap.Pv a0) J J J J J) J <| y1 J (o_alloc J Ty.z34 J J J) J <| yi J J <| yN <| sR <| yF J J Ty.f34_0 J <| yL J J J J Ty.a26 Ty.s26 nl J <| yI J J <| yI J J <| bnE h fun v1 hv1 h => y0 J (o_call J Ty.k71 J (store_Field_ok hv1)) <| yM (d := .tup [.I v1.1, .I v1.2]) J J <| yX J J J <| yX J J J <| yi J J <| yi J J <| yN <| pw_seq <| sR <| yI J J <| y0 J (o_cmp J J J) <| yN ?_
 refine pw_cond (v1.2 != 0) J (fun hc => ?_) (fun hc => ?_)
 ·have h := ifT h hc
  refine sR <| yL J J J J Ty.a34 Ty.s34 nl J <| yI J J <| y_sto (x' := hold_Heap.Pv a0) (cl' := true) J J (.inr J) Ty.s34 <| yi J J <| yN <| pw_ret ?_
  obtain rfl := oj h
  exact ⟨J, [_, _], ⟨oL J J J Ty.a34 Ty.s34 nl J, ⟨J, tr⟩⟩, J, io⟩
 ·have h := ifF h hc
  refine pw_skip <| pw_seq <| sR <| yL J J J J Ty.a34 Ty.s34 nl J <| yI J J <| bnE h fun v2 hv2 h => y0 J (o_call J Ty.k64 J (hold_nameable_ok hv2)) <| y0 J (o_not J J) <| yN ?_
  refine pw_cond (!v2) J (fun hc => ?_) (fun hc => ?_)
  ·have h := ifT h hc
   refine sR <| yL J J J J Ty.a34 Ty.s34 nl J <| y_sto (x' := hold_Heap.Pv a0) (cl' := true) J J (.inr J) Ty.s34 <| yi J J <| yN <| pw_ret ?_
   obtain rfl := oj h
   exact ⟨J, [_, _], ⟨oL J J J Ty.a34 Ty.s34 nl J, ⟨J, tr⟩⟩, J, io⟩
  ·have h := ifF h hc
   refine pw_skip <| sR <| yL J J J J Ty.a34 Ty.s34 nl J <| yI J J <| yI J J <| yI J J <| yI J J <| yI J J <| y0 J (o_build (cs := [.I a1, .I a2, .I a3]) J Ty.p103 Ty.z103 J J J) <| y0 J (o_mkFuncB (d := .agg [.I a1, .I a2, .I a3]) J) <| bnE h fun v3 hv3 h => yc J (o_callF J Ty.k65 J (hold_turned__hold_fieldPlace_say_ok hv3)) <| y_sto (x' := hold_Heap.Pv v3) (cl' := true) J J (.inr J) Ty.s34 <| yi J J <| yN <| pw_ret ?_
   obtain rfl := oj h
   exact ⟨J, [_, _], ⟨oL J J J Ty.a34 Ty.s34 nl J, ⟨J, tr⟩⟩, J, io⟩

theorem task_of_ok {a0 : queue_Queue_task_Task} {a1 : Int} {r : queue_Queue_task_Task × Int} (h : task_of a0 a1 = some r) : PCalls Tryz.prog 161 [queue_Queue_task_Task.Pv a0, .I a1] (.fn (.func 220) [.rptr (queue_Queue_task_Task.Pc r.1), .rptr [.I r.2]]) := by
 unfold task_of at h
 refine pc_intro (N := 6) Tryz.func161 J J nl fun w0 imm0 => sR <| y1 J (o_box (d := queue_Queue_task_Task.Pv a0) J J J J J) J <| y1 J (o_box (d := .I a1) J J J J J) J <| yA (d := .nilfn) J J <| yN <| sR <| y0 J (o_mkFunc J) <| yA (d := .fn (.func 220) [.ptr 2 0 0, .ptr 3 0 0]) J J <| yN <| pw_ret ?_
 obtain rfl := oj h
 exact ⟨J, [_], ⟨J, tr⟩, J, io⟩

theorem task_Waits_ok {a0 : queue_Queue_task_Task} {a1 : Int} {r : Bool} (h : task_Waits a0 a1 = some r) : PCalls Tryz.prog 80 [queue_Queue_task_Task.Pv a0, .I a1] (.bool r) := by
 unfold task_Waits at h
 refine pc_intro (N := 13) Tryz.func80 J J nl fun w0 imm0 => sR <| y1 J (o_box (d := queue_Queue_task_Task.Pv a0) J J J J J) J <| y1 J (o_box (d := .I a1) J J J J J) J <| y1 J (o_alloc J Ty.z4 J J J) J <| yN ?_
 obtain ⟨κ6, hκ14, h⟩ := jnE h
 refine pw_jn0 (κ := κ6) (r := r) (fun (_ : Unit) => St.of [(4, .ptr 2001 0 0)] [(2001, ⟨[.bool false], 0, false, 1, true⟩)]) (fun q7 h => ?_) ?_
 ·subst hκ14
  refine sR <| y_sto (x' := .bool false) (cl' := true) J J (.inl J) Ty.s4 <| yN <| pw_ret ?_
  obtain rfl := oj h
  exact ⟨J, [_], ⟨oS J J J Ty.a4 J, tr⟩, J, io⟩
 ·skip
  refine sR <| yL J J J J Ty.a32 Ty.s32 nl J <| bnE h fun v8 hv15 h => yc J (o_callF J Ty.k161 J (task_of_ok hv15)) <| yN <| pw_block <| pw_wk (wk_stP (fun l => if l = 2003 then 4 else if l = 2004 then 3 else l) [(3, .ptr 2004 0 0), (4, .ptr 2003 0 0), (7, .fn (.func 220) [.rptr (queue_Queue_task_Task.Pc v8.1), .rptr [.I v8.2]])] [(2003, ⟨[.bool false], 0, false, 1, true⟩), (2004, ⟨[.I a1], 0, false, 1, true⟩)] ⟨J, J, J, J, J, J, J, J, J, tr⟩ ⟨rN, rN, tr⟩ J) ?_
  refine pw_range (fn := Tryz.f220) (N1 := 24) J Tryz.func220 J J nl J Ty.k220 J J (fun l16 e17 o18 hR19 => ?_)
  refine sR <| y0 J (o_fieldAddrR J Ty.f32_0 J) <| y0 J (o_loadRS J Ty.a30 J) <| y0 J (o_lnL (f := task_Task.Pv) J Ty.e30) <| yI J J <| yN <| pw_block ?_
  obtain ⟨e9, hl20, hk21⟩ := bindE h
  refine pw_lp0 (fun (s10 : Int) => St.of [(1000003, .ptr 2004 0 0), (1000004, .ptr 2003 0 0), (1000007, .fn (.func 220) [.rptr (queue_Queue_task_Task.Pc v8.1), .rptr [.I v8.2]]), (0, .fn (.yield l16) []), (2, .rptr [.I v8.2]), (7, .L task_Task.Pv v8.1.L), (8, .I (v8.1.L.length : Int)), (9, .I s10)] [(2003, ⟨[.bool false], 0, false, 1, true⟩), (2004, ⟨[.I a1], 0, false, 1, true⟩)]) hl20 (wk_st _ _ ⟨J, J, J, J, J, J, J, J, J, J, J, J, J, J, J, J, J, J, J, J, J, J, J, J, tr⟩ ⟨rS, rS, tr⟩) (fun s10 x11 h hx22 => ?_)
  refine sR <| y0 J (o_cmp J J J) <| yN <| pw_seq ?_
  refine pw_cond (decide (s10 < (v8.1.L.length : Int))) J (fun hc => ?_) (fun hc => ?_)
  ·have h := ifT h hc
   refine pw_skip <| pw_seq <| pw_block <| sR <| bnE h fun v12 hv23 h => y0 J (o_ixL (f := task_Task.Pv) (cs := task_Task.Pc v12) hv23 J J Ty.e30 Ty.s82 J J) <| y0 J (o_loadRA J Ty.a82 Ty.s82 nl J) <| y1 J (o_alloc J Ty.z82 J J J) J <| y_sto (x' := task_Task.Pv v12) (cl' := true) J J (.inl J) Ty.s82 <| yN <| sR <| yF J J Ty.f82_0 J <| yS J J J J Ty.a3 J <| y0 J (o_loadRS J Ty.a3 J) <| y0 J (o_cmp J J J) <| yB J J <| y_if J (fun hg => om (d := .fn (.yield l16) []) J) <| y_if J (fun hg => oL J J J Ty.a82 Ty.s82 nl J) ?_
   rcases Bool.eq_false_or_eq_true ((v12.Kind == v8.2) == true) with hg24 | hg24
   ·have h := ifT h hg24
    refine y_wk (wk_st [(1000003, .ptr 2004 0 0), (1000004, .ptr 2003 0 0), (1000007, .fn (.func 220) [.rptr (queue_Queue_task_Task.Pc v8.1), .rptr [.I v8.2]]), (0, .fn (.yield l16) []), (2, .rptr [.I v8.2]), (7, .L task_Task.Pv v8.1.L), (8, .I (v8.1.L.length : Int)), (9, .I s10), (17, .bool (v12.Kind == v8.2)), (18, .fn (.yield l16) []), (19, task_Task.Pv v12)] [(2003, ⟨[.bool false], 0, false, 1, true⟩), (2004, ⟨[.I a1], 0, false, 1, true⟩)] ⟨J, J, J, J, J, J, J, J, J, J, J, J, J, J, J, J, J, J, J, J, J, J, J, J, J, J, J, (ct hg24), J, J, (ct hg24), J, J, tr⟩ ⟨rS, rS, tr⟩) ?_
    refine y_yield hR19 (congrArg some hg24) J J J J J (fun e25 o26 o27 => ?_)
    refine s1 <| y1 J (o_alloc J Ty.z82 J J J) J <| y_sto (x' := task_Task.Pv v12) (cl' := true) J J (.inl J) Ty.s82 <| yN ?_
    refine ⟨J, ?_⟩
    refine pw_block <| sR <| yF J J Ty.f82_1 J <| yS J J J J Ty.a3 J <| yS J J J J Ty.a3 J <| y0 J (o_cmp J J J) <| yN ?_
    refine pw_cond (v12.At == a1) J (fun hc => ?_) (fun hc => ?_)
    ·have h := ifT h hc
     refine sR <| y_sto (x' := .bool true) (cl' := true) J J (.inl J) Ty.s4 <| yN <| pw_ret ?_
     refine ⟨J, ?_⟩
     refine y_wk (wk_st [(1000003, .ptr 2004 0 0), (1000004, .ptr 2003 0 0), (1000007, .fn (.func 220) [.rptr (queue_Queue_task_Task.Pc v8.1), .rptr [.I v8.2]]), (0, .fn (.yield l16) []), (2, .rptr [.I v8.2]), (7, .L task_Task.Pv v8.1.L), (8, .I (v8.1.L.length : Int)), (9, .I s10), (17, .bool (v12.Kind == v8.2)), (20, .bool false)] [(2003, ⟨[.bool true], 0, false, 1, true⟩), (2004, ⟨[.I a1], 0, false, 1, true⟩)] ⟨J, J, J, J, J, J, J, J, J, J, J, J, J, J, J, J, J, J, J, J, J, J, J, J, J, J, J, J, J, J, tr⟩ ⟨rS, rS, tr⟩) <| y0 (congrArg some hg24) (o_not J J) <| y0 J (pk_andT J J hg24) <| yN ?_
     refine pw_cond true J (fun _ => ?_) (fun q => nomatch q)
     refine pw_ret ?_
     refine .inr ⟨.ret, J, jmpR ?_⟩
     have he := hx22 _ (oj h).symm
     have h := hk21
     rw [← he] at h
     obtain rfl := oj h
     exact ⟨J, [_], ⟨oS J J J Ty.a4 J, tr⟩, J, io⟩
    ·have h := ifF h hc
     refine pw_skip ?_
     refine ⟨J, ?_⟩
     refine y_wk (wk_st [(1000003, .ptr 2004 0 0), (1000004, .ptr 2003 0 0), (1000007, .fn (.func 220) [.rptr (queue_Queue_task_Task.Pc v8.1), .rptr [.I v8.2]]), (0, .fn (.yield l16) []), (2, .rptr [.I v8.2]), (7, .L task_Task.Pv v8.1.L), (8, .I (v8.1.L.length : Int)), (9, .I s10), (17, .bool (v12.Kind == v8.2)), (20, .bool true)] [(2003, ⟨[.bool false], 0, false, 1, true⟩), (2004, ⟨[.I a1], 0, false, 1, true⟩)] ⟨J, J, J, J, J, J, J, J, J, J, J, J, J, J, J, J, J, J, J, J, J, J, J, J, J, J, J, J, J, J, tr⟩ ⟨rS, rS, tr⟩) <| y0 (congrArg some hg24) (o_not J J) <| y0 J (pk_andT J J hg24) <| yN ?_
     refine pw_cond false J (fun q => nomatch q) (fun _ => ?_)
     refine pw_skip <| s1 <| y0 J (o_ari J J J) <| yI J J <| yN ?_
     exact ⟨J, w64 (s10 + 1), (oj h).symm, (wk_st _ _ ⟨J, J, J, J, J, J, J, J, J, J, J, J, J, J, J, J, J, J, J, J, J, J, J, J, tr⟩ ⟨rS, rS, tr⟩)⟩
   ·have h := ifF h hg24
    refine y_skip (congrArg some hg24) <| y_skip (congrArg some hg24) <| y0 J (pk_andF J J hg24) <| yN ?_
    refine pw_cond false J (fun q => nomatch q) (fun _ => ?_)
    refine pw_skip <| s1 <| y0 J (o_ari J J J) <| yI J J <| yN ?_
    exact ⟨J, w64 (s10 + 1), (oj h).symm, (wk_st _ _ ⟨J, J, J, J, J, J, J, J, J, J, J, J, J, J, J, J, J, J, J, J, J, J, J, J, tr⟩ ⟨rS, rS, tr⟩)⟩
  ·have h := ifF h hc
   refine pw_exit <| thenQ_exit <| thenQ_exit <| blockQ_exit ?_
   refine .inl ⟨J, ?_⟩
   have he := hx22 _ (oj h).symm
   have h := hk21
   rw [← he] at h
   exact ⟨J, (), h, (wk_stP (fun l => if l = 2001 then 2003 else l) _ _ ⟨J, J, J, tr⟩ ⟨rN, tr⟩ J)⟩

theorem weak_has_ok {a0 : List weak_Cell} {a1 : Int} {r : Bool} (h : weak_has a0 a1 = some r) : PCalls Tryz.prog 162 [.L weak_Cell.Pv a0, .I a1] (.bool r) := by
 unfold weak_has at h
 refine pc_intro (N := 13) Tryz.func162 J J nl fun w0 imm0 => sR <| yb J J <| yN <| sR <| yI J J <| y0 J (o_cmp J J J) <| yB J J <| y_if J (fun hg => mI J) <| y_if J (fun hg => om (d := .L weak_Cell.Pv a0) J) <| y_if J (fun hg => o_lnL (f := weak_Cell.Pv) (ct hg) Ty.e28) <| y_if J (fun hg => o_cmp (ct hg) (ct hg) J) <| y0 J (pk_and J J J (fun q => eqT q)) <| yb J J <| yN <| pw_ret ?_
 obtain rfl := oj h
 exact ⟨J, [_], ⟨J, tr⟩, J, io⟩

theorem weak_copied_ok {a0 : List weak_Cell} {r : List weak_Cell} (h : weak_copied a0 = some r) : PCalls Tryz.prog 163 [.L weak_Cell.Pv a0] (.L weak_Cell.Pv r) := by
 unfold weak_copied at h
 refine pc_intro (N := 11) Tryz.func163 J J nl fun w0 imm0 => sR <| yA (d := .lst true (List.map weak_Cell.Pv [])) J J <| yN <| sR <| yM (d := .L weak_Cell.Pv a0) J J <| y0 J (o_lnL (f := weak_Cell.Pv) J Ty.e28) <| bnE h fun v1 hv1 h => y1 J (o_mk (f := weak_Cell.Pv) hv1 J J J Ty.e28 Ty.s84 Ty.z84 Ty.b84 J J J) J <| yA (d := .sl 6) J J <| yN <| sR <| yM (d := .sl 6) J J <| yM (d := .L weak_Cell.Pv a0) J J <| bnE h fun v2 hv2 h => y_cp (f := weak_Cell.Pv) hv2 J J J (.inl ⟨_, J, J⟩) Ty.e28 Ty.s84 (fun _ => J) (by decide) <| yN <| sR <| yM (d := .sl 6) J J <| yA (d := .sl 6) J J <| yN <| pw_ret ?_
 obtain rfl := oj h
 exact ⟨J, [_], ⟨J, tr⟩, J, io⟩

theorem weak_copied_okN {a0 : List weak_Cell} {r : List weak_Cell} (h : weak_copied a0 = some r) : PCallsN Tryz.prog 163 [.L weak_Cell.Pv a0] ⟨List.map weak_Cell.Pv r, 0, true, 3, true⟩ := by
 unfold weak_copied at h
 refine pc_introN (N := 11) Tryz.func163 J J nl fun w0 imm0 => sR <| yA (d := .lst true (List.map weak_Cell.Pv [])) J J <| yN <| sR <| yM (d := .L weak_Cell.Pv a0) J J <| y0 J (o_lnL (f := weak_Cell.Pv) J Ty.e28) <| bnE h fun v1 hv1 h => y1 J (o_mk (f := weak_Cell.Pv) hv1 J J J Ty.e28 Ty.s84 Ty.z84 Ty.b84 J J J) J <| yA (d := .sl 6) J J <| yN <| sR <| yM (d := .sl 6) J J <| yM (d := .L weak_Cell.Pv a0) J J <| bnE h fun v2 hv2 h => y_cp (f := weak_Cell.Pv) hv2 J J J (.inl ⟨_, J, J⟩) Ty.e28 Ty.s84 (fun _ => J) (by decide) <| yN <| sR <| yM (d := .sl 6) J J <| yA (d := .sl 6) J J <| yN <| pw_ret ?_
 obtain rfl := oj h
 exact ⟨J, _, _, J, J, J, J⟩

theorem weak_Set_ok {a0 : List weak_Cell} {a1 : Int} {a2 : Int} {a3 : Int} {r : (List weak_Cell) × Int × Int} (h : weak_Set a0 a1 a2 a3 = some r) : PCalls Tryz.prog 81 [.L weak_Cell.Pv a0, .I a1, .I a2, .I a3] (.tup [.L weak_Cell.Pv r.1, .I r.2.1, .I r.2.2]) := by
 unfold weak_Set at h
 refine pc_intro (N := 33) Tryz.func81 J J nl fun w0 imm0 => sR <| yA (d := .lst true (List.map weak_Cell.Pv [])) J J <| yi J J <| yi J J <| yN <| pw_seq <| sR <| yM (d := .L weak_Cell.Pv a0) J J <| yI J J <| bnE h fun v1 hv1 h => y0 J (o_call J Ty.k162 J (weak_has_ok hv1)) <| y0 J (o_not J J) <| yN ?_
 refine pw_cond (!v1) J (fun hc => ?_) (fun hc => ?_)
 ·have h := ifT h hc
  refine sR <| yM (d := .L weak_Cell.Pv a0) J J <| yA (d := .L weak_Cell.Pv a0) J J <| yi J J <| yi J J <| yN <| pw_ret ?_
  obtain rfl := oj h
  exact ⟨J, [_, _, _], ⟨J, ⟨J, ⟨J, tr⟩⟩⟩, J, io⟩
 ·have h := ifF h hc
  refine pw_skip <| sR <| yM (d := .L weak_Cell.Pv a0) J J <| bnE h fun v2 hv2 h => ycN J (o_callN J Ty.k163 J (weak_copied_okN hv2)) J J <| yA (d := .sl 18) J J <| yN <| sR <| yM (d := .sl 18) J J <| yI J J <| yI J J <| yI J J <| y0 J (o_cmp J J J) <| yI J J <| y0 J (o_build (cs := [.I a2, .bool (a2 != 0), .I a3]) J Ty.p84 Ty.z84 J J J) <| bnE h fun v3 hv3 h => y0 J (o_ixR (f := weak_Cell.Pv) hv3 J J J J Ty.e28 Ty.s84 J) <| y_stE (f := weak_Cell.Pv) (v := (⟨a2, (a2 != 0), a3⟩ : weak_Cell)) hv3 J J (.inl J) Ty.s84 <| yN <| dr [] Ty.mix (by kernel_rfl) (by kernel_rfl) <| d7 J (fun _ hN => om (d := .sl 18) J) J <| d7 J (fun _ hN => om (d := .L weak_Cell.Pv a0) J) J <| d7 J (fun _ hN => mI J) J <| bnE h fun v4 hv4 h => d0 J (o_ixL (f := weak_Cell.Pv) (cs := weak_Cell.Pc v4) hv4 J J Ty.e28 Ty.s84 J J) J <| d7 J (fun _ hN => o_fieldAddrR J Ty.f84_0 J) J <| d0 J (o_loadRS J Ty.a3 J) J <| d7 J (fun _ hN => oa (d := .sl 18) J) J <| d7 J (fun _ hN => aI J) J <| d7 J (fun _ hN => aI J) J <| d_nil <| pw_ret ?_
  obtain rfl := oj h
  exact ⟨J, [_, _, _], ⟨J, ⟨J, ⟨J, tr⟩⟩⟩, J, io⟩

theorem hold_marked_ok {a0 : hold_Heap} {a1 : Int} {a2 : Int} {r : hold_Heap} (h : hold_marked a0 a1 a2 = some r) : PCalls Tryz.prog 83 [hold_Heap.Pv a0, .I a1, .I a2] (hold_Heap.Pv r) := by
 unfold hold_marked at h
 refine pc_intro (N := 43) Tryz.func83 J J nl fun w0 imm0 => sR <| y1 J (o_box (d := hold_Heap.Pv a0) J J J J J) J <| y1 J (o_alloc J Ty.z34 J J J) J <| yN <| sR <| yF J J Ty.f34_0 J <| yF J J Ty.f26_0 J <| yL J J J J Ty.a24 Ty.s24 nl J <| yI J J <| bnE h fun v1 hv1 h => y0 J (o_call J Ty.k164 J (slab_Find_store_Obj_ok hv1)) <| yM (d := .tup [.I v1.1, .I v1.2]) J J <| yX J J J <| yX J J J <| yi J J <| yi J J <| yN <| pw_seq <| sR <| yI J J <| y0 J (o_cmp J J J) <| yN ?_
 refine pw_cond (v1.2 == 0) J (fun hc => ?_) (fun hc => ?_)
 ·have h := ifT h hc
  refine sR <| yF J J Ty.f34_0 J <| yF J J Ty.f26_0 J <| yF J J Ty.f24_0 J <| yS J J J J Ty.a22 J <| yI J J <| bnE h fun v2 hv2 h => y0 J (o_ixL (f := slab_Cell_store_Obj.Pv) (cs := slab_Cell_store_Obj.Pc v2) hv2 J J Ty.e22 Ty.s141 J J) <| y0 J (o_fieldAddrR J Ty.f141_2 J) <| y0 J (o_loadRA J Ty.a91 Ty.s91 nl J) <| y1 J (o_alloc J Ty.z91 J J J) J <| y_sto (x' := store_Obj.Pv v2.Val) (cl' := true) J J (.inr J) Ty.s91 <| yN <| sR <| yF J J Ty.f91_2 J <| yS J J J J Ty.a3 J <| yI J J <| y0 J (o_ari J J J) <| yF J J Ty.f91_2 J <| y_sto (x' := .agg [.I v2.Val.Serial, .I v2.Val.Strong, .I (w64 (v2.Val.Weak + a2)), .I v2.Val.Prog, .bool v2.Val.Started, .L iF v2.Val.Fields]) (cl' := true) J J (.inl J) Ty.s3 <| yN <| s1 <| yF J J Ty.f34_0 J <| yL J J J J Ty.a26 Ty.s26 nl J <| yI J J <| yL J J J J Ty.a91 Ty.s91 nl J <| bnE h fun v3 hv3 h => yc J (o_callF J Ty.k113 J (store_Set_ok hv3)) <| yM (d := .tup [store_Store.Pv v3.1, .I v3.2]) J J <| yX J J J <| yX J J J <| yF J J Ty.f34_0 J <| y_sto (x' := .agg [.L slab_Cell_store_Obj.Pv v3.1.S.Cells, .I v3.1.S.Last, .I v3.1.Serial, .L iF a0.Roots, .L weak_Cell.Pv a0.Cells, .L hash_Place.Pv a0.T, .L task_Task.Pv a0.Q.L, .I a0.Q.Cap]) (cl' := true) J J (.inr J) Ty.s26 <| yN <| sR <| yL J J J J Ty.a34 Ty.s34 nl J <| y_sto (x' := .agg [.L slab_Cell_store_Obj.Pv v3.1.S.Cells, .I v3.1.S.Last, .I v3.1.Serial, .L iF a0.Roots, .L weak_Cell.Pv a0.Cells, .L hash_Place.Pv a0.T, .L task_Task.Pv a0.Q.L, .I a0.Q.Cap]) (cl' := true) J J (.inr J) Ty.s34 <| yN <| pw_ret ?_
  obtain rfl := oj h
  exact ⟨J, [_], ⟨oL J J J Ty.a34 Ty.s34 nl J, tr⟩, J, io⟩
 ·have h := ifF h hc
  refine pw_skip <| sR <| yL J J J J Ty.a34 Ty.s34 nl J <| y_sto (x' := hold_Heap.Pv a0) (cl' := true) J J (.inr J) Ty.s34 <| yN <| pw_ret ?_
  obtain rfl := oj h
  exact ⟨J, [_], ⟨oL J J J Ty.a34 Ty.s34 nl J, tr⟩, J, io⟩

theorem slab_Give_store_Obj_ok {a0 : slab_Slab_store_Obj} {a1 : Int} {r : slab_Slab_store_Obj × Int} (h : slab_Give_store_Obj a0 a1 = some r) : PCalls Tryz.prog 165 [slab_Slab_store_Obj.Pv a0, .I a1] (.tup [slab_Slab_store_Obj.Pv r.1, .I r.2]) := by
 unfold slab_Give_store_Obj at h
 refine pc_intro (N := 40) Tryz.func165 J J nl fun w0 imm0 => sR <| y1 J (o_box (d := slab_Slab_store_Obj.Pv a0) J J J J J) J <| y1 J (o_alloc J Ty.z24 J J J) J <| yi J J <| yN <| sR <| yL J J J J Ty.a24 Ty.s24 nl J <| yI J J <| bnE h fun v1 hv1 h => y0 J (o_call J Ty.k164 J (slab_Find_store_Obj_ok hv1)) <| yM (d := .tup [.I v1.1, .I v1.2]) J J <| yX J J J <| yX J J J <| yi J J <| yi J J <| yN <| pw_seq <| sR <| yI J J <| y0 J (o_cmp J J J) <| yN ?_
 refine pw_cond (v1.2 != 0) J (fun hc => ?_) (fun hc => ?_)
 ·have h := ifT h hc
  refine sR <| yL J J J J Ty.a24 Ty.s24 nl J <| yI J J <| y_sto (x' := slab_Slab_store_Obj.Pv a0) (cl' := true) J J (.inr J) Ty.s24 <| yi J J <| yN <| pw_ret ?_
  obtain rfl := oj h
  exact ⟨J, [_, _], ⟨oL J J J Ty.a24 Ty.s24 nl J, ⟨J, tr⟩⟩, J, io⟩
 ·have h := ifF h hc
  refine pw_skip <| sR <| yF J J Ty.f24_0 J <| yS J J J J Ty.a22 J <| yI J J <| bnE h fun v2 hv2 h => y0 J (o_ixL (f := slab_Cell_store_Obj.Pv) (cs := slab_Cell_store_Obj.Pc v2) hv2 J J Ty.e22 Ty.s141 J J) <| y0 J (o_fieldAddrR J Ty.f141_1 J) <| y0 J (o_loadRS J Ty.a3 J) <| yi J J <| yN <| pw_seq <| sR <| yI J J <| yF J J Ty.f24_1 J <| yS J J J J Ty.a3 J <| y0 J (o_cmp J J J) <| yN ?_
  refine pw_cond (v2.Gen == a0.Last) J (fun hc => ?_) (fun hc => ?_)
  ·have h := ifT h hc
   refine sR <| yL J J J J Ty.a24 Ty.s24 nl J <| yI J J <| yI J J <| y0 J (o_build (cs := [.I 3, .I v2.Gen, .I 0, .I 0, .I 0, .I 0, .bool false, .lst true (List.map iF [])]) J Ty.p141 Ty.z141 J J J) <| bnE h fun v3 hv3 h => yc J (o_callF J Ty.k196 J (slab_with_store_Obj_ok hv3)) <| y_sto (x' := slab_Slab_store_Obj.Pv v3) (cl' := true) J J (.inr J) Ty.s24 <| yi J J <| yN <| pw_ret ?_
   obtain rfl := oj h
   exact ⟨J, [_, _], ⟨oL J J J Ty.a24 Ty.s24 nl J, ⟨J, tr⟩⟩, J, io⟩
  ·have h := ifF h hc
   refine pw_skip <| sR <| yL J J J J Ty.a24 Ty.s24 nl J <| yI J J <| yI J J <| y0 J (o_ari J J J) <| y0 J (o_build (cs := [.I 0, .I (w64 (v2.Gen + 1)), .I 0, .I 0, .I 0, .I 0, .bool false, .lst true (List.map iF [])]) J Ty.p141 Ty.z141 J J J) <| bnE h fun v4 hv4 h => yc J (o_callF J Ty.k196 J (slab_with_store_Obj_ok hv4)) <| y_sto (x' := slab_Slab_store_Obj.Pv v4) (cl' := true) J J (.inr J) Ty.s24 <| yi J J <| yN <| pw_ret ?_
   obtain rfl := oj h
   exact ⟨J, [_, _], ⟨oL J J J Ty.a24 Ty.s24 nl J, ⟨J, tr⟩⟩, J, io⟩

theorem hold_unmarked_ok {a0 : hold_Heap} {a1 : Int} {r : hold_Heap} (h : hold_unmarked a0 a1 = some r) : PCalls Tryz.prog 82 [hold_Heap.Pv a0, .I a1] (hold_Heap.Pv r) := by
 unfold hold_unmarked at h
 refine pc_intro (N := 49) Tryz.func82 J J nl fun w0 imm0 => sR <| y1 J (o_box (d := hold_Heap.Pv a0) J J J J J) J <| y1 J (o_alloc J Ty.z34 J J J) J <| yN <| sR <| yL J J J J Ty.a34 Ty.s34 nl J <| yI J J <| bnE h fun v1 hv1 h => yc J (o_callF J Ty.k83 J (hold_marked_ok hv1)) <| y_sto (x' := hold_Heap.Pv v1) (cl' := true) J J (.inr J) Ty.s34 <| yN <| sR <| yF J J Ty.f34_0 J <| yF J J Ty.f26_0 J <| yL J J J J Ty.a24 Ty.s24 nl J <| yI J J <| bnE h fun v2 hv2 h => y0 J (o_call J Ty.k164 J (slab_Find_store_Obj_ok hv2)) <| yM (d := .tup [.I v2.1, .I v2.2]) J J <| yX J J J <| yX J J J <| yi J J <| yi J J <| yN <| pw_seq <| sR <| yI J J <| y0 J (o_cmp J J J) <| yN ?_
 refine pw_cond (v2.2 != 0) J (fun hc => ?_) (fun hc => ?_)
 ·have h := ifT h hc
  refine sR <| yL J J J J Ty.a34 Ty.s34 nl J <| y_sto (x' := hold_Heap.Pv v1) (cl' := true) J J (.inr J) Ty.s34 <| yN <| pw_ret ?_
  obtain rfl := oj h
  exact ⟨J, [_], ⟨oL J J J Ty.a34 Ty.s34 nl J, tr⟩, J, io⟩
 ·have h := ifF h hc
  refine pw_skip <| pw_seq <| sR <| yF J J Ty.f34_0 J <| yF J J Ty.f26_0 J <| yF J J Ty.f24_0 J <| yS J J J J Ty.a22 J <| yI J J <| bnE h fun v3 hv3 h => y0 J (o_ixL (f := slab_Cell_store_Obj.Pv) (cs := slab_Cell_store_Obj.Pc v3) hv3 J J Ty.e22 Ty.s141 J J) <| y0 J (o_loadRA J Ty.a141 Ty.s141 nl J) <| y1 J (o_alloc J Ty.z141 J J J) J <| y_sto (x' := slab_Cell_store_Obj.Pv v3) (cl' := true) J J (.inr J) Ty.s141 <| yN <| sR <| yF J J Ty.f141_0 J <| yS J J J J Ty.a3 J <| y0 J (o_cmp J J J) <| yB J J <| y_if J (fun hg => oF J Ty.f141_2 J) <| y_if J (fun hg => oF (ct hg) Ty.f91_2 J) <| y_if J (fun hg => oS (ct hg) J J Ty.a3 J) <| y_if J (fun hg => o_cmp (ct hg) J J) <| y0 J (pk_and J J J (fun q => eqT q)) <| yN ?_
  refine pw_cond ((v3.State == 2) && (v3.Val.Weak == 0)) J (fun hc => ?_) (fun hc => ?_)
  ·have h := ifT h hc
   refine s1 <| yF J J Ty.f34_0 J <| yF J J Ty.f26_0 J <| yL J J J J Ty.a24 Ty.s24 nl J <| yI J J <| bnE h fun v4 hv4 h => yc J (o_callF J Ty.k165 J (slab_Give_store_Obj_ok hv4)) <| yM (d := .tup [slab_Slab_store_Obj.Pv v4.1, .I v4.2]) J J <| yX J J J <| yX J J J <| yF J J Ty.f34_0 J <| yF J J Ty.f26_0 J <| y_sto (x' := .agg [.L slab_Cell_store_Obj.Pv v4.1.Cells, .I v4.1.Last, .I v1.S.Serial, .L iF v1.Roots, .L weak_Cell.Pv v1.Cells, .L hash_Place.Pv v1.T, .L task_Task.Pv v1.Q.L, .I v1.Q.Cap]) (cl' := true) J J (.inr J) Ty.s24 <| yN <| sR <| yL J J J J Ty.a34 Ty.s34 nl J <| y_sto (x' := .agg [.L slab_Cell_store_Obj.Pv v4.1.Cells, .I v4.1.Last, .I v1.S.Serial, .L iF v1.Roots, .L weak_Cell.Pv v1.Cells, .L hash_Place.Pv v1.T, .L task_Task.Pv v1.Q.L, .I v1.Q.Cap]) (cl' := true) J J (.inr J) Ty.s34 <| yN <| pw_ret ?_
   obtain rfl := oj h
   exact ⟨J, [_], ⟨oL J J J Ty.a34 Ty.s34 nl J, tr⟩, J, io⟩
  ·have h := ifF h hc
   refine pw_skip <| sR <| yL J J J J Ty.a34 Ty.s34 nl J <| y_sto (x' := hold_Heap.Pv v1) (cl' := true) J J (.inr J) Ty.s34 <| yN <| pw_ret ?_
   obtain rfl := oj h
   exact ⟨J, [_], ⟨oL J J J Ty.a34 Ty.s34 nl J, tr⟩, J, io⟩

theorem hold_Weak_ok {a0 : hold_Heap} {a1 : Int} {a2 : Int} {a3 : Int} {r : hold_Heap × Int} (h : hold_Weak a0 a1 a2 a3 = some r) : PCalls Tryz.prog 24 [hold_Heap.Pv a0, .I a1, .I a2, .I a3] (.tup [hold_Heap.Pv r.1, .I r.2]) := by
 unfold hold_Weak at h
 refine pc_intro (N := 51) Tryz.func24 J J nl fun w0 imm0 => sR <| y1 J (o_box (d := hold_Heap.Pv a0) J J J J J) J <| y1 J (o_alloc J Ty.z34 J J J) J <| yi J J <| yN <| pw_seq <| sR <| yI J J <| y0 J (o_cmp J J J) <| yB J J <| y_if J (fun hg => mI J) <| y_if J (fun hg => oF J Ty.f34_2 J) <| y_if J (fun hg => oS (ct hg) J J Ty.a28 J) <| y_if J (fun hg => o_lnL (f := weak_Cell.Pv) (ct hg) Ty.e28) <| y_if J (fun hg => o_cmp (ct hg) (ct hg) J) <| y0 J (pk_or J J J (fun q => eqF q)) <| yB J J <| y_if J (fun hg => oF J Ty.f34_4 J) <| y_if J (fun hg => oL (ct hg) J J Ty.a32 Ty.s32 nl J) <| y_if J (fun hg => mI J) <| bnE h fun v1 hv1 h => y_if J (fun hg => o_call J Ty.k80 (consE (ct hg) (consE (ct hg) J)) (task_Waits_ok (onlyE hv1 hg))) <| y0 J (pk_or J J J (fun q => eqF q)) <| yN ?_
 refine pw_cond (((decide (a1 < 0)) || (decide (a1 ≥ (a0.Cells.length : Int)))) || v1) J (fun hc => ?_) (fun hc => ?_)
 ·have h := ifT h hc
  refine sR <| yL J J J J Ty.a34 Ty.s34 nl J <| y_sto (x' := hold_Heap.Pv a0) (cl' := true) J J (.inr J) Ty.s34 <| yi J J <| yN <| pw_ret ?_
  obtain rfl := oj h
  exact ⟨J, [_, _], ⟨oL J J J Ty.a34 Ty.s34 nl J, ⟨J, tr⟩⟩, J, io⟩
 ·have h := ifF h hc
  refine pw_skip <| pw_seq <| sR <| yL J J J J Ty.a34 Ty.s34 nl J <| yI J J <| bnE h fun v2 hv2 h => y0 J (o_call J Ty.k64 J (hold_nameable_ok hv2)) <| y0 J (o_not J J) <| yN ?_
  refine pw_cond (!v2) J (fun hc => ?_) (fun hc => ?_)
  ·have h := ifT h hc
   refine sR <| yL J J J J Ty.a34 Ty.s34 nl J <| y_sto (x' := hold_Heap.Pv a0) (cl' := true) J J (.inr J) Ty.s34 <| yi J J <| yN <| pw_ret ?_
   obtain rfl := oj h
   exact ⟨J, [_, _], ⟨oL J J J Ty.a34 Ty.s34 nl J, ⟨J, tr⟩⟩, J, io⟩
  ·have h := ifF h hc
   refine pw_skip <| sR <| yF J J Ty.f34_2 J <| yS J J J J Ty.a28 J <| yI J J <| yI J J <| yI J J <| bnE h fun v3 hv3 h => yc J (o_callF J Ty.k81 J (weak_Set_ok hv3)) <| yM (d := .tup [.L weak_Cell.Pv v3.1, .I v3.2.1, .I v3.2.2]) J J <| yX J J J <| yX J J J <| yX J J J <| yA (d := .L weak_Cell.Pv v3.1) J J <| yi J J <| yi J J <| yN <| sR <| yM (d := .L weak_Cell.Pv v3.1) J J <| yF J J Ty.f34_2 J <| y_sto (x' := .agg [.L slab_Cell_store_Obj.Pv a0.S.S.Cells, .I a0.S.S.Last, .I a0.S.Serial, .L iF a0.Roots, .L weak_Cell.Pv v3.1, .L hash_Place.Pv a0.T, .L task_Task.Pv a0.Q.L, .I a0.Q.Cap]) (cl' := true) J J (.inr J) Ty.s28 <| yN <| sR <| yL J J J J Ty.a34 Ty.s34 nl J <| yI J J <| bnE h fun v4 hv4 h => yc J (o_callF J Ty.k83 J (hold_marked_ok hv4)) <| yI J J <| bnE h fun v5 hv5 h => yc J (o_callF J Ty.k82 J (hold_unmarked_ok hv5)) <| y_sto (x' := hold_Heap.Pv v5) (cl' := true) J J (.inr J) Ty.s34 <| yi J J <| yN <| pw_ret ?_
   obtain rfl := oj h
   exact ⟨J, [_, _], ⟨oL J J J Ty.a34 Ty.s34 nl J, ⟨J, tr⟩⟩, J, io⟩

theorem hash_road_ok {a0 : Int} {a1 : Int} {r : Int × Int} (h : hash_road a0 a1 = some r) : PCalls Tryz.prog 229 [.I a0, .I a1] (.fn (.func 265) [.rptr [.I r.1], .rptr [.I r.2]]) := by
 unfold hash_road at h
 refine pc_intro (N := 6) Tryz.func229 J J nl fun w0 imm0 => sR <| y1 J (o_box (d := .I a0) J J J J J) J <| y1 J (o_box (d := .I a1) J J J J J) J <| yA (d := .nilfn) J J <| yN <| sR <| y0 J (o_mkFunc J) <| yA (d := .fn (.func 265) [.ptr 2 0 0, .ptr 3 0 0]) J J <| yN <| pw_ret ?_
 obtain rfl := oj h
 exact ⟨J, [_], ⟨J, tr⟩, J, io⟩

theorem hash_Home_ok {a0 : Int} {a1 : Int} {r : Int} (h : hash_Home a0 a1 = some r) : PCalls Tryz.prog 266 [.I a0, .I a1] (.I r) := by
 unfold hash_Home at h
 refine pc_intro (N := 19) Tryz.func266 J J nl fun w0 imm0 => sR <| yi J J <| yN <| pw_seq <| sR <| yI J J <| y0 J (o_cmp J J J) <| yN ?_
 refine pw_cond (decide (a0 < 1)) J (fun hc => ?_) (fun hc => ?_)
 ·have h := ifT h hc
  refine sR <| yi J J <| yN <| pw_ret ?_
  obtain rfl := oj h
  exact ⟨J, [_], ⟨J, tr⟩, J, io⟩
 ·have h := ifF h hc
  refine pw_skip <| sR <| yI J J <| y0 J (o_ari J J J) <| y0 J (o_ari J J J) <| yI J J <| bnE h fun v1 hv1 h => y0 J (o_ari J J hv1) <| yi J J <| yN <| pw_seq <| sR <| yI J J <| y0 J (o_cmp J J J) <| yN ?_
  refine pw_cond (decide (v1 < 0)) J (fun hc => ?_) (fun hc => ?_)
  ·have h := ifT h hc
   refine s1 <| yI J J <| yI J J <| y0 J (o_ari J J J) <| yi J J <| yN <| sR <| yI J J <| yi J J <| yN <| pw_ret ?_
   obtain rfl := oj h
   exact ⟨J, [_], ⟨J, tr⟩, J, io⟩
  ·have h := ifF h hc
   refine pw_skip <| sR <| yI J J <| yi J J <| yN <| pw_ret ?_
   obtain rfl := oj h
   exact ⟨J, [_], ⟨J, tr⟩, J, io⟩

theorem hash_Find_ok {a0 : List hash_Place} {a1 : Int} {r : Int} (h : hash_Find a0 a1 = some r) : PCalls Tryz.prog 227 [.L hash_Place.Pv a0, .I a1] (.I r) := by
 unfold hash_Find at h
 refine pc_intro (N := 33) Tryz.func227 J J nl fun w0 imm0 => sR <| y1 J (o_box (d := .L hash_Place.Pv a0) J J J J J) J <| y1 J (o_box (d := .I a1) J J J J J) J <| y1 J (o_alloc J Ty.z3 J J J) J <| yN ?_
 obtain ⟨κ8, hκ15, h⟩ := jnE h
 refine pw_jn0 (κ := κ8) (r := r) (fun (_ : Unit) => St.of [(4, .ptr 2001 0 0)] [(2001, ⟨[.I 0], 0, false, 1, true⟩)]) (fun q9 h => ?_) ?_
 ·subst hκ15
  refine sR <| y_sto (x' := .I (-1)) (cl' := true) J J (.inl J) Ty.s3 <| yN <| pw_ret ?_
  obtain rfl := oj h
  exact ⟨J, [_], ⟨oS J J J Ty.a3 J, tr⟩, J, io⟩
 ·skip
  refine sR <| yS J J J J Ty.a29 J <| y0 J (o_lnL (f := hash_Place.Pv) J Ty.e29) <| yS J J J J Ty.a3 J <| bnE h fun v10 hv16 h => yc J (o_callF J Ty.k229 J (hash_road_ok hv16)) <| yN <| pw_block <| pw_wk (wk_stP (fun l => if l = 2004 then 4 else if l = 2005 then 3 else if l = 2006 then 2 else l) [(2, .ptr 2006 0 0), (3, .ptr 2005 0 0), (4, .ptr 2004 0 0), (9, .fn (.func 265) [.rptr [.I v10.1], .rptr [.I v10.2]])] [(2004, ⟨[.I 0], 0, false, 1, true⟩), (2005, ⟨[.I a1], 0, false, 1, true⟩), (2006, ⟨[.L hash_Place.Pv a0], 0, false, 1, true⟩)] ⟨J, J, J, J, J, J, J, J, J, J, J, J, tr⟩ ⟨rN, rN, rN, tr⟩ J) ?_
  refine pw_range (fn := Tryz.f265) (N1 := 20) J Tryz.func265 J J nl J Ty.k265 J J (fun l17 e18 o19 hR20 => ?_)
  refine sR <| y0 J (o_loadRS J Ty.a3 J) <| yI J J <| yN <| pw_block ?_
  obtain ⟨e11, hl21, hk22⟩ := bindE h
  refine pw_lp0 (fun (s12 : Int) => St.of [(1000002, .ptr 2006 0 0), (1000003, .ptr 2005 0 0), (1000004, .ptr 2004 0 0), (1000009, .fn (.func 265) [.rptr [.I v10.1], .rptr [.I v10.2]]), (0, .fn (.yield l17) []), (1, .rptr [.I v10.1]), (2, .rptr [.I v10.2]), (5, .I v10.1), (6, .I s12)] [(2004, ⟨[.I 0], 0, false, 1, true⟩), (2005, ⟨[.I a1], 0, false, 1, true⟩), (2006, ⟨[.L hash_Place.Pv a0], 0, false, 1, true⟩)]) hl21 (wk_st _ _ ⟨J, J, J, J, J, J, J, J, J, J, J, J, J, J, J, J, J, J, J, J, J, J, J, J, J, J, J, tr⟩ ⟨rS, rS, rS, tr⟩) (fun s12 x13 h hx23 => ?_)
  refine sR <| y0 J (o_cmp J J J) <| yN <| pw_seq ?_
  refine pw_cond (decide (s12 < v10.1)) J (fun hc => ?_) (fun hc => ?_)
  ·have h := ifT h hc
   refine pw_skip <| pw_seq <| pw_block <| sR <| yI J J <| yi J J <| yN <| drY [] 8 Ty.mix (by kernel_rfl) (by kernel_rfl) (by kernel_rfl) (by kernel_rfl) nl <| d7 J (fun _ hN => om (d := .fn (.yield l17) []) J) J <| d0 J (o_loadRS J Ty.a3 J) J <| d0 J (o_loadRS J Ty.a3 J) J <| bnE h fun v14 hv24 h => d2 J (o_call J Ty.k266 J (hash_Home_ok hv24)) J <| d7 J (fun _ hN => mI J) J <| d7 J (fun _ hN => o_ari J J J) J <| d0 J (o_loadRS J Ty.a3 J) J <| bnE h fun v15 hv25 h => d7 J (fun _ hN => o_ari J J hv25) J <| d_nil <| opq_wk (wk_st [(1000002, .ptr 2006 0 0), (1000003, .ptr 2005 0 0), (1000004, .ptr 2004 0 0), (1000009, .fn (.func 265) [.rptr [.I v10.1], .rptr [.I v10.2]]), (0, .fn (.yield l17) []), (1, .rptr [.I v10.1]), (2, .rptr [.I v10.2]), (5, .I v10.1), (6, .I s12), (9, .fn (.yield l17) []), (16, .I v15)] [(2004, ⟨[.I 0], 0, false, 1, true⟩), (2005, ⟨[.I a1], 0, false, 1, true⟩), (2006, ⟨[.L hash_Place.Pv a0], 0, false, 1, true⟩)] ⟨J, J, J, J, J, J, J, J, J, J, J, J, J, J, J, J, J, J, J, J, J, J, J, J, J, J, J, J, J, J, J, J, J, tr⟩ ⟨rS, rS, rS, tr⟩) ?_
   refine y_yield0 J hR20 J J J J J J (fun e26 o27 o28 => ?_)
   refine s1 <| yi J J <| yN ?_
   refine ⟨J, ?_⟩
   refine pw_block <| pw_seq <| sR <| yS J J J J Ty.a29 J <| yI J J <| bnE h fun v16 hv29 h => y0 J (o_ixL (f := hash_Place.Pv) (cs := hash_Place.Pc v16) hv29 J J Ty.e29 Ty.s183 J J) <| y0 J (o_fieldAddrR J Ty.f183_0 J) <| y0 J (o_loadRS J Ty.a3 J) <| y0 J (o_cmp J J J) <| yN ?_
   refine pw_cond (v16.State == 0) J (fun hc => ?_) (fun hc => ?_)
   ·have h := ifT h hc
    refine pw_exit <| thenQ_exit <| blockQ_other (by decide) ?_
    refine ⟨J, ?_⟩
    refine ⟨_, wk_st [(1000002, .ptr 2006 0 0), (1000003, .ptr 2005 0 0), (1000004, .ptr 2004 0 0), (1000009, .fn (.func 265) [.rptr [.I v10.1], .rptr [.I v10.2]]), (0, .fn (.yield l17) []), (1, .rptr [.I v10.1]), (2, .rptr [.I v10.2]), (5, .I v10.1), (6, .I s12), (17, .bool false)] [(2004, ⟨[.I 0], 0, false, 1, true⟩), (2005, ⟨[.I a1], 0, false, 1, true⟩), (2006, ⟨[.L hash_Place.Pv a0], 0, false, 1, true⟩)] ⟨J, J, J, J, J, J, J, J, J, J, J, J, J, J, J, J, J, J, J, J, J, J, J, J, J, J, J, J, J, J, tr⟩ ⟨rS, rS, rS, tr⟩, ?_⟩
    refine d7 J (fun _ hN => o_not J J) J <| d_nil ?_
    refine pw_cond true J (fun _ => ?_) (fun q => nomatch q)
    refine pw_ret ?_
    refine .inr ⟨.exit 0, J, jmpE ?_⟩
    refine blockQ_exit ?_
    have he := hx23 _ (oj h).symm
    have h := hk22
    rw [← he] at h
    exact ⟨J, (), h, (wk_stP (fun l => if l = 2001 then 2004 else l) _ _ ⟨J, J, J, tr⟩ ⟨rN, tr⟩ J)⟩
   ·have h := ifF h hc
    refine pw_skip <| dr [] Ty.mix (by kernel_rfl) (by kernel_rfl) <| d0 J (oS J J J Ty.a29 J) J <| d7 J (fun _ hN => mI J) J <| d0 J (o_ixL (f := hash_Place.Pv) (cs := hash_Place.Pc v16) hv29 J J Ty.e29 Ty.s183 J J) J <| d7 J (fun _ hN => o_fieldAddrR J Ty.f183_0 J) J <| d0 J (o_loadRS J Ty.a3 J) J <| d7 J (fun _ hN => o_cmp J J J) J <| d7 J (fun _ hN => mB J) J <| d_if0 J (fun hg => oS J J J Ty.a29 J) J <| d_if7 J (fun hg _ hN => mI J) J <| d_if0 J (fun hg => o_ixL (f := hash_Place.Pv) (cs := hash_Place.Pc v16) hv29 (ct hg) (ct hg) Ty.e29 Ty.s183 J J) J <| d_if7 J (fun hg _ hN => o_fieldAddrR (ct hg) Ty.f183_1 J) J <| d_if0 J (fun hg => o_loadRS (ct hg) Ty.a3 J) J <| d_if0 J (fun hg => oS J J J Ty.a3 J) J <| d_if7 J (fun hg _ hN => o_cmp (ct hg) (ct hg) J) J <| d7 J (fun _ hN => pk_and J J J (fun q => eqT q)) J <| d_nil ?_
    refine pw_cond ((v16.State == 1) && (v16.Key == a1)) J (fun hc => ?_) (fun hc => ?_)
    ·have h := ifT h hc
     refine sR <| yI J J <| y_sto (x' := .I v15) (cl' := true) J J (.inl J) Ty.s3 <| yN <| pw_ret ?_
     refine ⟨J, ?_⟩
     refine ⟨_, wk_st [(1000002, .ptr 2006 0 0), (1000003, .ptr 2005 0 0), (1000004, .ptr 2004 0 0), (1000009, .fn (.func 265) [.rptr [.I v10.1], .rptr [.I v10.2]]), (0, .fn (.yield l17) []), (1, .rptr [.I v10.1]), (2, .rptr [.I v10.2]), (5, .I v10.1), (6, .I s12), (17, .bool false)] [(2004, ⟨[.I v15], 0, false, 1, true⟩), (2005, ⟨[.I a1], 0, false, 1, true⟩), (2006, ⟨[.L hash_Place.Pv a0], 0, false, 1, true⟩)] ⟨J, J, J, J, J, J, J, J, J, J, J, J, J, J, J, J, J, J, J, J, J, J, J, J, J, J, J, J, J, J, tr⟩ ⟨rS, rS, rS, tr⟩, ?_⟩
     refine d7 J (fun _ hN => o_not J J) J <| d_nil ?_
     refine pw_cond true J (fun _ => ?_) (fun q => nomatch q)
     refine pw_ret ?_
     refine .inr ⟨.ret, J, jmpR ?_⟩
     have he := hx23 _ (oj h).symm
     have h := hk22
     rw [← he] at h
     obtain rfl := oj h
     exact ⟨J, [_], ⟨oS J J J Ty.a3 J, tr⟩, J, io⟩
    ·have h := ifF h hc
     refine pw_skip ?_
     refine ⟨J, ?_⟩
     refine ⟨_, wk_st [(1000002, .ptr 2006 0 0), (1000003, .ptr 2005 0 0), (1000004, .ptr 2004 0 0), (1000009, .fn (.func 265) [.rptr [.I v10.1], .rptr [.I v10.2]]), (0, .fn (.yield l17) []), (1, .rptr [.I v10.1]), (2, .rptr [.I v10.2]), (5, .I v10.1), (6, .I s12), (17, .bool true)] [(2004, ⟨[.I 0], 0, false, 1, true⟩), (2005, ⟨[.I a1], 0, false, 1, true⟩), (2006, ⟨[.L hash_Place.Pv a0], 0, false, 1, true⟩)] ⟨J, J, J, J, J, J, J, J, J, J, J, J, J, J, J, J, J, J, J, J, J, J, J, J, J, J, J, J, J, J, tr⟩ ⟨rS, rS, rS, tr⟩, ?_⟩
     refine d7 J (fun _ hN => o_not J J) J <| d_nil ?_
     refine pw_cond false J (fun q => nomatch q) (fun _ => ?_)
     refine pw_skip <| s1 <| y0 J (o_ari J J J) <| yI J J <| yN ?_
     exact ⟨J, w64 (s12 + 1), (oj h).symm, (wk_st _ _ ⟨J, J, J, J, J, J, J, J, J, J, J, J, J, J, J, J, J, J, J, J, J, J, J, J, J, J, J, tr⟩ ⟨rS, rS, rS, tr⟩)⟩
  ·have h := ifF h hc
   refine pw_exit <| thenQ_exit <| thenQ_exit <| blockQ_exit ?_
   refine .inl ⟨J, ?_⟩
   have he := hx23 _ (oj h).symm
   have h := hk22
   rw [← he] at h
   exact ⟨J, (), h, (wk_stP (fun l => if l = 2001 then 2004 else l) _ _ ⟨J, J, J, tr⟩ ⟨rN, tr⟩ J)⟩

theorem hash_Get_ok {a0 : List hash_Place} {a1 : Int} {r : Int × Int} (h : hash_Get a0 a1 = some r) : PCalls Tryz.prog 169 [.L hash_Place.Pv a0, .I a1] (.tup [.I r.1, .I r.2]) := by
 unfold hash_Get at h
 refine pc_intro (N := 17) Tryz.func169 J J nl fun w0 imm0 => sR <| yi J J <| yi J J <| yN <| sR <| yM (d := .L hash_Place.Pv a0) J J <| yI J J <| bnE h fun v1 hv1 h => y0 J (o_call J Ty.k227 J (hash_Find_ok hv1)) <| yi J J <| yN <| pw_seq <| sR <| yI J J <| y0 J (o_cmp J J J) <| yN ?_
 refine pw_cond (decide (v1 < 0)) J (fun hc => ?_) (fun hc => ?_)
 ·have h := ifT h hc
  refine sR <| yi J J <| yi J J <| yN <| pw_ret ?_
  obtain rfl := oj h
  exact ⟨J, [_, _], ⟨J, ⟨J, tr⟩⟩, J, io⟩
 ·have h := ifF h hc
  refine pw_skip <| sR <| yM (d := .L hash_Place.Pv a0) J J <| yI J J <| bnE h fun v2 hv2 h => y0 J (o_ixL (f := hash_Place.Pv) (cs := hash_Place.Pc v2) hv2 J J Ty.e29 Ty.s183 J J) <| y0 J (o_fieldAddrR J Ty.f183_2 J) <| y0 J (o_loadRS J Ty.a3 J) <| yi J J <| yi J J <| yN <| pw_ret ?_
  obtain rfl := oj h
  exact ⟨J, [_, _], ⟨J, ⟨J, tr⟩⟩, J, io⟩

theorem slices_Clone_hash_Place_hash_Place_okN {a0 r : List hash_Place} (h : slices_Clone_hash_Place_hash_Place a0 = some r) : PCallsN Tryz.prog 264 [.L hash_Place.Pv a0] ⟨List.map hash_Place.Pv r, 0, true, 3, true⟩ := by
 unfold slices_Clone_hash_Place_hash_Place at h
 refine pc_introN (N := 8) Tryz.func264 J J nl fun w0 imm0 => sR <| yA (d := .lst true (List.map hash_Place.Pv [])) J J <| yN <| pw_seq <| sR <| yM (d := .L hash_Place.Pv a0) J J <| y_eqnil J Ty.e29 fun b hb => yN ?_
 refine pw_cond b J (fun hc => ?_) (fun hc => ?_)
 ·obtain rfl : a0 = [] := by simpa using hb hc
  refine sR <| yA (d := .lst true (List.map hash_Place.Pv [])) J J <| yN <| pw_wk (wk_nil (t := 2) (l := 920000) (z := 3) J J) <| pw_ret ?_
  obtain rfl := oj h
  exact ⟨J, _, _, J, J, J, J⟩
 ·refine pw_skip ?_
  refine sR <| y0 J (o_nslice J Ty.e29 Ty.s183) <| yM (d := .L hash_Place.Pv a0) J J <| y1 J (o_apT (f := hash_Place.Pv) h J J (.inl ⟨_, J, J⟩) Ty.e29 Ty.s183 Ty.b183 Ty.z183 J (fun _ => J)) J <| yA (d := .sl 7) J J <| yN <| pw_ret ?_
  exact ⟨J, _, _, J, J, J, J⟩

theorem slices_Clone_hash_Place_hash_Place_ok {a0 r : List hash_Place} (h : slices_Clone_hash_Place_hash_Place a0 = some r) : PCalls Tryz.prog 264 [.L hash_Place.Pv a0] (.L hash_Place.Pv r) := pcalls_ofN (slices_Clone_hash_Place_hash_Place_okN h) J

theorem hash_with_ok {a0 : List hash_Place} {a1 : Int} {a2 : hash_Place} {r : List hash_Place} (h : hash_with a0 a1 a2 = some r) : PCalls Tryz.prog 228 [.L hash_Place.Pv a0, .I a1, hash_Place.Pv a2] (.L hash_Place.Pv r) := by
 unfold hash_with at h
 refine pc_intro (N := 14) Tryz.func228 J J nl fun w0 imm0 => sR <| y1 J (o_box (d := hash_Place.Pv a2) J J J J J) J <| yA (d := .lst true (List.map hash_Place.Pv [])) J J <| yN <| sR <| yM (d := .L hash_Place.Pv a0) J J <| bnE h fun v1 hv1 h => ycN J (o_callN J Ty.k264 J (slices_Clone_hash_Place_hash_Place_okN hv1)) J J <| yA (d := .sl 8) J J <| yN <| sR <| yM (d := .sl 8) J J <| yI J J <| yL J J J J Ty.a183 Ty.s183 nl J <| bnE h fun v2 hv2 h => y0 J (o_ixR (f := hash_Place.Pv) hv2 J J J J Ty.e29 Ty.s183 J) <| y_stE (f := hash_Place.Pv) (v := a2) hv2 J J (.inl J) Ty.s183 <| yN <| sR <| yM (d := .sl 8) J J <| yA (d := .sl 8) J J <| yN <| pw_ret ?_
 obtain rfl := oj h
 exact ⟨J, [_], ⟨J, tr⟩, J, io⟩

theorem hash_Drop_ok {a0 : List hash_Place} {a1 : Int} {r : (List hash_Place) × Int × Int} (h : hash_Drop a0 a1 = some r) : PCalls Tryz.prog 170 [.L hash_Place.Pv a0, .I a1] (.tup [.L hash_Place.Pv r.1, .I r.2.1, .I r.2.2]) := by
 unfold hash_Drop at h
 refine pc_intro (N := 23) Tryz.func170 J J nl fun w0 imm0 => sR <| yA (d := .lst true (List.map hash_Place.Pv [])) J J <| yi J J <| yi J J <| yN <| sR <| yM (d := .L hash_Place.Pv a0) J J <| yI J J <| bnE h fun v1 hv1 h => y0 J (o_call J Ty.k227 J (hash_Find_ok hv1)) <| yi J J <| yN <| pw_seq <| sR <| yI J J <| y0 J (o_cmp J J J) <| yN ?_
 refine pw_cond (decide (v1 < 0)) J (fun hc => ?_) (fun hc => ?_)
 ·have h := ifT h hc
  refine sR <| yM (d := .L hash_Place.Pv a0) J J <| yA (d := .L hash_Place.Pv a0) J J <| yi J J <| yi J J <| yN <| pw_ret ?_
  obtain rfl := oj h
  exact ⟨J, [_, _, _], ⟨J, ⟨J, ⟨J, tr⟩⟩⟩, J, io⟩
 ·have h := ifF h hc
  refine pw_skip <| dr [] Ty.mix (by kernel_rfl) (by kernel_rfl) <| d7 J (fun _ hN => om (d := .L hash_Place.Pv a0) J) J <| d7 J (fun _ hN => mI J) J <| d7 J (fun _ hN => o_build (cs := [.I 2, .I 0, .I 0]) J Ty.p183 Ty.z183 J J J) J <| bnE h fun v2 hv2 h => d2f J (o_callF J Ty.k228 J (hash_with_ok hv2)) J <| d7 J (fun _ hN => om (d := .L hash_Place.Pv a0) J) J <| d7 J (fun _ hN => mI J) J <| bnE h fun v3 hv3 h => d0 J (o_ixL (f := hash_Place.Pv) (cs := hash_Place.Pc v3) hv3 J J Ty.e29 Ty.s183 J J) J <| d7 J (fun _ hN => o_fieldAddrR J Ty.f183_2 J) J <| d0 J (o_loadRS J Ty.a3 J) J <| d7 J (fun _ hN => oa (d := .L hash_Place.Pv v2) J) J <| d7 J (fun _ hN => aI J) J <| d7 J (fun _ hN => aI J) J <| d_nil <| pw_ret ?_
  obtain rfl := oj h
  exact ⟨J, [_, _, _], ⟨J, ⟨J, ⟨J, tr⟩⟩⟩, J, io⟩

theorem hash_Put_ok {a0 : List hash_Place} {a1 : Int} {a2 : Int} {r : (List hash_Place) × Int} (h : hash_Put a0 a1 a2 = some r) : PCalls Tryz.prog 171 [.L hash_Place.Pv a0, .I a1, .I a2] (.tup [.L hash_Place.Pv r.1, .I r.2]) := by
 unfold hash_Put at h
 refine pc_intro (N := 39) Tryz.func171 J J nl fun w0 imm0 => sR <| y1 J (o_box (d := .L hash_Place.Pv a0) J J J J J) J <| y1 J (o_alloc J Ty.z29 J J J) J <| y1 J (o_alloc J Ty.z37 J J J) J <| yN <| sR <| yI J J <| yI J J <| y0 J (o_build (cs := [.I 1, .I a1, .I a2]) J Ty.p183 Ty.z183 J J J) <| y1 J (o_alloc J Ty.z183 J J J) J <| y_sto (x' := .agg [.I 1, .I a1, .I a2]) (cl' := true) J J (.inl J) Ty.s183 <| yN <| pw_seq <| sR <| yS J J J J Ty.a29 J <| yI J J <| bnE h fun v1 hv1 h => y0 J (o_call J Ty.k227 J (hash_Find_ok hv1)) <| yi J J <| yN <| sR <| yI J J <| y0 J (o_cmp J J J) <| yN ?_
 refine pw_cond (decide (v1 ≥ 0)) J (fun hc => ?_) (fun hc => ?_)
 ·have h := ifT h hc
  refine sR <| yS J J J J Ty.a29 J <| yI J J <| yL J J J J Ty.a183 Ty.s183 nl J <| bnE h fun v2 hv2 h => yc J (o_callF J Ty.k228 J (hash_with_ok hv2)) <| y_sto (x' := .L hash_Place.Pv v2) (cl' := true) J J (.inl J) Ty.s29 <| y_sto (x' := .I 0) (cl' := true) J J (.inl J) Ty.s37 <| yN <| pw_ret ?_
  obtain rfl := oj h
  exact ⟨J, [_, _], ⟨oS J J J Ty.a29 J, ⟨oS J J J Ty.a37 J, tr⟩⟩, J, io⟩
 ·have h := ifF h hc
  refine pw_skip ?_
  obtain ⟨κ11, hκ18, h⟩ := jnE h
  refine pw_jn0 (κ := κ11) (r := r) (fun (_ : Unit) => St.of [(3, .ptr 2004 0 0), (6, .ptr 2003 0 0), (7, .ptr 2002 0 0)] [(2002, ⟨[.I 0], 0, false, 1, true⟩), (2003, ⟨[.lst true (List.map hash_Place.Pv [])], 0, false, 1, true⟩), (2004, ⟨[.L hash_Place.Pv a0], 0, false, 1, true⟩)]) (fun q12 h => ?_) ?_
  ·subst hκ18
   refine sR <| yS J J J J Ty.a29 J <| y_sto (x' := .L hash_Place.Pv a0) (cl' := true) J J (.inl J) Ty.s29 <| y_sto (x' := .I 8) (cl' := true) J J (.inl J) Ty.s37 <| yN <| pw_ret ?_
   obtain rfl := oj h
   exact ⟨J, [_, _], ⟨oS J J J Ty.a29 J, ⟨oS J J J Ty.a37 J, tr⟩⟩, J, io⟩
  ·skip
   refine sR <| yS J J J J Ty.a29 J <| y0 J (o_lnL (f := hash_Place.Pv) J Ty.e29) <| yI J J <| bnE h fun v13 hv19 h => yc J (o_callF J Ty.k229 J (hash_road_ok hv19)) <| yN <| pw_block <| pw_wk (wk_stP (fun l => if l = 2005 then 8 else if l = 2006 then 7 else if l = 2007 then 6 else if l = 2008 then 3 else l) [(3, .ptr 2008 0 0), (6, .ptr 2007 0 0), (7, .ptr 2006 0 0), (8, .ptr 2005 0 0), (26, .fn (.func 265) [.rptr [.I v13.1], .rptr [.I v13.2]])] [(2005, ⟨[.agg [.I 1, .I a1, .I a2]], 0, false, 3, true⟩), (2006, ⟨[.I 0], 0, false, 1, true⟩), (2007, ⟨[.lst true (List.map hash_Place.Pv [])], 0, false, 1, true⟩), (2008, ⟨[.L hash_Place.Pv a0], 0, false, 1, true⟩)] ⟨J, J, J, J, J, J, J, J, J, J, J, J, J, J, J, tr⟩ ⟨rN, rN, rN, rN, tr⟩ J) ?_
   refine pw_range (fn := Tryz.f265) (N1 := 20) J Tryz.func265 J J nl J Ty.k265 J J (fun l20 e21 o22 hR23 => ?_)
   refine sR <| y0 J (o_loadRS J Ty.a3 J) <| yI J J <| yN <| pw_block ?_
   obtain ⟨e14, hl24, hk25⟩ := bindE h
   refine pw_lp0 (fun (s15 : Int) => St.of [(1000003, .ptr 2008 0 0), (1000006, .ptr 2007 0 0), (1000007, .ptr 2006 0 0), (1000008, .ptr 2005 0 0), (1000026, .fn (.func 265) [.rptr [.I v13.1], .rptr [.I v13.2]]), (0, .fn (.yield l20) []), (1, .rptr [.I v13.1]), (2, .rptr [.I v13.2]), (5, .I v13.1), (6, .I s15)] [(2005, ⟨[.agg [.I 1, .I a1, .I a2]], 0, false, 3, true⟩), (2006, ⟨[.I 0], 0, false, 1, true⟩), (2007, ⟨[.lst true (List.map hash_Place.Pv [])], 0, false, 1, true⟩), (2008, ⟨[.L hash_Place.Pv a0], 0, false, 1, true⟩)]) hl24 (wk_st _ _ ⟨J, J, J, J, J, J, J, J, J, J, J, J, J, J, J, J, J, J, J, J, J, J, J, J, J, J, J, J, J, J, tr⟩ ⟨rS, rS, rS, rS, tr⟩) (fun s15 x16 h hx26 => ?_)
   refine sR <| y0 J (o_cmp J J J) <| yN <| pw_seq ?_
   refine pw_cond (decide (s15 < v13.1)) J (fun hc => ?_) (fun hc => ?_)
   ·have h := ifT h hc
    refine pw_skip <| pw_seq <| pw_block <| sR <| yI J J <| yi J J <| yN <| drY [] 8 Ty.mix (by kernel_rfl) (by kernel_rfl) (by kernel_rfl) (by kernel_rfl) nl <| d7 J (fun _ hN => om (d := .fn (.yield l20) []) J) J <| d0 J (o_loadRS J Ty.a3 J) J <| d0 J (o_loadRS J Ty.a3 J) J <| bnE h fun v17 hv27 h => d2 J (o_call J Ty.k266 J (hash_Home_ok hv27)) J <| d7 J (fun _ hN => mI J) J <| d7 J (fun _ hN => o_ari J J J) J <| d0 J (o_loadRS J Ty.a3 J) J <| bnE h fun v18 hv28 h => d7 J (fun _ hN => o_ari J J hv28) J <| d_nil <| opq_wk (wk_st [(1000003, .ptr 2008 0 0), (1000006, .ptr 2007 0 0), (1000007, .ptr 2006 0 0), (1000008, .ptr 2005 0 0), (1000026, .fn (.func 265) [.rptr [.I v13.1], .rptr [.I v13.2]]), (0, .fn (.yield l20) []), (1, .rptr [.I v13.1]), (2, .rptr [.I v13.2]), (5, .I v13.1), (6, .I s15), (9, .fn (.yield l20) []), (16, .I v18)] [(2005, ⟨[.agg [.I 1, .I a1, .I a2]], 0, false, 3, true⟩), (2006, ⟨[.I 0], 0, false, 1, true⟩), (2007, ⟨[.lst true (List.map hash_Place.Pv [])], 0, false, 1, true⟩), (2008, ⟨[.L hash_Place.Pv a0], 0, false, 1, true⟩)] ⟨J, J, J, J, J, J, J, J, J, J, J, J, J, J, J, J, J, J, J, J, J, J, J, J, J, J, J, J, J, J, J, J, J, J, J, J, tr⟩ ⟨rS, rS, rS, rS, tr⟩) ?_
    refine y_yield0 J hR23 J J J J J J (fun e29 o30 o31 => ?_)
    refine s1 <| yi J J <| yN ?_
    refine ⟨J, ?_⟩
    refine pw_block <| sR <| yS J J J J Ty.a29 J <| yI J J <| bnE h fun v19 hv32 h => y0 J (o_ixL (f := hash_Place.Pv) (cs := hash_Place.Pc v19) hv32 J J Ty.e29 Ty.s183 J J) <| y0 J (o_fieldAddrR J Ty.f183_0 J) <| y0 J (o_loadRS J Ty.a3 J) <| y0 J (o_cmp J J J) <| yN ?_
    refine pw_cond (v19.State != 1) J (fun hc => ?_) (fun hc => ?_)
    ·have h := ifT h hc
     refine sR <| yS J J J J Ty.a29 J <| yI J J <| yL J J J J Ty.a183 Ty.s183 nl J <| bnE h fun v20 hv33 h => yc J (o_callF J Ty.k228 J (hash_with_ok hv33)) <| y_sto (x' := .L hash_Place.Pv v20) (cl' := true) J J (.inl J) Ty.s29 <| y_sto (x' := .I 0) (cl' := true) J J (.inl J) Ty.s37 <| yN <| pw_ret ?_
     refine ⟨J, ?_⟩
     refine ⟨_, wk_st [(1000003, .ptr 2008 0 0), (1000006, .ptr 2007 0 0), (1000007, .ptr 2006 0 0), (1000008, .ptr 2005 0 0), (1000026, .fn (.func 265) [.rptr [.I v13.1], .rptr [.I v13.2]]), (0, .fn (.yield l20) []), (1, .rptr [.I v13.1]), (2, .rptr [.I v13.2]), (5, .I v13.1), (6, .I s15), (17, .bool false)] [(2005, ⟨[.agg [.I 1, .I a1, .I a2]], 0, false, 3, true⟩), (2006, ⟨[.I 0], 0, false, 1, true⟩), (2007, ⟨[.L hash_Place.Pv v20], 0, false, 1, true⟩), (2008, ⟨[.L hash_Place.Pv a0], 0, false, 1, true⟩)] ⟨J, J, J, J, J, J, J, J, J, J, J, J, J, J, J, J, J, J, J, J, J, J, J, J, J, J, J, J, J, J, J, J, J, tr⟩ ⟨rS, rS, rS, rS, tr⟩, ?_⟩
     refine d7 J (fun _ hN => o_not J J) J <| d_nil ?_
     refine pw_cond true J (fun _ => ?_) (fun q => nomatch q)
     refine pw_ret ?_
     refine .inr ⟨.ret, J, jmpR ?_⟩
     have he := hx26 _ (oj h).symm
     have h := hk25
     rw [← he] at h
     obtain rfl := oj h
     exact ⟨J, [_, _], ⟨oS J J J Ty.a29 J, ⟨oS J J J Ty.a37 J, tr⟩⟩, J, io⟩
    ·have h := ifF h hc
     refine pw_skip ?_
     refine ⟨J, ?_⟩
     refine ⟨_, wk_st [(1000003, .ptr 2008 0 0), (1000006, .ptr 2007 0 0), (1000007, .ptr 2006 0 0), (1000008, .ptr 2005 0 0), (1000026, .fn (.func 265) [.rptr [.I v13.1], .rptr [.I v13.2]]), (0, .fn (.yield l20) []), (1, .rptr [.I v13.1]), (2, .rptr [.I v13.2]), (5, .I v13.1), (6, .I s15), (17, .bool true)] [(2005, ⟨[.agg [.I 1, .I a1, .I a2]], 0, false, 3, true⟩), (2006, ⟨[.I 0], 0, false, 1, true⟩), (2007, ⟨[.lst true (List.map hash_Place.Pv [])], 0, false, 1, true⟩), (2008, ⟨[.L hash_Place.Pv a0], 0, false, 1, true⟩)] ⟨J, J, J, J, J, J, J, J, J, J, J, J, J, J, J, J, J, J, J, J, J, J, J, J, J, J, J, J, J, J, J, J, J, tr⟩ ⟨rS, rS, rS, rS, tr⟩, ?_⟩
     refine d7 J (fun _ hN => o_not J J) J <| d_nil ?_
     refine pw_cond false J (fun q => nomatch q) (fun _ => ?_)
     refine pw_skip <| s1 <| y0 J (o_ari J J J) <| yI J J <| yN ?_
     exact ⟨J, w64 (s15 + 1), (oj h).symm, (wk_st _ _ ⟨J, J, J, J, J, J, J, J, J, J, J, J, J, J, J, J, J, J, J, J, J, J, J, J, J, J, J, J, J, J, tr⟩ ⟨rS, rS, rS, rS, tr⟩)⟩
   ·have h := ifF h hc
    refine pw_exit <| thenQ_exit <| thenQ_exit <| blockQ_exit ?_
    refine .inl ⟨J, ?_⟩
    have he := hx26 _ (oj h).symm
    have h := hk25
    rw [← he] at h
    exact ⟨J, (), h, (wk_stP (fun l => if l = 2004 then 2008 else if l = 2003 then 2007 else if l = 2002 then 2006 else l) _ _ ⟨J, J, J, J, J, J, J, J, J, tr⟩ ⟨rN, rN, rN, tr⟩ J)⟩

theorem ephem_Set_ok {a0 : List hash_Place} {a1 : Int} {a2 : Int} {r : (List hash_Place) × Int × Int} (h : ephem_Set a0 a1 a2 = some r) : PCalls Tryz.prog 88 [.L hash_Place.Pv a0, .I a1, .I a2] (.tup [.L hash_Place.Pv r.1, .I r.2.1, .I r.2.2]) := by
 unfold ephem_Set at h
 refine pc_intro (N := 49) Tryz.func88 J J nl fun w0 imm0 => sR <| yA (d := .lst true (List.map hash_Place.Pv [])) J J <| yi J J <| yi J J <| yN <| pw_seq <| sR <| yI J J <| y0 J (o_cmp J J J) <| yN ?_
 refine pw_cond (a1 == 0) J (fun hc => ?_) (fun hc => ?_)
 ·have h := ifT h hc
  refine sR <| yM (d := .L hash_Place.Pv a0) J J <| yA (d := .L hash_Place.Pv a0) J J <| yi J J <| yi J J <| yN <| pw_ret ?_
  obtain rfl := oj h
  exact ⟨J, [_, _, _], ⟨J, ⟨J, ⟨J, tr⟩⟩⟩, J, io⟩
 ·have h := ifF h hc
  refine pw_skip <| sR <| yM (d := .L hash_Place.Pv a0) J J <| yI J J <| bnE h fun v1 hv1 h => y0 J (o_call J Ty.k169 J (hash_Get_ok hv1)) <| yM (d := .tup [.I v1.1, .I v1.2]) J J <| yX J J J <| yX J J J <| yi J J <| yi J J <| yN <| pw_seq <| sR <| yI J J <| y0 J (o_cmp J J J) <| yN ?_
  refine pw_cond (a2 == 0) J (fun hc => ?_) (fun hc => ?_)
  ·have h := ifT h hc
   refine sR <| yM (d := .L hash_Place.Pv a0) J J <| yI J J <| bnE h fun v2 hv2 h => yc J (o_callF J Ty.k170 J (hash_Drop_ok hv2)) <| yM (d := .tup [.L hash_Place.Pv v2.1, .I v2.2.1, .I v2.2.2]) J J <| yX J J J <| yX J J J <| yX J J J <| yA (d := .L hash_Place.Pv v2.1) J J <| yi J J <| yi J J <| yN <| sR <| yM (d := .L hash_Place.Pv v2.1) J J <| yI J J <| yA (d := .L hash_Place.Pv v2.1) J J <| yi J J <| yi J J <| yN <| pw_ret ?_
   obtain rfl := oj h
   exact ⟨J, [_, _, _], ⟨J, ⟨J, ⟨J, tr⟩⟩⟩, J, io⟩
  ·have h := ifF h hc
   refine pw_skip <| sR <| yM (d := .L hash_Place.Pv a0) J J <| yI J J <| yI J J <| bnE h fun v3 hv3 h => yc J (o_callF J Ty.k171 J (hash_Put_ok hv3)) <| yM (d := .tup [.L hash_Place.Pv v3.1, .I v3.2]) J J <| yX J J J <| yX J J J <| yA (d := .L hash_Place.Pv v3.1) J J <| yi J J <| yN <| pw_seq <| sR <| yI J J <| y0 J (o_cmp J J J) <| yN ?_
   refine pw_cond (v3.2 != 0) J (fun hc => ?_) (fun hc => ?_)
   ·have h := ifT h hc
    refine sR <| yM (d := .L hash_Place.Pv a0) J J <| yI J J <| yA (d := .L hash_Place.Pv a0) J J <| yi J J <| yi J J <| yN <| pw_ret ?_
    obtain rfl := oj h
    exact ⟨J, [_, _, _], ⟨J, ⟨J, ⟨J, tr⟩⟩⟩, J, io⟩
   ·have h := ifF h hc
    refine pw_skip <| sR <| yM (d := .L hash_Place.Pv v3.1) J J <| yI J J <| yA (d := .L hash_Place.Pv v3.1) J J <| yi J J <| yi J J <| yN <| pw_ret ?_
    obtain rfl := oj h
    exact ⟨J, [_, _, _], ⟨J, ⟨J, ⟨J, tr⟩⟩⟩, J, io⟩

theorem hold_pairPlace_say_ok {a0 : hold_pairPlace} {a1 : hold_Heap} {r : hold_Heap} (h : hold_pairPlace_say a0 a1 = some r) : PCalls Tryz.prog 89 [hold_pairPlace.Pv a0, hold_Heap.Pv a1] (hold_Heap.Pv r) := by
 unfold hold_pairPlace_say at h
 refine pc_intro (N := 9) Tryz.func89 J J nl fun w0 imm0 => sR <| y1 J (o_box (d := hold_pairPlace.Pv a0) J J J J J) J <| y1 J (o_box (d := hold_Heap.Pv a1) J J J J J) J <| y1 J (o_alloc J Ty.z34 J J J) J <| yN <| sR <| yF J J Ty.f123_0 J <| yS J J J J Ty.a29 J <| yF J J Ty.f34_3 J <| y_sto (x' := .agg [.L slab_Cell_store_Obj.Pv a1.S.S.Cells, .I a1.S.S.Last, .I a1.S.Serial, .L iF a1.Roots, .L weak_Cell.Pv a1.Cells, .L hash_Place.Pv a0.t, .L task_Task.Pv a1.Q.L, .I a1.Q.Cap]) (cl' := true) J J (.inr J) Ty.s29 <| yN <| sR <| yL J J J J Ty.a34 Ty.s34 nl J <| y_sto (x' := .agg [.L slab_Cell_store_Obj.Pv a1.S.S.Cells, .I a1.S.S.Last, .I a1.S.Serial, .L iF a1.Roots, .L weak_Cell.Pv a1.Cells, .L hash_Place.Pv a0.t, .L task_Task.Pv a1.Q.L, .I a1.Q.Cap]) (cl' := true) J J (.inr J) Ty.s34 <| yN <| pw_ret ?_
 obtain rfl := oj h
 exact ⟨J, [_], ⟨oL J J J Ty.a34 Ty.s34 nl J, tr⟩, J, io⟩

theorem hold_turned__hold_pairPlace_say_ok {a0 : hold_Heap} {a1 : Int} {a2 : Int} {a3 : hold_pairPlace} {r : hold_Heap} (h : hold_turned__hold_pairPlace_say a0 a1 a2 a3 = some r) : PCalls Tryz.prog 65 [hold_Heap.Pv a0, .I a1, .I a2, .abs (BFn 89 [hold_pairPlace.Pv a3])] (hold_Heap.Pv r) := by
 unfold hold_turned__hold_pairPlace_say at h
 refine pc_intro (N := 16) Tryz.func65 J J nl fun w0 imm0 => sR <| y1 J (o_box (d := hold_Heap.Pv a0) J J J J J) J <| y1 J (o_alloc J Ty.z34 J J J) J <| yN <| sR <| yM (d := .abs (BFn 89 [hold_pairPlace.Pv a3])) J J <| yL J J J J Ty.a34 Ty.s34 nl J <| yI J J <| bnE h fun v1 hv1 h => yc J (o_callF J Ty.k28 J (hold_Retain_ok hv1)) <| bnE h fun v2 hv2 h => y_callB (xs := [hold_Heap.Pv v1]) J J Ty.k89 J (hold_pairPlace_say_ok hv2) <| yI J J <| bnE h fun v3 hv3 h => yc J (o_callF J Ty.k29 J (hold_Release_ok hv3)) <| y_sto (x' := hold_Heap.Pv v3) (cl' := true) J J (.inr J) Ty.s34 <| yN <| pw_ret ?_
 obtain rfl := oj h
 exact ⟨J, [_], ⟨oL J J J Ty.a34 Ty.s34 nl J, tr⟩, J, io⟩

theorem hold_Pair_ok {a0 : hold_Heap} {a1 : Int} {a2 : Int} {r : hold_Heap × Int} (h : hold_Pair a0 a1 a2 = some r) : PCalls Tryz.prog 26 [hold_Heap.Pv a0, .I a1, .I a2] (.tup [hold_Heap.Pv r.1, .I r.2]) := by
 unfold hold_Pair at h
 refine pc_intro (N := 45) Tryz.func26 J J nl fun w0 imm0 => sR <| y1 J (o_box (d := hold_Heap.Pv a0) J J J J J) J <| y1 J (o_alloc J Ty.z34 J J J) J <| yi J J <| yN <| pw_seq <| sR <| yI J J <| y0 J (o_cmp J J J) <| yN ?_
 refine pw_cond (a1 == 0) J (fun hc => ?_) (fun hc => ?_)
 ·have h := ifT h hc
  refine sR <| yL J J J J Ty.a34 Ty.s34 nl J <| y_sto (x' := hold_Heap.Pv a0) (cl' := true) J J (.inr J) Ty.s34 <| yi J J <| yN <| pw_ret ?_
  obtain rfl := oj h
  exact ⟨J, [_, _], ⟨oL J J J Ty.a34 Ty.s34 nl J, ⟨J, tr⟩⟩, J, io⟩
 ·have h := ifF h hc
  refine pw_skip <| pw_seq <| sR <| yL J J J J Ty.a34 Ty.s34 nl J <| yI J J <| bnE h fun v1 hv1 h => y0 J (o_call J Ty.k64 J (hold_nameable_ok hv1)) <| y0 J (o_not J J) <| yB J J <| y_if J (fun hg => oL J J J Ty.a34 Ty.s34 nl J) <| y_if J (fun hg => mI J) <| bnE h fun v2 hv2 h => y_if J (fun hg => o_call J Ty.k64 (consE (ct hg) (consE (ct hg) J)) (hold_nameable_ok (onlyE hv2 hg))) <| y_if J (fun hg => o_not (ct hg) J) <| y0 J (pk_or J J J (fun q => eqF q)) <| yN ?_
  refine pw_cond ((!v1) || (!v2)) J (fun hc => ?_) (fun hc => ?_)
  ·have h := ifT h hc
   refine sR <| yL J J J J Ty.a34 Ty.s34 nl J <| y_sto (x' := hold_Heap.Pv a0) (cl' := true) J J (.inr J) Ty.s34 <| yi J J <| yN <| pw_ret ?_
   obtain rfl := oj h
   exact ⟨J, [_, _], ⟨oL J J J Ty.a34 Ty.s34 nl J, ⟨J, tr⟩⟩, J, io⟩
  ·have h := ifF h hc
   refine pw_skip <| sR <| yF J J Ty.f34_3 J <| yS J J J J Ty.a29 J <| yI J J <| yI J J <| bnE h fun v3 hv3 h => yc J (o_callF J Ty.k88 J (ephem_Set_ok hv3)) <| yM (d := .tup [.L hash_Place.Pv v3.1, .I v3.2.1, .I v3.2.2]) J J <| yX J J J <| yX J J J <| yX J J J <| yA (d := .L hash_Place.Pv v3.1) J J <| yi J J <| yi J J <| yN <| pw_seq <| sR <| yI J J <| y0 J (o_cmp J J J) <| yN ?_
   refine pw_cond (v3.2.2 != 0) J (fun hc => ?_) (fun hc => ?_)
   ·have h := ifT h hc
    refine sR <| yL J J J J Ty.a34 Ty.s34 nl J <| yI J J <| y_sto (x' := hold_Heap.Pv a0) (cl' := true) J J (.inr J) Ty.s34 <| yi J J <| yN <| pw_ret ?_
    obtain rfl := oj h
    exact ⟨J, [_, _], ⟨oL J J J Ty.a34 Ty.s34 nl J, ⟨J, tr⟩⟩, J, io⟩
   ·have h := ifF h hc
    refine pw_skip <| sR <| yL J J J J Ty.a34 Ty.s34 nl J <| yI J J <| yI J J <| yM (d := .L hash_Place.Pv v3.1) J J <| y0 J (o_build (cs := [.L hash_Place.Pv v3.1]) J Ty.p123 Ty.z123 J J J) <| y0 J (o_mkFuncB (d := .agg [.L hash_Place.Pv v3.1]) J) <| bnE h fun v4 hv4 h => yc J (o_callF J Ty.k65 J (hold_turned__hold_pairPlace_say_ok hv4)) <| y_sto (x' := hold_Heap.Pv v4) (cl' := true) J J (.inr J) Ty.s34 <| yi J J <| yN <| pw_ret ?_
    obtain rfl := oj h
    exact ⟨J, [_, _], ⟨oL J J J Ty.a34 Ty.s34 nl J, ⟨J, tr⟩⟩, J, io⟩

theorem store_rules_ok  {r : List store_rule} (h : store_rules = some r) : PCalls Tryz.prog 253 [] (.lst true (List.map store_rule.Pv r)) := by
 unfold store_rules at h
 refine pc_intro (N := 6) Tryz.func253 J J nl fun w0 imm0 => sR <| yA (d := .lst true (List.map store_rule.Pv [])) J J <| yN <| sR <| y0 J (o_build (cs := [.fn (.func 275) []]) J Ty.p281 Ty.z281 J J J) <| y_wk (wk_fv 1 (d' := .agg [fvE (some 275)]) J) <| y0 J (o_build (cs := [.fn (.func 276) []]) J Ty.p281 Ty.z281 J J J) <| y_wk (wk_fv 2 (d' := .agg [fvE (some 276)]) J) <| y0 J (o_build (cs := [.fn (.func 277) []]) J Ty.p281 Ty.z281 J J J) <| y_wk (wk_fv 3 (d' := .agg [fvE (some 277)]) J) <| y0 J (o_build (cs := [.fn (.func 278) []]) J Ty.p281 Ty.z281 J J J) <| y_wk (wk_fv 4 (d' := .agg [fvE (some 278)]) J) <| y0 J (o_bI (f := store_rule.Pv) (l := [(⟨(some 275)⟩ : store_rule), (⟨(some 276)⟩ : store_rule), (⟨(some 277)⟩ : store_rule), (⟨(some 278)⟩ : store_rule)]) J Ty.e277 Ty.s281 Ty.z281 J J nl J J) <| yA (d := .lst true (List.map store_rule.Pv [(⟨(some 275)⟩ : store_rule), (⟨(some 276)⟩ : store_rule), (⟨(some 277)⟩ : store_rule), (⟨(some 278)⟩ : store_rule)])) J J <| yN <| pw_ret ?_
 obtain rfl := oj h
 exact ⟨J, [_], ⟨J, tr⟩, J, io⟩

theorem store_stateFits_ok {a0 : store_Store} {a1 : slab_Cell_store_Obj} {r : Bool} (h : store_stateFits a0 a1 = some r) : PCalls Tryz.prog 275 [store_Store.Pv a0, slab_Cell_store_Obj.Pv a1] (.bool r) := by
 unfold store_stateFits at h
 refine pc_intro (N := 13) Tryz.func275 J J nl fun w0 imm0 => sR <| y1 J (o_box (d := store_Store.Pv a0) J J J J J) J <| y1 J (o_box (d := slab_Cell_store_Obj.Pv a1) J J J J J) J <| yb J J <| yN <| sR <| yF J J Ty.f141_0 J <| yS J J J J Ty.a3 J <| y0 J (o_cmp J J J) <| yB J J <| y_if J (fun hg => oF J Ty.f141_0 J) <| y_if J (fun hg => oS (ct hg) J J Ty.a3 J) <| y_if J (fun hg => o_cmp (ct hg) J J) <| y0 J (pk_and J J J (fun q => eqT q)) <| yb J J <| yN <| pw_ret ?_
 obtain rfl := oj h
 exact ⟨J, [_], ⟨J, tr⟩, J, io⟩

theorem store_generationFits_ok {a0 : store_Store} {a1 : slab_Cell_store_Obj} {r : Bool} (h : store_generationFits a0 a1 = some r) : PCalls Tryz.prog 276 [store_Store.Pv a0, slab_Cell_store_Obj.Pv a1] (.bool r) := by
 unfold store_generationFits at h
 refine pc_intro (N := 16) Tryz.func276 J J nl fun w0 imm0 => sR <| y1 J (o_box (d := store_Store.Pv a0) J J J J J) J <| y1 J (o_box (d := slab_Cell_store_Obj.Pv a1) J J J J J) J <| yb J J <| yN <| sR <| yF J J Ty.f141_1 J <| yS J J J J Ty.a3 J <| y0 J (o_cmp J J J) <| yB J J <| y_if J (fun hg => oF J Ty.f141_1 J) <| y_if J (fun hg => oS (ct hg) J J Ty.a3 J) <| y_if J (fun hg => oF J Ty.f26_0 J) <| y_if J (fun hg => oF (ct hg) Ty.f24_1 J) <| y_if J (fun hg => oS (ct hg) J J Ty.a3 J) <| y_if J (fun hg => o_cmp (ct hg) (ct hg) J) <| y0 J (pk_and J J J (fun q => eqT q)) <| yb J J <| yN <| pw_ret ?_
 obtain rfl := oj h
 exact ⟨J, [_], ⟨J, tr⟩, J, io⟩

theorem store_holdsObject_ok {a0 : slab_Cell_store_Obj} {r : Bool} (h : store_holdsObject a0 = some r) : PCalls Tryz.prog 279 [slab_Cell_store_Obj.Pv a0] (.bool r) := by
 unfold store_holdsObject at h
 refine pc_intro (N := 11) Tryz.func279 J J nl fun w0 imm0 => sR <| y1 J (o_box (d := slab_Cell_store_Obj.Pv a0) J J J J J) J <| yb J J <| yN <| sR <| yF J J Ty.f141_0 J <| yS J J J J Ty.a3 J <| y0 J (o_cmp J J J) <| yB J J <| y_if J (fun hg => oF J Ty.f141_0 J) <| y_if J (fun hg => oS (ct hg) J J Ty.a3 J) <| y_if J (fun hg => o_cmp (ct hg) J J) <| y0 J (pk_or J J J (fun q => eqF q)) <| yb J J <| yN <| pw_ret ?_
 obtain rfl := oj h
 exact ⟨J, [_], ⟨J, tr⟩, J, io⟩

theorem store_objectFits_ok {a0 : store_Store} {a1 : slab_Cell_store_Obj} {r : Bool} (h : store_objectFits a0 a1 = some r) : PCalls Tryz.prog 277 [store_Store.Pv a0, slab_Cell_store_Obj.Pv a1] (.bool r) := by
 unfold store_objectFits at h
 refine pc_intro (N := 44) Tryz.func277 J J nl fun w0 imm0 => sR <| y1 J (o_box (d := store_Store.Pv a0) J J J J J) J <| y1 J (o_box (d := slab_Cell_store_Obj.Pv a1) J J J J J) J <| yb J J <| yN <| sR <| yF J J Ty.f141_2 J <| yL J J J J Ty.a91 Ty.s91 nl J <| y1 J (o_alloc J Ty.z91 J J J) J <| y_sto (x' := store_Obj.Pv a1.Val) (cl' := true) J J (.inr J) Ty.s91 <| yN <| sR <| yL J J J J Ty.a141 Ty.s141 nl J <| bnE h fun v1 hv1 h => y0 J (o_call J Ty.k279 J (store_holdsObject_ok hv1)) <| y0 J (o_not J J) <| yB J J <| y_if J (fun hg => oF J Ty.f91_0 J) <| y_if J (fun hg => oS (ct hg) J J Ty.a3 J) <| y_if J (fun hg => o_cmp (ct hg) J J) <| y_if J (fun hg => om (d := .bool (decide (a1.Val.Serial ≥ 1))) (ct hg)) <| y_if (want2 J J J) (fun hg => oF J Ty.f91_0 J) <| y_if (want2 J J J) (fun hg => oS (ct hg) J J Ty.a3 J) <| y_if (want2 J J J) (fun hg => oF J Ty.f26_1 J) <| y_if (want2 J J J) (fun hg => oS (ct hg) J J Ty.a3 J) <| y_if (want2 J J J) (fun hg => o_cmp (ct hg) (ct hg) J) <| y_if J (fun hg => pk_and (ct hg) J J (fun q => andI hg (eqT q))) <| y_if J (fun hg => om (d := .bool ((decide (a1.Val.Serial ≥ 1)) && (decide (a1.Val.Serial ≤ a0.Serial)))) (ct hg)) <| y_if (want2 J J J) (fun hg => oF J Ty.f91_1 J) <| y_if (want2 J J J) (fun hg => oS (ct hg) J J Ty.a3 J) <| y_if (want2 J J J) (fun hg => o_cmp (ct hg) J J) <| y_if J (fun hg => pk_and (ct hg) J J (fun q => andI hg (eqT q))) <| y_if J (fun hg => om (d := .bool (((decide (a1.Val.Serial ≥ 1)) && (decide (a1.Val.Serial ≤ a0.Serial))) && (decide (a1.Val.Strong ≥ 0)))) (ct hg)) <| y_if (want2 J J J) (fun hg => oF J Ty.f91_2 J) <| y_if (want2 J J J) (fun hg => oS (ct hg) J J Ty.a3 J) <| y_if (want2 J J J) (fun hg => o_cmp (ct hg) J J) <| y_if J (fun hg => pk_and (ct hg) J J (fun q => andI hg (eqT q))) <| y_if J (fun hg => om (d := .bool ((((decide (a1.Val.Serial ≥ 1)) && (decide (a1.Val.Serial ≤ a0.Serial))) && (decide (a1.Val.Strong ≥ 0))) && (decide (a1.Val.Weak ≥ 0)))) (ct hg)) <| y_if (want2 J J J) (fun hg => oF J Ty.f91_3 J) <| y_if (want2 J J J) (fun hg => oS (ct hg) J J Ty.a3 J) <| bnE h fun v2 hv2 h => y_if (want2 J J J) (fun hg => o_call J Ty.k139 (consE (ct hg) J) (store_programFits_ok (onlyE hv2 hg))) <| y_if J (fun hg => pk_and (ct hg) J J (fun q => andI hg (eqT q))) <| y_if J (fun hg => om (d := .bool (((((decide (a1.Val.Serial ≥ 1)) && (decide (a1.Val.Serial ≤ a0.Serial))) && (decide (a1.Val.Strong ≥ 0))) && (decide (a1.Val.Weak ≥ 0))) && v2)) (ct hg)) <| y_if (want2 J J J) (fun hg => oF J Ty.f91_5 J) <| y_if (want2 J J J) (fun hg => oS (ct hg) J J Ty.a27 J) <| y_if (want2 J J J) (fun hg => o_lnL (f := iF) (ct hg) Ty.e27) <| y_if (want2 J J J) (fun hg => o_cmp (ct hg) J J) <| y_if J (fun hg => pk_and (ct hg) J J (fun q => andI hg (eqT q))) <| y0 J (pk_or J J J (fun q => eqF q)) <| yb J J <| yN <| pw_ret ?_
 obtain rfl := oj h
 exact ⟨J, [_], ⟨J, tr⟩, J, io⟩

theorem store_nothingIsLeft_ok {a0 : store_Store} {a1 : slab_Cell_store_Obj} {r : Bool} (h : store_nothingIsLeft a0 a1 = some r) : PCalls Tryz.prog 278 [store_Store.Pv a0, slab_Cell_store_Obj.Pv a1] (.bool r) := by
 unfold store_nothingIsLeft at h
 refine pc_intro (N := 36) Tryz.func278 J J nl fun w0 imm0 => sR <| y1 J (o_box (d := store_Store.Pv a0) J J J J J) J <| y1 J (o_box (d := slab_Cell_store_Obj.Pv a1) J J J J J) J <| yb J J <| yN <| sR <| yF J J Ty.f141_2 J <| yL J J J J Ty.a91 Ty.s91 nl J <| y1 J (o_alloc J Ty.z91 J J J) J <| y_sto (x' := store_Obj.Pv a1.Val) (cl' := true) J J (.inr J) Ty.s91 <| yN <| sR <| yF J J Ty.f91_0 J <| yS J J J J Ty.a3 J <| yF J J Ty.f91_1 J <| yS J J J J Ty.a3 J <| yF J J Ty.f91_2 J <| yS J J J J Ty.a3 J <| yF J J Ty.f91_3 J <| yS J J J J Ty.a3 J <| y0 J (o_build (cs := [.I a1.Val.Serial, .I a1.Val.Strong, .I a1.Val.Weak, .I a1.Val.Prog]) J Ty.p303 Ty.z303 J J J) <| y1 J (o_alloc J Ty.z303 J J J) J <| y_sto (x' := .agg [.I a1.Val.Serial, .I a1.Val.Strong, .I a1.Val.Weak, .I a1.Val.Prog]) (cl' := true) J J (.inl J) Ty.s303 <| yN <| sR <| yL J J J J Ty.a141 Ty.s141 nl J <| bnE h fun v1 hv1 h => y0 J (o_call J Ty.k279 J (store_holdsObject_ok hv1)) <| yB J J <| y_if J (fun hg => oL J J J Ty.a303 Ty.s303 nl J) <| y_if J (fun hg => o_build (cs := [.I 0, .I 0, .I 0, .I 0]) J Ty.p303 Ty.z303 J J J) <| y_if J (fun hg => o_eqA (xs := [.I a1.Val.Serial, .I a1.Val.Strong, .I a1.Val.Weak, .I a1.Val.Prog]) (ys := [.I 0, .I 0, .I 0, .I 0]) Ty.q303 (ct hg) (ct hg) J) <| y_if J (fun hg => om (d := .bool ((a1.Val.Serial == 0) && ((a1.Val.Strong == 0) && ((a1.Val.Weak == 0) && ((a1.Val.Prog == 0) && true))))) (ct hg)) <| y_if (want2 J J J) (fun hg => oF J Ty.f91_4 J) <| y_if (want2 J J J) (fun hg => oS (ct hg) J J Ty.a4 J) <| y_if (want2 J J J) (fun hg => o_not (ct hg) J) <| y_if J (fun hg => pk_and (ct hg) J J (fun q => andI hg (eqT q))) <| y_if J (fun hg => om (d := .bool (((a1.Val.Serial == 0) && ((a1.Val.Strong == 0) && ((a1.Val.Weak == 0) && ((a1.Val.Prog == 0) && true)))) && (!a1.Val.Started))) (ct hg)) <| y_if (want2 J J J) (fun hg => oF J Ty.f91_5 J) <| y_if (want2 J J J) (fun hg => oS (ct hg) J J Ty.a27 J) <| y_if (want2 J J J) (fun hg => o_lnL (f := iF) (ct hg) Ty.e27) <| y_if (want2 J J J) (fun hg => o_cmp (ct hg) J J) <| y_if J (fun hg => pk_and (ct hg) J J (fun q => andI hg (eqT q))) <| y0 J (pk_or J J J (fun q => eqF q)) <| yb J J <| yN <| pw_ret ?_
 obtain rfl := oj h
 exact ⟨J, [_], ⟨J, tr⟩, J, io⟩

theorem fvcall0_ok {f : Fv} {a0 : store_Store} {a1 : slab_Cell_store_Obj} {r : Bool} (h : fvcall0 f a0 a1 = some r) : ∃ n, f = some n ∧ Callable Tryz.prog n ∧ PCalls Tryz.prog n [store_Store.Pv a0, slab_Cell_store_Obj.Pv a1] (.bool r) := by
 unfold fvcall0 at h
 by_cases e275 : f = some 275
 ·rw [if_pos e275] at h; exact ⟨275, e275, Ty.k275, store_stateFits_ok h⟩
 rw [if_neg e275] at h
 by_cases e276 : f = some 276
 ·rw [if_pos e276] at h; exact ⟨276, e276, Ty.k276, store_generationFits_ok h⟩
 rw [if_neg e276] at h
 by_cases e277 : f = some 277
 ·rw [if_pos e277] at h; exact ⟨277, e277, Ty.k277, store_objectFits_ok h⟩
 rw [if_neg e277] at h
 by_cases e278 : f = some 278
 ·rw [if_pos e278] at h; exact ⟨278, e278, Ty.k278, store_nothingIsLeft_ok h⟩
 rw [if_neg e278] at h
 cases h

end Go.Proofs.YtnfmdpblilpcbaaGreat.Ok
