/-
 The functions of the program do as the plain functions do.
-/
import Derived.Test.YtnfmdpblilpcbaaGreatI151Ok3
namespace Go.Proofs.YtnfmdpblilpcbaaGreat.Ok
open Go Go.Pw Go.Sh Go.Proofs
set_option linter.unusedVariables false
set_option maxRecDepth 100000
set_option maxHeartbeats 4000000
theorem r15_Release_ok {a0 : r15_Heap} {a1 : Int} {r : r15_Heap} (h : r15_Release a0 a1 = some r) : PCalls Tryz.prog 31 [r15_Heap.Pv a0, .I a1] (r15_Heap.Pv r) := by
 unfold r15_Release at h
 refine pc_intro (N := 29) Tryz.func31 J J nl fun w0 imm0 => sR <| y1 J (o_box (d := r15_Heap.Pv a0) (z := 8) (cl := true) J J J J J) J <| y1 J (o_alloc (d := .agg [.lst true (List.map r06_Cell.Pv []), .I 0, .I 0, .lst true (List.map iF []), .lst true (List.map r09_Cell.Pv []), .lst true (List.map r10_Place.Pv []), .lst true (List.map r14_Task.Pv []), .I 0]) (z := 8) J Ty.z49 J J J) J <| yN <| sR <| y0 J (oF J Ty.f49_0 J) <| y0 J (oL J J J Ty.a42 Ty.s42 nl J) ?_
 refine y0 J (mI J) ?_
 obtain ⟨v1, hv1, h⟩ := bindE h
 refine yc J (o_callF J Ty.k33 J (r06_Get_ok hv1)) <| y0 J (om (d := .tup [r06_Obj.Pv v1.1, .I v1.2]) J) <| y0 J (oX J J) <| y0 J (oX J J) <| y1 J (o_alloc (d := .agg [.I 0, .I 0, .I 0, .I 0, .bool false, .lst true (List.map iF [])]) (z := 6) J Ty.z63 J J J) J <| y_sto (x' := r06_Obj.Pv v1.1) (cl' := true) J J (.inr J) Ty.s63 <| y0 J (aI J) <| yN ?_
 refine sR <| y0 J (oF J Ty.f63_1 J) <| y0 J (oS J J J Ty.a3 J) ?_
 obtain ⟨v2, hv2, h⟩ := bindE h
 refine y0 J (o_call J Ty.k98 J (r04_Dec_ok hv2)) <| y0 J (om (d := .tup [.I v2.1, .I v2.2]) J) <| y0 J (oX J J) <| y0 J (oX J J) <| y0 J (aI J) <| y0 J (aI J) <| yN <| pw_seq ?_
 refine sR <| y0 J (mI J) <| y0 J (o_cmp J J J) <| yN ?_
 refine pw_cond (v2.2 != 0) J (fun hc => ?_) (fun hc => ?_)
 ·have h := ifT h hc
  refine sR <| y0 J (oL J J J Ty.a49 Ty.s49 nl J) <| y_sto (x' := r15_Heap.Pv a0) (cl' := true) J J (.inr J) Ty.s49 <| yN <| pw_ret ?_
  obtain rfl := oj h
  exact ⟨J, [_], ⟨oL J J J Ty.a49 Ty.s49 nl J, tr⟩, J, io⟩
 ·have h := ifF h hc
  refine pw_skip <| sR <| y0 J (oL J J J Ty.a49 Ty.s49 nl J) <| y0 J (mI J) <| y0 J (mI J) ?_
  obtain ⟨v3, hv3, h⟩ := bindE h
  refine yc J (o_callF J Ty.k96 J (r15_Strong_ok hv3)) <| y_sto (x' := r15_Heap.Pv v3) (cl' := true) J J (.inr J) Ty.s49 <| yN <| pw_ret ?_
  obtain rfl := oj h
  exact ⟨J, [_], ⟨oL J J J Ty.a49 Ty.s49 nl J, tr⟩, J, io⟩

theorem r15_Root_ok {a0 : r15_Heap} {a1 : Int} {a2 : Int} {r : r15_Heap × Int} (h : r15_Root a0 a1 a2 = some r) : PCalls Tryz.prog 18 [r15_Heap.Pv a0, .I a1, .I a2] (.tup [r15_Heap.Pv r.1, .I r.2]) := by
 unfold r15_Root at h
 refine pc_intro (N := 43) Tryz.func18 J J nl fun w0 imm0 => sR <| y1 J (o_box (d := r15_Heap.Pv a0) (z := 8) (cl := true) J J J J J) J <| y1 J (o_alloc (d := .agg [.lst true (List.map r06_Cell.Pv []), .I 0, .I 0, .lst true (List.map iF []), .lst true (List.map r09_Cell.Pv []), .lst true (List.map r10_Place.Pv []), .lst true (List.map r14_Task.Pv []), .I 0]) (z := 8) J Ty.z49 J J J) J <| y0 J (aI J) <| yN <| pw_seq <| sR ?_
 refine y0 J (mI J) <| y0 J (o_cmp J J J) <| y0 J (mB J) <| y_if J (fun hg => mI J) <| y_if J (fun hg => o_cmp (ct hg) J J) <| y0 J (pk_or J J J (fun q => eqF q)) <| yN ?_
 refine pw_cond ((decide (a1 < 0)) || (decide (a1 > 5))) J (fun hc => ?_) (fun hc => ?_)
 ·have h := ifT h hc
  refine sR <| y0 J (oL J J J Ty.a49 Ty.s49 nl J) <| y_sto (x' := r15_Heap.Pv a0) (cl' := true) J J (.inr J) Ty.s49 <| y0 J (aI J) <| yN <| pw_ret ?_
  obtain rfl := oj h
  exact ⟨J, [_, _], ⟨oL J J J Ty.a49 Ty.s49 nl J, ⟨J, tr⟩⟩, J, io⟩
 ·have h := ifF h hc
  refine pw_skip <| pw_seq <| sR <| y0 J (oL J J J Ty.a49 Ty.s49 nl J) <| y0 J (mI J) ?_
  obtain ⟨v1, hv1, h⟩ := bindE h
  refine y0 J (o_call J Ty.k67 J (r15_maybe_ok hv1)) <| y0 J (o_not J J) <| yN ?_
  refine pw_cond (!v1) J (fun hc => ?_) (fun hc => ?_)
  ·have h := ifT h hc
   refine sR <| y0 J (oL J J J Ty.a49 Ty.s49 nl J) <| y_sto (x' := r15_Heap.Pv a0) (cl' := true) J J (.inr J) Ty.s49 <| y0 J (aI J) <| yN <| pw_ret ?_
   obtain rfl := oj h
   exact ⟨J, [_, _], ⟨oL J J J Ty.a49 Ty.s49 nl J, ⟨J, tr⟩⟩, J, io⟩
  ·have h := ifF h hc
   refine pw_skip <| sR <| y0 J (oF J Ty.f49_1 J) <| y0 J (oS J J J Ty.a27 J) <| y0 J (mI J) ?_
   obtain ⟨v2, hv2, h⟩ := bindE h
   refine y0 J (o_ixL (f := iF) (cs := [.I v2]) hv2 J J Ty.e27 Ty.s3 J J) <| y0 J (o_loadRS J Ty.a3 J) <| y0 J (aI J) <| yN <| sR <| y0 J (oL J J J Ty.a49 Ty.s49 nl J) <| y0 J (mI J) ?_
   obtain ⟨v3, hv3, h⟩ := bindE h
   refine yc J (o_callF J Ty.k30 J (r15_Retain_ok hv3)) <| y1 J (o_alloc (d := .agg [.lst true (List.map r06_Cell.Pv []), .I 0, .I 0, .lst true (List.map iF []), .lst true (List.map r09_Cell.Pv []), .lst true (List.map r10_Place.Pv []), .lst true (List.map r14_Task.Pv []), .I 0]) (z := 8) J Ty.z49 J J J) J <| y_sto (x' := r15_Heap.Pv v3) (cl' := true) J J (.inr J) Ty.s49 <| yN <| sR <| y0 J (o_nslice J Ty.e27 Ty.s3) <| y0 J (oF J Ty.f49_1 J) <| y0 J (oS J J J Ty.a27 J) ?_
   obtain ⟨v4, hv4, h⟩ := bindE h
   refine y1 J (o_apT (f := iF) hv4 J J (.inl ⟨_, J, J⟩) Ty.e27 Ty.s3 Ty.b3 Ty.z3 J (fun _ => J)) J <| y0 J (oF J Ty.f49_1 J) <| y_sto (x' := .agg [.L r06_Cell.Pv v3.S.Cells, .I v3.S.Last, .I v3.S.Serial, .sl 33, .L r09_Cell.Pv v3.Cells, .L r10_Place.Pv v3.T, .L r14_Task.Pv v3.Q.L, .I v3.Q.Cap]) (cl' := false) J J (.inl J) Ty.s27 <| yN <| sR <| y0 J (oF J Ty.f49_1 J) <| y0 J (oS J J J Ty.a27 J) <| y0 J (mI J) ?_
   refine y0 J (mI J) ?_
   obtain ⟨v5, hv5, h⟩ := bindE h
   refine y0 J (o_ixR (f := iF) hv5 J J J J Ty.e27 Ty.s3 J) <| y_stE (f := iF) (v := a2) hv5 J J (.inl J) Ty.s3 <| yN <| sR <| y0 J (oL J J J Ty.a49 Ty.s49 nl J) <| y0 J (mI J) ?_
   obtain ⟨v6, hv6, h⟩ := bindE h
   refine ycL J (o_callF J Ty.k31 J (r15_Release_ok hv6)) J <| y_sto (x' := r15_Heap.Pv v6) (cl' := true) J J (.inr J) Ty.s49 <| y0 J (aI J) <| yN <| pw_ret ?_
   obtain rfl := oj h
   exact ⟨J, [_, _], ⟨oL J J J Ty.a49 Ty.s49 nl J, ⟨J, tr⟩⟩, J, io⟩

theorem r05_At_ok {a0 : List Int} {a1 : Int} {r : Int × Int} (h : r05_At a0 a1 = some r) : PCalls Tryz.prog 158 [.L iF a0, .I a1] (.tup [.I r.1, .I r.2]) := by
 unfold r05_At at h
 refine pc_intro (N := 18) Tryz.func158 J J nl fun w0 imm0 => sR <| y0 J (aI J) <| y0 J (aI J) <| yN <| pw_seq <| sR <| y0 J (mI J) ?_
 refine y0 J (o_cmp J J J) <| y0 J (mB J) <| y_if J (fun hg => mI J) <| y_if J (fun hg => om (d := .L iF a0) J) <| y_if J (fun hg => o_lnL (f := iF) (ct hg) Ty.e27) <| y_if J (fun hg => o_cmp (ct hg) (ct hg) J) <| y0 J (pk_or J J J (fun q => eqF q)) <| yN ?_
 refine pw_cond ((decide (a1 < 0)) || (decide (a1 ≥ (a0.length : Int)))) J (fun hc => ?_) (fun hc => ?_)
 ·have h := ifT h hc
  refine sR <| y0 J (aI J) <| y0 J (aI J) <| yN <| pw_ret ?_
  obtain rfl := oj h
  exact ⟨J, [_, _], ⟨J, ⟨J, tr⟩⟩, J, io⟩
 ·have h := ifF h hc
  refine pw_skip <| sR <| y0 J (om (d := .L iF a0) J) <| y0 J (mI J) ?_
  obtain ⟨v1, hv1, h⟩ := bindE h
  refine y0 J (o_ixL (f := iF) (cs := [.I v1]) hv1 J J Ty.e27 Ty.s3 J J) <| y0 J (o_loadRS J Ty.a3 J) <| y0 J (aI J) <| y0 J (aI J) <| yN <| pw_ret ?_
  obtain rfl := oj h
  exact ⟨J, [_, _], ⟨J, ⟨J, tr⟩⟩, J, io⟩

theorem r06_Field_ok {a0 : r06_Store} {a1 : Int} {a2 : Int} {r : Int × Int} (h : r06_Field a0 a1 a2 = some r) : PCalls Tryz.prog 73 [r06_Store.Pv a0, .I a1, .I a2] (.tup [.I r.1, .I r.2]) := by
 unfold r06_Field at h
 refine pc_intro (N := 25) Tryz.func73 J J nl fun w0 imm0 => sR <| y1 J (o_box (d := r06_Store.Pv a0) (z := 3) (cl := true) J J J J J) J <| y0 J (aI J) <| y0 J (aI J) <| yN <| sR <| y0 J (oL J J J Ty.a42 Ty.s42 nl J) ?_
 refine y0 J (mI J) ?_
 obtain ⟨v1, hv1, h⟩ := bindE h
 refine yc J (o_callF J Ty.k33 J (r06_Get_ok hv1)) <| y0 J (om (d := .tup [r06_Obj.Pv v1.1, .I v1.2]) J) <| y0 J (oX J J) <| y0 J (oX J J) <| y1 J (o_alloc (d := .agg [.I 0, .I 0, .I 0, .I 0, .bool false, .lst true (List.map iF [])]) (z := 6) J Ty.z63 J J J) J <| y_sto (x' := r06_Obj.Pv v1.1) (cl' := true) J J (.inr J) Ty.s63 <| y0 J (aI J) <| yN ?_
 refine pw_seq <| sR <| y0 J (mI J) <| y0 J (o_cmp J J J) <| yN ?_
 refine pw_cond (v1.2 != 0) J (fun hc => ?_) (fun hc => ?_)
 ·have h := ifT h hc
  refine sR <| y0 J (mI J) <| y0 J (aI J) <| y0 J (aI J) <| yN <| pw_ret ?_
  obtain rfl := oj h
  exact ⟨J, [_, _], ⟨J, ⟨J, tr⟩⟩, J, io⟩
 ·have h := ifF h hc
  refine pw_skip <| sR <| y0 J (oF J Ty.f63_5 J) <| y0 J (oS J J J Ty.a27 J) <| y0 J (mI J) ?_
  obtain ⟨v2, hv2, h⟩ := bindE h
  refine y0 J (o_call J Ty.k158 J (r05_At_ok hv2)) <| y0 J (oX J J) <| y0 J (oX J J) <| y0 J (aI J) <| y0 J (aI J) <| yN <| pw_ret ?_
  obtain rfl := oj h
  exact ⟨J, [_, _], ⟨J, ⟨J, tr⟩⟩, J, io⟩

theorem r05_With_ok {a0 : List Int} {a1 : Int} {a2 : Int} {r : (List Int) × Int} (h : r05_With a0 a1 a2 = some r) : PCalls Tryz.prog 159 [.L iF a0, .I a1, .I a2] (.tup [.L iF r.1, .I r.2]) := by
 unfold r05_With at h
 refine pc_intro (N := 26) Tryz.func159 J J nl fun w0 imm0 => sR <| y0 J (oa (d := .lst true (List.map iF [])) J) <| y0 J (aI J) <| yN <| pw_seq <| sR <| y0 J (mI J) ?_
 refine y0 J (o_cmp J J J) <| y0 J (mB J) <| y_if J (fun hg => mI J) <| y_if J (fun hg => om (d := .L iF a0) J) <| y_if J (fun hg => o_lnL (f := iF) (ct hg) Ty.e27) <| y_if J (fun hg => o_cmp (ct hg) (ct hg) J) <| y0 J (pk_or J J J (fun q => eqF q)) <| yN ?_
 refine pw_cond ((decide (a1 < 0)) || (decide (a1 ≥ (a0.length : Int)))) J (fun hc => ?_) (fun hc => ?_)
 ·have h := ifT h hc
  refine sR <| y0 J (om (d := .L iF a0) J) <| y0 J (oa (d := .L iF a0) J) <| y0 J (aI J) <| yN <| pw_ret ?_
  obtain rfl := oj h
  exact ⟨J, [_, _], ⟨J, ⟨J, tr⟩⟩, J, io⟩
 ·have h := ifF h hc
  refine pw_skip <| sR <| y0 J (o_nslice J Ty.e27 Ty.s3) <| y0 J (om (d := .L iF a0) J) ?_
  obtain ⟨v1, hv1, h⟩ := bindE h
  refine y1 J (o_apT (f := iF) hv1 J J (.inl ⟨_, J, J⟩) Ty.e27 Ty.s3 Ty.b3 Ty.z3 J (fun _ => J)) J <| y0 J (oa (d := .sl 20) J) <| yN <| sR <| y0 J (om (d := .sl 20) J) <| y0 J (mI J) <| y0 J (mI J) ?_
  obtain ⟨v2, hv2, h⟩ := bindE h
  refine y0 J (o_ixR (f := iF) hv2 J J J J Ty.e27 Ty.s3 J) <| y_stE (f := iF) (v := a2) hv2 J J (.inl J) Ty.s3 <| yN <| sR <| y0 J (om (d := .sl 20) J) <| y0 J (oa (d := .sl 20) J) <| y0 J (aI J) <| yN ?_
  refine pw_ret ?_
  obtain rfl := oj h
  exact ⟨J, [_, _], ⟨J, ⟨J, tr⟩⟩, J, io⟩

theorem r06_Put_ok {a0 : r06_Store} {a1 : Int} {a2 : Int} {a3 : Int} {r : r06_Store × Int} (h : r06_Put a0 a1 a2 a3 = some r) : PCalls Tryz.prog 74 [r06_Store.Pv a0, .I a1, .I a2, .I a3] (.tup [r06_Store.Pv r.1, .I r.2]) := by
 unfold r06_Put at h
 refine pc_intro (N := 44) Tryz.func74 J J nl fun w0 imm0 => sR <| y1 J (o_box (d := r06_Store.Pv a0) (z := 3) (cl := true) J J J J J) J <| y1 J (o_alloc (d := .agg [.lst true (List.map r06_Cell.Pv []), .I 0, .I 0]) (z := 3) J Ty.z42 J J J) J <| y0 J (aI J) <| yN <| sR <| y0 J (oL J J J Ty.a42 Ty.s42 nl J) ?_
 refine y0 J (mI J) ?_
 obtain ⟨v1, hv1, h⟩ := bindE h
 refine yc J (o_callF J Ty.k33 J (r06_Get_ok hv1)) <| y0 J (om (d := .tup [r06_Obj.Pv v1.1, .I v1.2]) J) <| y0 J (oX J J) <| y0 J (oX J J) <| y1 J (o_alloc (d := .agg [.I 0, .I 0, .I 0, .I 0, .bool false, .lst true (List.map iF [])]) (z := 6) J Ty.z63 J J J) J <| y_sto (x' := r06_Obj.Pv v1.1) (cl' := true) J J (.inr J) Ty.s63 <| y0 J (aI J) <| yN ?_
 refine pw_seq <| sR <| y0 J (mI J) <| y0 J (o_cmp J J J) <| yN ?_
 refine pw_cond (v1.2 != 0) J (fun hc => ?_) (fun hc => ?_)
 ·have h := ifT h hc
  refine sR <| y0 J (oL J J J Ty.a42 Ty.s42 nl J) <| y0 J (mI J) <| y_sto (x' := r06_Store.Pv a0) (cl' := true) J J (.inr J) Ty.s42 <| y0 J (aI J) <| yN <| pw_ret ?_
  obtain rfl := oj h
  exact ⟨J, [_, _], ⟨oL J J J Ty.a42 Ty.s42 nl J, ⟨J, tr⟩⟩, J, io⟩
 ·have h := ifF h hc
  refine pw_skip <| sR <| y0 J (oF J Ty.f63_5 J) <| y0 J (oS J J J Ty.a27 J) <| y0 J (mI J) <| y0 J (mI J) ?_
  obtain ⟨v2, hv2, h⟩ := bindE h
  refine yc J (o_callF J Ty.k159 J (r05_With_ok hv2)) <| y0 J (om (d := .tup [.L iF v2.1, .I v2.2]) J) <| y0 J (oX J J) <| y0 J (oX J J) <| y0 J (oa (d := .L iF v2.1) J) <| y0 J (aI J) <| yN <| pw_seq ?_
  refine sR <| y0 J (mI J) <| y0 J (o_cmp J J J) <| yN ?_
  refine pw_cond (v2.2 != 0) J (fun hc => ?_) (fun hc => ?_)
  ·have h := ifT h hc
   refine sR <| y0 J (oL J J J Ty.a42 Ty.s42 nl J) <| y0 J (mI J) <| y_sto (x' := r06_Store.Pv a0) (cl' := true) J J (.inr J) Ty.s42 <| y0 J (aI J) <| yN <| pw_ret ?_
   obtain rfl := oj h
   exact ⟨J, [_, _], ⟨oL J J J Ty.a42 Ty.s42 nl J, ⟨J, tr⟩⟩, J, io⟩
  ·have h := ifF h hc
   refine pw_skip <| sR <| y0 J (om (d := .L iF v2.1) J) <| y0 J (oF J Ty.f63_5 J) <| y_sto (x' := .agg [.I v1.1.Serial, .I v1.1.Strong, .I v1.1.Weak, .I v1.1.Prog, .bool v1.1.Started, .L iF v2.1]) (cl' := true) J J (.inr J) Ty.s27 <| yN <| sR <| y0 J (oL J J J Ty.a42 Ty.s42 nl J) ?_
   refine y0 J (mI J) <| y0 J (oL J J J Ty.a63 Ty.s63 nl J) ?_
   obtain ⟨v3, hv3, h⟩ := bindE h
   refine yc J (o_callF J Ty.k86 J (r06_Set_ok hv3)) <| y0 J (oX J J) <| y0 J (oX J J) <| y_sto (x' := r06_Store.Pv v3.1) (cl' := true) J J (.inr J) Ty.s42 <| y0 J (aI J) <| yN <| pw_ret ?_
   obtain rfl := oj h
   exact ⟨J, [_, _], ⟨oL J J J Ty.a42 Ty.s42 nl J, ⟨J, tr⟩⟩, J, io⟩

theorem r15_Field_ok {a0 : r15_Heap} {a1 : Int} {a2 : Int} {a3 : Int} {r : r15_Heap × Int} (h : r15_Field a0 a1 a2 a3 = some r) : PCalls Tryz.prog 21 [r15_Heap.Pv a0, .I a1, .I a2, .I a3] (.tup [r15_Heap.Pv r.1, .I r.2]) := by
 unfold r15_Field at h
 refine pc_intro (N := 46) Tryz.func21 J J nl fun w0 imm0 => sR <| y1 J (o_box (d := r15_Heap.Pv a0) (z := 8) (cl := true) J J J J J) J <| y1 J (o_alloc (d := .agg [.lst true (List.map r06_Cell.Pv []), .I 0, .I 0, .lst true (List.map iF []), .lst true (List.map r09_Cell.Pv []), .lst true (List.map r10_Place.Pv []), .lst true (List.map r14_Task.Pv []), .I 0]) (z := 8) J Ty.z49 J J J) J <| y0 J (aI J) <| yN <| sR <| y0 J (oF J Ty.f49_0 J) ?_
 refine y0 J (oL J J J Ty.a42 Ty.s42 nl J) <| y0 J (mI J) <| y0 J (mI J) ?_
 obtain ⟨v1, hv1, h⟩ := bindE h
 refine y0 J (o_call J Ty.k73 J (r06_Field_ok hv1)) <| y0 J (om (d := .tup [.I v1.1, .I v1.2]) J) <| y0 J (oX J J) <| y0 J (oX J J) <| y0 J (aI J) <| y0 J (aI J) <| yN <| pw_seq ?_
 refine sR <| y0 J (mI J) <| y0 J (o_cmp J J J) <| yN ?_
 refine pw_cond (v1.2 != 0) J (fun hc => ?_) (fun hc => ?_)
 ·have h := ifT h hc
  refine sR <| y0 J (oL J J J Ty.a49 Ty.s49 nl J) <| y0 J (mI J) <| y_sto (x' := r15_Heap.Pv a0) (cl' := true) J J (.inr J) Ty.s49 <| y0 J (aI J) <| yN <| pw_ret ?_
  obtain rfl := oj h
  exact ⟨J, [_, _], ⟨oL J J J Ty.a49 Ty.s49 nl J, ⟨J, tr⟩⟩, J, io⟩
 ·have h := ifF h hc
  refine pw_skip <| pw_seq <| sR <| y0 J (oL J J J Ty.a49 Ty.s49 nl J) <| y0 J (mI J) ?_
  obtain ⟨v2, hv2, h⟩ := bindE h
  refine y0 J (o_call J Ty.k67 J (r15_maybe_ok hv2)) <| y0 J (o_not J J) <| yN ?_
  refine pw_cond (!v2) J (fun hc => ?_) (fun hc => ?_)
  ·have h := ifT h hc
   refine sR <| y0 J (oL J J J Ty.a49 Ty.s49 nl J) <| y_sto (x' := r15_Heap.Pv a0) (cl' := true) J J (.inr J) Ty.s49 <| y0 J (aI J) <| yN <| pw_ret ?_
   obtain rfl := oj h
   exact ⟨J, [_, _], ⟨oL J J J Ty.a49 Ty.s49 nl J, ⟨J, tr⟩⟩, J, io⟩
  ·have h := ifF h hc
   refine pw_skip <| sR <| y0 J (oL J J J Ty.a49 Ty.s49 nl J) <| y0 J (mI J) ?_
   obtain ⟨v3, hv3, h⟩ := bindE h
   refine yc J (o_callF J Ty.k30 J (r15_Retain_ok hv3)) <| y1 J (o_alloc (d := .agg [.lst true (List.map r06_Cell.Pv []), .I 0, .I 0, .lst true (List.map iF []), .lst true (List.map r09_Cell.Pv []), .lst true (List.map r10_Place.Pv []), .lst true (List.map r14_Task.Pv []), .I 0]) (z := 8) J Ty.z49 J J J) J <| y_sto (x' := r15_Heap.Pv v3) (cl' := true) J J (.inr J) Ty.s49 <| yN <| sR <| y0 J (oF J Ty.f49_0 J) <| y0 J (oL J J J Ty.a42 Ty.s42 nl J) <| y0 J (mI J) ?_
   refine y0 J (mI J) <| y0 J (mI J) ?_
   obtain ⟨v4, hv4, h⟩ := bindE h
   refine yc J (o_callF J Ty.k74 J (r06_Put_ok hv4)) <| y0 J (om (d := .tup [r06_Store.Pv v4.1, .I v4.2]) J) <| y0 J (oX J J) <| y0 J (oX J J) <| y0 J (oF J Ty.f49_0 J) <| y_sto (x' := .agg [.L r06_Cell.Pv v4.1.Cells, .I v4.1.Last, .I v4.1.Serial, .L iF v3.Roots, .L r09_Cell.Pv v3.Cells, .L r10_Place.Pv v3.T, .L r14_Task.Pv v3.Q.L, .I v3.Q.Cap]) (cl' := true) J J (.inr J) Ty.s42 <| yN <| sR ?_
   refine y0 J (oL J J J Ty.a49 Ty.s49 nl J) <| y0 J (mI J) ?_
   obtain ⟨v5, hv5, h⟩ := bindE h
   refine yc J (o_callF J Ty.k31 J (r15_Release_ok hv5)) <| y_sto (x' := r15_Heap.Pv v5) (cl' := true) J J (.inr J) Ty.s49 <| y0 J (aI J) <| yN <| pw_ret ?_
   obtain rfl := oj h
   exact ⟨J, [_, _], ⟨oL J J J Ty.a49 Ty.s49 nl J, ⟨J, tr⟩⟩, J, io⟩

theorem r02_Ints_ok {a0 : List Int} {a1 : List Int} {r : Bool} (h : r02_Ints a0 a1 = some r) : PCalls Tryz.prog 41 [.L iF a0, .L iF a1] (.bool r) := by
 unfold r02_Ints at h
 refine pc_intro (N := 26) Tryz.func41 J J nl fun w0 imm0 => sR <| y0 J (aB J) <| yN <| pw_seq <| sR <| y0 J (om (d := .L iF a0) J) <| y0 J (o_lnL (f := iF) J Ty.e27) ?_
 refine y0 J (om (d := .L iF a1) J) <| y0 J (o_lnL (f := iF) J Ty.e27) <| y0 J (o_cmp J J J) <| yN ?_
 refine pw_cond ((a0.length : Int) != (a1.length : Int)) J (fun hc => ?_) (fun hc => ?_)
 ·have h := ifT h hc
  refine sR <| y0 J (aB J) <| yN <| pw_ret ?_
  obtain rfl := oj h
  exact ⟨J, [_], ⟨J, tr⟩, J, io⟩
 ·have h := ifF h hc
  refine pw_skip ?_
  obtain ⟨κ6, hκ6, h⟩ := jnE h
  refine pw_jn0 (κ := κ6) (r := r) (fun (_ : Unit) => St.of [] []) (fun q7 h => ?_) ?_
  ·subst hκ6
   refine sR <| y0 J (aB J) <| yN <| pw_ret ?_
   obtain rfl := oj h
   exact ⟨J, [_], ⟨J, tr⟩, J, io⟩
  ·skip
   refine sR <| y0 J (aI J) <| yN <| pw_block ?_
   obtain ⟨e8, hl7, hk8⟩ := bindE h
   refine pw_lp0 (fun (s9 : Int) => St.of [(0, .L iF a0), (1, .L iF a1), (5, .I s9)] []) hl7 (wk_st _ _ ⟨J, J, J, J, J, J, J, J, J, tr⟩ tr) (fun s9 x10 h hx9 => ?_)
   refine pw_seq <| sR <| y0 J (mI J) <| y0 J (om (d := .L iF a0) J) <| y0 J (o_lnL (f := iF) J Ty.e27) <| y0 J (o_cmp J J J) <| yN ?_
   refine pw_cond (decide (s9 < (a0.length : Int))) J (fun hc => ?_) (fun hc => ?_)
   ·have h := ifT h hc
    refine pw_skip <| pw_seq <| pw_block <| dr [] Ty.mix (by kernel_rfl) (by kernel_rfl) <| d7 J (fun _ hN => om (d := .L iF a0) J) J <| d7 J (fun _ hN => mI J) J ?_
    obtain ⟨v11, hv10, h⟩ := bindE h
    refine d0 J (o_ixL (f := iF) (cs := [.I v11]) hv10 J J Ty.e27 Ty.s3 J J) J <| d0 J (o_loadRS J Ty.a3 J) J <| d7 J (fun _ hN => om (d := .L iF a1) J) J <| d7 J (fun _ hN => mI J) J ?_
    obtain ⟨v12, hv11, h⟩ := bindE h
    refine d0 J (o_ixL (f := iF) (cs := [.I v12]) hv11 J J Ty.e27 Ty.s3 J J) J <| d0 J (o_loadRS J Ty.a3 J) J <| d7 J (fun _ hN => o_cmp J J J) J <| d_nil ?_
    refine pw_cond (v11 != v12) J (fun hc => ?_) (fun hc => ?_)
    ·have h := ifT h hc
     refine sR <| y0 J (aB J) <| yN <| pw_ret ?_
     have he := hx9 _ (oj h).symm
     have h := hk8
     rw [← he] at h
     obtain rfl := oj h
     exact ⟨J, [_], ⟨J, tr⟩, J, io⟩
    ·have h := ifF h hc
     refine pw_skip <| s1 <| y0 J (mI J) <| y0 J (o_ari J J J) <| y0 J (aI J) <| yN ?_
     exact ⟨J, w64 (s9 + 1), (oj h).symm, (wk_st _ _ ⟨J, J, J, J, J, J, J, J, J, tr⟩ tr)⟩
   ·have h := ifF h hc
    refine pw_exit <| thenQ_exit <| thenQ_exit <| blockQ_exit ?_
    have he := hx9 _ (oj h).symm
    have h := hk8
    rw [← he] at h
    exact ⟨J, (), h, (wk_st _ _ tr tr)⟩

theorem r06_Alike_ok {a0 : r06_Obj} {a1 : r06_Obj} {r : Bool} (h : r06_Alike a0 a1 = some r) : PCalls Tryz.prog 160 [r06_Obj.Pv a0, r06_Obj.Pv a1] (.bool r) := by
 unfold r06_Alike at h
 refine pc_intro (N := 45) Tryz.func160 J J nl fun w0 imm0 => sR <| y1 J (o_box (d := r06_Obj.Pv a0) (z := 6) (cl := true) J J J J J) J <| y1 J (o_box (d := r06_Obj.Pv a1) (z := 6) (cl := true) J J J J J) J <| y0 J (aB J) <| yN <| sR <| y0 J (oF J Ty.f63_0 J) ?_
 refine y0 J (oS J J J Ty.a3 J) <| y0 J (oF J Ty.f63_0 J) <| y0 J (oS J J J Ty.a3 J) <| y0 J (o_cmp J J J) <| y0 J (mB J) <| y_if J (fun hg => oF J Ty.f63_1 J) <| y_if J (fun hg => oS (ct hg) J J Ty.a3 J) <| y_if J (fun hg => oF J Ty.f63_1 J) ?_
 refine y_if J (fun hg => oS (ct hg) J J Ty.a3 J) <| y_if J (fun hg => o_cmp (ct hg) (ct hg) J) <| y0 J (pk_and J J J (fun q => eqT q)) <| y0 J (mB J) <| y_if J (fun hg => oF J Ty.f63_2 J) <| y_if J (fun hg => oS (ct hg) J J Ty.a3 J) <| y_if J (fun hg => oF J Ty.f63_2 J) <| y_if J (fun hg => oS (ct hg) J J Ty.a3 J) ?_
 refine y_if J (fun hg => o_cmp (ct hg) (ct hg) J) <| y0 J (pk_and J J J (fun q => eqT q)) <| y0 J (mB J) <| y_if J (fun hg => oF J Ty.f63_3 J) <| y_if J (fun hg => oS (ct hg) J J Ty.a3 J) <| y_if J (fun hg => oF J Ty.f63_3 J) <| y_if J (fun hg => oS (ct hg) J J Ty.a3 J) <| y_if J (fun hg => o_cmp (ct hg) (ct hg) J) ?_
 refine y0 J (pk_and J J J (fun q => eqT q)) <| y0 J (mB J) <| y_if J (fun hg => oF J Ty.f63_4 J) <| y_if J (fun hg => oS (ct hg) J J Ty.a4 J) <| y_if J (fun hg => oF J Ty.f63_4 J) <| y_if J (fun hg => oS (ct hg) J J Ty.a4 J) <| y_if J (fun hg => o_eqB (ct hg) (ct hg) Ty.u4 J) <| y0 J (pk_and J J J (fun q => eqT q)) ?_
 refine y0 J (mB J) <| y_if J (fun hg => oF J Ty.f63_5 J) <| y_if J (fun hg => oS (ct hg) J J Ty.a27 J) <| y_if J (fun hg => oF J Ty.f63_5 J) <| y_if J (fun hg => oS (ct hg) J J Ty.a27 J) ?_
 obtain ⟨v1, hv1, h⟩ := bindE h
 refine y_if J (fun hg => o_call J Ty.k41 (consE (ct hg) (consE (ct hg) J)) (r02_Ints_ok (onlyE hv1 hg))) <| y0 J (pk_and J J J (fun q => eqT q)) <| y0 J (aB J) <| yN <| pw_ret ?_
 obtain rfl := oj h
 exact ⟨J, [_], ⟨J, tr⟩, J, io⟩

theorem r06_Same_ok {a0 : r06_Store} {a1 : r06_Store} {r : Bool} (h : r06_Same a0 a1 = some r) : PCalls Tryz.prog 76 [r06_Store.Pv a0, r06_Store.Pv a1] (.bool r) := by
 unfold r06_Same at h
 refine pc_intro (N := 78) Tryz.func76 J J nl fun w0 imm0 => sR <| y1 J (o_box (d := r06_Store.Pv a0) (z := 3) (cl := true) J J J J J) J <| y1 J (o_box (d := r06_Store.Pv a1) (z := 3) (cl := true) J J J J J) J <| y0 J (aB J) <| yN <| pw_seq <| sR ?_
 refine y0 J (oF J Ty.f42_1 J) <| y0 J (oS J J J Ty.a3 J) <| y0 J (oF J Ty.f42_1 J) <| y0 J (oS J J J Ty.a3 J) <| y0 J (o_cmp J J J) <| y0 J (mB J) <| y_if J (fun hg => oF J Ty.f42_2 J) <| y_if J (fun hg => oS (ct hg) J J Ty.a3 J) ?_
 refine y_if J (fun hg => oF J Ty.f42_2 J) <| y_if J (fun hg => oS (ct hg) J J Ty.a3 J) <| y_if J (fun hg => o_cmp (ct hg) (ct hg) J) <| y0 J (pk_or J J J (fun q => eqF q)) <| y0 J (mB J) <| y_if J (fun hg => oF J Ty.f42_0 J) <| y_if J (fun hg => oS (ct hg) J J Ty.a40 J) <| y_if J (fun hg => o_lnL (f := r06_Cell.Pv) (ct hg) Ty.e40) ?_
 refine y_if J (fun hg => oF J Ty.f42_0 J) <| y_if J (fun hg => oS (ct hg) J J Ty.a40 J) <| y_if J (fun hg => o_lnL (f := r06_Cell.Pv) (ct hg) Ty.e40) <| y_if J (fun hg => o_cmp (ct hg) (ct hg) J) <| y0 J (pk_or J J J (fun q => eqF q)) <| yN ?_
 refine pw_cond (((a0.Last != a1.Last) || (a0.Serial != a1.Serial)) || ((a0.Cells.length : Int) != (a1.Cells.length : Int))) J (fun hc => ?_) (fun hc => ?_)
 ·have h := ifT h hc
  refine sR <| y0 J (aB J) <| yN <| pw_ret ?_
  obtain rfl := oj h
  exact ⟨J, [_], ⟨J, tr⟩, J, io⟩
 ·have h := ifF h hc
  refine pw_skip ?_
  obtain ⟨κ7, hκ7, h⟩ := jnE h
  refine pw_jn0 (κ := κ7) (r := r) (fun (_ : Unit) => St.of [] []) (fun q8 h => ?_) ?_
  ·subst hκ7
   refine sR <| y0 J (aB J) <| yN <| pw_ret ?_
   obtain rfl := oj h
   exact ⟨J, [_], ⟨J, tr⟩, J, io⟩
  ·skip
   refine sR <| y0 J (aI J) <| yN <| pw_block ?_
   obtain ⟨e9, hl8, hk9⟩ := bindE h
   refine pw_lp0 (fun (s10 : Int) => St.of [(2, .ptr 2 0 0), (3, .ptr 3 0 0), (5, .I s10)] [(3, ⟨[r06_Store.Pv a1], 0, false, 3, true⟩), (2, ⟨[r06_Store.Pv a0], 0, false, 3, true⟩)]) hl8 (wk_st _ _ ⟨J, J, J, J, J, J, J, J, J, tr⟩ ⟨rS, rS, tr⟩) (fun s10 x11 h hx10 => ?_)
   refine pw_seq <| sR <| y0 J (mI J) <| y0 J (oF J Ty.f42_0 J) <| y0 J (oS J J J Ty.a40 J) <| y0 J (o_lnL (f := r06_Cell.Pv) J Ty.e40) <| y0 J (o_cmp J J J) <| yN ?_
   refine pw_cond (decide (s10 < (a0.Cells.length : Int))) J (fun hc => ?_) (fun hc => ?_)
   ·have h := ifT h hc
    refine pw_skip <| pw_seq <| pw_block <| dr [] Ty.mix (by kernel_rfl) (by kernel_rfl) <| d7 J (fun _ hN => oF J Ty.f42_0 J) J <| d0 J (oS J J J Ty.a40 J) J <| d7 J (fun _ hN => mI J) J ?_
    obtain ⟨v12, hv11, h⟩ := bindE h
    refine d0 J (o_ixL (f := r06_Cell.Pv) (cs := r06_Cell.Pc v12) hv11 J J Ty.e40 Ty.s139 J J) J <| d7 J (fun _ hN => o_fieldAddrR J Ty.f139_0 J) J <| d0 J (o_loadRS J Ty.a3 J) J <| d7 J (fun _ hN => oF J Ty.f42_0 J) J <| d0 J (oS J J J Ty.a40 J) J <| d7 J (fun _ hN => mI J) J ?_
    obtain ⟨v13, hv12, h⟩ := bindE h
    refine d0 J (o_ixL (f := r06_Cell.Pv) (cs := r06_Cell.Pc v13) hv12 J J Ty.e40 Ty.s139 J J) J <| d7 J (fun _ hN => o_fieldAddrR J Ty.f139_0 J) J <| d0 J (o_loadRS J Ty.a3 J) J <| d7 J (fun _ hN => o_cmp J J J) J <| d7 J (fun _ hN => mB J) J <| d_if7 J (fun hg _ hN => oF J Ty.f42_0 J) J <| d_if0 J (fun hg => oS (ct hg) J J Ty.a40 J) J <| d_if7 J (fun hg _ hN => mI J) J ?_
    refine d_if0 J (fun hg => o_ixL (f := r06_Cell.Pv) (cs := r06_Cell.Pc v12) hv11 (ct hg) (ct hg) Ty.e40 Ty.s139 J J) J <| d_if7 J (fun hg _ hN => o_fieldAddrR (ct hg) Ty.f139_1 J) J <| d_if0 J (fun hg => o_loadRS (ct hg) Ty.a3 J) J <| d_if7 J (fun hg _ hN => oF J Ty.f42_0 J) J <| d_if0 J (fun hg => oS (ct hg) J J Ty.a40 J) J <| d_if7 J (fun hg _ hN => mI J) J <| d_if0 J (fun hg => o_ixL (f := r06_Cell.Pv) (cs := r06_Cell.Pc v13) hv12 (ct hg) (ct hg) Ty.e40 Ty.s139 J J) J <| d_if7 J (fun hg _ hN => o_fieldAddrR (ct hg) Ty.f139_1 J) J ?_
    refine d_if0 J (fun hg => o_loadRS (ct hg) Ty.a3 J) J <| d_if7 J (fun hg _ hN => o_cmp (ct hg) (ct hg) J) J <| d7 J (fun _ hN => pk_or J J J (fun q => eqF q)) J <| d7 J (fun _ hN => mB J) J <| d_if7 J (fun hg _ hN => oF J Ty.f42_0 J) J <| d_if0 J (fun hg => oS (ct hg) J J Ty.a40 J) J <| d_if7 J (fun hg _ hN => mI J) J <| d_if0 J (fun hg => o_ixL (f := r06_Cell.Pv) (cs := r06_Cell.Pc v12) hv11 (ct hg) (ct hg) Ty.e40 Ty.s139 J J) J ?_
    refine d_if7 J (fun hg _ hN => o_fieldAddrR (ct hg) Ty.f139_2 J) J <| d_if0 J (fun hg => o_loadRA (ct hg) Ty.a63 Ty.s63 nl J) J <| d_if7 J (fun hg _ hN => oF J Ty.f42_0 J) J <| d_if0 J (fun hg => oS (ct hg) J J Ty.a40 J) J <| d_if7 J (fun hg _ hN => mI J) J <| d_if0 J (fun hg => o_ixL (f := r06_Cell.Pv) (cs := r06_Cell.Pc v13) hv12 (ct hg) (ct hg) Ty.e40 Ty.s139 J J) J <| d_if7 J (fun hg _ hN => o_fieldAddrR (ct hg) Ty.f139_2 J) J <| d_if0 J (fun hg => o_loadRA (ct hg) Ty.a63 Ty.s63 nl J) J ?_
    obtain ⟨v14, hv13, h⟩ := bindE h
    refine d_if2 J (fun hg => o_call J Ty.k160 (consE (ct hg) (consE (ct hg) J)) (r06_Alike_ok (onlyE hv13 hg))) J <| d_if7 J (fun hg _ hN => o_not (ct hg) J) J <| d7 J (fun _ hN => pk_or J J J (fun q => eqF q)) J <| d_nil ?_
    refine pw_cond (((v12.State != v13.State) || (v12.Gen != v13.Gen)) || (!v14)) J (fun hc => ?_) (fun hc => ?_)
    ·have h := ifT h hc
     refine sR <| y0 J (aB J) <| yN <| pw_ret ?_
     have he := hx10 _ (oj h).symm
     have h := hk9
     rw [← he] at h
     obtain rfl := oj h
     exact ⟨J, [_], ⟨J, tr⟩, J, io⟩
    ·have h := ifF h hc
     refine pw_skip <| s1 <| y0 J (mI J) <| y0 J (o_ari J J J) <| y0 J (aI J) <| yN ?_
     exact ⟨J, w64 (s10 + 1), (oj h).symm, (wk_st _ _ ⟨J, J, J, J, J, J, J, J, J, tr⟩ ⟨rS, rS, tr⟩)⟩
   ·have h := ifF h hc
    refine pw_exit <| thenQ_exit <| thenQ_exit <| blockQ_exit ?_
    have he := hx10 _ (oj h).symm
    have h := hk9
    rw [← he] at h
    exact ⟨J, (), h, (wk_st _ _ tr tr)⟩

theorem r09_Same_ok {a0 : List r09_Cell} {a1 : List r09_Cell} {r : Bool} (h : r09_Same a0 a1 = some r) : PCalls Tryz.prog 77 [.L r09_Cell.Pv a0, .L r09_Cell.Pv a1] (.bool r) := by
 unfold r09_Same at h
 refine pc_intro (N := 26) Tryz.func77 J J nl fun w0 imm0 => sR <| y0 J (aB J) <| yN <| pw_seq <| sR <| y0 J (om (d := .L r09_Cell.Pv a0) J) <| y0 J (o_lnL (f := r09_Cell.Pv) J Ty.e43) ?_
 refine y0 J (om (d := .L r09_Cell.Pv a1) J) <| y0 J (o_lnL (f := r09_Cell.Pv) J Ty.e43) <| y0 J (o_cmp J J J) <| yN ?_
 refine pw_cond ((a0.length : Int) != (a1.length : Int)) J (fun hc => ?_) (fun hc => ?_)
 ·have h := ifT h hc
  refine sR <| y0 J (aB J) <| yN <| pw_ret ?_
  obtain rfl := oj h
  exact ⟨J, [_], ⟨J, tr⟩, J, io⟩
 ·have h := ifF h hc
  refine pw_skip ?_
  obtain ⟨κ6, hκ6, h⟩ := jnE h
  refine pw_jn0 (κ := κ6) (r := r) (fun (_ : Unit) => St.of [] []) (fun q7 h => ?_) ?_
  ·subst hκ6
   refine sR <| y0 J (aB J) <| yN <| pw_ret ?_
   obtain rfl := oj h
   exact ⟨J, [_], ⟨J, tr⟩, J, io⟩
  ·skip
   refine sR <| y0 J (aI J) <| yN <| pw_block ?_
   obtain ⟨e8, hl7, hk8⟩ := bindE h
   refine pw_lp0 (fun (s9 : Int) => St.of [(0, .L r09_Cell.Pv a0), (1, .L r09_Cell.Pv a1), (5, .I s9)] []) hl7 (wk_st _ _ ⟨J, J, J, J, J, J, J, J, J, tr⟩ tr) (fun s9 x10 h hx9 => ?_)
   refine pw_seq <| sR <| y0 J (mI J) <| y0 J (om (d := .L r09_Cell.Pv a0) J) <| y0 J (o_lnL (f := r09_Cell.Pv) J Ty.e43) <| y0 J (o_cmp J J J) <| yN ?_
   refine pw_cond (decide (s9 < (a0.length : Int))) J (fun hc => ?_) (fun hc => ?_)
   ·have h := ifT h hc
    refine pw_skip <| pw_seq <| pw_block <| dr [] Ty.mix (by kernel_rfl) (by kernel_rfl) <| d7 J (fun _ hN => om (d := .L r09_Cell.Pv a0) J) J <| d7 J (fun _ hN => mI J) J ?_
    obtain ⟨v11, hv10, h⟩ := bindE h
    refine d0 J (o_ixL (f := r09_Cell.Pv) (cs := r09_Cell.Pc v11) hv10 J J Ty.e43 Ty.s160 J J) J <| d0 J (o_loadRA J Ty.a160 Ty.s160 nl J) J <| d7 J (fun _ hN => om (d := .L r09_Cell.Pv a1) J) J <| d7 J (fun _ hN => mI J) J ?_
    obtain ⟨v12, hv11, h⟩ := bindE h
    refine d0 J (o_ixL (f := r09_Cell.Pv) (cs := r09_Cell.Pc v12) hv11 J J Ty.e43 Ty.s160 J J) J <| d0 J (o_loadRA J Ty.a160 Ty.s160 nl J) J <| d7 J (fun _ hN => o_neA (xs := r09_Cell.Pc v11) (ys := r09_Cell.Pc v12) Ty.q160 J J J J) J <| d_nil ?_
    refine pw_cond (!((v11.Target == v12.Target) && ((v11.Intact == v12.Intact) && ((v11.Call == v12.Call) && true)))) J (fun hc => ?_) (fun hc => ?_)
    ·have h := ifT h hc
     refine sR <| y0 J (aB J) <| yN <| pw_ret ?_
     have he := hx9 _ (oj h).symm
     have h := hk8
     rw [← he] at h
     obtain rfl := oj h
     exact ⟨J, [_], ⟨J, tr⟩, J, io⟩
    ·have h := ifF h hc
     refine pw_skip <| s1 <| y0 J (mI J) <| y0 J (o_ari J J J) <| y0 J (aI J) <| yN ?_
     exact ⟨J, w64 (s9 + 1), (oj h).symm, (wk_st _ _ ⟨J, J, J, J, J, J, J, J, J, tr⟩ tr)⟩
   ·have h := ifF h hc
    refine pw_exit <| thenQ_exit <| thenQ_exit <| blockQ_exit ?_
    have he := hx9 _ (oj h).symm
    have h := hk8
    rw [← he] at h
    exact ⟨J, (), h, (wk_st _ _ tr tr)⟩

theorem r10_Same_ok {a0 : List r10_Place} {a1 : List r10_Place} {r : Bool} (h : r10_Same a0 a1 = some r) : PCalls Tryz.prog 78 [.L r10_Place.Pv a0, .L r10_Place.Pv a1] (.bool r) := by
 unfold r10_Same at h
 refine pc_intro (N := 26) Tryz.func78 J J nl fun w0 imm0 => sR <| y0 J (aB J) <| yN <| pw_seq <| sR <| y0 J (om (d := .L r10_Place.Pv a0) J) <| y0 J (o_lnL (f := r10_Place.Pv) J Ty.e44) ?_
 refine y0 J (om (d := .L r10_Place.Pv a1) J) <| y0 J (o_lnL (f := r10_Place.Pv) J Ty.e44) <| y0 J (o_cmp J J J) <| yN ?_
 refine pw_cond ((a0.length : Int) != (a1.length : Int)) J (fun hc => ?_) (fun hc => ?_)
 ·have h := ifT h hc
  refine sR <| y0 J (aB J) <| yN <| pw_ret ?_
  obtain rfl := oj h
  exact ⟨J, [_], ⟨J, tr⟩, J, io⟩
 ·have h := ifF h hc
  refine pw_skip ?_
  obtain ⟨κ6, hκ6, h⟩ := jnE h
  refine pw_jn0 (κ := κ6) (r := r) (fun (_ : Unit) => St.of [] []) (fun q7 h => ?_) ?_
  ·subst hκ6
   refine sR <| y0 J (aB J) <| yN <| pw_ret ?_
   obtain rfl := oj h
   exact ⟨J, [_], ⟨J, tr⟩, J, io⟩
  ·skip
   refine sR <| y0 J (aI J) <| yN <| pw_block ?_
   obtain ⟨e8, hl7, hk8⟩ := bindE h
   refine pw_lp0 (fun (s9 : Int) => St.of [(0, .L r10_Place.Pv a0), (1, .L r10_Place.Pv a1), (5, .I s9)] []) hl7 (wk_st _ _ ⟨J, J, J, J, J, J, J, J, J, tr⟩ tr) (fun s9 x10 h hx9 => ?_)
   refine pw_seq <| sR <| y0 J (mI J) <| y0 J (om (d := .L r10_Place.Pv a0) J) <| y0 J (o_lnL (f := r10_Place.Pv) J Ty.e44) <| y0 J (o_cmp J J J) <| yN ?_
   refine pw_cond (decide (s9 < (a0.length : Int))) J (fun hc => ?_) (fun hc => ?_)
   ·have h := ifT h hc
    refine pw_skip <| pw_seq <| pw_block <| dr [] Ty.mix (by kernel_rfl) (by kernel_rfl) <| d7 J (fun _ hN => om (d := .L r10_Place.Pv a0) J) J <| d7 J (fun _ hN => mI J) J ?_
    obtain ⟨v11, hv10, h⟩ := bindE h
    refine d0 J (o_ixL (f := r10_Place.Pv) (cs := r10_Place.Pc v11) hv10 J J Ty.e44 Ty.s182 J J) J <| d0 J (o_loadRA J Ty.a182 Ty.s182 nl J) J <| d7 J (fun _ hN => om (d := .L r10_Place.Pv a1) J) J <| d7 J (fun _ hN => mI J) J ?_
    obtain ⟨v12, hv11, h⟩ := bindE h
    refine d0 J (o_ixL (f := r10_Place.Pv) (cs := r10_Place.Pc v12) hv11 J J Ty.e44 Ty.s182 J J) J <| d0 J (o_loadRA J Ty.a182 Ty.s182 nl J) J <| d7 J (fun _ hN => o_neA (xs := r10_Place.Pc v11) (ys := r10_Place.Pc v12) Ty.q182 J J J J) J <| d_nil ?_
    refine pw_cond (!((v11.State == v12.State) && ((v11.Key == v12.Key) && ((v11.Val == v12.Val) && true)))) J (fun hc => ?_) (fun hc => ?_)
    ·have h := ifT h hc
     refine sR <| y0 J (aB J) <| yN <| pw_ret ?_
     have he := hx9 _ (oj h).symm
     have h := hk8
     rw [← he] at h
     obtain rfl := oj h
     exact ⟨J, [_], ⟨J, tr⟩, J, io⟩
    ·have h := ifF h hc
     refine pw_skip <| s1 <| y0 J (mI J) <| y0 J (o_ari J J J) <| y0 J (aI J) <| yN ?_
     exact ⟨J, w64 (s9 + 1), (oj h).symm, (wk_st _ _ ⟨J, J, J, J, J, J, J, J, J, tr⟩ tr)⟩
   ·have h := ifF h hc
    refine pw_exit <| thenQ_exit <| thenQ_exit <| blockQ_exit ?_
    have he := hx9 _ (oj h).symm
    have h := hk8
    rw [← he] at h
    exact ⟨J, (), h, (wk_st _ _ tr tr)⟩

theorem r14_Same_ok {a0 : r14_Queue} {a1 : r14_Queue} {r : Bool} (h : r14_Same a0 a1 = some r) : PCalls Tryz.prog 79 [r14_Queue.Pv a0, r14_Queue.Pv a1] (.bool r) := by
 unfold r14_Same at h
 refine pc_intro (N := 38) Tryz.func79 J J nl fun w0 imm0 => sR <| y1 J (o_box (d := r14_Queue.Pv a0) (z := 2) (cl := true) J J J J J) J <| y1 J (o_box (d := r14_Queue.Pv a1) (z := 2) (cl := true) J J J J J) J <| y0 J (aB J) <| yN <| pw_seq <| sR ?_
 refine y0 J (oF J Ty.f47_1 J) <| y0 J (oS J J J Ty.a3 J) <| y0 J (oF J Ty.f47_1 J) <| y0 J (oS J J J Ty.a3 J) <| y0 J (o_cmp J J J) <| y0 J (mB J) <| y_if J (fun hg => oF J Ty.f47_0 J) <| y_if J (fun hg => oS (ct hg) J J Ty.a45 J) ?_
 refine y_if J (fun hg => o_lnL (f := r14_Task.Pv) (ct hg) Ty.e45) <| y_if J (fun hg => oF J Ty.f47_0 J) <| y_if J (fun hg => oS (ct hg) J J Ty.a45 J) <| y_if J (fun hg => o_lnL (f := r14_Task.Pv) (ct hg) Ty.e45) <| y_if J (fun hg => o_cmp (ct hg) (ct hg) J) <| y0 J (pk_or J J J (fun q => eqF q)) <| yN ?_
 refine pw_cond ((a0.Cap != a1.Cap) || ((a0.L.length : Int) != (a1.L.length : Int))) J (fun hc => ?_) (fun hc => ?_)
 ·have h := ifT h hc
  refine sR <| y0 J (aB J) <| yN <| pw_ret ?_
  obtain rfl := oj h
  exact ⟨J, [_], ⟨J, tr⟩, J, io⟩
 ·have h := ifF h hc
  refine pw_skip ?_
  obtain ⟨κ6, hκ6, h⟩ := jnE h
  refine pw_jn0 (κ := κ6) (r := r) (fun (_ : Unit) => St.of [] []) (fun q7 h => ?_) ?_
  ·subst hκ6
   refine sR <| y0 J (aB J) <| yN <| pw_ret ?_
   obtain rfl := oj h
   exact ⟨J, [_], ⟨J, tr⟩, J, io⟩
  ·skip
   refine sR <| y0 J (aI J) <| yN <| pw_block ?_
   obtain ⟨e8, hl7, hk8⟩ := bindE h
   refine pw_lp0 (fun (s9 : Int) => St.of [(2, .ptr 2 0 0), (3, .ptr 3 0 0), (5, .I s9)] [(3, ⟨[r14_Queue.Pv a1], 0, false, 2, true⟩), (2, ⟨[r14_Queue.Pv a0], 0, false, 2, true⟩)]) hl7 (wk_st _ _ ⟨J, J, J, J, J, J, J, J, J, tr⟩ ⟨rS, rS, tr⟩) (fun s9 x10 h hx9 => ?_)
   refine pw_seq <| sR <| y0 J (mI J) <| y0 J (oF J Ty.f47_0 J) <| y0 J (oS J J J Ty.a45 J) <| y0 J (o_lnL (f := r14_Task.Pv) J Ty.e45) <| y0 J (o_cmp J J J) <| yN ?_
   refine pw_cond (decide (s9 < (a0.L.length : Int))) J (fun hc => ?_) (fun hc => ?_)
   ·have h := ifT h hc
    refine pw_skip <| pw_seq <| pw_block <| dr [] Ty.mix (by kernel_rfl) (by kernel_rfl) <| d7 J (fun _ hN => oF J Ty.f47_0 J) J <| d0 J (oS J J J Ty.a45 J) J <| d7 J (fun _ hN => mI J) J ?_
    obtain ⟨v11, hv10, h⟩ := bindE h
    refine d0 J (o_ixL (f := r14_Task.Pv) (cs := r14_Task.Pc v11) hv10 J J Ty.e45 Ty.s151 J J) J <| d0 J (o_loadRA J Ty.a151 Ty.s151 nl J) J <| d7 J (fun _ hN => oF J Ty.f47_0 J) J <| d0 J (oS J J J Ty.a45 J) J <| d7 J (fun _ hN => mI J) J ?_
    obtain ⟨v12, hv11, h⟩ := bindE h
    refine d0 J (o_ixL (f := r14_Task.Pv) (cs := r14_Task.Pc v12) hv11 J J Ty.e45 Ty.s151 J J) J <| d0 J (o_loadRA J Ty.a151 Ty.s151 nl J) J <| d7 J (fun _ hN => o_neA (xs := r14_Task.Pc v11) (ys := r14_Task.Pc v12) Ty.q151 J J J J) J <| d_nil ?_
    refine pw_cond (!((v11.Kind == v12.Kind) && ((v11.At == v12.At) && ((v11.Prog == v12.Prog) && true)))) J (fun hc => ?_) (fun hc => ?_)
    ·have h := ifT h hc
     refine sR <| y0 J (aB J) <| yN <| pw_ret ?_
     have he := hx9 _ (oj h).symm
     have h := hk8
     rw [← he] at h
     obtain rfl := oj h
     exact ⟨J, [_], ⟨J, tr⟩, J, io⟩
    ·have h := ifF h hc
     refine pw_skip <| s1 <| y0 J (mI J) <| y0 J (o_ari J J J) <| y0 J (aI J) <| yN ?_
     exact ⟨J, w64 (s9 + 1), (oj h).symm, (wk_st _ _ ⟨J, J, J, J, J, J, J, J, J, tr⟩ ⟨rS, rS, tr⟩)⟩
   ·have h := ifF h hc
    refine pw_exit <| thenQ_exit <| thenQ_exit <| blockQ_exit ?_
    have he := hx9 _ (oj h).symm
    have h := hk8
    rw [← he] at h
    exact ⟨J, (), h, (wk_st _ _ tr tr)⟩

theorem r15_Same_ok {a0 : r15_Heap} {a1 : r15_Heap} {r : Bool} (h : r15_Same a0 a1 = some r) : PCalls Tryz.prog 23 [r15_Heap.Pv a0, r15_Heap.Pv a1] (.bool r) := by
 unfold r15_Same at h
 refine pc_intro (N := 38) Tryz.func23 J J nl fun w0 imm0 => sR <| y1 J (o_box (d := r15_Heap.Pv a0) (z := 8) (cl := true) J J J J J) J <| y1 J (o_box (d := r15_Heap.Pv a1) (z := 8) (cl := true) J J J J J) J <| y0 J (aB J) <| yN <| sR <| y0 J (oF J Ty.f49_0 J) ?_
 refine y0 J (oL J J J Ty.a42 Ty.s42 nl J) <| y0 J (oF J Ty.f49_0 J) <| y0 J (oL J J J Ty.a42 Ty.s42 nl J) ?_
 obtain ⟨v1, hv1, h⟩ := bindE h
 refine y0 J (o_call J Ty.k76 J (r06_Same_ok hv1)) <| y0 J (mB J) <| y_if J (fun hg => oF J Ty.f49_1 J) <| y_if J (fun hg => oS (ct hg) J J Ty.a27 J) <| y_if J (fun hg => oF J Ty.f49_1 J) <| y_if J (fun hg => oS (ct hg) J J Ty.a27 J) ?_
 obtain ⟨v2, hv2, h⟩ := bindE h
 refine y_if J (fun hg => o_call J Ty.k41 (consE (ct hg) (consE (ct hg) J)) (r02_Ints_ok (onlyE hv2 hg))) <| y0 J (pk_and J J J (fun q => eqT q)) <| y0 J (mB J) <| y_if J (fun hg => oF J Ty.f49_2 J) <| y_if J (fun hg => oS (ct hg) J J Ty.a43 J) <| y_if J (fun hg => oF J Ty.f49_2 J) <| y_if J (fun hg => oS (ct hg) J J Ty.a43 J) ?_
 obtain ⟨v3, hv3, h⟩ := bindE h
 refine y_if J (fun hg => o_call J Ty.k77 (consE (ct hg) (consE (ct hg) J)) (r09_Same_ok (onlyE hv3 hg))) <| y0 J (pk_and J J J (fun q => eqT q)) <| y0 J (mB J) <| y_if J (fun hg => oF J Ty.f49_3 J) <| y_if J (fun hg => oS (ct hg) J J Ty.a44 J) <| y_if J (fun hg => oF J Ty.f49_3 J) <| y_if J (fun hg => oS (ct hg) J J Ty.a44 J) ?_
 obtain ⟨v4, hv4, h⟩ := bindE h
 refine y_if J (fun hg => o_call J Ty.k78 (consE (ct hg) (consE (ct hg) J)) (r10_Same_ok (onlyE hv4 hg))) <| y0 J (pk_and J J J (fun q => eqT q)) <| y0 J (mB J) <| y_if J (fun hg => oF J Ty.f49_4 J) <| y_if J (fun hg => oL (ct hg) J J Ty.a47 Ty.s47 nl J) <| y_if J (fun hg => oF J Ty.f49_4 J) <| y_if J (fun hg => oL (ct hg) J J Ty.a47 Ty.s47 nl J) ?_
 obtain ⟨v5, hv5, h⟩ := bindE h
 refine y_if J (fun hg => o_call J Ty.k79 (consE (ct hg) (consE (ct hg) J)) (r14_Same_ok (onlyE hv5 hg))) <| y0 J (pk_and J J J (fun q => eqT q)) <| y0 J (aB J) <| yN <| pw_ret ?_
 obtain rfl := oj h
 exact ⟨J, [_], ⟨J, tr⟩, J, io⟩

theorem w15_HoldNames_ok {a0 : hold_Heap} {a1 : Int} {a2 : Int} {a3 : Int} {r : Bool} (h : w15_HoldNames a0 a1 a2 a3 = some r) : PCalls Tryz.prog 3 [hold_Heap.Pv a0, .I a1, .I a2, .I a3] (.bool r) := by
 unfold w15_HoldNames at h
 refine pc_intro (N := 85) Tryz.func3 J J nl fun w0 imm0 => sR <| y1 J (o_box (d := hold_Heap.Pv a0) (z := 8) (cl := true) J J J J J) J <| y0 J (aB J) <| yN <| pw_seq <| sR <| y0 J (oL J J J Ty.a34 Ty.s34 nl J) ?_
 obtain ⟨v1, hv1, h⟩ := bindE h
 refine y0 J (o_call J Ty.k15 J (w15_sound_ok hv1)) <| y0 J (o_not J J) <| y0 J (mB J) ?_
 obtain ⟨v2, hv2, h⟩ := bindE h
 refine y_if J (fun hg => o_call J Ty.k16 J (w15_shown_ok (onlyE hv2 hg))) <| y_if J (fun hg => o_not (ct hg) J) <| y0 J (pk_or J J J (fun q => eqF q)) <| yN ?_
 refine pw_cond ((!v1) || (!v2)) J (fun hc => ?_) (fun hc => ?_)
 ·have h := ifT h hc
  refine sR ?_
  obtain ⟨v3, hv3, h⟩ := bindE h
  refine y0 J (o_call J Ty.k16 J (w15_shown_ok hv3)) <| y0 J (aB J) <| yN <| pw_ret ?_
  obtain rfl := oj h
  exact ⟨J, [_], ⟨J, tr⟩, J, io⟩
 ·have h := ifF h hc
  refine pw_skip <| sR <| y0 J (oL J J J Ty.a34 Ty.s34 nl J) <| y0 J (mI J) <| y0 J (mI J) ?_
  obtain ⟨v4, hv4, h⟩ := bindE h
  refine yc J (o_callF J Ty.k17 J (hold_Root_ok hv4)) <| y0 J (om (d := .tup [hold_Heap.Pv v4.1, .I v4.2]) J) <| y0 J (oX J J) <| y0 J (oX J J) <| y1 J (o_alloc (d := .agg [.lst true (List.map slab_Cell_store_Obj.Pv []), .I 0, .I 0, .lst true (List.map iF []), .lst true (List.map weak_Cell.Pv []), .lst true (List.map hash_Place.Pv []), .lst true (List.map task_Task.Pv []), .I 0]) (z := 8) J Ty.z34 J J J) J <| y_sto (x' := hold_Heap.Pv v4.1) (cl' := true) J J (.inr J) Ty.s34 <| y0 J (aI J) <| yN ?_
  refine sR <| y0 J (oL J J J Ty.a34 Ty.s34 nl J) ?_
  obtain ⟨v5, hv5, h⟩ := bindE h
  refine yc J (o_callF J Ty.k19 J (w15_heap_ok hv5)) <| y0 J (mI J) <| y0 J (mI J) ?_
  obtain ⟨v6, hv6, h⟩ := bindE h
  refine yc J (o_callF J Ty.k18 J (r15_Root_ok hv6)) <| y0 J (om (d := .tup [r15_Heap.Pv v6.1, .I v6.2]) J) <| y0 J (oX J J) <| y0 J (oX J J) <| y1 J (o_alloc (d := .agg [.lst true (List.map r06_Cell.Pv []), .I 0, .I 0, .lst true (List.map iF []), .lst true (List.map r09_Cell.Pv []), .lst true (List.map r10_Place.Pv []), .lst true (List.map r14_Task.Pv []), .I 0]) (z := 8) J Ty.z49 J J J) J <| y_sto (x' := r15_Heap.Pv v6.1) (cl' := true) J J (.inr J) Ty.s49 <| y0 J (aI J) <| yN ?_
  refine sR <| y0 J (oL J J J Ty.a34 Ty.s34 nl J) <| y0 J (mI J) <| y0 J (mI J) <| y0 J (mI J) ?_
  obtain ⟨v7, hv7, h⟩ := bindE h
  refine yc J (o_callF J Ty.k20 J (hold_Field_ok hv7)) <| y0 J (om (d := .tup [hold_Heap.Pv v7.1, .I v7.2]) J) <| y0 J (oX J J) <| y0 J (oX J J) <| y1 J (o_alloc (d := .agg [.lst true (List.map slab_Cell_store_Obj.Pv []), .I 0, .I 0, .lst true (List.map iF []), .lst true (List.map weak_Cell.Pv []), .lst true (List.map hash_Place.Pv []), .lst true (List.map task_Task.Pv []), .I 0]) (z := 8) J Ty.z34 J J J) J <| y_sto (x' := hold_Heap.Pv v7.1) (cl' := true) J J (.inr J) Ty.s34 <| y0 J (aI J) <| yN ?_
  refine sR <| y0 J (oL J J J Ty.a34 Ty.s34 nl J) <| yc J (o_callF J Ty.k19 J (w15_heap_ok hv5)) <| y0 J (mI J) <| y0 J (mI J) <| y0 J (mI J) ?_
  obtain ⟨v8, hv8, h⟩ := bindE h
  refine yc J (o_callF J Ty.k21 J (r15_Field_ok hv8)) <| y0 J (om (d := .tup [r15_Heap.Pv v8.1, .I v8.2]) J) <| y0 J (oX J J) <| y0 J (oX J J) <| y1 J (o_alloc (d := .agg [.lst true (List.map r06_Cell.Pv []), .I 0, .I 0, .lst true (List.map iF []), .lst true (List.map r09_Cell.Pv []), .lst true (List.map r10_Place.Pv []), .lst true (List.map r14_Task.Pv []), .I 0]) (z := 8) J Ty.z49 J J J) J <| y_sto (x' := r15_Heap.Pv v8.1) (cl' := true) J J (.inr J) Ty.s49 <| y0 J (aI J) <| yN ?_
  refine dr [] Ty.mix (by kernel_rfl) (by kernel_rfl) <| d0 J (oL J J J Ty.a34 Ty.s34 nl J) J ?_
  obtain ⟨v9, hv9, h⟩ := bindE h
  refine d2 J (o_call J Ty.k22 J (w15_few_ok hv9)) J <| d7 J (fun _ hN => mB J) J <| d_if0 J (fun hg => oL J J J Ty.a34 Ty.s34 nl J) J ?_
  obtain ⟨v10, hv10, h⟩ := bindE h
  refine d_if2 J (fun hg => o_call J Ty.k22 (consE (ct hg) J) (w15_few_ok (onlyE hv10 hg))) J <| d7 J (fun _ hN => pk_and J J J (fun q => eqT q)) J <| d7 J (fun _ hN => mB J) J <| d_if0 J (fun hg => oL J J J Ty.a34 Ty.s34 nl J) J ?_
  obtain ⟨v11, hv11, h⟩ := bindE h
  refine d_if2f J (fun hg => o_callF J Ty.k19 (consE (ct hg) J) (w15_heap_ok (onlyE hv11 hg))) J <| d_if0 J (fun hg => oL J J J Ty.a49 Ty.s49 nl J) J ?_
  obtain ⟨v12, hv12, h⟩ := bindE h
  refine d_if2 J (fun hg => o_call J Ty.k23 (consE (ct hg) (consE (ct hg) J)) (r15_Same_ok (onlyE hv12 hg))) J <| d7 J (fun _ hN => pk_and J J J (fun q => eqT q)) J <| d7 J (fun _ hN => mB J) J <| d_if7 J (fun hg _ hN => mI J) J <| d_if7 J (fun hg _ hN => mI J) J <| d_if7 J (fun hg _ hN => o_cmp (ct hg) (ct hg) J) J <| d7 J (fun _ hN => pk_and J J J (fun q => eqT q)) J <| d7 J (fun _ hN => mB J) J ?_
  refine d_if0 J (fun hg => oL J J J Ty.a34 Ty.s34 nl J) J ?_
  obtain ⟨v13, hv13, h⟩ := bindE h
  refine d_if2f J (fun hg => o_callF J Ty.k19 (consE (ct hg) J) (w15_heap_ok (onlyE hv13 hg))) J <| d_if0 J (fun hg => oL J J J Ty.a49 Ty.s49 nl J) J ?_
  obtain ⟨v14, hv14, h⟩ := bindE h
  refine d_if2 J (fun hg => o_call J Ty.k23 (consE (ct hg) (consE (ct hg) J)) (r15_Same_ok (onlyE hv14 hg))) J <| d7 J (fun _ hN => pk_and J J J (fun q => eqT q)) J <| d7 J (fun _ hN => mB J) J <| d_if7 J (fun hg _ hN => mI J) J <| d_if7 J (fun hg _ hN => mI J) J <| d_if7 J (fun hg _ hN => o_cmp (ct hg) (ct hg) J) J <| d7 J (fun _ hN => pk_and J J J (fun q => eqT q)) J <| d7 J (fun _ hN => aB J) J ?_
  refine d_nil <| pw_ret ?_
  obtain rfl := oj h
  exact ⟨J, [_], ⟨J, tr⟩, J, io⟩

end Go.Proofs.YtnfmdpblilpcbaaGreat.Ok
