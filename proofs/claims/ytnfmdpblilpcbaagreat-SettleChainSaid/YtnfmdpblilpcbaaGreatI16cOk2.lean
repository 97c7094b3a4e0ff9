/-
 The functions of the program do as the plain functions do.
-/
import Derived.Test.YtnfmdpblilpcbaaGreatI16cOk1
namespace Go.Proofs.YtnfmdpblilpcbaaGreat.Ok
open Go Go.Pw Go.Sh Go.Proofs
set_option linter.unusedVariables false
set_option maxRecDepth 100000
set_option maxHeartbeats 4000000
theorem hold_tasksFit_ok {a0} : PO Tryz.prog 149 [hold_Heap.Pv a0] (hold_tasksFit a0) fun r => .bool r := by
 refine pO Tryz.func149 fun r h _ _ => ?_
 refine S4 2 J <| sR <| y_mkM (KT := task_Task) (VT := Bool) (EK := task_Task.Pv) (E := PV.bool) 5000004 J J <| S2 2 J <| S3 4 J <| y_wk (WPE (fun l => if l = 2001 then 1 else if l = 2002 then 3 else if l = 5002003 then 5000004 else l) [(7, .L task_Task.Pv a0.Q.L), (8, .fn (.func 208) [.ptr 2002 0 0, .ptr 2001 0 0])] [(2001, vR (hold_Heap.Pv a0) 8), (2002, vS (.mp 5002003) 1), (5002003, ⟨[.mapc (List.map (ent task_Task.Pv PV.bool) [])], 0, false, 0, false⟩)]) ?_
 refine y_inl (fn := Tryz.f207) (N1 := 18) J J Tryz.func207 J Ty.k207 J J nl (fun e1 o2 => ?_)
 refine jqR h (fun q => St.of [(1000007, .L task_Task.Pv a0.Q.L), (1000008, .fn (.func 208) [.ptr 2002 0 0, .ptr 2001 0 0]), (4, .bool q.1)] [(2001, vR (hold_Heap.Pv a0) 8), (2002, vS (.mp 5002003) 1), (5002003, ⟨[.mapc (List.map (ent task_Task.Pv PV.bool) q.2)], 0, false, 0, false⟩)]) (fun q20 h => dup ?_) fun κ17 h => ?_
 ·obtain ⟨j18, j19⟩ := q20
  refine ⟨J, [.bool j18], ⟨J, tr⟩, ?_⟩
  refine y_wk (WE [(9, .bool j18)] []) <| S2 1 J <| pw_ret ?_
  cases h
  exact f1
 ·refine S4 1 J ?_
  refine jq h (fun j29 => St.of [(1000007, .L task_Task.Pv a0.Q.L), (1000008, .fn (.func 208) [.ptr 2002 0 0, .ptr 2001 0 0])] [(2001, vR (hold_Heap.Pv a0) 8), (2002, vS (.mp 5002003) 1), (5002003, ⟨[.mapc (List.map (ent task_Task.Pv PV.bool) j29)], 0, false, 0, false⟩)]) (fun j29 h => ?_) fun κ28 h => ?_
  ·refine S4 1 J ?_
   refine pw_ret ?_
   exact eJ h W
  ·refine S3 1 J ?_
   refine nL J Ty.e30 <| S2 1 J <| pw_block <| lq h (fun q => St.of [(1000007, .L task_Task.Pv a0.Q.L), (1000008, .fn (.func 208) [.ptr 2002 0 0, .ptr 2001 0 0]), (1, .fn (.func 208) [.ptr 2002 0 0, .ptr 2001 0 0]), (7, .L task_Task.Pv a0.Q.L), (8, .I (a0.Q.L.length : Int)), (9, .I q.1)] [(2001, vR (hold_Heap.Pv a0) 8), (2002, vS (.mp 5002003) 1), (5002003, ⟨[.mapc (List.map (ent task_Task.Pv PV.bool) q.2)], 0, false, 0, false⟩)]) W fun q34 x33 h hx29 => ?_
   obtain ⟨s31, s32⟩ := q34
   refine S4 1 J <| pw_seq ?_
   refine cN h (fun hc h => ?_) fun hc h => ?_
   ·refine pw_skip ?_
    refine pw_seq <| pw_block <| sR <| iL h J J Ty.e30 Ty.s82 fun v35 _ h => S2 3 J <| S3 2 J <| y_wk (WE [(1000007, .L task_Task.Pv a0.Q.L), (1000008, .fn (.func 208) [.ptr 2002 0 0, .ptr 2001 0 0]), (1, .fn (.func 208) [.ptr 2002 0 0, .ptr 2001 0 0]), (7, .L task_Task.Pv a0.Q.L), (8, .I (a0.Q.L.length : Int)), (9, .I s31), (13, .fn (.func 208) [.ptr 2002 0 0, .ptr 2001 0 0]), (14, task_Task.Pv v35)] [(2001, vR (hold_Heap.Pv a0) 8), (2002, vS (.mp 5002003) 1), (5002003, ⟨[.mapc (List.map (ent task_Task.Pv PV.bool) s32)], 0, false, 0, false⟩)]) ?_
    refine y_inl (fn := Tryz.f208) (N1 := 34) J J Tryz.func208 J Ty.k208 J J nl (fun e31 o32 => ?_)
    refine S4 2 J <| S3 4 J <| y0 J (o_build (cs := [.I v35.Kind, .I v35.At, .I 0]) J Ty.p82 Ty.z82 J J J) <| S2 2 J <| S3 2 J <| y_lkM (es := s32) (k := (⟨v35.Kind, v35.At, 0⟩ : task_Task)) (E := PV.bool) (EK := task_Task.Pv) (d := .bool ((mget s32 (⟨v35.Kind, v35.At, 0⟩ : task_Task)).getD (false : Bool))) J J J J Ty.mm242 (keyT_agg task_Task.Pc (fun _ => J) Ty.q82 (by decide) (fun _ _ => J) task_Task.beq_eq (fun _ => J) (fun _ => ⟨J, J⟩)) Ty.z4 J (lk1 _ _ _) <| S2 1 J <| S3 2 J <| y_setM (es := s32) (k := (⟨v35.Kind, v35.At, 0⟩ : task_Task)) (v := true) (E := PV.bool) (EK := task_Task.Pv) (.inl J) J J J J J J Ty.mm242 (keyT_agg task_Task.Pc (fun _ => J) Ty.q82 (by decide) (fun _ _ => J) task_Task.beq_eq (fun _ => J) (fun _ => ⟨J, J⟩)) <| yN <| S3 3 J <| y_if J (fun hg => oF J Ty.f82_2 J) <| y_if J (fun hg => oS (ct hg) J J Ty.a3 J) <| y_if J (fun hg => o_cmp (ct hg) J J) <| y0 J (pk_and J J J (fun q => eqT q)) <| S1 1 J <| y_if J (fun hg => oF J Ty.f82_2 J) <| y_if J (fun hg => oS (ct hg) J J Ty.a3 J) <| y_if J (fun hg => o_cmp (ct hg) J J) <| y0 J (pk_and J J J (fun q => eqT q)) <| S1 1 J <| y_if J (fun hg => oL J J J Ty.a34 Ty.s34 nl J) <| y_if J (fun hg => oL J J J Ty.a82 Ty.s82 nl J) <| bnE h fun v36 hv33 h => y_if J (fun hg => o_cl J hold_taskIsFor_ok (consE (ct hg) (consE (ct hg) J)) (onlyE hv33 hg)) <| y0 J (pk_and J J J (fun q => eqT q)) <| S2 1 J <| pw_ret ?_
    refine ⟨J, [.bool ((((!((mget s32 (⟨v35.Kind, v35.At, 0⟩ : task_Task)).getD (false : Bool))) && (decide (v35.Prog ≥ 0))) && (decide (v35.Prog < 6))) && v36)], ⟨J, tr⟩, ?_⟩
    refine y_wk (WE [(1000007, .L task_Task.Pv a0.Q.L), (1000008, .fn (.func 208) [.ptr 2002 0 0, .ptr 2001 0 0]), (1, .fn (.func 208) [.ptr 2002 0 0, .ptr 2001 0 0]), (7, .L task_Task.Pv a0.Q.L), (8, .I (a0.Q.L.length : Int)), (9, .I s31), (15, .bool ((((!((mget s32 (⟨v35.Kind, v35.At, 0⟩ : task_Task)).getD (false : Bool))) && (decide (v35.Prog ≥ 0))) && (decide (v35.Prog < 6))) && v36))] [(2001, vR (hold_Heap.Pv a0) 8), (2002, vS (.mp 5002003) 1), (5002003, ⟨[.mapc (List.map (ent task_Task.Pv PV.bool) (mput s32 (⟨v35.Kind, v35.At, 0⟩ : task_Task) true))], 0, false, 0, false⟩)]) <| S2 1 J ?_
    refine cN h (fun hc h => ?_) fun hc h => ?_
    ·refine S4 1 J ?_
     refine pw_ret ?_
     have h := xL hx29 h
     exact eJ h W
    ·refine pw_skip ?_
     refine S6 2 J ?_
     exact eL h W
   ·refine pw_exit ?_
    refine thenQ_exit <| thenQ_exit <| blockQ_exit ?_
    have h := xL hx29 h
    exact eJ h W

theorem hold_cellsFit_1_ok {a0 a1} : PO Tryz.prog 211 [weak_Cell.Pv a0, .rptr (hold_Heap.Pc a1)] (hold_cellsFit_1 a0 a1) fun r => .bool r := by
 refine pO Tryz.func211 fun r h _ _ => ?_
 refine S4 2 J <| pw_seq <| S3 4 J <| y_if J (fun hg => oF J Ty.f84_2 J) <| y_if J (fun hg => oS (ct hg) J J Ty.a3 J) <| y_if J (fun hg => o_cmp (ct hg) J J) <| y0 J (pk_or J J J (fun q => eqF q)) <| yN ?_
 refine cN h (fun hc h => ?_) fun hc h => ?_
 ·refine S4 1 J ?_
  refine pw_ret ?_
  cases h
  exact f1
 ·refine pw_skip ?_
  refine pw_seq <| S4 2 J ?_
  refine cN h (fun hc h => ?_) fun hc h => ?_
  ·refine S3 3 J ?_
   refine cA h hold_isLive_ok J J fun v1 _ h => S2 1 J <| pw_ret ?_
   cases h
   exact f1
  ·refine pw_skip ?_
   refine S3 5 J <| cA h slab_Find_store_Obj_ok J J fun v2 _ h => S2 5 J <| S3 4 J <| y_if J (fun hg => mI J) <| y_if J (fun hg => o_cmp (ct hg) J J) <| y0 J (pk_or J J J (fun q => eqF q)) <| S2 1 J <| pw_ret ?_
   cases h
   exact f1

theorem hold_all_weak_Cell__hold_cellsFit_1_ok {a0 a1} : PO Tryz.prog 210 [.L weak_Cell.Pv a0, .fn (.func 211) [.rptr (hold_Heap.Pc a1)]] (hold_all_weak_Cell__hold_cellsFit_1 a0 a1) fun r => .bool r := by
 refine pO Tryz.func210 fun r h _ _ => ?_
 refine S4 1 J ?_
 refine jq h (fun _ => St.of [] []) (fun q7 h => ?_) fun κ6 h => ?_
 ·refine S4 1 J ?_
  refine pw_ret ?_
  cases h
  exact f1
 ·refine S3 1 J ?_
  refine nL J Ty.e28 <| S2 1 J <| pw_block <| lq h (fun s9 => St.of [(1, .fn (.func 211) [.rptr (hold_Heap.Pc a1)]), (7, .L weak_Cell.Pv a0), (8, .I (a0.length : Int)), (9, .I s9)] []) W fun s9 x10 h hx9 => S4 1 J <| pw_seq ?_
  refine cN h (fun hc h => ?_) fun hc h => ?_
  ·refine pw_skip ?_
   refine pw_seq <| pw_block <| sR <| iL h J J Ty.e28 Ty.s84 fun v11 _ h => S2 3 J <| S3 2 J <| cA h hold_cellsFit_1_ok J J fun v12 _ h => S2 1 J ?_
   refine cN h (fun hc h => ?_) fun hc h => ?_
   ·refine S4 1 J ?_
    refine pw_ret ?_
    have h := xL hx9 h
    cases h
    exact f1
   ·refine pw_skip ?_
    refine S6 2 J ?_
    exact eL h W
  ·refine pw_exit ?_
   refine thenQ_exit <| thenQ_exit <| blockQ_exit ?_
   have h := xL hx9 h
   exact eJ h W

theorem hold_cellsFit_ok {a0} : PO Tryz.prog 150 [hold_Heap.Pv a0] (hold_cellsFit a0) fun r => .bool r := by
 refine pO Tryz.func150 fun r h _ _ => ?_
 refine S4 2 J <| S3 3 J <| cA h hold_all_weak_Cell__hold_cellsFit_1_ok J J fun v1 _ h => S2 1 J <| pw_ret ?_
 cases h
 exact f1

theorem weak_Naming_1_ok {a0 a1} : PO Tryz.prog 258 [weak_Cell.Pv a0, .rptr [.I a1]] (weak_Naming_1 a0 a1) fun r => .bool r := by
 refine pO Tryz.func258 fun r h _ _ => ?_
 unfold weak_Naming_1 at h
 refine S4 2 J <| S3 3 J <| y_if J (fun hg => oF J Ty.f84_0 J) <| y_if J (fun hg => oS (ct hg) J J Ty.a3 J) <| y_if J (fun hg => o_loadRS J Ty.a3 J) <| y_if J (fun hg => o_cmp (ct hg) (ct hg) J) <| y0 J (pk_and J J J (fun q => eqT q)) <| S2 1 J <| pw_ret ?_
 cases h
 exact f1

theorem weak_picked__weak_Naming_1_ok {a0 a1} : PO Tryz.prog 236 [.L weak_Cell.Pv a0, .fn (.func 258) [.rptr [.I a1]]] (weak_picked__weak_Naming_1 a0 a1) fun r => .L iF r := by
 refine pO Tryz.func236 fun r h _ _ => ?_
 refine S4 1 J <| S4 1 J ?_
 refine jq h (fun j15 => St.of [(5, .sl 910005)] [(910005, ⟨List.map iF j15, (List.map iF j15).length, true, 1, true⟩)]) (fun j15 h => ?_) fun κ14 h => ?_
 ·refine S4 2 J ?_
  refine pw_ret ?_
  cases h
  exact f1
 ·refine S3 1 J ?_
  refine nL J Ty.e28 <| S2 1 J <| pw_block <| lq h (fun q => St.of [(1, .fn (.func 258) [.rptr [.I a1]]), (5, .sl 910005), (8, .L weak_Cell.Pv a0), (9, .I (a0.length : Int)), (10, .I q.1)] [(910005, ⟨List.map iF q.2, (List.map iF q.2).length, true, 1, true⟩)]) (Wk.trans (wk_nil (t := 5) (l := 920005) (z := 1) J J) (WP (fun l => if l = 910005 then 920005 else l))) fun q20 x19 h hx14 => ?_
  obtain ⟨s17, s18⟩ := q20
  refine S4 1 J <| pw_seq ?_
  refine cN h (fun hc h => ?_) fun hc h => ?_
  ·refine pw_skip ?_
   refine jq h (fun j25 => St.of [(1, .fn (.func 258) [.rptr [.I a1]]), (5, .sl 21), (8, .L weak_Cell.Pv a0), (9, .I (a0.length : Int)), (10, .I s17)] [(21, ⟨List.map iF j25, (List.map iF j25).length, true, 1, true⟩)]) (fun j25 h => ?_) fun κ24 h => ?_
   ·refine S6 2 J ?_
    exact eL h (Wk.trans (wk_frz _ [21]) (WP (fun l => if l = 910005 then 21 else l)))
   ·refine pw_block ?_
    refine S3 1 J <| iL h J J Ty.e28 Ty.s84 fun v26 _ h => S2 4 J <| S3 2 J <| cA h weak_Naming_1_ok J J fun v27 _ h => yN ?_
    refine cN h (fun hc h => ?_) fun hc h => ?_
    ·refine S5 2 J ?_
     refine y0 J (o_bI (f := iF) (l := [s17]) J Ty.e27 Ty.s3 Ty.z3 J J nl J J) <| bnE h fun v28 hv21 h => y_app J (o_apR (f := iF) hv21 J J J J J J (.inl ⟨_, J, J⟩) Ty.e27 Ty.s3 Ty.b3 Ty.z3 J (fun _ => J)) J J J <| S2 1 J ?_
     exact eJ h (Wk.trans (wk_frz _ [21]) W)
    ·refine pw_skip ?_
     exact eJ h (Wk.trans (wk_frz _ [910005]) (WP (fun l => if l = 21 then 910005 else l)))
  ·refine pw_exit ?_
   refine thenQ_exit <| thenQ_exit <| blockQ_exit ?_
   have h := xL hx14 h
   exact eJ h (Wk.trans (wk_frz _ [910005]) W)

theorem weak_Naming_ok {a0 a1} : PO Tryz.prog 212 [.L weak_Cell.Pv a0, .I a1] (weak_Naming a0 a1) fun r => .I r := by
 refine pO Tryz.func212 fun r h _ _ => ?_
 unfold weak_Naming at h
 refine S4 2 J <| S3 2 J <| bnE h fun v1 hv1 h => ycL J (o_clF J weak_picked__weak_Naming_1_ok J hv1) J <| nL J Ty.e27 <| S2 1 J <| pw_ret ?_
 cases h
 exact f1

theorem hold_foundFit_ok {a0} : PO Tryz.prog 151 [hold_Heap.Pv a0] (hold_foundFit a0) fun r => .bool r := by
 refine pO Tryz.func151 fun r h _ _ => ?_
 refine S4 2 J ?_
 refine jq h (fun _ => St.of [] []) (fun q13 h => ?_) fun κ12 h => ?_
 ·refine S4 1 J ?_
  refine pw_ret ?_
  cases h
  exact f1
 ·refine S3 4 J ?_
  refine nL J Ty.e22 <| S2 1 J <| pw_block <| lq h (fun s15 => St.of [(1, .ptr 1 0 0), (8, .L slab_Cell_store_Obj.Pv a0.S.S.Cells), (9, .I (a0.S.S.Cells.length : Int)), (10, .I s15)] [(1, vR (hold_Heap.Pv a0) 8)]) W fun s15 x16 h hx14 => S4 1 J <| pw_seq ?_
  refine cN h (fun hc h => ?_) fun hc h => ?_
  ·refine pw_skip ?_
   refine jq h (fun _ => St.of [(1, .ptr 1 0 0), (8, .L slab_Cell_store_Obj.Pv a0.S.S.Cells), (9, .I (a0.S.S.Cells.length : Int)), (10, .I s15)] [(1, vR (hold_Heap.Pv a0) 8)]) (fun q21 h => ?_) fun κ20 h => ?_
   ·refine S6 2 J ?_
    exact eL h W
   ·refine pw_block ?_
    refine S3 1 J <| iL h J J Ty.e22 Ty.s141 fun v22 _ h => S2 4 J <| pw_seq <| S3 4 J <| y_if J (fun hg => oF J Ty.f141_0 J) <| y_if J (fun hg => oS (ct hg) J J Ty.a3 J) <| y_if J (fun hg => o_cmp (ct hg) J J) <| y0 J (pk_and J J J (fun q => eqT q)) <| yN ?_
    refine cN h (fun hc h => ?_) fun hc h => ?_
    ·refine pw_exit ?_
     refine thenQ_exit <| blockQ_exit ?_
     exact eJ h W
    ·refine pw_skip ?_
     refine pw_seq <| dr [] Ty.mix (by kernel_rfl) (by kernel_rfl) <| S7 8 J <| bnE h fun v23 hv20 h => d2 J (o_cl J handle_Pack_ok J hv20) J <| bnE h fun v24 hv21 h => d2 J (o_cl J weak_Naming_ok J hv21) J <| S8 1 J ?_
     refine cN h (fun hc h => ?_) fun hc h => ?_
     ·refine S4 1 J ?_
      refine pw_ret ?_
      have h := xL hx14 h
      cases h
      exact f1
     ·refine pw_skip ?_
      refine S3 4 J <| y_if J (fun hg => oF J Ty.f141_2 J) <| y_if J (fun hg => oF (ct hg) Ty.f91_2 J) <| y_if J (fun hg => oS (ct hg) J J Ty.a3 J) <| y_if J (fun hg => o_cmp (ct hg) J J) <| y_if J (fun hg => om (d := .bool (decide (v22.Val.Weak < 1))) (ct hg)) <| y_if (want2 J J J) (fun hg => oF J Ty.f141_2 J) <| y_if (want2 J J J) (fun hg => oF (ct hg) Ty.f91_5 J) <| y_if (want2 J J J) (fun hg => oS (ct hg) J J Ty.a27 J) <| y_if (want2 J J J) (fun hg => o_lnL (f := iF) (ct hg) Ty.e27) <| y_if (want2 J J J) (fun hg => o_cmp (ct hg) J J) <| y_if J (fun hg => pk_or (ct hg) J J (fun q => andI hg (eqF q))) <| y_if J (fun hg => om (d := .bool ((decide (v22.Val.Weak < 1)) || (decide ((v22.Val.Fields.length : Int) > 0)))) (ct hg)) <| y_if (want2 J J J) (fun hg => oF J Ty.f141_2 J) <| y_if (want2 J J J) (fun hg => oF (ct hg) Ty.f91_1 J) <| y_if (want2 J J J) (fun hg => oS (ct hg) J J Ty.a3 J) <| y_if (want2 J J J) (fun hg => o_cmp (ct hg) J J) <| y_if J (fun hg => pk_or (ct hg) J J (fun q => andI hg (eqF q))) <| y0 J (pk_and J J J (fun q => eqT q)) <| yN ?_
      refine cN h (fun hc h => ?_) fun hc h => ?_
      ·refine S4 1 J ?_
       refine pw_ret ?_
       have h := xL hx14 h
       cases h
       exact f1
      ·refine pw_skip ?_
       exact eJ h W
  ·refine pw_exit ?_
   refine thenQ_exit <| thenQ_exit <| blockQ_exit ?_
   have h := xL hx14 h
   exact eJ h W

theorem fvcall1_ok {f : Fv} {a0 : hold_Heap} {r : Bool} (h : fvcall1 f a0 = some r) : ∃ n, f = some n ∧ Callable Tryz.prog n ∧ PCalls Tryz.prog n [hold_Heap.Pv a0] (.bool r) := by
 unfold fvcall1 at h
 by_cases e147 : f = some 147
 ·rw [if_pos e147] at h; exact ⟨147, e147, (@hold_namesLive_ok a0).1, (@hold_namesLive_ok a0).2 _ h⟩
 rw [if_neg e147] at h
 by_cases e148 : f = some 148
 ·rw [if_pos e148] at h; exact ⟨148, e148, (@hold_pairsLive_ok a0).1, (@hold_pairsLive_ok a0).2 _ h⟩
 rw [if_neg e148] at h
 by_cases e149 : f = some 149
 ·rw [if_pos e149] at h; exact ⟨149, e149, (@hold_tasksFit_ok a0).1, (@hold_tasksFit_ok a0).2 _ h⟩
 rw [if_neg e149] at h
 by_cases e150 : f = some 150
 ·rw [if_pos e150] at h; exact ⟨150, e150, (@hold_cellsFit_ok a0).1, (@hold_cellsFit_ok a0).2 _ h⟩
 rw [if_neg e150] at h
 by_cases e151 : f = some 151
 ·rw [if_pos e151] at h; exact ⟨151, e151, (@hold_foundFit_ok a0).1, (@hold_foundFit_ok a0).2 _ h⟩
 rw [if_neg e151] at h
 cases h

theorem task_Held_ok {a0} : PO Tryz.prog 153 [queue_Queue_task_Task.Pv a0] (task_Held a0) fun r => .L iF r := by
 refine pO Tryz.func153 fun r h _ _ => ?_
 refine S4 2 J <| S4 1 J ?_
 refine jq h (fun j10 => St.of [(3, .ptr 2001 0 0)] [(2001, vS (.sl 912501) 1), (912501, ⟨List.map iF j10, (List.map iF j10).length, true, 1, true⟩)]) (fun j10 h => ?_) fun κ9 h => ?_
 ·refine S4 2 J ?_
  refine pw_ret ?_
  cases h
  exact f1
 ·refine S3 1 J ?_
  refine cF h task_of_ok J J fun v11 _ h => yN <| pw_block <| pw_wk (WPE (fun l => if l = 2011 then 3 else l) [(3, .ptr 2011 0 0), (6, .fn (.func 220) [.rptr (queue_Queue_task_Task.Pc v11.1), .rptr [.I v11.2]])] [(2011, vR (.nl) 1)]) ?_
  refine pw_range (fn := Tryz.f220) (N1 := 24) J Tryz.func220 J J nl J Ty.k220 J J (fun l17 e18 o19 hR20 => ?_)
  refine S3 2 J <| nL J Ty.e30 <| S2 1 J <| pw_block <| lq h (fun q => St.of [(1000003, .ptr 2011 0 0), (1000006, .fn (.func 220) [.rptr (queue_Queue_task_Task.Pc v11.1), .rptr [.I v11.2]]), (0, .fn (.yield l17) []), (2, .rptr [.I v11.2]), (7, .L task_Task.Pv v11.1.L), (8, .I (v11.1.L.length : Int)), (9, .I q.1)] [(2011, vS (.sl 912511) 1), (912511, ⟨List.map iF q.2, (List.map iF q.2).length, true, 1, true⟩)]) (Wk.trans (wk_nilC (l0 := 2011) (j := 0) (l := 922511) (z := 1) J J J J J) (WP (fun l => if l = 912511 then 922511 else l))) fun q16 x15 h hx23 => ?_
  obtain ⟨s13, s14⟩ := q16
  refine S4 1 J <| pw_seq ?_
  refine cN h (fun hc h => ?_) fun hc h => ?_
  ·refine pw_skip ?_
   refine pw_seq <| pw_block <| sR <| iL h J J Ty.e30 Ty.s82 fun v17 _ h => S2 3 J <| S3 5 J <| y_if J (fun hg => om (d := .fn (.yield l17) []) J) <| y_if J (fun hg => oL J J J Ty.a82 Ty.s82 nl J) ?_
   rcases Bool.eq_false_or_eq_true ((v17.Kind == v11.2) == true) with hg25 | hg25
   ·have h := ifT h hg25
    refine y_wk (WPE (fun l => if l = 2019 then 912511 else l) [(1000003, .ptr 2011 0 0), (1000006, .fn (.func 220) [.rptr (queue_Queue_task_Task.Pc v11.1), .rptr [.I v11.2]]), (0, .fn (.yield l17) []), (2, .rptr [.I v11.2]), (7, .L task_Task.Pv v11.1.L), (8, .I (v11.1.L.length : Int)), (9, .I s13), (17, .bool (v17.Kind == v11.2)), (18, .fn (.yield l17) []), (19, task_Task.Pv v17)] [(2011, vS (.sl 2019) 1), (2019, ⟨List.map iF s14, (List.map iF s14).length, true, 1, true⟩)]) ?_
    refine y_yield hR20 (congrArg some hg25) J J J J J (fun e26 o27 o28 => ?_)
    refine S6 2 J ?_
    refine ⟨J, ?_⟩
    refine pw_block <| S5 3 J <| y0 J (o_bI (f := iF) (l := [v17.At]) J Ty.e27 Ty.s3 Ty.z3 J J nl J J) <| bnE h fun v18 hv29 h => y_app J (o_apR (f := iF) hv29 J J J J J J (.inl ⟨_, J, J⟩) Ty.e27 Ty.s3 Ty.b3 Ty.z3 J (fun _ => J)) J J J <| S2 1 J ?_
    refine ⟨J, ?_⟩
    refine y_wk (WPE (fun l => if l = 2020 then 12 else l) [(1000003, .ptr 2011 0 0), (1000006, .fn (.func 220) [.rptr (queue_Queue_task_Task.Pc v11.1), .rptr [.I v11.2]]), (0, .fn (.yield l17) []), (2, .rptr [.I v11.2]), (7, .L task_Task.Pv v11.1.L), (8, .I (v11.1.L.length : Int)), (9, .I s13), (17, .bool (v17.Kind == v11.2)), (20, .bool true)] [(2011, vS (.sl 2020) 1), (2020, ⟨List.map iF v18, s14.length, true, 1, true⟩)]) <| y0 (congrArg some hg25) (o_not J J) <| y0 J (pk_andT J J hg25) <| yN ?_
    refine pw_cond false J (fun q => nomatch q) (fun _ => ?_)
    refine pw_skip <| S6 2 J ?_
    exact eL h (Wk.trans (wk_frz _ [2020]) (WP (fun l => if l = 912511 then 2020 else l)))
   ·have h := ifF h hg25
    refine y_skip (congrArg some hg25) <| y_skip (congrArg some hg25) <| y0 J (pk_andF J J hg25) <| yN ?_
    refine pw_cond false J (fun q => nomatch q) (fun _ => ?_)
    refine pw_skip <| S6 2 J ?_
    exact eL h (Wk.trans (wk_frz _ [912511]) W)
  ·refine pw_exit ?_
   refine thenQ_exit <| thenQ_exit <| blockQ_exit ?_
   refine .inl ⟨J, ?_⟩
   have h := xL hx23 h
   exact eJ h (Wk.trans (wk_frz _ [912511]) (WP (fun l => if l = 2001 then 2011 else if l = 912501 then 912511 else l)))

theorem hold_Outer_ok {a0} : PO Tryz.prog 63 [hold_Heap.Pv a0] (hold_Outer a0) fun r => .L iF r := by
 refine pO Tryz.func63 fun r h _ _ => ?_
 refine S4 2 J <| S4 1 J ?_
 refine jq h (fun j13 => St.of [(1, .ptr 1 0 0), (3, .sl 910003)] [(910003, ⟨List.map iF j13, (List.map iF j13).length, true, 1, true⟩), (1, vR (hold_Heap.Pv a0) 8)]) (fun j13 h => ?_) fun κ12 h => ?_
 ·refine S3 3 J ?_
  refine cF h task_Held_ok J J fun v14 _ h => bnE h fun v15 hv11 h => y_app J (o_apR (f := iF) hv11 J J J J J J (.inl ⟨_, J, J⟩) Ty.e27 Ty.s3 Ty.b3 Ty.z3 J (fun _ => J)) J J J <| S2 1 J <| pw_ret ?_
  cases h
  exact f1
 ·refine S3 2 J ?_
  refine nL J Ty.e27 <| S2 1 J <| pw_block <| lq h (fun q => St.of [(1, .ptr 1 0 0), (3, .sl 910003), (7, .L iF a0.Roots), (8, .I (a0.Roots.length : Int)), (9, .I q.1)] [(1, vR (hold_Heap.Pv a0) 8), (910003, ⟨List.map iF q.2, (List.map iF q.2).length, true, 1, true⟩)]) (Wk.trans (wk_nil (t := 3) (l := 920003) (z := 1) J J) (WP (fun l => if l = 910003 then 920003 else l))) fun q20 x19 h hx14 => ?_
  obtain ⟨s17, s18⟩ := q20
  refine S4 1 J <| pw_seq ?_
  refine cN h (fun hc h => ?_) fun hc h => ?_
  ·refine pw_skip ?_
   refine jq h (fun j24 => St.of [(1, .ptr 1 0 0), (3, .sl 18), (7, .L iF a0.Roots), (8, .I (a0.Roots.length : Int)), (9, .I s17)] [(18, ⟨List.map iF j24, (List.map iF j24).length, true, 1, true⟩), (1, vR (hold_Heap.Pv a0) 8)]) (fun j24 h => ?_) fun κ23 h => ?_
   ·refine S6 2 J ?_
    exact eL h (Wk.trans (wk_frz _ [18]) (WP (fun l => if l = 910003 then 18 else l)))
   ·refine pw_block ?_
    refine sR <| iL h J J Ty.e27 Ty.s3 fun v25 _ h => S2 2 J <| S4 2 J ?_
    refine cN h (fun hc h => ?_) fun hc h => ?_
    ·refine S5 2 J ?_
     refine y0 J (o_bI (f := iF) (l := [v25]) J Ty.e27 Ty.s3 Ty.z3 J J nl J J) <| bnE h fun v26 hv19 h => y_app J (o_apR (f := iF) hv19 J J J J J J (.inl ⟨_, J, J⟩) Ty.e27 Ty.s3 Ty.b3 Ty.z3 J (fun _ => J)) J J J <| S2 1 J ?_
     exact eJ h (Wk.trans (wk_frz _ [18]) W)
    ·refine pw_skip ?_
     exact eJ h (Wk.trans (wk_frz _ [910003]) (WP (fun l => if l = 18 then 910003 else l)))
  ·refine pw_exit ?_
   refine thenQ_exit <| thenQ_exit <| blockQ_exit ?_
   have h := xL hx14 h
   exact eJ h (Wk.trans (wk_frz _ [910003]) W)

theorem count_Stuck_ok {a0} : PO Tryz.prog 214 [.I a0] (count_Stuck a0) fun r => .bool r := by
 refine pO Tryz.func214 fun r h _ _ => ?_
 refine S4 1 J <| S3 1 J <| cA h count_tally_stuck_ok J J fun v1 _ h => S2 1 J <| pw_ret ?_
 cases h
 exact f1

theorem refs_edges_ok {a0} : PO Tryz.prog 285 [store_Store.Pv a0] (refs_edges a0) fun r => .fn (.func 287) [.rptr (store_Store.Pc r)] := by
 refine pO Tryz.func285 fun r h _ _ => ?_
 unfold refs_edges at h
 refine S4 2 J <| S4 2 J <| pw_ret ?_
 cases h
 exact f1

theorem refs_Out_ok {a0 a1} : PO Tryz.prog 288 [store_Store.Pv a0, .I a1] (refs_Out a0 a1) fun r => .L iF r := by
 refine pO Tryz.func288 fun r h _ _ => ?_
 refine S4 2 J <| S3 2 J <| cF h store_Get_ok J J fun v1 _ h => S2 6 J <| S3 2 J <| cF h vec_Names_ok J J fun v2 _ h => S2 1 J <| pw_ret ?_
 cases h
 exact f1

theorem refs_In_ok {a0 a1} : PO Tryz.prog 282 [store_Store.Pv a0, .I a1] (refs_In a0 a1) fun r => .I r := by
 refine pO Tryz.func282 fun r h _ _ => ?_
 refine S4 3 J <| S4 2 J ?_
 refine jq h (fun j31 => St.of [(5, .ptr 2001 0 0)] [(2001, vR (.I j31) 1)]) (fun j31 h => ?_) fun κ30 h => ?_
 ·refine S4 2 J ?_
  refine pw_ret ?_
  cases h
  exact f1
 ·refine S3 1 J ?_
  refine cF h refs_edges_ok J J fun v32 _ h => yN <| pw_block <| pw_wk (WPE (fun l => if l = 2003 then 5 else if l = 2004 then 3 else l) [(3, .ptr 2004 0 0), (5, .ptr 2003 0 0), (9, .fn (.func 287) [.rptr (store_Store.Pc v32)])] [(2003, vR (.I 0) 1), (2004, vR (.I a1) 1)]) ?_
  refine pw_range (fn := Tryz.f287) (N1 := 29) J Tryz.func287 J J nl J Ty.k287 J J (fun l33 e34 o35 hR36 => ?_)
  refine pw_scope <| pw_seq <| pw_label <| S3 1 J <| cF h store_Live_ok J J fun v33 _ h => nL J Ty.e27 <| S2 1 J <| pw_block <| lq h (fun q => St.of [(1000003, .ptr 2004 0 0), (1000005, .ptr 2003 0 0), (1000009, .fn (.func 287) [.rptr (store_Store.Pc v32)]), (0, .fn (.yield l33) []), (1, .rptr (store_Store.Pc v32)), (8, .L iF v33), (9, .I (v33.length : Int)), (10, .I q.1)] [(2003, vR (.I q.2) 1), (2004, vR (.I a1) 1)]) W fun q38 x37 h hx40 => ?_
  obtain ⟨s35, s36⟩ := q38
  refine S4 1 J <| pw_seq ?_
  refine cN h (fun hc h => ?_) fun hc h => ?_
  ·refine pw_skip ?_
   refine jq h (fun j50 => St.of [(1000003, .ptr 2004 0 0), (1000005, .ptr 2003 0 0), (1000009, .fn (.func 287) [.rptr (store_Store.Pc v32)]), (0, .fn (.yield l33) []), (1, .rptr (store_Store.Pc v32)), (8, .L iF v33), (9, .I (v33.length : Int)), (10, .I s35)] [(2003, vR (.I j50) 1), (2004, vR (.I a1) 1)]) (fun j50 h => ?_) fun κ49 h => ?_
   ·refine S6 2 J ?_
    exact eL h W
   ·refine pw_block ?_
    refine sR <| iL h J J Ty.e27 Ty.s3 fun v51 _ h => S2 2 J <| S3 2 J <| cF h refs_Out_ok J J fun v52 _ h => nL J Ty.e27 <| S2 1 J <| pw_block <| lq h (fun q => St.of [(1000003, .ptr 2004 0 0), (1000005, .ptr 2003 0 0), (1000009, .fn (.func 287) [.rptr (store_Store.Pc v32)]), (0, .fn (.yield l33) []), (1, .rptr (store_Store.Pc v32)), (4, .I v51), (8, .L iF v33), (9, .I (v33.length : Int)), (10, .I s35), (16, .L iF v52), (17, .I (v52.length : Int)), (18, .I q.1)] [(2003, vR (.I q.2) 1), (2004, vR (.I a1) 1)]) W fun q57 x56 h hx56 => ?_
    obtain ⟨s54, s55⟩ := q57
    refine S4 1 J <| pw_seq ?_
    refine cN h (fun hc h => ?_) fun hc h => ?_
    ·refine pw_skip ?_
     refine pw_seq <| pw_block <| sR <| iL h J J Ty.e27 Ty.s3 fun v58 _ h => S2 2 J <| S3 3 J <| y_wk (WE [(1000003, .ptr 2004 0 0), (1000005, .ptr 2003 0 0), (1000009, .fn (.func 287) [.rptr (store_Store.Pc v32)]), (0, .fn (.yield l33) []), (1, .rptr (store_Store.Pc v32)), (4, .I v51), (8, .L iF v33), (9, .I (v33.length : Int)), (10, .I s35), (16, .L iF v52), (17, .I (v52.length : Int)), (18, .I s54), (22, .fn (.yield l33) []), (23, .I v51), (24, .I v58)] [(2003, vR (.I s55) 1), (2004, vR (.I a1) 1)]) ?_
     refine y_yield hR36 J J J J J J (fun e58 o59 o60 => ?_)
     refine S6 1 J ?_
     refine ⟨J, ?_⟩
     refine jqE h (fun j60 => St.of [(2000003, .ptr 2004 0 0), (2000005, .ptr 2003 0 0), (2000009, .fn (.func 287) [.rptr (store_Store.Pc v32)]), (1000000, .fn (.yield l33) []), (1000001, .rptr (store_Store.Pc v32)), (1000004, .I v51), (1000008, .L iF v33), (1000009, .I (v33.length : Int)), (1000010, .I s35), (1000016, .L iF v52), (1000017, .I (v52.length : Int)), (1000018, .I s54), (1000022, .fn (.yield l33) []), (1000023, .I v51), (1000024, .I v58)] [(2003, vR (.I j60) 1), (2004, vR (.I a1) 1)]) (fun j60 h => ?_) fun κ59 h => ?_
     ·refine ⟨J, ?_⟩
      refine y_wk (WE [(1000003, .ptr 2004 0 0), (1000005, .ptr 2003 0 0), (1000009, .fn (.func 287) [.rptr (store_Store.Pc v32)]), (0, .fn (.yield l33) []), (1, .rptr (store_Store.Pc v32)), (4, .I v51), (8, .L iF v33), (9, .I (v33.length : Int)), (10, .I s35), (16, .L iF v52), (17, .I (v52.length : Int)), (18, .I s54), (25, .bool true)] [(2003, vR (.I j60) 1), (2004, vR (.I a1) 1)]) <| S2 1 J ?_
      refine pw_cond false J (fun q => nomatch q) (fun _ => ?_)
      refine pw_skip <| S6 2 J ?_
      exact eL h W
     ·refine pw_block ?_
      refine S4 3 J ?_
      refine cN h (fun hc h => ?_) fun hc h => ?_
      ·refine S6 3 J ?_
       exact eJ h W
      ·refine pw_skip ?_
       exact eJ h W
    ·refine pw_exit ?_
     refine thenQ_exit <| thenQ_exit <| blockQ_exit ?_
     have h := xL hx56 h
     exact eJ h W
  ·refine pw_exit ?_
   refine thenQ_exit <| thenQ_exit <| blockQ_exit <| scopeQ_normal ?_
   refine .inl ⟨J, ?_⟩
   have h := xL hx40 h
   exact eJ h (WP (fun l => if l = 2001 then 2003 else l))

theorem ephem_Owned_1_ok {a0 a1} : PO Tryz.prog 286 [ephem_Pair.Pv a0, .rptr [.I a1]] (ephem_Owned_1 a0 a1) fun r => .bool r := by
 refine pO Tryz.func286 fun r h _ _ => ?_
 unfold ephem_Owned_1 at h
 refine S4 2 J <| S3 3 J <| y_if J (fun hg => oF J Ty.f238_1 J) <| y_if J (fun hg => oS (ct hg) J J Ty.a3 J) <| y_if J (fun hg => o_loadRS J Ty.a3 J) <| y_if J (fun hg => o_cmp (ct hg) (ct hg) J) <| y0 J (pk_and J J J (fun q => eqT q)) <| S2 1 J <| pw_ret ?_
 cases h
 exact f1

theorem ephem_gathered_ephem_Pair__ephem_pairs_1__ephem_Owned_1_ok {a0 a1} : PO Tryz.prog 255 [.fn (.func 280) [.rptr [.L hash_Place.Pv a0]], .fn (.func 286) [.rptr [.I a1]]] (ephem_gathered_ephem_Pair__ephem_pairs_1__ephem_Owned_1 a0 a1) fun r => .L ephem_Pair.Pv r := by
 refine pO Tryz.func255 fun r h _ _ => ?_
 refine S4 2 J <| S4 1 J ?_
 refine jq h (fun j16 => St.of [(5, .ptr 2001 0 0)] [(2001, vS (.sl 912501) 1), (912501, ⟨List.map ephem_Pair.Pv j16, (List.map ephem_Pair.Pv j16).length, true, 2, true⟩)]) (fun j16 h => ?_) fun κ15 h => ?_
 ·refine S4 2 J ?_
  refine pw_ret ?_
  cases h
  exact f1
 ·refine S4 1 J ?_
  refine pw_block <| pw_wk (WPE (fun l => if l = 2012 then 5 else if l = 2013 then 3 else l) [(3, .ptr 2013 0 0), (5, .ptr 2012 0 0), (7, .fn (.func 280) [.rptr [.L hash_Place.Pv a0]])] [(2012, vR (.nl) 1), (2013, vR (.fn (.func 286) [.rptr [.I a1]]) 1)]) ?_
  refine pw_range (fn := Tryz.f280) (N1 := 27) J Tryz.func280 J J nl J Ty.k280 J J (fun l20 e21 o22 hR23 => ?_)
  refine S3 1 J <| cF h hash_Keys_ok J J fun v17 _ h => nL J Ty.e27 <| S2 1 J <| pw_block <| lq h (fun q => St.of [(1000003, .ptr 2013 0 0), (1000005, .ptr 2012 0 0), (1000007, .fn (.func 280) [.rptr [.L hash_Place.Pv a0]]), (0, .fn (.yield l20) []), (1, .rptr [.L hash_Place.Pv a0]), (8, .L iF v17), (9, .I (v17.length : Int)), (10, .I q.1)] [(2012, vS (.sl 912512) 1), (2013, vR (.fn (.func 286) [.rptr [.I a1]]) 1), (912512, ⟨List.map ephem_Pair.Pv q.2, (List.map ephem_Pair.Pv q.2).length, true, 2, true⟩)]) (Wk.trans (wk_nilC (l0 := 2012) (j := 0) (l := 922512) (z := 2) J J J J J) (WP (fun l => if l = 912512 then 922512 else l))) fun q22 x21 h hx27 => ?_
  obtain ⟨s19, s20⟩ := q22
  refine S4 1 J <| pw_seq ?_
  refine cN h (fun hc h => ?_) fun hc h => ?_
  ·refine pw_skip ?_
   refine pw_seq <| pw_block <| sR <| iL h J J Ty.e27 Ty.s3 fun v23 _ h => S2 2 J <| S3 2 J <| cA h hash_Get_ok J J fun v24 _ h => S2 5 J <| S3 3 J <| y0 J (o_build (cs := [.I v23, .I v24.1]) J Ty.p238 Ty.z238 J J J) <| y_wk (WPE (fun l => if l = 2021 then 912512 else l) [(1000003, .ptr 2013 0 0), (1000005, .ptr 2012 0 0), (1000007, .fn (.func 280) [.rptr [.L hash_Place.Pv a0]]), (0, .fn (.yield l20) []), (1, .rptr [.L hash_Place.Pv a0]), (8, .L iF v17), (9, .I (v17.length : Int)), (10, .I s19), (20, .fn (.yield l20) []), (23, .agg [.I v23, .I v24.1])] [(2012, vS (.sl 2021) 1), (2021, ⟨List.map ephem_Pair.Pv s20, (List.map ephem_Pair.Pv s20).length, true, 2, true⟩), (2013, vR (.fn (.func 286) [.rptr [.I a1]]) 1)]) ?_
   refine y_yield hR23 J J J J J J (fun e30 o31 o32 => ?_)
   refine S6 2 J ?_
   refine ⟨J, ?_⟩
   refine jqE h (fun j28 => St.of [(2000003, .ptr 2013 0 0), (2000005, .ptr 2012 0 0), (2000007, .fn (.func 280) [.rptr [.L hash_Place.Pv a0]]), (1000000, .fn (.yield l20) []), (1000001, .rptr [.L hash_Place.Pv a0]), (1000008, .L iF v17), (1000009, .I (v17.length : Int)), (1000010, .I s19), (1000020, .fn (.yield l20) []), (1000023, .agg [.I v23, .I v24.1])] [(2012, vS (.sl 15) 1), (15, ⟨List.map ephem_Pair.Pv j28, (List.map ephem_Pair.Pv j28).length, true, 2, true⟩), (2013, vR (.fn (.func 286) [.rptr [.I a1]]) 1)]) (fun j28 h => ?_) fun κ27 h => ?_
   ·refine ⟨J, ?_⟩
    refine y_wk (WPE (fun l => if l = 2022 then 15 else l) [(1000003, .ptr 2013 0 0), (1000005, .ptr 2012 0 0), (1000007, .fn (.func 280) [.rptr [.L hash_Place.Pv a0]]), (0, .fn (.yield l20) []), (1, .rptr [.L hash_Place.Pv a0]), (8, .L iF v17), (9, .I (v17.length : Int)), (10, .I s19), (24, .bool true)] [(2012, vS (.sl 2022) 1), (2022, ⟨List.map ephem_Pair.Pv j28, (List.map ephem_Pair.Pv j28).length, true, 2, true⟩), (2013, vR (.fn (.func 286) [.rptr [.I a1]]) 1)]) <| S2 1 J ?_
    refine pw_cond false J (fun q => nomatch q) (fun _ => ?_)
    refine pw_skip <| S6 2 J ?_
    exact eL h (Wk.trans (wk_frz _ [2022]) (WP (fun l => if l = 912512 then 2022 else l)))
   ·refine pw_block ?_
    refine S3 2 J <| cA h ephem_Owned_1_ok J J fun v29 _ h => yN ?_
    refine cN h (fun hc h => ?_) fun hc h => ?_
    ·refine S5 2 J ?_
     refine y0 J (o_bI (f := ephem_Pair.Pv) (l := [(⟨v23, v24.1⟩ : ephem_Pair)]) J Ty.e239 Ty.s238 Ty.z238 J J nl J J) <| bnE h fun v30 hv37 h => y_app J (o_apR (f := ephem_Pair.Pv) hv37 J J J J J J (.inl ⟨_, J, J⟩) Ty.e239 Ty.s238 Ty.b238 Ty.z238 J (fun _ => J)) J J J <| S2 1 J ?_
     exact eJ h (Wk.trans (wk_frz _ [15]) W)
    ·refine pw_skip ?_
     exact eJ h (Wk.trans (wk_frz _ [2021]) (WP (fun l => if l = 15 then 2021 else l)))
  ·refine pw_exit ?_
   refine thenQ_exit <| thenQ_exit <| blockQ_exit ?_
   refine .inl ⟨J, ?_⟩
   have h := xL hx27 h
   exact eJ h (Wk.trans (wk_frz _ [912512]) (WP (fun l => if l = 2001 then 2012 else if l = 912501 then 912512 else l)))

theorem ephem_Owned_ok {a0 a1} : PO Tryz.prog 283 [.L hash_Place.Pv a0, .I a1] (ephem_Owned a0 a1) fun r => .I r := by
 refine pO Tryz.func283 fun r h _ _ => ?_
 refine S4 2 J <| S3 1 J <| cF h ephem_pairs_ok J J fun v1 _ h => S1 1 J <| bnE h fun v2 hv2 h => ycL J (o_clF J ephem_gathered_ephem_Pair__ephem_pairs_1__ephem_Owned_1_ok J hv2) J <| nL J Ty.e239 <| S2 1 J <| pw_ret ?_
 cases h
 exact f1

theorem trial_Inner_ok {a0 a1 a2} : PO Tryz.prog 259 [store_Store.Pv a0, .L hash_Place.Pv a1, .I a2] (trial_Inner a0 a1 a2) fun r => .I r := by
 refine pO Tryz.func259 fun r h _ _ => ?_
 refine S4 2 J <| S3 2 J <| cA h refs_In_ok J J fun v1 _ h => S1 2 J <| cA h ephem_Owned_ok J J fun v2 _ h => S2 2 J <| pw_ret ?_
 cases h
 exact f1

theorem trial_Rest_ok {a0 a1 a2} : PO Tryz.prog 215 [store_Store.Pv a0, .L hash_Place.Pv a1, .I a2] (trial_Rest a0 a1 a2) fun r => .I r := by
 refine pO Tryz.func215 fun r h _ _ => ?_
 refine S4 2 J <| S3 2 J <| cF h store_Get_ok J J fun v1 _ h => S2 6 J <| pw_seq <| S4 2 J ?_
 refine cN h (fun hc h => ?_) fun hc h => ?_
 ·refine S4 1 J ?_
  refine pw_ret ?_
  cases h
  exact f1
 ·refine pw_skip ?_
  refine dr [] Ty.mix (by kernel_rfl) (by kernel_rfl) <| S7 5 J <| bnE h fun v2 hv2 h => d2 J (o_cl J trial_Inner_ok J hv2) J <| S8 2 J <| pw_ret ?_
  cases h
  exact f1

theorem vec_Count_ok {a0 a1} : PO Tryz.prog 260 [.L iF a0, .I a1] (vec_Count a0 a1) fun r => .I r := by
 refine pO Tryz.func260 fun r h _ _ => ?_
 refine S4 2 J <| S4 2 J ?_
 refine jq h (fun j11 => St.of [(5, .ptr 2001 0 0)] [(2001, vR (.I j11) 1)]) (fun j11 h => ?_) fun κ10 h => ?_
 ·refine S4 2 J ?_
  refine pw_ret ?_
  cases h
  exact f1
 ·refine S3 1 J ?_
  refine cF h vec_named_ok J J fun v12 _ h => yN <| pw_block <| pw_wk (WPE (fun l => if l = 2003 then 5 else if l = 2004 then 3 else l) [(3, .ptr 2004 0 0), (5, .ptr 2003 0 0), (8, .fn (.func 239) [.rptr [.L iF v12]])] [(2003, vR (.I 0) 1), (2004, vR (.I a1) 1)]) ?_
  refine pw_range (fn := Tryz.f239) (N1 := 20) J Tryz.func239 J J nl J Ty.k239 J J (fun l17 e18 o19 hR20 => ?_)
  refine S3 1 J <| nL J Ty.e27 <| S2 1 J <| pw_block <| lq h (fun q => St.of [(1000003, .ptr 2004 0 0), (1000005, .ptr 2003 0 0), (1000008, .fn (.func 239) [.rptr [.L iF v12]]), (0, .fn (.yield l17) []), (5, .L iF v12), (6, .I (v12.length : Int)), (7, .I q.1)] [(2003, vR (.I q.2) 1), (2004, vR (.I a1) 1)]) W fun q17 x16 h hx23 => ?_
  obtain ⟨s14, s15⟩ := q17
  refine S4 1 J <| pw_seq ?_
  refine cN h (fun hc h => ?_) fun hc h => ?_
  ·refine pw_skip ?_
   refine pw_seq <| pw_block <| sR <| iL h J J Ty.e27 Ty.s3 fun v18 _ h => S2 2 J <| S3 3 J <| y_if J (fun hg => om (d := .fn (.yield l17) []) J) <| y_if J (fun hg => mI J) ?_
   rcases Bool.eq_false_or_eq_true ((v18 != 0) == true) with hg25 | hg25
   ·have h := ifT h hg25
    refine y_wk (WE [(1000003, .ptr 2004 0 0), (1000005, .ptr 2003 0 0), (1000008, .fn (.func 239) [.rptr [.L iF v12]]), (0, .fn (.yield l17) []), (5, .L iF v12), (6, .I (v12.length : Int)), (7, .I s14), (13, .bool (v18 != 0)), (14, .fn (.yield l17) []), (15, .I v18)] [(2003, vR (.I s15) 1), (2004, vR (.I a1) 1)]) ?_
    refine y_yield hR20 (congrArg some hg25) J J J J J (fun e26 o27 o28 => ?_)
    refine S6 1 J ?_
    refine ⟨J, ?_⟩
    refine jqE h (fun j20 => St.of [(2000003, .ptr 2004 0 0), (2000005, .ptr 2003 0 0), (2000008, .fn (.func 239) [.rptr [.L iF v12]]), (1000000, .fn (.yield l17) []), (1000005, .L iF v12), (1000006, .I (v12.length : Int)), (1000007, .I s14), (1000013, .bool (v18 != 0)), (1000014, .fn (.yield l17) []), (1000015, .I v18)] [(2003, vR (.I j20) 1), (2004, vR (.I a1) 1)]) (fun j20 h => ?_) fun κ19 h => ?_
    ·refine ⟨J, ?_⟩
     refine y_wk (WE [(1000003, .ptr 2004 0 0), (1000005, .ptr 2003 0 0), (1000008, .fn (.func 239) [.rptr [.L iF v12]]), (0, .fn (.yield l17) []), (5, .L iF v12), (6, .I (v12.length : Int)), (7, .I s14), (13, .bool (v18 != 0)), (16, .bool true)] [(2003, vR (.I j20) 1), (2004, vR (.I a1) 1)]) <| y_if J (fun hg => o_not J J) <| y0 J (pk_and J J J (fun q => eqT q)) <| yN ?_
     refine cN h (fun hc h => ?_) fun hc h => ?_
     ·refine pw_ret ?_
      refine .inl ⟨J, ?_⟩
      have h := xL hx23 h
      exact eJ h (WP (fun l => if l = 2001 then 2003 else l))
     ·refine pw_skip ?_
      refine S6 2 J ?_
      exact eL h W
    ·refine pw_block ?_
     refine S4 3 J ?_
     refine cN h (fun hc h => ?_) fun hc h => ?_
     ·refine S6 3 J ?_
      exact eJ h W
     ·refine pw_skip ?_
      exact eJ h W
   ·have h := ifF h hg25
    refine y_skip (congrArg some hg25) <| y_skip (congrArg some hg25) <| y0 J (pk_andF J J hg25) <| yN ?_
    refine pw_cond false J (fun q => nomatch q) (fun _ => ?_)
    refine pw_skip <| S6 2 J ?_
    exact eL h W
  ·refine pw_exit ?_
   refine thenQ_exit <| thenQ_exit <| blockQ_exit ?_
   refine .inl ⟨J, ?_⟩
   have h := xL hx23 h
   exact eJ h (WP (fun l => if l = 2001 then 2003 else l))

theorem refs_Times_ok {a0 a1} : PO Tryz.prog 216 [.L iF a0, .I a1] (refs_Times a0 a1) fun r => .I r := by
 refine pO Tryz.func216 fun r h _ _ => ?_
 refine S4 1 J <| S3 2 J <| cA h vec_Count_ok J J fun v1 _ h => S2 1 J <| pw_ret ?_
 cases h
 exact f1

theorem trial_Fair_1_ok {a0 a1 a2 a3 a4} : PO Tryz.prog 213 [.I a0, store_Obj.Pv a1, .rptr (store_Store.Pc a2), .rptr [.L hash_Place.Pv a3], .rptr [.L iF a4]] (trial_Fair_1 a0 a1 a2 a3 a4) fun r => .bool r := by
 refine pO Tryz.func213 fun r h _ _ => ?_
 unfold trial_Fair_1 at h
 refine S4 2 J <| dr [] Ty.mix (by kernel_rfl) (by kernel_rfl) <| S7 2 J <| bnE h fun v1 hv1 h => d2 J (o_cl J count_Stuck_ok J hv1) J <| S7 2 J <| d_if0 J (fun hg => o_loadRA J Ty.a26 Ty.s26 nl J) J <| d_if0 J (fun hg => o_loadRS J Ty.a29 J) J <| d_if7 J (fun hg _ hN => mI J) J <| bnE h fun v2 hv2 h => d_if2 J (fun hg => o_cl J trial_Rest_ok (consE (ct hg) (consE (ct hg) (consE (ct hg) J))) (onlyE hv2 hg)) J <| d_if0 J (fun hg => o_loadRS J Ty.a27 J) J <| d_if7 J (fun hg _ hN => mI J) J <| bnE h fun v3 hv3 h => d_if2 J (fun hg => o_cl J refs_Times_ok (consE (ct hg) (consE (ct hg) J)) (onlyE hv3 hg)) J <| d_if7 J (fun hg _ hN => o_cmp (ct hg) (ct hg) J) J <| d7 J (fun _ hN => pk_and J J J (fun q => eqT q)) J <| S8 1 J <| pw_ret ?_
 cases h
 exact f1

theorem trial_Fair_ok {a0 a1 a2} : PO Tryz.prog 152 [store_Store.Pv a0, .L hash_Place.Pv a1, .L iF a2] (trial_Fair a0 a1 a2) fun r => .bool r := by
 refine pO Tryz.func152 fun r h _ _ => ?_
 refine S4 4 J <| S3 1 J <| y0 J (o_build (cs := [.fn (.func 213) [.ptr 3 0 0, .ptr 4 0 0, .ptr 5 0 0]]) J Ty.p252 Ty.z252 J J J) <| y_wk (wk_fv 9 (d' := .agg [.fn (.func 213) [.ptr 3 0 0, .ptr 4 0 0, .ptr 5 0 0]]) J) <| S2 2 J <| S3 2 J <| y_wk (WPE (fun l => if l = 2001 then 5 else if l = 2002 then 4 else if l = 2003 then 3 else l) [(10, .agg [.fn (.func 213) [.ptr 2003 0 0, .ptr 2002 0 0, .ptr 2001 0 0]]), (11, store_Store.Pv a0)] [(2001, vR (.L iF a2) 1), (2002, vR (.L hash_Place.Pv a1) 1), (2003, vR (store_Store.Pv a0) 3)]) ?_
 refine y_inl (fn := Tryz.f217) (N1 := 34) J J Tryz.func217 J Ty.k217 J J nl (fun e1 o2 => ?_)
 refine jqR h (fun j36 => St.of [(1000010, .agg [.fn (.func 213) [.ptr 2003 0 0, .ptr 2002 0 0, .ptr 2001 0 0]]), (1000011, store_Store.Pv a0), (4, .sl 910005)] [(910005, ⟨List.map iF j36, (List.map iF j36).length, true, 1, true⟩), (2001, vR (.L iF a2) 1), (2002, vR (.L hash_Place.Pv a1) 1), (2003, vR (store_Store.Pv a0) 3)]) (fun j36 h => dup ?_) fun κ35 h => ?_
 ·refine ⟨J, [.sl 910005], ⟨J, tr⟩, ?_⟩
  refine y_wk (WPE (fun l => if l = 2004 then 910005 else l) [(12, .sl 2004)] [(2004, ⟨List.map iF j36, (List.map iF j36).length, true, 1, true⟩)]) <| y0 J (o_lnR (f := iF) J J J Ty.e27) <| S2 2 J <| pw_ret ?_
  cases h
  exact f1
 ·refine S4 3 J ?_
  refine S4 1 J ?_
  refine jq h (fun j54 => St.of [(1000010, .agg [.fn (.func 213) [.ptr 2003 0 0, .ptr 2002 0 0, .ptr 2001 0 0]]), (1000011, store_Store.Pv a0), (5, .sl 910005)] [(910005, ⟨List.map iF j54, (List.map iF j54).length, true, 1, true⟩), (2001, vR (.L iF a2) 1), (2002, vR (.L hash_Place.Pv a1) 1), (2003, vR (store_Store.Pv a0) 3)]) (fun j54 h => ?_) fun κ53 h => ?_
  ·refine S4 2 J ?_
   refine pw_ret ?_
   exact eJ h (Wk.trans (wk_frz _ [910005]) W)
  ·refine S3 1 J ?_
   refine cF h store_Live_ok J J fun v55 _ h => nL J Ty.e27 <| S2 1 J <| pw_block <| lq h (fun q => St.of [(1000010, .agg [.fn (.func 213) [.ptr 2003 0 0, .ptr 2002 0 0, .ptr 2001 0 0]]), (1000011, store_Store.Pv a0), (2, .ptr 2 0 0), (3, .ptr 3 0 0), (5, .sl 910005), (11, .L iF v55), (12, .I (v55.length : Int)), (13, .I q.1)] [(3, vR (store_Store.Pv a0) 3), (2, vS (.agg [.fn (.func 213) [.ptr 2003 0 0, .ptr 2002 0 0, .ptr 2001 0 0]]) 1), (2001, vR (.L iF a2) 1), (2002, vR (.L hash_Place.Pv a1) 1), (2003, vR (store_Store.Pv a0) 3), (910005, ⟨List.map iF q.2, (List.map iF q.2).length, true, 1, true⟩)]) (Wk.trans (wk_nil (t := 5) (l := 920005) (z := 1) J J) (WP (fun l => if l = 910005 then 920005 else l))) fun q60 x59 h hx48 => ?_
   obtain ⟨s57, s58⟩ := q60
   refine S4 1 J <| pw_seq ?_
   refine cN h (fun hc h => ?_) fun hc h => ?_
   ·refine pw_skip ?_
    refine jq h (fun j66 => St.of [(1000010, .agg [.fn (.func 213) [.ptr 2003 0 0, .ptr 2002 0 0, .ptr 2001 0 0]]), (1000011, store_Store.Pv a0), (2, .ptr 2 0 0), (3, .ptr 3 0 0), (5, .sl 31), (11, .L iF v55), (12, .I (v55.length : Int)), (13, .I s57)] [(31, ⟨List.map iF j66, (List.map iF j66).length, true, 1, true⟩), (3, vR (store_Store.Pv a0) 3), (2, vS (.agg [.fn (.func 213) [.ptr 2003 0 0, .ptr 2002 0 0, .ptr 2001 0 0]]) 1), (2001, vR (.L iF a2) 1), (2002, vR (.L hash_Place.Pv a1) 1), (2003, vR (store_Store.Pv a0) 3)]) (fun j66 h => ?_) fun κ65 h => ?_
    ·refine S6 2 J ?_
     exact eL h (Wk.trans (wk_frz _ [31]) (WP (fun l => if l = 910005 then 31 else l)))
    ·refine pw_block ?_
     refine sR <| iL h J J Ty.e27 Ty.s3 fun v67 _ h => S2 2 J <| S3 2 J <| cF h store_Get_ok J J fun v68 _ h => S2 6 J <| S3 4 J <| cA h trial_Fair_1_ok J J fun v69 _ h => yN ?_
     refine cN h (fun hc h => ?_) fun hc h => ?_
     ·refine S5 2 J ?_
      refine y0 J (o_bI (f := iF) (l := [v67]) J Ty.e27 Ty.s3 Ty.z3 J J nl J J) <| bnE h fun v70 hv57 h => y_app J (o_apR (f := iF) hv57 J J J J J J (.inl ⟨_, J, J⟩) Ty.e27 Ty.s3 Ty.b3 Ty.z3 J (fun _ => J)) J J J <| S2 1 J ?_
      exact eJ h (Wk.trans (wk_frz _ [31]) W)
     ·refine pw_skip ?_
      exact eJ h (Wk.trans (wk_frz _ [910005]) (WP (fun l => if l = 31 then 910005 else l)))
   ·refine pw_exit ?_
    refine thenQ_exit <| thenQ_exit <| blockQ_exit ?_
    have h := xL hx48 h
    exact eJ h (Wk.trans (wk_frz _ [910005]) W)

theorem hold_Right_ok {a0} : PO Tryz.prog 62 [hold_Heap.Pv a0] (hold_Right a0) fun r => .bool r := by
 refine pO Tryz.func62 fun r h _ _ => ?_
 refine S4 2 J <| pw_seq <| S3 1 J <| cA h hold_shapesFit_ok J J fun v1 _ h => S2 1 J ?_
 refine cN h (fun hc h => ?_) fun hc h => ?_
 ·refine S4 1 J ?_
  refine pw_ret ?_
  cases h
  exact f1
 ·refine pw_skip ?_
  refine jq h (fun _ => St.of [(1, .ptr 1 0 0)] [(1, vR (hold_Heap.Pv a0) 8)]) (fun q9 h => ?_) fun κ8 h => ?_
  ·refine dr [] Ty.mix (by kernel_rfl) (by kernel_rfl) ?_
   refine S7 5 J <| bnE h fun v10 hv11 h => d2f J (o_clF J hold_Outer_ok J hv11) J <| bnE h fun v11 hv12 h => d2 J (o_cl J trial_Fair_ok J hv12) J <| S8 1 J <| pw_ret ?_
   cases h
   exact f1
  ·refine sR ?_
   refine y0 J (o_bI (f := fun n : Nat => PV.fn (.func n) []) (l := [147, 148, 149, 150, 151]) J Ty.e178 Ty.s35 Ty.z35 J J nl J J) <| y_wk (wk_fvL 8 (d' := .lst true (List.map fvE [(some 147), (some 148), (some 149), (some 150), (some 151)])) J J J) <| nL J Ty.e178 <| S2 1 J <| pw_block <| lq h (fun s13 => St.of [(1, .ptr 1 0 0), (8, .lst true (List.map fvE [(some 147), (some 148), (some 149), (some 150), (some 151)])), (9, .I ([(some 147), (some 148), (some 149), (some 150), (some 151)].length : Int)), (10, .I s13)] [(1, vR (hold_Heap.Pv a0) 8)]) W fun s13 x14 h hx15 => S4 1 J <| pw_seq ?_
   refine cN h (fun hc h => ?_) fun hc h => ?_
   ·refine pw_skip ?_
    refine pw_seq <| pw_block <| sR <| iL h J J Ty.e178 Ty.s35 fun v15 _ h => S2 2 J <| S3 2 J ?_
    obtain ⟨v16, hv17, h⟩ := bindE h
    obtain ⟨n17, he18, hk19, hp20⟩ := fvcall1_ok hv17
    refine y_wk (wk_fn 14 J he18) <| y0 J (o_call J hk19 J hp20) <| S2 1 J ?_
    refine cN h (fun hc h => ?_) fun hc h => ?_
    ·refine S4 1 J ?_
     refine pw_ret ?_
     have h := xL hx15 h
     cases h
     exact f1
    ·refine pw_skip ?_
     refine S6 2 J ?_
     exact eL h W
   ·refine pw_exit ?_
    refine thenQ_exit <| thenQ_exit <| blockQ_exit ?_
    have h := xL hx15 h
    exact eJ h W

theorem w16_shown_ok : PO Tryz.prog 36 [] (w16_shown) fun r => .bool r := by
 refine pO Tryz.func36 fun r h _ _ => ?_
 refine S4 1 J <| sR <| cF h hold_New_ok J J fun v1 _ h => S2 2 J <| S3 2 J <| cF h store_Make_ok J J fun v2 _ h => S2 8 J <| S3 1 J <| cF h store_Make_ok J J fun v3 _ h => S2 7 J <| S3 1 J <| cF h store_Make_ok J J fun v4 _ h => S2 7 J <| S4 3 J <| S3 3 J <| cF h hold_Field_ok J J fun v5 _ h => S2 4 J <| S3 3 J <| cF h hold_Field_ok J J fun v6 _ h => S2 4 J <| S3 2 J <| cF h hold_Weak_ok J J fun v7 _ h => S2 4 J <| S3 1 J <| cF h settle_Zero_ok J J fun v8 _ h => S2 1 J <| S3 1 J <| cF h settle_Settle_ok J J fun v9 _ h => S2 2 J <| S3 3 J ?_
 refine cF h store_Get_ok J J fun v10 _ h => S2 6 J <| S3 3 J <| cF h store_Get_ok J J fun v11 _ h => S2 6 J <| S3 2 J <| cA h weak_Load_ok J J fun v12 _ h => S2 5 J <| S3 1 J <| nL J Ty.e27 <| S1 2 J <| y_if J (fun hg => om (d := .L iF v8) J) <| bnE h fun v13 hv13 h => y_if J (fun hg => o_ixL (f := iF) (cs := [.I v13]) (onlyE hv13 hg) (ct hg) J Ty.e27 Ty.s3 J J) <| y_if J (fun hg => o_loadRS (ct hg) Ty.a3 J) <| y_if J (fun hg => mI J) <| y_if J (fun hg => o_cmp (ct hg) (ct hg) J) <| y0 J (pk_and J J J (fun q => eqT q)) <| S1 1 J <| y_if J (fun hg => oF J Ty.f34_0 J) <| y_if J (fun hg => oL (ct hg) J J Ty.a26 Ty.s26 nl J) <| bnE h fun v14 hv14 h => y_ifc J (fun hg => o_clF J store_Live_ok (consE (ct hg) J) (onlyE hv14 hg)) <| y_if J (fun hg => o_lnL (f := iF) (ct hg) Ty.e27) <| y_if J (fun hg => o_cmp (ct hg) J J) <| y0 J (pk_and J J J (fun q => eqT q)) <| S1 1 J <| y_if J (fun hg => mI J) <| y_if J (fun hg => o_cmp (ct hg) J J) <| y0 J (pk_and J J J (fun q => eqT q)) <| S1 1 J <| y_if J (fun hg => oF J Ty.f91_4 J) <| y_if J (fun hg => oS (ct hg) J J Ty.a4 J) <| y0 J (pk_and J J J (fun q => eqT q)) <| S1 1 J <| y_if J (fun hg => oF J Ty.f91_1 J) <| y_if J (fun hg => oS (ct hg) J J Ty.a3 J) <| y_if J (fun hg => o_cmp (ct hg) J J) <| y0 J (pk_and J J J (fun q => eqT q)) <| S1 1 J <| y_if J (fun hg => mI J) <| y_if J (fun hg => o_cmp (ct hg) J J) <| y0 J (pk_and J J J (fun q => eqT q)) <| S1 1 J <| y_if J (fun hg => mI J) <| y_if J (fun hg => o_cmp (ct hg) J J) <| y0 J (pk_and J J J (fun q => eqT q)) <| S1 1 J <| y_if J (fun hg => oF J Ty.f34_4 J) <| y_if J (fun hg => oF (ct hg) Ty.f32_0 J) <| y_if J (fun hg => oS (ct hg) J J Ty.a30 J) <| y_if J (fun hg => o_lnL (f := task_Task.Pv) (ct hg) Ty.e30) ?_
 refine y_if J (fun hg => o_cmp (ct hg) J J) <| y0 J (pk_and J J J (fun q => eqT q)) <| S1 1 J <| y_if J (fun hg => oF J Ty.f34_4 J) <| y_if J (fun hg => oF (ct hg) Ty.f32_0 J) <| y_if J (fun hg => oS (ct hg) J J Ty.a30 J) <| bnE h fun v15 hv15 h => y_if J (fun hg => o_ixL (f := task_Task.Pv) (cs := task_Task.Pc v15) (onlyE hv15 hg) (ct hg) J Ty.e30 Ty.s82 J J) <| y_if J (fun hg => o_loadRA (ct hg) Ty.a82 Ty.s82 nl J) <| y_if J (fun hg => o_build (cs := [.I 2, .I 0, .I 2]) J Ty.p82 Ty.z82 J J J) <| y_if J (fun hg => o_eqA (xs := task_Task.Pc v15) (ys := [.I 2, .I 0, .I 2]) Ty.q82 (ct hg) (ct hg) J) <| y0 J (pk_and J J J (fun q => eqT q)) <| S1 1 J <| y_if J (fun hg => oF J Ty.f34_4 J) <| y_if J (fun hg => oF (ct hg) Ty.f32_0 J) <| y_if J (fun hg => oS (ct hg) J J Ty.a30 J) <| bnE h fun v16 hv16 h => y_if J (fun hg => o_ixL (f := task_Task.Pv) (cs := task_Task.Pc v16) (onlyE hv16 hg) (ct hg) J Ty.e30 Ty.s82 J J) <| y_if J (fun hg => o_loadRA (ct hg) Ty.a82 Ty.s82 nl J) <| y_if J (fun hg => mI J) <| y_if J (fun hg => o_build (cs := [.I 1, .I v4.2.1, .I 3]) (consE (partE J) (consE (partE (ct hg)) (consE (partE J) J))) Ty.p82 Ty.z82 J J J) <| y_if J (fun hg => o_eqA (xs := task_Task.Pc v16) (ys := [.I 1, .I v4.2.1, .I 3]) Ty.q82 (ct hg) (ct hg) J) <| y0 J (pk_and J J J (fun q => eqT q)) <| S1 1 J <| y_if J (fun hg => oL J J J Ty.a34 Ty.s34 nl J) <| bnE h fun v17 hv17 h => y_if J (fun hg => o_cl J settle_Settled_ok (consE (ct hg) J) (onlyE hv17 hg)) <| y0 J (pk_and J J J (fun q => eqT q)) <| S1 1 J <| y_if J (fun hg => oL J J J Ty.a34 Ty.s34 nl J) <| bnE h fun v18 hv18 h => y_if J (fun hg => o_cl J hold_Right_ok (consE (ct hg) J) (onlyE hv18 hg)) <| y0 J (pk_and J J J (fun q => eqT q)) <| S2 1 J <| pw_ret ?_
 cases h
 exact f1

theorem hold_rootPlace_say_ok {a0 a1} : PO Tryz.prog 66 [hold_rootPlace.Pv a0, hold_Heap.Pv a1] (hold_rootPlace_say a0 a1) fun r => hold_Heap.Pv r := by
 refine pO Tryz.func66 fun r h _ _ => ?_
 unfold hold_rootPlace_say at h
 refine S4 3 J <| S3 2 J <| bnE h fun v1 hv1 h => ycN J (o_clN J slices_Clone_int_int_okN J hv1) J J <| S2 2 J <| S3 6 J <| bnE h fun v2 hv2 h => y0 J (o_ixR (f := iF) hv2 J J J J Ty.e27 Ty.s3 J) <| y_stE (f := iF) (v := a0.h) hv2 J J (.inl J) Ty.s3 <| yN <| S4 2 J <| pw_ret ?_
 cases h
 exact ⟨J, [_], ⟨oL J J J Ty.a34 Ty.s34 nl J, tr⟩, J, io⟩

theorem hold_turned__hold_rootPlace_say_ok {a0 a1 a2 a3} : PO Tryz.prog 65 [hold_Heap.Pv a0, .I a1, .I a2, .abs (BFn 66 [hold_rootPlace.Pv a3])] (hold_turned__hold_rootPlace_say a0 a1 a2 a3) fun r => hold_Heap.Pv r := by
 refine pO Tryz.func65 fun r h _ _ => ?_
 refine S4 2 J <| S3 3 J <| cF h hold_Retain_ok J J fun v1 _ h => bnE h fun v2 hv2 h => y_callB (xs := [hold_Heap.Pv v1]) J J Ty.k66 J (hold_rootPlace_say_ok.2 _ hv2) <| S1 1 J <| cF h hold_Release_ok J J fun v3 _ h => S2 1 J <| pw_ret ?_
 cases h
 exact ⟨J, [_], ⟨oL J J J Ty.a34 Ty.s34 nl J, tr⟩, J, io⟩

theorem hold_Root_ok {a0 a1 a2} : PO Tryz.prog 17 [hold_Heap.Pv a0, .I a1, .I a2] (hold_Root a0 a1 a2) fun r => .tup [hold_Heap.Pv r.1, .I r.2] := by
 refine pO Tryz.func17 fun r h _ _ => ?_
 refine S4 3 J <| pw_seq <| S3 3 J <| y_if J (fun hg => mI J) <| y_if J (fun hg => oF J Ty.f34_1 J) <| y_if J (fun hg => oS (ct hg) J J Ty.a27 J) <| y_if J (fun hg => o_lnL (f := iF) (ct hg) Ty.e27) <| y_if J (fun hg => o_cmp (ct hg) (ct hg) J) <| y0 J (pk_or J J J (fun q => eqF q)) <| yN ?_
 refine cN h (fun hc h => ?_) fun hc h => ?_
 ·refine S4 3 J ?_
  refine pw_ret ?_
  cases h
  exact ⟨J, [_, _], ⟨oL J J J Ty.a34 Ty.s34 nl J, ⟨J, tr⟩⟩, J, io⟩
 ·refine pw_skip ?_
  refine pw_seq <| S3 2 J <| cA h hold_nameable_ok J J fun v1 _ h => S2 1 J ?_
  refine cN h (fun hc h => ?_) fun hc h => ?_
  ·refine S4 3 J ?_
   refine pw_ret ?_
   cases h
   exact ⟨J, [_, _], ⟨oL J J J Ty.a34 Ty.s34 nl J, ⟨J, tr⟩⟩, J, io⟩
  ·refine pw_skip ?_
   refine dr [] Ty.mix (by kernel_rfl) (by kernel_rfl) <| S7 4 J <| bnE h fun v2 hv2 h => d0 J (o_ixL (f := iF) (cs := [.I v2]) hv2 J J Ty.e27 Ty.s3 J J) J <| S7 4 J <| d7 J (fun _ hN => o_build (cs := [.I a1, .I a2]) J Ty.p96 Ty.z96 J J J) J <| d7 J (fun _ hN => o_mkFuncB (d := .agg [.I a1, .I a2]) J) J <| bnE h fun v3 hv3 h => d2f J (o_clF J hold_turned__hold_rootPlace_say_ok J hv3) J <| d_sto (x' := hold_Heap.Pv v3) (cl' := true) J J (.inr J) Ty.s34 <| S8 1 J <| pw_ret ?_
   cases h
   exact ⟨J, [_, _], ⟨oL J J J Ty.a34 Ty.s34 nl J, ⟨J, tr⟩⟩, J, io⟩

theorem w16_SettleChain_ok {a0} : PO Tryz.prog 14 [.int .u8 a0] (w16_SettleChain a0) fun r => .bool r := by
 refine pO Tryz.func14 fun r h _ _ => ?_
 unfold w16_SettleChain at h
 refine S4 1 J <| S3 1 J <| y0 J (o_conv J Ty.u5 Ty.i3 J) <| bnE h fun v1 hv1 h => y0 J (o_ari J J hv1) <| S2 2 J <| sR <| cF h hold_New_ok J J fun v2 _ h => S2 2 J ?_
 refine jq h (fun j17 => St.of [(3, .I (w64 (1 + v1))), (4, .ptr 4 0 0)] [(4, vR (hold_Heap.Pv j17) 8)]) (fun j17 h => ?_) fun κ16 h => ?_
 ·refine S3 1 J ?_
  refine cF h settle_Settle_ok J J fun v18 _ h => S2 2 J <| S3 1 J <| cF h hold_Root_ok J J fun v19 _ h => S2 6 J <| S3 1 J <| cF h settle_Settle_ok J J fun v20 _ h => S2 2 J <| S3 2 J <| cF h store_Live_ok J J fun v21 _ h => nL J Ty.e27 <| S1 3 J <| y_if J (fun hg => oL J J J Ty.a34 Ty.s34 nl J) <| bnE h fun v22 hv18 h => y_ifc J (fun hg => o_clF J settle_Zero_ok (consE (ct hg) J) (onlyE hv18 hg)) <| y_if J (fun hg => o_lnL (f := iF) (ct hg) Ty.e27) <| y_if J (fun hg => o_cmp (ct hg) J J) <| y0 J (pk_and J J J (fun q => eqT q)) <| S1 1 J <| y_if J (fun hg => oF J Ty.f34_0 J) <| y_if J (fun hg => oL (ct hg) J J Ty.a26 Ty.s26 nl J) <| bnE h fun v23 hv19 h => y_ifc J (fun hg => o_clF J store_Live_ok (consE (ct hg) J) (onlyE hv19 hg)) <| y_if J (fun hg => o_lnL (f := iF) (ct hg) Ty.e27) <| y_if J (fun hg => o_cmp (ct hg) J J) <| y0 J (pk_and J J J (fun q => eqT q)) <| S1 1 J <| y_if J (fun hg => oL J J J Ty.a34 Ty.s34 nl J) <| bnE h fun v24 hv20 h => y_if J (fun hg => o_cl J settle_Settled_ok (consE (ct hg) J) (onlyE hv20 hg)) <| y0 J (pk_and J J J (fun q => eqT q)) <| S1 1 J <| y_if J (fun hg => oF J Ty.f34_0 J) <| y_if J (fun hg => oF (ct hg) Ty.f26_1 J) <| y_if J (fun hg => oS (ct hg) J J Ty.a3 J) <| y_if J (fun hg => mI J) <| y_if J (fun hg => o_cmp (ct hg) (ct hg) J) <| y0 J (pk_and J J J (fun q => eqT q)) <| S1 1 J <| bnE h fun v25 hv21 h => y_if J (fun hg => o_cl J w16_shown_ok J (onlyE hv21 hg)) <| y0 J (pk_and J J J (fun q => eqT q)) <| S2 1 J <| pw_ret ?_
  cases h
  exact f1
 ·refine S4 1 J ?_
  refine pw_block <| lq h (fun q => St.of [(3, .I (w64 (1 + v1))), (4, .ptr 4 0 0), (5, .I q.1)] [(4, vR (hold_Heap.Pv q.2) 8)]) W fun q30 x29 h hx24 => ?_
  obtain ⟨s27, s28⟩ := q30
  refine pw_seq <| S4 3 J ?_
  refine cN h (fun hc h => ?_) fun hc h => ?_
  ·refine pw_skip ?_
   refine pw_seq <| pw_block <| S3 2 J <| cF h store_Make_ok J J fun v31 _ h => S2 8 J <| pw_seq <| S4 2 J ?_
   refine cN h (fun hc h => ?_) fun hc h => ?_
   ·refine S4 1 J ?_
    refine pw_ret ?_
    have h := xL hx24 h
    cases h
    exact f1
   ·refine pw_skip ?_
    refine S4 3 J <| pw_seq <| S3 2 J <| nL J Ty.e27 <| S2 1 J ?_
    refine cN h (fun hc h => ?_) fun hc h => ?_
    ·refine S4 1 J ?_
     refine pw_ret ?_
     have h := xL hx24 h
     cases h
     exact f1
    ·refine pw_skip ?_
     refine jq h (fun j35 => St.of [(3, .I (w64 (1 + v1))), (4, .ptr 4 0 0), (5, .I s27), (7, .I v31.2.1)] [(4, vR (hold_Heap.Pv j35) 8)]) (fun j35 h => ?_) fun κ34 h => ?_
     ·refine S5 2 J ?_
      refine cF h hold_Root_ok J J fun v36 _ h => S2 4 J <| S6 3 J ?_
      exact eL h W
     ·refine S4 2 J ?_
      refine cN h (fun hc h => ?_) fun hc h => ?_
      ·refine pw_drw [] Ty.mix (by kernel_rfl) (by kernel_rfl) ?_
       refine S7 4 J <| bnE h fun v37 hv30 h => d0 J (o_ixL (f := iF) (cs := [.I v37]) hv30 J J Ty.e27 Ty.s3 J J) J <| S7 1 J <| bnE h fun v38 hv31 h => d2f J (o_clF J hold_Field_ok J hv31) J <| S7 3 J <| d_sto (x' := hold_Heap.Pv v38.1) (cl' := true) J J (.inr J) Ty.s34 <| d_nil ?_
       exact eJ h W
      ·refine pw_skip ?_
       exact eJ h W
  ·refine pw_exit ?_
   refine thenQ_exit <| thenQ_exit <| blockQ_exit ?_
   have h := xL hx24 h
   exact eJ h W

end Go.Proofs.YtnfmdpblilpcbaaGreat.Ok
