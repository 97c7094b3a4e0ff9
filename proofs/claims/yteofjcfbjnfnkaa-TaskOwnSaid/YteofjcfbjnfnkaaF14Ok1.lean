/-
  The functions of the program do as the plain functions do.
-/
import Derived.Test.YteofjcfbjnfnkaaPw27
import Derived.Test.YteofjcfbjnfnkaaF14Sh
import Derived.Test.YteofjcfbjnfnkaaProg
namespace Go.Proofs.Yteofjcfbjnfnkaa.Ok
open Go Go.Pw Go.Sh Go.Proofs
set_option linter.unusedVariables false
set_option maxRecDepth 100000
abbrev _root_.Go.Sh.task_Task.Pc (x : task_Task) : List PV := [.int .i64 x.Kind, .int .i64 x.At, .int .i64 x.Prog]
abbrev _root_.Go.Sh.task_Task.Pv (x : task_Task) : PV := .agg x.Pc
abbrev _root_.Go.Sh.queue_Queue_task_Task.Pc (x : queue_Queue_task_Task) : List PV := [.lst false (List.map task_Task.Pv x.L), .int .i64 x.Cap]
abbrev _root_.Go.Sh.queue_Queue_task_Task.Pv (x : queue_Queue_task_Task) : PV := .agg x.Pc
abbrev _root_.Go.Sh.r14_Task.Pc (x : r14_Task) : List PV := [.int .i64 x.Kind, .int .i64 x.At, .int .i64 x.Prog]
abbrev _root_.Go.Sh.r14_Task.Pv (x : r14_Task) : PV := .agg x.Pc
abbrev _root_.Go.Sh.r14_Queue.Pc (x : r14_Queue) : List PV := [.lst false (List.map r14_Task.Pv x.L), .int .i64 x.Cap]
abbrev _root_.Go.Sh.r14_Queue.Pv (x : r14_Queue) : PV := .agg x.Pc
namespace Ty
theorem a3 : tagg Try.prog 3 = some false := by kernel_rfl
theorem a4 : tagg Try.prog 4 = some false := by kernel_rfl
theorem a22 : tagg Try.prog 22 = some false := by kernel_rfl
theorem a24 : tagg Try.prog 24 = some true := by kernel_rfl
theorem a26 : tagg Try.prog 26 = some true := by kernel_rfl
theorem a28 : tagg Try.prog 28 = some false := by kernel_rfl
theorem a30 : tagg Try.prog 30 = some true := by kernel_rfl
theorem a37 : tagg Try.prog 37 = some true := by kernel_rfl
theorem a44 : tagg Try.prog 44 = some false := by kernel_rfl
theorem b3 : tbytes Try.prog 3 = some 8 := by kernel_rfl
theorem b26 : tbytes Try.prog 26 = some 24 := by kernel_rfl
theorem b37 : tbytes Try.prog 37 = some 24 := by kernel_rfl
theorem e22 : telem Try.prog 22 = some 26 := by kernel_rfl
theorem e28 : telem Try.prog 28 = some 37 := by kernel_rfl
theorem e44 : telem Try.prog 44 = some 3 := by kernel_rfl
theorem f24_0 : foff Try.prog 24 0 = some (0, 22) := by kernel_rfl
theorem f24_1 : foff Try.prog 24 1 = some (1, 3) := by kernel_rfl
theorem f26_0 : foff Try.prog 26 0 = some (0, 3) := by kernel_rfl
theorem f26_1 : foff Try.prog 26 1 = some (1, 3) := by kernel_rfl
theorem f30_0 : foff Try.prog 30 0 = some (0, 28) := by kernel_rfl
theorem f30_1 : foff Try.prog 30 1 = some (1, 3) := by kernel_rfl
theorem f37_0 : foff Try.prog 37 0 = some (0, 3) := by kernel_rfl
theorem f37_1 : foff Try.prog 37 1 = some (1, 3) := by kernel_rfl
theorem i3 : tint Try.prog 3 = some .i64 := by kernel_rfl
theorem k8 : Callable Try.prog 8 := ⟨Try.f8, _, Try.func8, rfl, by decide⟩
theorem k9 : Callable Try.prog 9 := ⟨Try.f9, _, Try.func9, rfl, by decide⟩
theorem k10 : Callable Try.prog 10 := ⟨Try.f10, _, Try.func10, rfl, by decide⟩
theorem k11 : Callable Try.prog 11 := ⟨Try.f11, _, Try.func11, rfl, by decide⟩
theorem k12 : Callable Try.prog 12 := ⟨Try.f12, _, Try.func12, rfl, by decide⟩
theorem k13 : Callable Try.prog 13 := ⟨Try.f13, _, Try.func13, rfl, by decide⟩
theorem k14 : Callable Try.prog 14 := ⟨Try.f14, _, Try.func14, rfl, by decide⟩
theorem k15 : Callable Try.prog 15 := ⟨Try.f15, _, Try.func15, rfl, by decide⟩
theorem k16 : Callable Try.prog 16 := ⟨Try.f16, _, Try.func16, rfl, by decide⟩
theorem k17 : Callable Try.prog 17 := ⟨Try.f17, _, Try.func17, rfl, by decide⟩
theorem k18 : Callable Try.prog 18 := ⟨Try.f18, _, Try.func18, rfl, by decide⟩
theorem k19 : Callable Try.prog 19 := ⟨Try.f19, _, Try.func19, rfl, by decide⟩
theorem k20 : Callable Try.prog 20 := ⟨Try.f20, _, Try.func20, rfl, by decide⟩
theorem k21 : Callable Try.prog 21 := ⟨Try.f21, _, Try.func21, rfl, by decide⟩
theorem k22 : Callable Try.prog 22 := ⟨Try.f22, _, Try.func22, rfl, by decide⟩
theorem k23 : Callable Try.prog 23 := ⟨Try.f23, _, Try.func23, rfl, by decide⟩
theorem k24 : Callable Try.prog 24 := ⟨Try.f24, _, Try.func24, rfl, by decide⟩
theorem k25 : Callable Try.prog 25 := ⟨Try.f25, _, Try.func25, rfl, by decide⟩
theorem k26 : Callable Try.prog 26 := ⟨Try.f26, _, Try.func26, rfl, by decide⟩
theorem k27 : Callable Try.prog 27 := ⟨Try.f27, _, Try.func27, rfl, by decide⟩
theorem k28 : Callable Try.prog 28 := ⟨Try.f28, _, Try.func28, rfl, by decide⟩
theorem k29 : Callable Try.prog 29 := ⟨Try.f29, _, Try.func29, rfl, by decide⟩
theorem k30 : Callable Try.prog 30 := ⟨Try.f30, _, Try.func30, rfl, by decide⟩
theorem p24 : bplaces Try.prog 24 = some (fun i => (#[(0, 1), (1, 1)] : Array (Nat × Nat))[i]?) := by kernel_rfl
theorem p26 : bplaces Try.prog 26 = some (fun i => (#[(0, 1), (1, 1), (2, 1)] : Array (Nat × Nat))[i]?) := by kernel_rfl
theorem p30 : bplaces Try.prog 30 = some (fun i => (#[(0, 1), (1, 1)] : Array (Nat × Nat))[i]?) := by kernel_rfl
theorem p37 : bplaces Try.prog 37 = some (fun i => (#[(0, 1), (1, 1), (2, 1)] : Array (Nat × Nat))[i]?) := by kernel_rfl
theorem q26 : fkinds Try.prog 26 = some [1, 1, 1] := by kernel_rfl
theorem q37 : fkinds Try.prog 37 = some [1, 1, 1] := by kernel_rfl
theorem s3 : tsize Try.prog 3 = some 1 := by kernel_rfl
theorem s4 : tsize Try.prog 4 = some 1 := by kernel_rfl
theorem s22 : tsize Try.prog 22 = some 1 := by kernel_rfl
theorem s24 : tsize Try.prog 24 = some 2 := by kernel_rfl
theorem s26 : tsize Try.prog 26 = some 3 := by kernel_rfl
theorem s30 : tsize Try.prog 30 = some 2 := by kernel_rfl
theorem s37 : tsize Try.prog 37 = some 3 := by kernel_rfl
theorem s44 : tsize Try.prog 44 = some 1 := by kernel_rfl
theorem u4 : Try.prog.underlying 4 = some (.bool) := by kernel_rfl
theorem u5 : Try.prog.underlying 5 = some (.int .u8) := by kernel_rfl
theorem z3 : tzero Try.prog 3 = some ((.int .i64 0)) := by kernel_rfl
theorem z4 : tzero Try.prog 4 = some ((.bool false)) := by kernel_rfl
theorem z24 : tzero Try.prog 24 = some ((.agg #[(.slice none 0 0), (.int .i64 0)])) := by kernel_rfl
theorem z26 : tzero Try.prog 26 = some ((.agg #[(.int .i64 0), (.int .i64 0), (.int .i64 0)])) := by kernel_rfl
theorem z30 : tzero Try.prog 30 = some ((.agg #[(.slice none 0 0), (.int .i64 0)])) := by kernel_rfl
theorem z37 : tzero Try.prog 37 = some ((.agg #[(.int .i64 0), (.int .i64 0), (.int .i64 0)])) := by kernel_rfl
theorem z44 : tzero Try.prog 44 = some ((.slice none 0 0)) := by kernel_rfl
theorem mix : Try.prog.follows .mixedOrders = true := by kernel_rfl
end Ty
set_option maxHeartbeats 4000000 in
theorem queue_New_task_Task_ok {a0 : Int} {r : queue_Queue_task_Task} (h : queue_New_task_Task a0 = some r) : PCalls Try.prog 26 [.int .i64 a0] (queue_Queue_task_Task.Pv r) := by
  unfold queue_New_task_Task at h
  refine pc_intro (N := 5) Try.func26 rfl rfl (Nat.le_of_ble_eq_true rfl) fun w0 imm0 => ?_
  refine sr (by kernel_rfl) ?_
  refine y1 rfl (o_alloc (d := .agg [.lst false (List.map task_Task.Pv []), .int .i64 0]) (z := 2) rfl Ty.z24 rfl rfl rfl) rfl ?_
  refine y_nil ?_
  refine sr (by kernel_rfl) ?_
  refine y0 rfl (o_move (d := .int .i64 a0) rfl) ?_
  refine y0 rfl (o_build (cs := [.lst false (List.map task_Task.Pv []), .int .i64 a0]) rfl Ty.p24 Ty.z24 rfl rfl rfl) ?_
  refine y_sto (x' := .agg [.lst false (List.map task_Task.Pv []), .int .i64 a0]) (cl' := true) rfl rfl (.inr rfl) Ty.s24 ?_
  refine y_nil ?_
  refine pw_ret ?_
  obtain rfl := Option.some.inj h
  exact ⟨rfl, [_], ⟨o_loadA rfl rfl rfl Ty.a24 Ty.s24 (Nat.le_of_ble_eq_true rfl) rfl, trivial⟩, rfl, by first | exact .inl rfl | exact .inr rfl⟩

set_option maxHeartbeats 4000000 in
theorem task_New_ok  {r : queue_Queue_task_Task} (h : task_New = some r) : PCalls Try.prog 22 [] (queue_Queue_task_Task.Pv r) := by
  unfold task_New at h
  refine pc_intro (N := 2) Try.func22 rfl rfl (Nat.le_of_ble_eq_true rfl) fun w0 imm0 => ?_
  refine sr (by kernel_rfl) ?_
  refine y1 rfl (o_alloc (d := .agg [.lst false (List.map task_Task.Pv []), .int .i64 0]) (z := 2) rfl Ty.z24 rfl rfl rfl) rfl ?_
  refine y_nil ?_
  refine sr (by kernel_rfl) ?_
  obtain ⟨v1, hv1, h⟩ := bindE h
  refine yc rfl (o_callF (ls := []) (ds := [.int .i64 30]) rfl Ty.k26 rfl (queue_New_task_Task_ok hv1)) ?_
  refine y_sto (x' := queue_Queue_task_Task.Pv v1) (cl' := true) rfl rfl (.inr rfl) Ty.s24 ?_
  refine y_nil ?_
  refine pw_ret ?_
  obtain rfl := Option.some.inj h
  exact ⟨rfl, [_], ⟨o_loadA rfl rfl rfl Ty.a24 Ty.s24 (Nat.le_of_ble_eq_true rfl) rfl, trivial⟩, rfl, by first | exact .inl rfl | exact .inr rfl⟩

set_option maxHeartbeats 4000000 in
theorem queue_Len_task_Task_ok {a0 : queue_Queue_task_Task} {r : Int} (h : queue_Len_task_Task a0 = some r) : PCalls Try.prog 27 [queue_Queue_task_Task.Pv a0] (.int .i64 r) := by
  unfold queue_Len_task_Task at h
  refine pc_intro (N := 6) Try.func27 rfl rfl (Nat.le_of_ble_eq_true rfl) fun w0 imm0 => ?_
  refine sr (by kernel_rfl) ?_
  refine y1 rfl (o_box (d := queue_Queue_task_Task.Pv a0) (z := 2) (cl := true) rfl rfl rfl rfl rfl) rfl ?_
  refine y0 rfl (o_assign (d := .int .i64 0) rfl) ?_
  refine y_nil ?_
  refine sr (by kernel_rfl) ?_
  refine y0 rfl (o_fieldAddrP (k := 0) rfl Ty.f24_0 rfl) ?_
  refine y0 rfl (o_loadS rfl rfl rfl Ty.a22 rfl) ?_
  refine y0 rfl (o_lnL (f := task_Task.Pv) rfl Ty.e22) ?_
  refine y0 rfl (o_assign (d := .int .i64 (a0.L.length : Int)) rfl) ?_
  refine y_nil ?_
  refine pw_ret ?_
  obtain rfl := Option.some.inj h
  exact ⟨rfl, [_], ⟨rfl, trivial⟩, rfl, by first | exact .inl rfl | exact .inr rfl⟩

set_option maxHeartbeats 4000000 in
theorem queue_part_task_Task_ok {a0 : List task_Task} {a1 : Int} {a2 : Int} {r : List task_Task} (h : queue_part_task_Task a0 a1 a2 = some r) : PCalls Try.prog 28 [.lst false (List.map task_Task.Pv a0), .int .i64 a1, .int .i64 a2] (.lst true (List.map task_Task.Pv r)) := by
  unfold queue_part_task_Task at h
  refine pc_intro (N := 12) Try.func28 rfl rfl (Nat.le_of_ble_eq_true rfl) fun w0 imm0 => ?_
  refine sr (by kernel_rfl) ?_
  refine y0 rfl (o_assign (d := .lst true (List.map task_Task.Pv [])) rfl) ?_
  refine y_nil ?_
  refine sr (by kernel_rfl) ?_
  refine y0 rfl (o_move (d := .lst false (List.map task_Task.Pv a0)) rfl) ?_
  refine y0 rfl (o_move (d := .int .i64 a1) rfl) ?_
  refine y0 rfl (o_move (d := .int .i64 a2) rfl) ?_
  refine y0 rfl (o_move (d := .int .i64 a2) rfl) ?_
  obtain ⟨v1, hv1, h⟩ := bindE h
  refine y0 rfl (o_cutT (f := task_Task.Pv) hv1 rfl ⟨_, rfl⟩ ⟨_, rfl⟩ ⟨_, rfl⟩ rfl rfl Ty.e22 Ty.s26 (fun _ => rfl)) ?_
  refine y0 rfl (o_assign (d := .lst true (List.map task_Task.Pv v1)) rfl) ?_
  refine y_nil ?_
  refine pw_ret ?_
  obtain rfl := Option.some.inj h
  exact ⟨rfl, [_], ⟨rfl, trivial⟩, rfl, by first | exact .inl rfl | exact .inr rfl⟩

set_option maxHeartbeats 4000000 in
theorem queue_Push_task_Task_ok {a0 : queue_Queue_task_Task} {a1 : task_Task} {r : queue_Queue_task_Task × Int} (h : queue_Push_task_Task a0 a1 = some r) : PCalls Try.prog 23 [queue_Queue_task_Task.Pv a0, task_Task.Pv a1] (.tup [queue_Queue_task_Task.Pv r.1, .int .i64 r.2]) := by
  unfold queue_Push_task_Task at h
  refine pc_intro (N := 22) Try.func23 rfl rfl (Nat.le_of_ble_eq_true rfl) fun w0 imm0 => ?_
  refine sr (by kernel_rfl) ?_
  refine y1 rfl (o_box (d := queue_Queue_task_Task.Pv a0) (z := 2) (cl := true) rfl rfl rfl rfl rfl) rfl ?_
  refine y1 rfl (o_box (d := task_Task.Pv a1) (z := 3) (cl := true) rfl rfl rfl rfl rfl) rfl ?_
  refine y1 rfl (o_alloc (d := .agg [.lst false (List.map task_Task.Pv []), .int .i64 0]) (z := 2) rfl Ty.z24 rfl rfl rfl) rfl ?_
  refine y0 rfl (o_assign (d := .int .i64 0) rfl) ?_
  refine y_nil ?_
  refine pw_seq ?_
  refine dr [] Ty.mix (by kernel_rfl) (by kernel_rfl) ?_
  refine d0 rfl (o_loadA (cs := queue_Queue_task_Task.Pc a0) rfl rfl rfl Ty.a24 Ty.s24 (Nat.le_of_ble_eq_true rfl) rfl) rfl ?_
  obtain ⟨v1, hv1, h⟩ := bindE h
  refine d2 rfl (o_call (ds := [queue_Queue_task_Task.Pv a0]) rfl Ty.k27 rfl (queue_Len_task_Task_ok hv1)) rfl ?_
  refine d7 rfl (fun _ hN => o_fieldAddrP (k := 1) rfl Ty.f24_1 rfl) rfl ?_
  refine d0 rfl (o_loadS rfl rfl rfl Ty.a3 rfl) rfl ?_
  refine d7 rfl (fun _ hN => o_cmp rfl rfl rfl) rfl ?_
  refine d_nil ?_
  refine pw_cond (decide (v1 ≥ a0.Cap)) rfl (fun hc => ?_) (fun hc => ?_)
  · have h := ifT h hc
    refine sr (by kernel_rfl) ?_
    refine y0 rfl (o_loadA (cs := queue_Queue_task_Task.Pc a0) rfl rfl rfl Ty.a24 Ty.s24 (Nat.le_of_ble_eq_true rfl) rfl) ?_
    refine y_sto (x' := queue_Queue_task_Task.Pv a0) (cl' := true) rfl rfl (.inr rfl) Ty.s24 ?_
    refine y0 rfl (o_assign (d := .int .i64 4) rfl) ?_
    refine y_nil ?_
    refine pw_ret ?_
    obtain rfl := Option.some.inj h
    exact ⟨rfl, [_, _], ⟨o_loadA rfl rfl rfl Ty.a24 Ty.s24 (Nat.le_of_ble_eq_true rfl) rfl, ⟨rfl, trivial⟩⟩, rfl, by first | exact .inl rfl | exact .inr rfl⟩
  · have h := ifF h hc
    refine pw_skip ?_
    refine dr [] Ty.mix (by kernel_rfl) (by kernel_rfl) ?_
    refine d7 rfl (fun _ hN => o_fieldAddrP (k := 0) rfl Ty.f24_0 rfl) rfl ?_
    refine d0 rfl (o_loadS rfl rfl rfl Ty.a22 rfl) rfl ?_
    refine d0 rfl (o_loadA (cs := queue_Queue_task_Task.Pc a0) rfl rfl rfl Ty.a24 Ty.s24 (Nat.le_of_ble_eq_true rfl) rfl) rfl ?_
    refine d2 rfl (o_call (ds := [queue_Queue_task_Task.Pv a0]) rfl Ty.k27 rfl (queue_Len_task_Task_ok hv1)) rfl ?_
    obtain ⟨v2, hv2, h⟩ := bindE h
    refine d2f rfl (o_callF (ls := []) (ds := [.lst false (List.map task_Task.Pv a0.L), .int .i64 0, .int .i64 v1]) rfl Ty.k28 rfl (queue_part_task_Task_ok hv2)) rfl ?_
    refine d0 rfl (o_loadA (cs := task_Task.Pc a1) rfl rfl rfl Ty.a26 Ty.s26 (Nat.le_of_ble_eq_true rfl) rfl) rfl ?_
    refine d1n rfl (o_bI (f := task_Task.Pv) (l := [a1]) rfl Ty.e22 Ty.s26 Ty.z26 rfl rfl (Nat.le_of_ble_eq_true rfl) rfl rfl) rfl ?_
    obtain ⟨v3, hv3, h⟩ := bindE h
    refine d3 rfl (o_apT (f := task_Task.Pv) hv3 rfl rfl (.inl ⟨_, rfl, rfl⟩) Ty.e22 Ty.s26 Ty.b26 Ty.z26 rfl (fun _ => rfl)) rfl rfl rfl ?_
    refine d7 rfl (fun _ hN => o_fieldAddrP (k := 0) rfl Ty.f24_0 rfl) rfl ?_
    refine d_sto (x' := .agg [.sl 19, .int .i64 a0.Cap]) (cl' := false) rfl rfl (.inl rfl) Ty.s22 ?_
    refine d_nil ?_
    refine sr (by kernel_rfl) ?_
    refine y0 rfl (o_loadA (cs := [.sl 19, .int .i64 a0.Cap]) rfl rfl rfl Ty.a24 Ty.s24 (Nat.le_of_ble_eq_true rfl) rfl) ?_
    refine y_sto (x' := .agg [.sl 19, .int .i64 a0.Cap]) (cl' := false) rfl rfl (.inl rfl) Ty.s24 ?_
    refine y0 rfl (o_assign (d := .int .i64 0) rfl) ?_
    refine y_nil ?_
    refine pw_ret ?_
    obtain rfl := Option.some.inj h
    exact ⟨rfl, [_, _], ⟨o_loadA rfl rfl rfl Ty.a24 Ty.s24 (Nat.le_of_ble_eq_true rfl) rfl, ⟨rfl, trivial⟩⟩, rfl, by first | exact .inl rfl | exact .inr rfl⟩

set_option maxHeartbeats 4000000 in
theorem task_Add_ok {a0 : queue_Queue_task_Task} {a1 : task_Task} {r : queue_Queue_task_Task × Int} (h : task_Add a0 a1 = some r) : PCalls Try.prog 10 [queue_Queue_task_Task.Pv a0, task_Task.Pv a1] (.tup [queue_Queue_task_Task.Pv r.1, .int .i64 r.2]) := by
  unfold task_Add at h
  refine pc_intro (N := 11) Try.func10 rfl rfl (Nat.le_of_ble_eq_true rfl) fun w0 imm0 => ?_
  refine sr (by kernel_rfl) ?_
  refine y1 rfl (o_box (d := queue_Queue_task_Task.Pv a0) (z := 2) (cl := true) rfl rfl rfl rfl rfl) rfl ?_
  refine y1 rfl (o_box (d := task_Task.Pv a1) (z := 3) (cl := true) rfl rfl rfl rfl rfl) rfl ?_
  refine y1 rfl (o_alloc (d := .agg [.lst false (List.map task_Task.Pv []), .int .i64 0]) (z := 2) rfl Ty.z24 rfl rfl rfl) rfl ?_
  refine y0 rfl (o_assign (d := .int .i64 0) rfl) ?_
  refine y_nil ?_
  refine sr (by kernel_rfl) ?_
  refine y0 rfl (o_loadA (cs := queue_Queue_task_Task.Pc a0) rfl rfl rfl Ty.a24 Ty.s24 (Nat.le_of_ble_eq_true rfl) rfl) ?_
  refine y0 rfl (o_loadA (cs := task_Task.Pc a1) rfl rfl rfl Ty.a26 Ty.s26 (Nat.le_of_ble_eq_true rfl) rfl) ?_
  obtain ⟨v1, hv1, h⟩ := bindE h
  refine yc rfl (o_callF (ls := []) (ds := [queue_Queue_task_Task.Pv a0, task_Task.Pv a1]) rfl Ty.k23 rfl (queue_Push_task_Task_ok hv1)) ?_
  refine y0 rfl (o_extract rfl rfl) ?_
  refine y0 rfl (o_extract rfl rfl) ?_
  refine y_sto (x' := queue_Queue_task_Task.Pv v1.1) (cl' := true) rfl rfl (.inr rfl) Ty.s24 ?_
  refine y0 rfl (o_assign (d := .int .i64 v1.2) rfl) ?_
  refine y_nil ?_
  refine pw_ret ?_
  obtain rfl := Option.some.inj h
  exact ⟨rfl, [_, _], ⟨o_loadA rfl rfl rfl Ty.a24 Ty.s24 (Nat.le_of_ble_eq_true rfl) rfl, ⟨rfl, trivial⟩⟩, rfl, by first | exact .inl rfl | exact .inr rfl⟩

set_option maxHeartbeats 4000000 in
theorem task_of_ok {a0 : queue_Queue_task_Task} {a1 : Int} {r : queue_Queue_task_Task × Int} (h : task_of a0 a1 = some r) : PCalls Try.prog 25 [queue_Queue_task_Task.Pv a0, .int .i64 a1] (.fn (.func 30) [.rptr (queue_Queue_task_Task.Pc r.1), .rptr [.int .i64 r.2]]) := by
  unfold task_of at h
  refine pc_intro (N := 6) Try.func25 rfl rfl (Nat.le_of_ble_eq_true rfl) fun w0 imm0 => ?_
  refine sr (by kernel_rfl) ?_
  refine y1 rfl (o_box (d := queue_Queue_task_Task.Pv a0) (z := 2) (cl := true) rfl rfl rfl rfl rfl) rfl ?_
  refine y1 rfl (o_box (d := .int .i64 a1) (z := 1) (cl := true) rfl rfl rfl rfl rfl) rfl ?_
  refine y0 rfl (o_assign (d := .nilfn) rfl) ?_
  refine y_nil ?_
  refine sr (by kernel_rfl) ?_
  refine y0 rfl (o_mkFunc rfl) ?_
  refine y0 rfl (o_assign (d := .fn (.func 30) [.ptr 2 0 0, .ptr 3 0 0]) rfl) ?_
  refine y_nil ?_
  refine pw_ret ?_
  obtain rfl := Option.some.inj h
  exact ⟨rfl, [_], ⟨rfl, trivial⟩, rfl, by first | exact .inl rfl | exact .inr rfl⟩

set_option maxHeartbeats 4000000 in
theorem task_Held_ok {a0 : queue_Queue_task_Task} {r : List Int} (h : task_Held a0 = some r) : PCalls Try.prog 16 [queue_Queue_task_Task.Pv a0] (.lst false (List.map (PV.int .i64) r)) := by
  unfold task_Held at h
  refine pc_intro (N := 14) Try.func16 rfl rfl (Nat.le_of_ble_eq_true rfl) fun w0 imm0 => ?_
  refine sr (by kernel_rfl) ?_
  refine y1 rfl (o_box (d := queue_Queue_task_Task.Pv a0) (z := 2) (cl := true) rfl rfl rfl rfl rfl) rfl ?_
  refine y0 rfl (o_assign (d := .lst true (List.map (PV.int .i64) [])) rfl) ?_
  refine y_nil ?_
  refine sr (by kernel_rfl) ?_
  refine y1 rfl (o_alloc (d := .lst true (List.map (PV.int .i64) [])) (z := 1) rfl Ty.z44 rfl rfl rfl) rfl ?_
  refine y_nil ?_
  obtain ⟨κ9, hκ15, h⟩ := jnE h
  refine pw_jn0 (κ := κ9) (r := r) (fun (j10 : List Int) => St.of [(3, .ptr 2001 0 0)] [(2001, ⟨[.sl 912501], 0, false, 1, false⟩), (912501, ⟨List.map (PV.int .i64) j10, (List.map (PV.int .i64) j10).length, true, 1, true⟩)]) (fun j10 h => ?_) ?_
  · subst hκ15
    refine sr (by kernel_rfl) ?_
    refine y0 rfl (o_loadS rfl rfl rfl Ty.a44 rfl) ?_
    refine y0 rfl (o_assign (d := .sl 912501) rfl) ?_
    refine y_nil ?_
    refine pw_ret ?_
    obtain rfl := Option.some.inj h
    exact ⟨rfl, [_], ⟨rfl, trivial⟩, rfl, by first | exact .inl rfl | exact .inr rfl⟩
  · skip
    refine sr (by kernel_rfl) ?_
    refine y0 rfl (o_loadA (cs := queue_Queue_task_Task.Pc a0) rfl rfl rfl Ty.a24 Ty.s24 (Nat.le_of_ble_eq_true rfl) rfl) ?_
    obtain ⟨v11, hv16, h⟩ := bindE h
    refine yc rfl (o_callF (ls := []) (ds := [queue_Queue_task_Task.Pv a0, .int .i64 1]) rfl Ty.k25 rfl (task_of_ok hv16)) ?_
    refine y_nil ?_
    refine pw_block ?_
    refine pw_wk (wk_stP (fun l => if l = 2011 then 3 else l) [(3, .ptr 2011 0 0), (6, .fn (.func 30) [.rptr (queue_Queue_task_Task.Pc v11.1), .rptr [.int .i64 v11.2]])] [(2011, ⟨[.lst true (List.map (PV.int .i64) [])], 0, false, 1, true⟩)] ⟨rfl, rfl, rfl, rfl, rfl, rfl, trivial⟩ ⟨rowLe_ren rfl rfl rfl (fun q => nomatch q) rfl rfl rfl, trivial⟩ rfl) ?_
    refine pw_range (fn := Try.f30) (N1 := 24) rfl Try.func30 rfl rfl (Nat.le_of_ble_eq_true rfl) rfl Ty.k30 rfl rfl (fun l17 e18 o19 hR20 => ?_)
    refine sr (by kernel_rfl) ?_
    refine y0 rfl (o_fieldAddrR rfl Ty.f24_0 rfl) ?_
    refine y0 rfl (o_loadRS rfl Ty.a22 rfl) ?_
    refine y0 rfl (o_lnL (f := task_Task.Pv) rfl Ty.e22) ?_
    refine y0 rfl (o_move (d := .int .i64 0) rfl) ?_
    refine y_nil ?_
    refine pw_block ?_
    obtain ⟨e12, hl21, hk22⟩ := bindE h
    refine pw_lp0 (fun (q : Int × (List Int)) => St.of [(1000003, .ptr 2011 0 0), (1000006, .fn (.func 30) [.rptr (queue_Queue_task_Task.Pc v11.1), .rptr [.int .i64 v11.2]]), (0, .fn (.yield l17) []), (2, .rptr [.int .i64 v11.2]), (7, .lst false (List.map task_Task.Pv v11.1.L)), (8, .int .i64 (v11.1.L.length : Int)), (9, .int .i64 q.1)] [(2011, ⟨[.sl 912511], 0, false, 1, false⟩), (912511, ⟨List.map (PV.int .i64) q.2, (List.map (PV.int .i64) q.2).length, true, 1, true⟩)]) hl21 (Wk.trans (wk_nilC (l0 := 2011) (j := 0) (l := 922511) (z := 1) rfl rfl rfl rfl rfl) (wk_stP (fun l => if l = 912511 then 922511 else l) _ _ ⟨rfl, rfl, rfl, rfl, rfl, rfl, rfl, rfl, rfl, rfl, rfl, rfl, rfl, rfl, rfl, rfl, rfl, rfl, rfl, rfl, rfl, trivial⟩ ⟨rowLe_open rfl rfl rfl (fun q => nomatch q) rfl rfl rfl rfl, rowLe_ren rfl rfl rfl (fun _ => rfl) rfl rfl rfl, trivial⟩ rfl)) (fun q16 x15 h hx23 => ?_)
    obtain ⟨s13, s14⟩ := q16
    refine sr (by kernel_rfl) ?_
    refine y0 rfl (o_cmp rfl rfl rfl) ?_
    refine y_nil ?_
    refine pw_seq ?_
    refine pw_cond (decide (s13 < (v11.1.L.length : Int))) rfl (fun hc => ?_) (fun hc => ?_)
    · have h := ifT h hc
      refine pw_skip ?_
      refine pw_seq ?_
      refine pw_block ?_
      refine sr (by kernel_rfl) ?_
      obtain ⟨v17, hv24, h⟩ := bindE h
      refine y0 rfl (o_ixL (f := task_Task.Pv) (cs := task_Task.Pc v17) hv24 rfl rfl Ty.e22 Ty.s26 rfl rfl) ?_
      refine y0 rfl (o_loadRA (cs := task_Task.Pc v17) rfl Ty.a26 Ty.s26 (Nat.le_of_ble_eq_true rfl) rfl) ?_
      refine y1 rfl (o_alloc (d := .agg [.int .i64 0, .int .i64 0, .int .i64 0]) (z := 3) rfl Ty.z26 rfl rfl rfl) rfl ?_
      refine y_sto (x' := task_Task.Pv v17) (cl' := true) rfl rfl (.inl rfl) Ty.s26 ?_
      refine y_nil ?_
      refine sr (by kernel_rfl) ?_
      refine y0 rfl (o_fieldAddrP (k := 0) rfl Ty.f26_0 rfl) ?_
      refine y0 rfl (o_loadS rfl rfl rfl Ty.a3 rfl) ?_
      refine y0 rfl (o_loadRS rfl Ty.a3 rfl) ?_
      refine y0 rfl (o_cmp rfl rfl rfl) ?_
      refine y0 rfl (o_move (d := .bool (v17.Kind == v11.2)) rfl) ?_
      refine y_if (g := ((v17.Kind == v11.2) == true)) rfl (fun hg => o_move (d := .fn (.yield l17) []) rfl) ?_
      refine y_if (g := ((v17.Kind == v11.2) == true)) rfl (fun hg => o_loadA (cs := task_Task.Pc v17) rfl rfl rfl Ty.a26 Ty.s26 (Nat.le_of_ble_eq_true rfl) rfl) ?_
      rcases Bool.eq_false_or_eq_true ((v17.Kind == v11.2) == true) with hg25 | hg25
      · have h := ifT h hg25
        refine y_wk (wk_stP (fun l => if l = 2019 then 912511 else l) [(1000003, .ptr 2011 0 0), (1000006, .fn (.func 30) [.rptr (queue_Queue_task_Task.Pc v11.1), .rptr [.int .i64 v11.2]]), (0, .fn (.yield l17) []), (2, .rptr [.int .i64 v11.2]), (7, .lst false (List.map task_Task.Pv v11.1.L)), (8, .int .i64 (v11.1.L.length : Int)), (9, .int .i64 s13), (17, .bool (v17.Kind == v11.2)), (18, .fn (.yield l17) []), (19, task_Task.Pv v17)] [(2011, ⟨[.sl 2019], 0, false, 1, false⟩), (2019, ⟨List.map (PV.int .i64) s14, (List.map (PV.int .i64) s14).length, true, 1, true⟩)] ⟨rfl, rfl, rfl, rfl, rfl, rfl, rfl, rfl, rfl, rfl, rfl, rfl, rfl, rfl, rfl, rfl, rfl, rfl, rfl, rfl, rfl, rfl, rfl, rfl, (ct hg25), rfl, rfl, (ct hg25), rfl, rfl, trivial⟩ ⟨rowLe_open rfl rfl rfl (fun q => nomatch q) rfl rfl rfl rfl, rowLe_ren rfl rfl rfl (fun _ => rfl) rfl rfl rfl, trivial⟩ rfl) ?_
        refine y_yield hR20 (congrArg some hg25) rfl rfl rfl rfl rfl (fun e26 o27 o28 => ?_)
        refine sr1 (by kernel_rfl) ?_
        refine y1 rfl (o_alloc (d := .agg [.int .i64 0, .int .i64 0, .int .i64 0]) (z := 3) rfl Ty.z26 rfl rfl rfl) rfl ?_
        refine y_sto (x' := task_Task.Pv v17) (cl' := true) rfl rfl (.inl rfl) Ty.s26 ?_
        refine y_nil ?_
        refine ⟨rfl, ?_⟩
        refine pw_block ?_
        refine sr1 (by kernel_rfl) ?_
        refine y0 rfl (o_loadS rfl rfl rfl Ty.a44 rfl) ?_
        refine y0 rfl (o_fieldAddrP (k := 1) rfl Ty.f26_1 rfl) ?_
        refine y0 rfl (o_loadS rfl rfl rfl Ty.a3 rfl) ?_
        refine y0 rfl (o_bI (f := (PV.int .i64)) (l := [v17.At]) rfl Ty.e44 Ty.s3 Ty.z3 rfl rfl (Nat.le_of_ble_eq_true rfl) rfl rfl) ?_
        obtain ⟨v18, hv29, h⟩ := bindE h
        refine y_app rfl (o_apR (f := (PV.int .i64)) hv29 rfl rfl rfl rfl rfl rfl (.inl ⟨_, rfl, rfl⟩) Ty.e44 Ty.s3 Ty.b3 Ty.z3 rfl (fun _ => rfl)) rfl rfl rfl ?_
        refine y_sto (x' := .sl 12) (cl' := false) rfl rfl (.inl rfl) Ty.s44 ?_
        refine y_nil ?_
        refine ⟨rfl, ?_⟩
        refine y_wk (wk_stP (fun l => if l = 2020 then 12 else l) [(1000003, .ptr 2011 0 0), (1000006, .fn (.func 30) [.rptr (queue_Queue_task_Task.Pc v11.1), .rptr [.int .i64 v11.2]]), (0, .fn (.yield l17) []), (2, .rptr [.int .i64 v11.2]), (7, .lst false (List.map task_Task.Pv v11.1.L)), (8, .int .i64 (v11.1.L.length : Int)), (9, .int .i64 s13), (17, .bool (v17.Kind == v11.2)), (20, .bool true)] [(2011, ⟨[.sl 2020], 0, false, 1, false⟩), (2020, ⟨List.map (PV.int .i64) v18, s14.length, true, 1, true⟩)] ⟨rfl, rfl, rfl, rfl, rfl, rfl, rfl, rfl, rfl, rfl, rfl, rfl, rfl, rfl, rfl, rfl, rfl, rfl, rfl, rfl, rfl, rfl, rfl, rfl, rfl, rfl, rfl, trivial⟩ ⟨rowLe_open rfl rfl rfl (fun q => nomatch q) rfl rfl rfl rfl, rowLe_ren rfl rfl rfl (fun _ => rfl) rfl rfl rfl, trivial⟩ rfl) ?_
        refine y0 (congrArg some hg25) (o_not rfl rfl) ?_
        refine y0 rfl (pk_andT rfl rfl hg25) ?_
        refine y_nil ?_
        refine pw_cond false rfl (fun q => nomatch q) (fun _ => ?_)
        refine pw_skip ?_
        refine sr1 (by kernel_rfl) ?_
        refine y0 rfl (o_ari rfl rfl rfl) ?_
        refine y0 rfl (o_move (d := .int .i64 (w64 (s13 + 1))) rfl) ?_
        refine y_nil ?_
        exact ⟨rfl, (w64 (s13 + 1), v18), (Option.some.inj h).symm, (Wk.trans (wk_frz _ [2020]) (wk_stP (fun l => if l = 912511 then 2020 else l) _ _ ⟨rfl, rfl, rfl, rfl, rfl, rfl, rfl, rfl, rfl, rfl, rfl, rfl, rfl, rfl, rfl, rfl, rfl, rfl, rfl, rfl, rfl, trivial⟩ ⟨rowLe_open rfl rfl rfl (fun q => nomatch q) rfl rfl rfl rfl, rowLe_ren rfl rfl rfl (fun _ => rfl) rfl rfl rfl, trivial⟩ rfl))⟩
      · have h := ifF h hg25
        refine y_skip (congrArg some hg25) ?_
        refine y_skip (congrArg some hg25) ?_
        refine y0 rfl (pk_andF rfl rfl hg25) ?_
        refine y_nil ?_
        refine pw_cond false rfl (fun q => nomatch q) (fun _ => ?_)
        refine pw_skip ?_
        refine sr1 (by kernel_rfl) ?_
        refine y0 rfl (o_ari rfl rfl rfl) ?_
        refine y0 rfl (o_move (d := .int .i64 (w64 (s13 + 1))) rfl) ?_
        refine y_nil ?_
        exact ⟨rfl, (w64 (s13 + 1), s14), (Option.some.inj h).symm, (Wk.trans (wk_frz _ [912511]) (wk_st _ _ ⟨rfl, rfl, rfl, rfl, rfl, rfl, rfl, rfl, rfl, rfl, rfl, rfl, rfl, rfl, rfl, rfl, rfl, rfl, rfl, rfl, rfl, trivial⟩ ⟨rowLe_open rfl rfl rfl (fun q => nomatch q) rfl rfl rfl rfl, rowLe_same rfl rfl rfl (fun _ => rfl) rfl rfl rfl, trivial⟩))⟩
    · have h := ifF h hc
      refine pw_exit ?_
      refine thenQ_exit ?_
      refine thenQ_exit ?_
      refine blockQ_exit ?_
      refine .inl ⟨rfl, ?_⟩
      have he := hx23 _ (Option.some.inj h).symm
      have h := hk22
      rw [← he] at h
      exact ⟨rfl, s14, h, (Wk.trans (wk_frz _ [912511]) (wk_stP (fun l => if l = 2001 then 2011 else if l = 912501 then 912511 else l) _ _ ⟨rfl, rfl, rfl, trivial⟩ ⟨rowLe_open rfl rfl rfl (fun q => nomatch q) rfl rfl rfl rfl, rowLe_ren rfl rfl rfl (fun _ => rfl) rfl rfl rfl, trivial⟩ rfl))⟩

set_option maxHeartbeats 4000000 in
theorem queue_Drain_task_Task_ok {a0 : queue_Queue_task_Task} {a1 : Int} {r : queue_Queue_task_Task × (List task_Task)} (h : queue_Drain_task_Task a0 a1 = some r) : PCalls Try.prog 29 [queue_Queue_task_Task.Pv a0, .int .i64 a1] (.tup [queue_Queue_task_Task.Pv r.1, .lst false (List.map task_Task.Pv r.2)]) := by
  unfold queue_Drain_task_Task at h
  refine pc_intro (N := 25) Try.func29 rfl rfl (Nat.le_of_ble_eq_true rfl) fun w0 imm0 => ?_
  refine sr (by kernel_rfl) ?_
  refine y1 rfl (o_box (d := queue_Queue_task_Task.Pv a0) (z := 2) (cl := true) rfl rfl rfl rfl rfl) rfl ?_
  refine y1 rfl (o_alloc (d := .agg [.lst false (List.map task_Task.Pv []), .int .i64 0]) (z := 2) rfl Ty.z24 rfl rfl rfl) rfl ?_
  refine y0 rfl (o_assign (d := .lst true (List.map task_Task.Pv [])) rfl) ?_
  refine y_nil ?_
  refine sr (by kernel_rfl) ?_
  refine y0 rfl (o_move (d := .int .i64 a1) rfl) ?_
  refine y0 rfl (o_loadA (cs := queue_Queue_task_Task.Pc a0) rfl rfl rfl Ty.a24 Ty.s24 (Nat.le_of_ble_eq_true rfl) rfl) ?_
  obtain ⟨v1, hv1, h⟩ := bindE h
  refine y0 rfl (o_call (ds := [queue_Queue_task_Task.Pv a0]) rfl Ty.k27 rfl (queue_Len_task_Task_ok hv1)) ?_
  refine y0 rfl (o_min rfl rfl rfl) ?_
  refine y0 rfl (o_max rfl rfl rfl) ?_
  refine y0 rfl (o_assign (d := .int .i64 (if (if v1 < a1 then v1 else a1) > 0 then (if v1 < a1 then v1 else a1) else 0)) rfl) ?_
  refine y_nil ?_
  refine sr (by kernel_rfl) ?_
  refine y0 rfl (o_fieldAddrP (k := 0) rfl Ty.f24_0 rfl) ?_
  refine y0 rfl (o_loadS rfl rfl rfl Ty.a22 rfl) ?_
  refine y0 rfl (o_move (d := .int .i64 (if (if v1 < a1 then v1 else a1) > 0 then (if v1 < a1 then v1 else a1) else 0)) rfl) ?_
  obtain ⟨v2, hv2, h⟩ := bindE h
  refine yc rfl (o_callF (ls := []) (ds := [.lst false (List.map task_Task.Pv a0.L), .int .i64 0, .int .i64 (if (if v1 < a1 then v1 else a1) > 0 then (if v1 < a1 then v1 else a1) else 0)]) rfl Ty.k28 rfl (queue_part_task_Task_ok hv2)) ?_
  refine y0 rfl (o_assign (d := .lst true (List.map task_Task.Pv v2)) rfl) ?_
  refine y_nil ?_
  refine dr [] Ty.mix (by kernel_rfl) (by kernel_rfl) ?_
  refine d7 rfl (fun _ hN => o_fieldAddrP (k := 0) rfl Ty.f24_0 rfl) rfl ?_
  refine d0 rfl (o_loadS rfl rfl rfl Ty.a22 rfl) rfl ?_
  refine d7 rfl (fun _ hN => o_move (d := .int .i64 (if (if v1 < a1 then v1 else a1) > 0 then (if v1 < a1 then v1 else a1) else 0)) rfl) rfl ?_
  refine d0 rfl (o_loadA (cs := queue_Queue_task_Task.Pc a0) rfl rfl rfl Ty.a24 Ty.s24 (Nat.le_of_ble_eq_true rfl) rfl) rfl ?_
  refine d2 rfl (o_call (ds := [queue_Queue_task_Task.Pv a0]) rfl Ty.k27 rfl (queue_Len_task_Task_ok hv1)) rfl ?_
  obtain ⟨v3, hv3, h⟩ := bindE h
  refine d2f rfl (o_callF (ls := []) (ds := [.lst false (List.map task_Task.Pv a0.L), .int .i64 (if (if v1 < a1 then v1 else a1) > 0 then (if v1 < a1 then v1 else a1) else 0), .int .i64 v1]) rfl Ty.k28 rfl (queue_part_task_Task_ok hv3)) rfl ?_
  refine d7 rfl (fun _ hN => o_fieldAddrP (k := 0) rfl Ty.f24_0 rfl) rfl ?_
  refine d_sto (x' := .agg [.lst false (List.map task_Task.Pv v3), .int .i64 a0.Cap]) (cl' := true) rfl rfl (.inr rfl) Ty.s22 ?_
  refine d_nil ?_
  refine sr (by kernel_rfl) ?_
  refine y0 rfl (o_loadA (cs := [.lst false (List.map task_Task.Pv v3), .int .i64 a0.Cap]) rfl rfl rfl Ty.a24 Ty.s24 (Nat.le_of_ble_eq_true rfl) rfl) ?_
  refine y0 rfl (o_move (d := .lst true (List.map task_Task.Pv v2)) rfl) ?_
  refine y_sto (x' := .agg [.lst false (List.map task_Task.Pv v3), .int .i64 a0.Cap]) (cl' := true) rfl rfl (.inr rfl) Ty.s24 ?_
  refine y0 rfl (o_assign (d := .lst true (List.map task_Task.Pv v2)) rfl) ?_
  refine y_nil ?_
  refine pw_ret ?_
  obtain rfl := Option.some.inj h
  exact ⟨rfl, [_, _], ⟨o_loadA rfl rfl rfl Ty.a24 Ty.s24 (Nat.le_of_ble_eq_true rfl) rfl, ⟨rfl, trivial⟩⟩, rfl, by first | exact .inl rfl | exact .inr rfl⟩

set_option maxHeartbeats 4000000 in
theorem queue_Pop_task_Task_ok {a0 : queue_Queue_task_Task} {r : queue_Queue_task_Task × task_Task × Int} (h : queue_Pop_task_Task a0 = some r) : PCalls Try.prog 24 [queue_Queue_task_Task.Pv a0] (.tup [queue_Queue_task_Task.Pv r.1, task_Task.Pv r.2.1, .int .i64 r.2.2]) := by
  unfold queue_Pop_task_Task at h
  refine pc_intro (N := 22) Try.func24 rfl rfl (Nat.le_of_ble_eq_true rfl) fun w0 imm0 => ?_
  refine sr (by kernel_rfl) ?_
  refine y1 rfl (o_box (d := queue_Queue_task_Task.Pv a0) (z := 2) (cl := true) rfl rfl rfl rfl rfl) rfl ?_
  refine y1 rfl (o_alloc (d := .agg [.lst false (List.map task_Task.Pv []), .int .i64 0]) (z := 2) rfl Ty.z24 rfl rfl rfl) rfl ?_
  refine y1 rfl (o_alloc (d := .agg [.int .i64 0, .int .i64 0, .int .i64 0]) (z := 3) rfl Ty.z26 rfl rfl rfl) rfl ?_
  refine y0 rfl (o_assign (d := .int .i64 0) rfl) ?_
  refine y_nil ?_
  refine sr (by kernel_rfl) ?_
  refine y0 rfl (o_loadA (cs := queue_Queue_task_Task.Pc a0) rfl rfl rfl Ty.a24 Ty.s24 (Nat.le_of_ble_eq_true rfl) rfl) ?_
  obtain ⟨v1, hv1, h⟩ := bindE h
  refine yc rfl (o_callF (ls := []) (ds := [queue_Queue_task_Task.Pv a0, .int .i64 1]) rfl Ty.k29 rfl (queue_Drain_task_Task_ok hv1)) ?_
  refine y0 rfl (o_move (d := .tup [queue_Queue_task_Task.Pv v1.1, .lst false (List.map task_Task.Pv v1.2)]) rfl) ?_
  refine y0 rfl (o_extract rfl rfl) ?_
  refine y0 rfl (o_extract rfl rfl) ?_
  refine y1 rfl (o_alloc (d := .agg [.lst false (List.map task_Task.Pv []), .int .i64 0]) (z := 2) rfl Ty.z24 rfl rfl rfl) rfl ?_
  refine y_sto (x' := queue_Queue_task_Task.Pv v1.1) (cl' := true) rfl rfl (.inr rfl) Ty.s24 ?_
  refine y0 rfl (o_assign (d := .lst false (List.map task_Task.Pv v1.2)) rfl) ?_
  refine y_nil ?_
  refine pw_seq ?_
  refine sr (by kernel_rfl) ?_
  refine y0 rfl (o_move (d := .lst false (List.map task_Task.Pv v1.2)) rfl) ?_
  refine y0 rfl (o_lnL (f := task_Task.Pv) rfl Ty.e22) ?_
  refine y0 rfl (o_cmp rfl rfl rfl) ?_
  refine y_nil ?_
  refine pw_cond ((v1.2.length : Int) == 0) rfl (fun hc => ?_) (fun hc => ?_)
  · have h := ifT h hc
    refine sr (by kernel_rfl) ?_
    refine y1 rfl (o_alloc (d := .agg [.int .i64 0, .int .i64 0, .int .i64 0]) (z := 3) rfl Ty.z26 rfl rfl rfl) rfl ?_
    refine y_nil ?_
    refine dr [1, 1007] Ty.mix (by kernel_rfl) (by kernel_rfl) ?_
    refine d0 rfl (o_loadA (cs := queue_Queue_task_Task.Pc a0) rfl rfl rfl Ty.a24 Ty.s24 (Nat.le_of_ble_eq_true rfl) rfl) rfl ?_
    refine d7 rfl (fun _ hN => n_loadA (cs := [.int .i64 0, .int .i64 0, .int .i64 0]) hN rfl rfl rfl rfl Ty.a26 Ty.s26 (Nat.le_of_ble_eq_true rfl) rfl) rfl ?_
    refine d_sto (x' := queue_Queue_task_Task.Pv a0) (cl' := true) rfl rfl (.inr rfl) Ty.s24 ?_
    refine d_sto (x' := .agg [.int .i64 0, .int .i64 0, .int .i64 0]) (cl' := true) rfl rfl (.inl rfl) Ty.s26 ?_
    refine d7 rfl (fun _ hN => o_assign (d := .int .i64 10) rfl) rfl ?_
    refine d_nil ?_
    refine pw_ret ?_
    obtain rfl := Option.some.inj h
    exact ⟨rfl, [_, _, _], ⟨o_loadA rfl rfl rfl Ty.a24 Ty.s24 (Nat.le_of_ble_eq_true rfl) rfl, ⟨o_loadA rfl rfl rfl Ty.a26 Ty.s26 (Nat.le_of_ble_eq_true rfl) rfl, ⟨rfl, trivial⟩⟩⟩, rfl, by first | exact .inl rfl | exact .inr rfl⟩
  · have h := ifF h hc
    refine pw_skip ?_
    refine dr [2, 3] Ty.mix (by kernel_rfl) (by kernel_rfl) ?_
    refine d0 rfl (o_loadA (cs := queue_Queue_task_Task.Pc v1.1) rfl rfl rfl Ty.a24 Ty.s24 (Nat.le_of_ble_eq_true rfl) rfl) rfl ?_
    refine d7 rfl (fun _ hN => o_move (d := .lst false (List.map task_Task.Pv v1.2)) rfl) rfl ?_
    obtain ⟨v2, hv2, h⟩ := bindE h
    refine d7 rfl (fun _ hN => o_ixL (f := task_Task.Pv) (cs := task_Task.Pc v2) hv2 rfl rfl Ty.e22 Ty.s26 rfl rfl) rfl ?_
    refine d7 rfl (fun _ hN => o_loadRA (cs := task_Task.Pc v2) rfl Ty.a26 Ty.s26 (Nat.le_of_ble_eq_true rfl) rfl) rfl ?_
    refine d_sto (x' := queue_Queue_task_Task.Pv v1.1) (cl' := true) rfl rfl (.inr rfl) Ty.s24 ?_
    refine d_sto (x' := task_Task.Pv v2) (cl' := true) rfl rfl (.inl rfl) Ty.s26 ?_
    refine d7 rfl (fun _ hN => o_assign (d := .int .i64 0) rfl) rfl ?_
    refine d_nil ?_
    refine pw_ret ?_
    obtain rfl := Option.some.inj h
    exact ⟨rfl, [_, _, _], ⟨o_loadA rfl rfl rfl Ty.a24 Ty.s24 (Nat.le_of_ble_eq_true rfl) rfl, ⟨o_loadA rfl rfl rfl Ty.a26 Ty.s26 (Nat.le_of_ble_eq_true rfl) rfl, ⟨rfl, trivial⟩⟩⟩, rfl, by first | exact .inl rfl | exact .inr rfl⟩

set_option maxHeartbeats 4000000 in
theorem task_Next_ok {a0 : queue_Queue_task_Task} {r : queue_Queue_task_Task × task_Task × Int} (h : task_Next a0 = some r) : PCalls Try.prog 12 [queue_Queue_task_Task.Pv a0] (.tup [queue_Queue_task_Task.Pv r.1, task_Task.Pv r.2.1, .int .i64 r.2.2]) := by
  unfold task_Next at h
  refine pc_intro (N := 10) Try.func12 rfl rfl (Nat.le_of_ble_eq_true rfl) fun w0 imm0 => ?_
  refine sr (by kernel_rfl) ?_
  refine y1 rfl (o_box (d := queue_Queue_task_Task.Pv a0) (z := 2) (cl := true) rfl rfl rfl rfl rfl) rfl ?_
  refine y1 rfl (o_alloc (d := .agg [.lst false (List.map task_Task.Pv []), .int .i64 0]) (z := 2) rfl Ty.z24 rfl rfl rfl) rfl ?_
  refine y1 rfl (o_alloc (d := .agg [.int .i64 0, .int .i64 0, .int .i64 0]) (z := 3) rfl Ty.z26 rfl rfl rfl) rfl ?_
  refine y0 rfl (o_assign (d := .int .i64 0) rfl) ?_
  refine y_nil ?_
  refine sr (by kernel_rfl) ?_
  refine y0 rfl (o_loadA (cs := queue_Queue_task_Task.Pc a0) rfl rfl rfl Ty.a24 Ty.s24 (Nat.le_of_ble_eq_true rfl) rfl) ?_
  obtain ⟨v1, hv1, h⟩ := bindE h
  refine yc rfl (o_callF (ls := []) (ds := [queue_Queue_task_Task.Pv a0]) rfl Ty.k24 rfl (queue_Pop_task_Task_ok hv1)) ?_
  refine y0 rfl (o_extract rfl rfl) ?_
  refine y0 rfl (o_extract rfl rfl) ?_
  refine y0 rfl (o_extract rfl rfl) ?_
  refine y_sto (x' := queue_Queue_task_Task.Pv v1.1) (cl' := true) rfl rfl (.inr rfl) Ty.s24 ?_
  refine y_sto (x' := task_Task.Pv v1.2.1) (cl' := true) rfl rfl (.inl rfl) Ty.s26 ?_
  refine y0 rfl (o_assign (d := .int .i64 v1.2.2) rfl) ?_
  refine y_nil ?_
  refine pw_ret ?_
  obtain rfl := Option.some.inj h
  exact ⟨rfl, [_, _, _], ⟨o_loadA rfl rfl rfl Ty.a24 Ty.s24 (Nat.le_of_ble_eq_true rfl) rfl, ⟨o_loadA rfl rfl rfl Ty.a26 Ty.s26 (Nat.le_of_ble_eq_true rfl) rfl, ⟨rfl, trivial⟩⟩⟩, rfl, by first | exact .inl rfl | exact .inr rfl⟩

set_option maxHeartbeats 4000000 in
theorem task_Waits_ok {a0 : queue_Queue_task_Task} {a1 : Int} {r : Bool} (h : task_Waits a0 a1 = some r) : PCalls Try.prog 18 [queue_Queue_task_Task.Pv a0, .int .i64 a1] (.bool r) := by
  unfold task_Waits at h
  refine pc_intro (N := 13) Try.func18 rfl rfl (Nat.le_of_ble_eq_true rfl) fun w0 imm0 => ?_
  refine sr (by kernel_rfl) ?_
  refine y1 rfl (o_box (d := queue_Queue_task_Task.Pv a0) (z := 2) (cl := true) rfl rfl rfl rfl rfl) rfl ?_
  refine y1 rfl (o_box (d := .int .i64 a1) (z := 1) (cl := true) rfl rfl rfl rfl rfl) rfl ?_
  refine y1 rfl (o_alloc (d := .bool false) (z := 1) rfl Ty.z4 rfl rfl rfl) rfl ?_
  refine y_nil ?_
  obtain ⟨κ6, hκ14, h⟩ := jnE h
  refine pw_jn0 (κ := κ6) (r := r) (fun (_ : Unit) => St.of [(4, .ptr 2001 0 0)] [(2001, ⟨[.bool false], 0, false, 1, true⟩)]) (fun q7 h => ?_) ?_
  · subst hκ14
    refine sr (by kernel_rfl) ?_
    refine y_sto (x' := .bool false) (cl' := true) rfl rfl (.inl rfl) Ty.s4 ?_
    refine y_nil ?_
    refine pw_ret ?_
    obtain rfl := Option.some.inj h
    exact ⟨rfl, [_], ⟨o_loadS rfl rfl rfl Ty.a4 rfl, trivial⟩, rfl, by first | exact .inl rfl | exact .inr rfl⟩
  · skip
    refine sr (by kernel_rfl) ?_
    refine y0 rfl (o_loadA (cs := queue_Queue_task_Task.Pc a0) rfl rfl rfl Ty.a24 Ty.s24 (Nat.le_of_ble_eq_true rfl) rfl) ?_
    obtain ⟨v8, hv15, h⟩ := bindE h
    refine yc rfl (o_callF (ls := []) (ds := [queue_Queue_task_Task.Pv a0, .int .i64 2]) rfl Ty.k25 rfl (task_of_ok hv15)) ?_
    refine y_nil ?_
    refine pw_block ?_
    refine pw_wk (wk_stP (fun l => if l = 2003 then 4 else if l = 2004 then 3 else l) [(3, .ptr 2004 0 0), (4, .ptr 2003 0 0), (7, .fn (.func 30) [.rptr (queue_Queue_task_Task.Pc v8.1), .rptr [.int .i64 v8.2]])] [(2003, ⟨[.bool false], 0, false, 1, true⟩), (2004, ⟨[.int .i64 a1], 0, false, 1, true⟩)] ⟨rfl, rfl, rfl, rfl, rfl, rfl, rfl, rfl, rfl, trivial⟩ ⟨rowLe_ren rfl rfl rfl (fun q => nomatch q) rfl rfl rfl, rowLe_ren rfl rfl rfl (fun q => nomatch q) rfl rfl rfl, trivial⟩ rfl) ?_
    refine pw_range (fn := Try.f30) (N1 := 24) rfl Try.func30 rfl rfl (Nat.le_of_ble_eq_true rfl) rfl Ty.k30 rfl rfl (fun l16 e17 o18 hR19 => ?_)
    refine sr (by kernel_rfl) ?_
    refine y0 rfl (o_fieldAddrR rfl Ty.f24_0 rfl) ?_
    refine y0 rfl (o_loadRS rfl Ty.a22 rfl) ?_
    refine y0 rfl (o_lnL (f := task_Task.Pv) rfl Ty.e22) ?_
    refine y0 rfl (o_move (d := .int .i64 0) rfl) ?_
    refine y_nil ?_
    refine pw_block ?_
    obtain ⟨e9, hl20, hk21⟩ := bindE h
    refine pw_lp0 (fun (s10 : Int) => St.of [(1000003, .ptr 2004 0 0), (1000004, .ptr 2003 0 0), (1000007, .fn (.func 30) [.rptr (queue_Queue_task_Task.Pc v8.1), .rptr [.int .i64 v8.2]]), (0, .fn (.yield l16) []), (2, .rptr [.int .i64 v8.2]), (7, .lst false (List.map task_Task.Pv v8.1.L)), (8, .int .i64 (v8.1.L.length : Int)), (9, .int .i64 s10)] [(2003, ⟨[.bool false], 0, false, 1, true⟩), (2004, ⟨[.int .i64 a1], 0, false, 1, true⟩)]) hl20 (wk_st _ _ ⟨rfl, rfl, rfl, rfl, rfl, rfl, rfl, rfl, rfl, rfl, rfl, rfl, rfl, rfl, rfl, rfl, rfl, rfl, rfl, rfl, rfl, rfl, rfl, rfl, trivial⟩ ⟨rowLe_same rfl rfl rfl (fun q => nomatch q) rfl rfl rfl, rowLe_same rfl rfl rfl (fun q => nomatch q) rfl rfl rfl, trivial⟩) (fun s10 x11 h hx22 => ?_)
    refine sr (by kernel_rfl) ?_
    refine y0 rfl (o_cmp rfl rfl rfl) ?_
    refine y_nil ?_
    refine pw_seq ?_
    refine pw_cond (decide (s10 < (v8.1.L.length : Int))) rfl (fun hc => ?_) (fun hc => ?_)
    · have h := ifT h hc
      refine pw_skip ?_
      refine pw_seq ?_
      refine pw_block ?_
      refine sr (by kernel_rfl) ?_
      obtain ⟨v12, hv23, h⟩ := bindE h
      refine y0 rfl (o_ixL (f := task_Task.Pv) (cs := task_Task.Pc v12) hv23 rfl rfl Ty.e22 Ty.s26 rfl rfl) ?_
      refine y0 rfl (o_loadRA (cs := task_Task.Pc v12) rfl Ty.a26 Ty.s26 (Nat.le_of_ble_eq_true rfl) rfl) ?_
      refine y1 rfl (o_alloc (d := .agg [.int .i64 0, .int .i64 0, .int .i64 0]) (z := 3) rfl Ty.z26 rfl rfl rfl) rfl ?_
      refine y_sto (x' := task_Task.Pv v12) (cl' := true) rfl rfl (.inl rfl) Ty.s26 ?_
      refine y_nil ?_
      refine sr (by kernel_rfl) ?_
      refine y0 rfl (o_fieldAddrP (k := 0) rfl Ty.f26_0 rfl) ?_
      refine y0 rfl (o_loadS rfl rfl rfl Ty.a3 rfl) ?_
      refine y0 rfl (o_loadRS rfl Ty.a3 rfl) ?_
      refine y0 rfl (o_cmp rfl rfl rfl) ?_
      refine y0 rfl (o_move (d := .bool (v12.Kind == v8.2)) rfl) ?_
      refine y_if (g := ((v12.Kind == v8.2) == true)) rfl (fun hg => o_move (d := .fn (.yield l16) []) rfl) ?_
      refine y_if (g := ((v12.Kind == v8.2) == true)) rfl (fun hg => o_loadA (cs := task_Task.Pc v12) rfl rfl rfl Ty.a26 Ty.s26 (Nat.le_of_ble_eq_true rfl) rfl) ?_
      rcases Bool.eq_false_or_eq_true ((v12.Kind == v8.2) == true) with hg24 | hg24
      · have h := ifT h hg24
        refine y_wk (wk_st [(1000003, .ptr 2004 0 0), (1000004, .ptr 2003 0 0), (1000007, .fn (.func 30) [.rptr (queue_Queue_task_Task.Pc v8.1), .rptr [.int .i64 v8.2]]), (0, .fn (.yield l16) []), (2, .rptr [.int .i64 v8.2]), (7, .lst false (List.map task_Task.Pv v8.1.L)), (8, .int .i64 (v8.1.L.length : Int)), (9, .int .i64 s10), (17, .bool (v12.Kind == v8.2)), (18, .fn (.yield l16) []), (19, task_Task.Pv v12)] [(2003, ⟨[.bool false], 0, false, 1, true⟩), (2004, ⟨[.int .i64 a1], 0, false, 1, true⟩)] ⟨rfl, rfl, rfl, rfl, rfl, rfl, rfl, rfl, rfl, rfl, rfl, rfl, rfl, rfl, rfl, rfl, rfl, rfl, rfl, rfl, rfl, rfl, rfl, rfl, rfl, rfl, rfl, (ct hg24), rfl, rfl, (ct hg24), rfl, rfl, trivial⟩ ⟨rowLe_same rfl rfl rfl (fun q => nomatch q) rfl rfl rfl, rowLe_same rfl rfl rfl (fun q => nomatch q) rfl rfl rfl, trivial⟩) ?_
        refine y_yield hR19 (congrArg some hg24) rfl rfl rfl rfl rfl (fun e25 o26 o27 => ?_)
        refine sr1 (by kernel_rfl) ?_
        refine y1 rfl (o_alloc (d := .agg [.int .i64 0, .int .i64 0, .int .i64 0]) (z := 3) rfl Ty.z26 rfl rfl rfl) rfl ?_
        refine y_sto (x' := task_Task.Pv v12) (cl' := true) rfl rfl (.inl rfl) Ty.s26 ?_
        refine y_nil ?_
        refine ⟨rfl, ?_⟩
        refine pw_block ?_
        refine sr (by kernel_rfl) ?_
        refine y0 rfl (o_fieldAddrP (k := 1) rfl Ty.f26_1 rfl) ?_
        refine y0 rfl (o_loadS rfl rfl rfl Ty.a3 rfl) ?_
        refine y0 rfl (o_loadS rfl rfl rfl Ty.a3 rfl) ?_
        refine y0 rfl (o_cmp rfl rfl rfl) ?_
        refine y_nil ?_
        refine pw_cond (v12.At == a1) rfl (fun hc => ?_) (fun hc => ?_)
        · have h := ifT h hc
          refine sr (by kernel_rfl) ?_
          refine y_sto (x' := .bool true) (cl' := true) rfl rfl (.inl rfl) Ty.s4 ?_
          refine y_nil ?_
          refine pw_ret ?_
          refine ⟨rfl, ?_⟩
          refine y_wk (wk_st [(1000003, .ptr 2004 0 0), (1000004, .ptr 2003 0 0), (1000007, .fn (.func 30) [.rptr (queue_Queue_task_Task.Pc v8.1), .rptr [.int .i64 v8.2]]), (0, .fn (.yield l16) []), (2, .rptr [.int .i64 v8.2]), (7, .lst false (List.map task_Task.Pv v8.1.L)), (8, .int .i64 (v8.1.L.length : Int)), (9, .int .i64 s10), (17, .bool (v12.Kind == v8.2)), (20, .bool false)] [(2003, ⟨[.bool true], 0, false, 1, true⟩), (2004, ⟨[.int .i64 a1], 0, false, 1, true⟩)] ⟨rfl, rfl, rfl, rfl, rfl, rfl, rfl, rfl, rfl, rfl, rfl, rfl, rfl, rfl, rfl, rfl, rfl, rfl, rfl, rfl, rfl, rfl, rfl, rfl, rfl, rfl, rfl, rfl, rfl, rfl, trivial⟩ ⟨rowLe_same rfl rfl rfl (fun q => nomatch q) rfl rfl rfl, rowLe_same rfl rfl rfl (fun q => nomatch q) rfl rfl rfl, trivial⟩) ?_
          refine y0 (congrArg some hg24) (o_not rfl rfl) ?_
          refine y0 rfl (pk_andT rfl rfl hg24) ?_
          refine y_nil ?_
          refine pw_cond true rfl (fun _ => ?_) (fun q => nomatch q)
          refine pw_ret ?_
          refine .inr ⟨.ret, rfl, jmpR ?_⟩
          have he := hx22 _ (Option.some.inj h).symm
          have h := hk21
          rw [← he] at h
          obtain rfl := Option.some.inj h
          exact ⟨rfl, [_], ⟨o_loadS rfl rfl rfl Ty.a4 rfl, trivial⟩, rfl, by first | exact .inl rfl | exact .inr rfl⟩
        · have h := ifF h hc
          refine pw_skip ?_
          refine ⟨rfl, ?_⟩
          refine y_wk (wk_st [(1000003, .ptr 2004 0 0), (1000004, .ptr 2003 0 0), (1000007, .fn (.func 30) [.rptr (queue_Queue_task_Task.Pc v8.1), .rptr [.int .i64 v8.2]]), (0, .fn (.yield l16) []), (2, .rptr [.int .i64 v8.2]), (7, .lst false (List.map task_Task.Pv v8.1.L)), (8, .int .i64 (v8.1.L.length : Int)), (9, .int .i64 s10), (17, .bool (v12.Kind == v8.2)), (20, .bool true)] [(2003, ⟨[.bool false], 0, false, 1, true⟩), (2004, ⟨[.int .i64 a1], 0, false, 1, true⟩)] ⟨rfl, rfl, rfl, rfl, rfl, rfl, rfl, rfl, rfl, rfl, rfl, rfl, rfl, rfl, rfl, rfl, rfl, rfl, rfl, rfl, rfl, rfl, rfl, rfl, rfl, rfl, rfl, rfl, rfl, rfl, trivial⟩ ⟨rowLe_same rfl rfl rfl (fun q => nomatch q) rfl rfl rfl, rowLe_same rfl rfl rfl (fun q => nomatch q) rfl rfl rfl, trivial⟩) ?_
          refine y0 (congrArg some hg24) (o_not rfl rfl) ?_
          refine y0 rfl (pk_andT rfl rfl hg24) ?_
          refine y_nil ?_
          refine pw_cond false rfl (fun q => nomatch q) (fun _ => ?_)
          refine pw_skip ?_
          refine sr1 (by kernel_rfl) ?_
          refine y0 rfl (o_ari rfl rfl rfl) ?_
          refine y0 rfl (o_move (d := .int .i64 (w64 (s10 + 1))) rfl) ?_
          refine y_nil ?_
          exact ⟨rfl, w64 (s10 + 1), (Option.some.inj h).symm, (wk_st _ _ ⟨rfl, rfl, rfl, rfl, rfl, rfl, rfl, rfl, rfl, rfl, rfl, rfl, rfl, rfl, rfl, rfl, rfl, rfl, rfl, rfl, rfl, rfl, rfl, rfl, trivial⟩ ⟨rowLe_same rfl rfl rfl (fun q => nomatch q) rfl rfl rfl, rowLe_same rfl rfl rfl (fun q => nomatch q) rfl rfl rfl, trivial⟩)⟩
      · have h := ifF h hg24
        refine y_skip (congrArg some hg24) ?_
        refine y_skip (congrArg some hg24) ?_
        refine y0 rfl (pk_andF rfl rfl hg24) ?_
        refine y_nil ?_
        refine pw_cond false rfl (fun q => nomatch q) (fun _ => ?_)
        refine pw_skip ?_
        refine sr1 (by kernel_rfl) ?_
        refine y0 rfl (o_ari rfl rfl rfl) ?_
        refine y0 rfl (o_move (d := .int .i64 (w64 (s10 + 1))) rfl) ?_
        refine y_nil ?_
        exact ⟨rfl, w64 (s10 + 1), (Option.some.inj h).symm, (wk_st _ _ ⟨rfl, rfl, rfl, rfl, rfl, rfl, rfl, rfl, rfl, rfl, rfl, rfl, rfl, rfl, rfl, rfl, rfl, rfl, rfl, rfl, rfl, rfl, rfl, rfl, trivial⟩ ⟨rowLe_same rfl rfl rfl (fun q => nomatch q) rfl rfl rfl, rowLe_same rfl rfl rfl (fun q => nomatch q) rfl rfl rfl, trivial⟩)⟩
    · have h := ifF h hc
      refine pw_exit ?_
      refine thenQ_exit ?_
      refine thenQ_exit ?_
      refine blockQ_exit ?_
      refine .inl ⟨rfl, ?_⟩
      have he := hx22 _ (Option.some.inj h).symm
      have h := hk21
      rw [← he] at h
      exact ⟨rfl, (), h, (wk_stP (fun l => if l = 2001 then 2003 else l) _ _ ⟨rfl, rfl, rfl, trivial⟩ ⟨rowLe_ren rfl rfl rfl (fun q => nomatch q) rfl rfl rfl, trivial⟩ rfl)⟩

set_option maxHeartbeats 4000000 in
theorem task_Count_ok {a0 : queue_Queue_task_Task} {a1 : Int} {r : Int} (h : task_Count a0 a1 = some r) : PCalls Try.prog 20 [queue_Queue_task_Task.Pv a0, .int .i64 a1] (.int .i64 r) := by
  unfold task_Count at h
  refine pc_intro (N := 13) Try.func20 rfl rfl (Nat.le_of_ble_eq_true rfl) fun w0 imm0 => ?_
  refine sr (by kernel_rfl) ?_
  refine y1 rfl (o_box (d := queue_Queue_task_Task.Pv a0) (z := 2) (cl := true) rfl rfl rfl rfl rfl) rfl ?_
  refine y0 rfl (o_assign (d := .int .i64 0) rfl) ?_
  refine y_nil ?_
  refine sr (by kernel_rfl) ?_
  refine y1 rfl (o_alloc (d := .int .i64 0) (z := 1) rfl Ty.z3 rfl rfl rfl) rfl ?_
  refine y_sto (x' := .int .i64 0) (cl' := true) rfl rfl (.inl rfl) Ty.s3 ?_
  refine y_nil ?_
  obtain ⟨κ8, hκ14, h⟩ := jnE h
  refine pw_jn0 (κ := κ8) (r := r) (fun (j9 : Int) => St.of [(5, .ptr 2001 0 0)] [(2001, ⟨[.int .i64 j9], 0, false, 1, true⟩)]) (fun j9 h => ?_) ?_
  · subst hκ14
    refine sr (by kernel_rfl) ?_
    refine y0 rfl (o_loadS rfl rfl rfl Ty.a3 rfl) ?_
    refine y0 rfl (o_assign (d := .int .i64 j9) rfl) ?_
    refine y_nil ?_
    refine pw_ret ?_
    obtain rfl := Option.some.inj h
    exact ⟨rfl, [_], ⟨rfl, trivial⟩, rfl, by first | exact .inl rfl | exact .inr rfl⟩
  · skip
    refine sr (by kernel_rfl) ?_
    refine y0 rfl (o_loadA (cs := queue_Queue_task_Task.Pc a0) rfl rfl rfl Ty.a24 Ty.s24 (Nat.le_of_ble_eq_true rfl) rfl) ?_
    refine y0 rfl (o_move (d := .int .i64 a1) rfl) ?_
    obtain ⟨v10, hv15, h⟩ := bindE h
    refine yc rfl (o_callF (ls := []) (ds := [queue_Queue_task_Task.Pv a0, .int .i64 a1]) rfl Ty.k25 rfl (task_of_ok hv15)) ?_
    refine y_nil ?_
    refine pw_block ?_
    refine pw_wk (wk_stP (fun l => if l = 2002 then 5 else l) [(5, .ptr 2002 0 0), (8, .fn (.func 30) [.rptr (queue_Queue_task_Task.Pc v10.1), .rptr [.int .i64 v10.2]])] [(2002, ⟨[.int .i64 0], 0, false, 1, true⟩)] ⟨rfl, rfl, rfl, rfl, rfl, rfl, trivial⟩ ⟨rowLe_ren rfl rfl rfl (fun q => nomatch q) rfl rfl rfl, trivial⟩ rfl) ?_
    refine pw_range (fn := Try.f30) (N1 := 24) rfl Try.func30 rfl rfl (Nat.le_of_ble_eq_true rfl) rfl Ty.k30 rfl rfl (fun l16 e17 o18 hR19 => ?_)
    refine sr (by kernel_rfl) ?_
    refine y0 rfl (o_fieldAddrR rfl Ty.f24_0 rfl) ?_
    refine y0 rfl (o_loadRS rfl Ty.a22 rfl) ?_
    refine y0 rfl (o_lnL (f := task_Task.Pv) rfl Ty.e22) ?_
    refine y0 rfl (o_move (d := .int .i64 0) rfl) ?_
    refine y_nil ?_
    refine pw_block ?_
    obtain ⟨e11, hl20, hk21⟩ := bindE h
    refine pw_lp0 (fun (q : Int × Int) => St.of [(1000005, .ptr 2002 0 0), (1000008, .fn (.func 30) [.rptr (queue_Queue_task_Task.Pc v10.1), .rptr [.int .i64 v10.2]]), (0, .fn (.yield l16) []), (2, .rptr [.int .i64 v10.2]), (7, .lst false (List.map task_Task.Pv v10.1.L)), (8, .int .i64 (v10.1.L.length : Int)), (9, .int .i64 q.1)] [(2002, ⟨[.int .i64 q.2], 0, false, 1, true⟩)]) hl20 (wk_st _ _ ⟨rfl, rfl, rfl, rfl, rfl, rfl, rfl, rfl, rfl, rfl, rfl, rfl, rfl, rfl, rfl, rfl, rfl, rfl, rfl, rfl, rfl, trivial⟩ ⟨rowLe_same rfl rfl rfl (fun q => nomatch q) rfl rfl rfl, trivial⟩) (fun q15 x14 h hx22 => ?_)
    obtain ⟨s12, s13⟩ := q15
    refine sr (by kernel_rfl) ?_
    refine y0 rfl (o_cmp rfl rfl rfl) ?_
    refine y_nil ?_
    refine pw_seq ?_
    refine pw_cond (decide (s12 < (v10.1.L.length : Int))) rfl (fun hc => ?_) (fun hc => ?_)
    · have h := ifT h hc
      refine pw_skip ?_
      refine pw_seq ?_
      refine pw_block ?_
      refine sr (by kernel_rfl) ?_
      obtain ⟨v16, hv23, h⟩ := bindE h
      refine y0 rfl (o_ixL (f := task_Task.Pv) (cs := task_Task.Pc v16) hv23 rfl rfl Ty.e22 Ty.s26 rfl rfl) ?_
      refine y0 rfl (o_loadRA (cs := task_Task.Pc v16) rfl Ty.a26 Ty.s26 (Nat.le_of_ble_eq_true rfl) rfl) ?_
      refine y1 rfl (o_alloc (d := .agg [.int .i64 0, .int .i64 0, .int .i64 0]) (z := 3) rfl Ty.z26 rfl rfl rfl) rfl ?_
      refine y_sto (x' := task_Task.Pv v16) (cl' := true) rfl rfl (.inl rfl) Ty.s26 ?_
      refine y_nil ?_
      refine sr (by kernel_rfl) ?_
      refine y0 rfl (o_fieldAddrP (k := 0) rfl Ty.f26_0 rfl) ?_
      refine y0 rfl (o_loadS rfl rfl rfl Ty.a3 rfl) ?_
      refine y0 rfl (o_loadRS rfl Ty.a3 rfl) ?_
      refine y0 rfl (o_cmp rfl rfl rfl) ?_
      refine y0 rfl (o_move (d := .bool (v16.Kind == v10.2)) rfl) ?_
      refine y_if (g := ((v16.Kind == v10.2) == true)) rfl (fun hg => o_move (d := .fn (.yield l16) []) rfl) ?_
      refine y_if (g := ((v16.Kind == v10.2) == true)) rfl (fun hg => o_loadA (cs := task_Task.Pc v16) rfl rfl rfl Ty.a26 Ty.s26 (Nat.le_of_ble_eq_true rfl) rfl) ?_
      rcases Bool.eq_false_or_eq_true ((v16.Kind == v10.2) == true) with hg24 | hg24
      · have h := ifT h hg24
        refine y_wk (wk_st [(1000005, .ptr 2002 0 0), (1000008, .fn (.func 30) [.rptr (queue_Queue_task_Task.Pc v10.1), .rptr [.int .i64 v10.2]]), (0, .fn (.yield l16) []), (2, .rptr [.int .i64 v10.2]), (7, .lst false (List.map task_Task.Pv v10.1.L)), (8, .int .i64 (v10.1.L.length : Int)), (9, .int .i64 s12), (17, .bool (v16.Kind == v10.2)), (18, .fn (.yield l16) []), (19, task_Task.Pv v16)] [(2002, ⟨[.int .i64 s13], 0, false, 1, true⟩)] ⟨rfl, rfl, rfl, rfl, rfl, rfl, rfl, rfl, rfl, rfl, rfl, rfl, rfl, rfl, rfl, rfl, rfl, rfl, rfl, rfl, rfl, rfl, rfl, rfl, (ct hg24), rfl, rfl, (ct hg24), rfl, rfl, trivial⟩ ⟨rowLe_same rfl rfl rfl (fun q => nomatch q) rfl rfl rfl, trivial⟩) ?_
        refine y_yield hR19 (congrArg some hg24) rfl rfl rfl rfl rfl (fun e25 o26 o27 => ?_)
        refine pw_skip ?_
        refine ⟨rfl, ?_⟩
        refine pw_block ?_
        refine sr1 (by kernel_rfl) ?_
        refine y0 rfl (o_loadS rfl rfl rfl Ty.a3 rfl) ?_
        refine y0 rfl (o_ari rfl rfl rfl) ?_
        refine y_sto (x' := .int .i64 (w64 (s13 + 1))) (cl' := true) rfl rfl (.inl rfl) Ty.s3 ?_
        refine y_nil ?_
        refine ⟨rfl, ?_⟩
        refine y_wk (wk_st [(1000005, .ptr 2002 0 0), (1000008, .fn (.func 30) [.rptr (queue_Queue_task_Task.Pc v10.1), .rptr [.int .i64 v10.2]]), (0, .fn (.yield l16) []), (2, .rptr [.int .i64 v10.2]), (7, .lst false (List.map task_Task.Pv v10.1.L)), (8, .int .i64 (v10.1.L.length : Int)), (9, .int .i64 s12), (17, .bool (v16.Kind == v10.2)), (20, .bool true)] [(2002, ⟨[.int .i64 (w64 (s13 + 1))], 0, false, 1, true⟩)] ⟨rfl, rfl, rfl, rfl, rfl, rfl, rfl, rfl, rfl, rfl, rfl, rfl, rfl, rfl, rfl, rfl, rfl, rfl, rfl, rfl, rfl, rfl, rfl, rfl, rfl, rfl, rfl, trivial⟩ ⟨rowLe_same rfl rfl rfl (fun q => nomatch q) rfl rfl rfl, trivial⟩) ?_
        refine y0 (congrArg some hg24) (o_not rfl rfl) ?_
        refine y0 rfl (pk_andT rfl rfl hg24) ?_
        refine y_nil ?_
        refine pw_cond false rfl (fun q => nomatch q) (fun _ => ?_)
        refine pw_skip ?_
        refine sr1 (by kernel_rfl) ?_
        refine y0 rfl (o_ari rfl rfl rfl) ?_
        refine y0 rfl (o_move (d := .int .i64 (w64 (s12 + 1))) rfl) ?_
        refine y_nil ?_
        exact ⟨rfl, (w64 (s12 + 1), w64 (s13 + 1)), (Option.some.inj h).symm, (wk_st _ _ ⟨rfl, rfl, rfl, rfl, rfl, rfl, rfl, rfl, rfl, rfl, rfl, rfl, rfl, rfl, rfl, rfl, rfl, rfl, rfl, rfl, rfl, trivial⟩ ⟨rowLe_same rfl rfl rfl (fun q => nomatch q) rfl rfl rfl, trivial⟩)⟩
      · have h := ifF h hg24
        refine y_skip (congrArg some hg24) ?_
        refine y_skip (congrArg some hg24) ?_
        refine y0 rfl (pk_andF rfl rfl hg24) ?_
        refine y_nil ?_
        refine pw_cond false rfl (fun q => nomatch q) (fun _ => ?_)
        refine pw_skip ?_
        refine sr1 (by kernel_rfl) ?_
        refine y0 rfl (o_ari rfl rfl rfl) ?_
        refine y0 rfl (o_move (d := .int .i64 (w64 (s12 + 1))) rfl) ?_
        refine y_nil ?_
        exact ⟨rfl, (w64 (s12 + 1), s13), (Option.some.inj h).symm, (wk_st _ _ ⟨rfl, rfl, rfl, rfl, rfl, rfl, rfl, rfl, rfl, rfl, rfl, rfl, rfl, rfl, rfl, rfl, rfl, rfl, rfl, rfl, rfl, trivial⟩ ⟨rowLe_same rfl rfl rfl (fun q => nomatch q) rfl rfl rfl, trivial⟩)⟩
    · have h := ifF h hc
      refine pw_exit ?_
      refine thenQ_exit ?_
      refine thenQ_exit ?_
      refine blockQ_exit ?_
      refine .inl ⟨rfl, ?_⟩
      have he := hx22 _ (Option.some.inj h).symm
      have h := hk21
      rw [← he] at h
      exact ⟨rfl, s13, h, (wk_stP (fun l => if l = 2001 then 2002 else l) _ _ ⟨rfl, rfl, rfl, trivial⟩ ⟨rowLe_ren rfl rfl rfl (fun q => nomatch q) rfl rfl rfl, trivial⟩ rfl)⟩

set_option maxHeartbeats 4000000 in
theorem w14_shown_ok  {r : Bool} (h : w14_shown = some r) : PCalls Try.prog 8 [] (.bool r) := by
  unfold w14_shown at h
  refine pc_intro (N := 93) Try.func8 rfl rfl (Nat.le_of_ble_eq_true rfl) fun w0 imm0 => ?_
  refine sr (by kernel_rfl) ?_
  refine y0 rfl (o_assign (d := .bool false) rfl) ?_
  refine y_nil ?_
  refine sr (by kernel_rfl) ?_
  obtain ⟨v1, hv1, h⟩ := bindE h
  refine yc rfl (o_callF (ls := []) (ds := []) rfl Ty.k22 rfl (task_New_ok hv1)) ?_
  refine y0 rfl (o_build (cs := [.int .i64 1, .int .i64 3, .int .i64 1]) rfl Ty.p26 Ty.z26 rfl rfl rfl) ?_
  obtain ⟨v2, hv2, h⟩ := bindE h
  refine yc rfl (o_callF (ls := []) (ds := [queue_Queue_task_Task.Pv v1, .agg [.int .i64 1, .int .i64 3, .int .i64 1]]) rfl Ty.k10 rfl (task_Add_ok hv2)) ?_
  refine y0 rfl (o_move (d := .tup [queue_Queue_task_Task.Pv v2.1, .int .i64 v2.2]) rfl) ?_
  refine y0 rfl (o_extract rfl rfl) ?_
  refine y0 rfl (o_extract rfl rfl) ?_
  refine y1 rfl (o_alloc (d := .agg [.lst false (List.map task_Task.Pv []), .int .i64 0]) (z := 2) rfl Ty.z24 rfl rfl rfl) rfl ?_
  refine y_sto (x' := queue_Queue_task_Task.Pv v2.1) (cl' := true) rfl rfl (.inr rfl) Ty.s24 ?_
  refine y0 rfl (o_assign (d := .int .i64 v2.2) rfl) ?_
  refine y_nil ?_
  refine sr (by kernel_rfl) ?_
  refine y0 rfl (o_loadA (cs := queue_Queue_task_Task.Pc v2.1) rfl rfl rfl Ty.a24 Ty.s24 (Nat.le_of_ble_eq_true rfl) rfl) ?_
  refine y0 rfl (o_build (cs := [.int .i64 2, .int .i64 1, .int .i64 0]) rfl Ty.p26 Ty.z26 rfl rfl rfl) ?_
  obtain ⟨v3, hv3, h⟩ := bindE h
  refine yc rfl (o_callF (ls := []) (ds := [queue_Queue_task_Task.Pv v2.1, .agg [.int .i64 2, .int .i64 1, .int .i64 0]]) rfl Ty.k10 rfl (task_Add_ok hv3)) ?_
  refine y0 rfl (o_move (d := .tup [queue_Queue_task_Task.Pv v3.1, .int .i64 v3.2]) rfl) ?_
  refine y0 rfl (o_extract rfl rfl) ?_
  refine y0 rfl (o_extract rfl rfl) ?_
  refine y_sto (x' := queue_Queue_task_Task.Pv v3.1) (cl' := true) rfl rfl (.inr rfl) Ty.s24 ?_
  refine y_nil ?_
  refine sr (by kernel_rfl) ?_
  refine y0 rfl (o_loadA (cs := queue_Queue_task_Task.Pc v3.1) rfl rfl rfl Ty.a24 Ty.s24 (Nat.le_of_ble_eq_true rfl) rfl) ?_
  refine y0 rfl (o_build (cs := [.int .i64 1, .int .i64 4, .int .i64 0]) rfl Ty.p26 Ty.z26 rfl rfl rfl) ?_
  obtain ⟨v4, hv4, h⟩ := bindE h
  refine yc rfl (o_callF (ls := []) (ds := [queue_Queue_task_Task.Pv v3.1, .agg [.int .i64 1, .int .i64 4, .int .i64 0]]) rfl Ty.k10 rfl (task_Add_ok hv4)) ?_
  refine y0 rfl (o_move (d := .tup [queue_Queue_task_Task.Pv v4.1, .int .i64 v4.2]) rfl) ?_
  refine y0 rfl (o_extract rfl rfl) ?_
  refine y0 rfl (o_extract rfl rfl) ?_
  refine y_sto (x' := queue_Queue_task_Task.Pv v4.1) (cl' := true) rfl rfl (.inr rfl) Ty.s24 ?_
  refine y_nil ?_
  refine sr (by kernel_rfl) ?_
  refine y0 rfl (o_loadA (cs := queue_Queue_task_Task.Pc v4.1) rfl rfl rfl Ty.a24 Ty.s24 (Nat.le_of_ble_eq_true rfl) rfl) ?_
  obtain ⟨v5, hv5, h⟩ := bindE h
  refine yc rfl (o_callF (ls := []) (ds := [queue_Queue_task_Task.Pv v4.1]) rfl Ty.k16 rfl (task_Held_ok hv5)) ?_
  refine y0 rfl (o_assign (d := .lst false (List.map (PV.int .i64) v5)) rfl) ?_
  refine y_nil ?_
  refine sr (by kernel_rfl) ?_
  refine y0 rfl (o_loadA (cs := queue_Queue_task_Task.Pc v4.1) rfl rfl rfl Ty.a24 Ty.s24 (Nat.le_of_ble_eq_true rfl) rfl) ?_
  obtain ⟨v6, hv6, h⟩ := bindE h
  refine yc rfl (o_callF (ls := []) (ds := [queue_Queue_task_Task.Pv v4.1]) rfl Ty.k12 rfl (task_Next_ok hv6)) ?_
  refine y0 rfl (o_move (d := .tup [queue_Queue_task_Task.Pv v6.1, task_Task.Pv v6.2.1, .int .i64 v6.2.2]) rfl) ?_
  refine y0 rfl (o_extract rfl rfl) ?_
  refine y0 rfl (o_extract rfl rfl) ?_
  refine y0 rfl (o_extract rfl rfl) ?_
  refine y1 rfl (o_alloc (d := .agg [.lst false (List.map task_Task.Pv []), .int .i64 0]) (z := 2) rfl Ty.z24 rfl rfl rfl) rfl ?_
  refine y1 rfl (o_alloc (d := .agg [.int .i64 0, .int .i64 0, .int .i64 0]) (z := 3) rfl Ty.z26 rfl rfl rfl) rfl ?_
  refine y_sto (x' := queue_Queue_task_Task.Pv v6.1) (cl' := true) rfl rfl (.inr rfl) Ty.s24 ?_
  refine y_sto (x' := task_Task.Pv v6.2.1) (cl' := true) rfl rfl (.inl rfl) Ty.s26 ?_
  refine y0 rfl (o_assign (d := .int .i64 v6.2.2) rfl) ?_
  refine y_nil ?_
  refine sr (by kernel_rfl) ?_
  refine yc rfl (o_callF (ls := []) (ds := []) rfl Ty.k22 rfl (task_New_ok hv1)) ?_
  obtain ⟨v7, hv7, h⟩ := bindE h
  refine yc rfl (o_callF (ls := []) (ds := [queue_Queue_task_Task.Pv v1]) rfl Ty.k12 rfl (task_Next_ok hv7)) ?_
  refine y0 rfl (o_move (d := .tup [queue_Queue_task_Task.Pv v7.1, task_Task.Pv v7.2.1, .int .i64 v7.2.2]) rfl) ?_
  refine y0 rfl (o_extract rfl rfl) ?_
  refine y0 rfl (o_extract rfl rfl) ?_
  refine y0 rfl (o_extract rfl rfl) ?_
  refine y1 rfl (o_alloc (d := .agg [.lst false (List.map task_Task.Pv []), .int .i64 0]) (z := 2) rfl Ty.z24 rfl rfl rfl) rfl ?_
  refine y1 rfl (o_alloc (d := .agg [.int .i64 0, .int .i64 0, .int .i64 0]) (z := 3) rfl Ty.z26 rfl rfl rfl) rfl ?_
  refine y_sto (x' := queue_Queue_task_Task.Pv v7.1) (cl' := true) rfl rfl (.inr rfl) Ty.s24 ?_
  refine y_sto (x' := task_Task.Pv v7.2.1) (cl' := true) rfl rfl (.inl rfl) Ty.s26 ?_
  refine y0 rfl (o_assign (d := .int .i64 v7.2.2) rfl) ?_
  refine y_nil ?_
  refine sr (by kernel_rfl) ?_
  refine y0 rfl (o_move (d := .int .i64 v2.2) rfl) ?_
  refine y0 rfl (o_cmp rfl rfl rfl) ?_
  refine y0 rfl (o_move (d := .bool (v2.2 == 0)) rfl) ?_
  refine y_if (g := ((v2.2 == 0) == true)) rfl (fun hg => o_move (d := .lst false (List.map (PV.int .i64) v5)) rfl) ?_
  refine y_if (g := ((v2.2 == 0) == true)) rfl (fun hg => o_lnL (f := (PV.int .i64)) (ct hg) Ty.e44) ?_
  refine y_if (g := ((v2.2 == 0) == true)) rfl (fun hg => o_cmp (ct hg) rfl rfl) ?_
  refine y0 rfl (pk_and rfl rfl rfl (fun q => eqT q)) ?_
  refine y0 rfl (o_move (d := .bool ((v2.2 == 0) && ((v5.length : Int) == 2))) rfl) ?_
  refine y_if (g := (((v2.2 == 0) && ((v5.length : Int) == 2)) == true)) rfl (fun hg => o_move (d := .lst false (List.map (PV.int .i64) v5)) rfl) ?_
  obtain ⟨v8, hv8, h⟩ := bindE h
  refine y_if (g := (((v2.2 == 0) && ((v5.length : Int) == 2)) == true)) rfl (fun hg => o_ixL (f := (PV.int .i64)) (cs := [.int .i64 v8]) (onlyE hv8 hg) (ct hg) rfl Ty.e44 Ty.s3 rfl rfl) ?_
  refine y_if (g := (((v2.2 == 0) && ((v5.length : Int) == 2)) == true)) rfl (fun hg => o_loadRS (ct hg) Ty.a3 rfl) ?_
  refine y_if (g := (((v2.2 == 0) && ((v5.length : Int) == 2)) == true)) rfl (fun hg => o_cmp (ct hg) rfl rfl) ?_
  refine y0 rfl (pk_and rfl rfl rfl (fun q => eqT q)) ?_
  refine y0 rfl (o_move (d := .bool (((v2.2 == 0) && ((v5.length : Int) == 2)) && (v8 == 3))) rfl) ?_
  refine y_if (g := ((((v2.2 == 0) && ((v5.length : Int) == 2)) && (v8 == 3)) == true)) rfl (fun hg => o_move (d := .lst false (List.map (PV.int .i64) v5)) rfl) ?_
  obtain ⟨v9, hv9, h⟩ := bindE h
  refine y_if (g := ((((v2.2 == 0) && ((v5.length : Int) == 2)) && (v8 == 3)) == true)) rfl (fun hg => o_ixL (f := (PV.int .i64)) (cs := [.int .i64 v9]) (onlyE hv9 hg) (ct hg) rfl Ty.e44 Ty.s3 rfl rfl) ?_
  refine y_if (g := ((((v2.2 == 0) && ((v5.length : Int) == 2)) && (v8 == 3)) == true)) rfl (fun hg => o_loadRS (ct hg) Ty.a3 rfl) ?_
  refine y_if (g := ((((v2.2 == 0) && ((v5.length : Int) == 2)) && (v8 == 3)) == true)) rfl (fun hg => o_cmp (ct hg) rfl rfl) ?_
  refine y0 rfl (pk_and rfl rfl rfl (fun q => eqT q)) ?_
  refine y0 rfl (o_move (d := .bool ((((v2.2 == 0) && ((v5.length : Int) == 2)) && (v8 == 3)) && (v9 == 4))) rfl) ?_
  refine y_if (g := (((((v2.2 == 0) && ((v5.length : Int) == 2)) && (v8 == 3)) && (v9 == 4)) == true)) rfl (fun hg => o_loadA (cs := task_Task.Pc v6.2.1) rfl rfl rfl Ty.a26 Ty.s26 (Nat.le_of_ble_eq_true rfl) rfl) ?_
  refine y_if (g := (((((v2.2 == 0) && ((v5.length : Int) == 2)) && (v8 == 3)) && (v9 == 4)) == true)) rfl (fun hg => o_build (cs := [.int .i64 1, .int .i64 3, .int .i64 1]) rfl Ty.p26 Ty.z26 rfl rfl rfl) ?_
  refine y_if (g := (((((v2.2 == 0) && ((v5.length : Int) == 2)) && (v8 == 3)) && (v9 == 4)) == true)) rfl (fun hg => o_eqA (xs := task_Task.Pc v6.2.1) (ys := [.int .i64 1, .int .i64 3, .int .i64 1]) Ty.q26 (ct hg) (ct hg) rfl) ?_
  refine y0 rfl (pk_and rfl rfl rfl (fun q => eqT q)) ?_
  refine y0 rfl (o_move (d := .bool (((((v2.2 == 0) && ((v5.length : Int) == 2)) && (v8 == 3)) && (v9 == 4)) && ((v6.2.1.Kind == 1) && ((v6.2.1.At == 3) && ((v6.2.1.Prog == 1) && true))))) rfl) ?_
  refine y_if (g := ((((((v2.2 == 0) && ((v5.length : Int) == 2)) && (v8 == 3)) && (v9 == 4)) && ((v6.2.1.Kind == 1) && ((v6.2.1.At == 3) && ((v6.2.1.Prog == 1) && true)))) == true)) rfl (fun hg => o_move (d := .int .i64 v6.2.2) rfl) ?_
  refine y_if (g := ((((((v2.2 == 0) && ((v5.length : Int) == 2)) && (v8 == 3)) && (v9 == 4)) && ((v6.2.1.Kind == 1) && ((v6.2.1.At == 3) && ((v6.2.1.Prog == 1) && true)))) == true)) rfl (fun hg => o_cmp (ct hg) rfl rfl) ?_
  refine y0 rfl (pk_and rfl rfl rfl (fun q => eqT q)) ?_
  refine y0 rfl (o_move (d := .bool ((((((v2.2 == 0) && ((v5.length : Int) == 2)) && (v8 == 3)) && (v9 == 4)) && ((v6.2.1.Kind == 1) && ((v6.2.1.At == 3) && ((v6.2.1.Prog == 1) && true)))) && (v6.2.2 == 0))) rfl) ?_
  refine y_if (g := (((((((v2.2 == 0) && ((v5.length : Int) == 2)) && (v8 == 3)) && (v9 == 4)) && ((v6.2.1.Kind == 1) && ((v6.2.1.At == 3) && ((v6.2.1.Prog == 1) && true)))) && (v6.2.2 == 0)) == true)) rfl (fun hg => o_move (d := .int .i64 v7.2.2) rfl) ?_
  refine y_if (g := (((((((v2.2 == 0) && ((v5.length : Int) == 2)) && (v8 == 3)) && (v9 == 4)) && ((v6.2.1.Kind == 1) && ((v6.2.1.At == 3) && ((v6.2.1.Prog == 1) && true)))) && (v6.2.2 == 0)) == true)) rfl (fun hg => o_cmp (ct hg) rfl rfl) ?_
  refine y0 rfl (pk_and rfl rfl rfl (fun q => eqT q)) ?_
  refine y0 rfl (o_move (d := .bool (((((((v2.2 == 0) && ((v5.length : Int) == 2)) && (v8 == 3)) && (v9 == 4)) && ((v6.2.1.Kind == 1) && ((v6.2.1.At == 3) && ((v6.2.1.Prog == 1) && true)))) && (v6.2.2 == 0)) && (v7.2.2 == 10))) rfl) ?_
  refine y_if (g := ((((((((v2.2 == 0) && ((v5.length : Int) == 2)) && (v8 == 3)) && (v9 == 4)) && ((v6.2.1.Kind == 1) && ((v6.2.1.At == 3) && ((v6.2.1.Prog == 1) && true)))) && (v6.2.2 == 0)) && (v7.2.2 == 10)) == true)) rfl (fun hg => o_loadA (cs := queue_Queue_task_Task.Pc v6.1) rfl rfl rfl Ty.a24 Ty.s24 (Nat.le_of_ble_eq_true rfl) rfl) ?_
  obtain ⟨v10, hv10, h⟩ := bindE h
  refine y_if (g := ((((((((v2.2 == 0) && ((v5.length : Int) == 2)) && (v8 == 3)) && (v9 == 4)) && ((v6.2.1.Kind == 1) && ((v6.2.1.At == 3) && ((v6.2.1.Prog == 1) && true)))) && (v6.2.2 == 0)) && (v7.2.2 == 10)) == true)) rfl (fun hg => o_call (ds := [queue_Queue_task_Task.Pv v6.1, .int .i64 1]) rfl Ty.k18 (consE (ct hg) (consE rfl rfl)) (task_Waits_ok (onlyE hv10 hg))) ?_
  refine y0 rfl (pk_and rfl rfl rfl (fun q => eqT q)) ?_
  refine y0 rfl (o_move (d := .bool ((((((((v2.2 == 0) && ((v5.length : Int) == 2)) && (v8 == 3)) && (v9 == 4)) && ((v6.2.1.Kind == 1) && ((v6.2.1.At == 3) && ((v6.2.1.Prog == 1) && true)))) && (v6.2.2 == 0)) && (v7.2.2 == 10)) && v10)) rfl) ?_
  refine y_if (g := (((((((((v2.2 == 0) && ((v5.length : Int) == 2)) && (v8 == 3)) && (v9 == 4)) && ((v6.2.1.Kind == 1) && ((v6.2.1.At == 3) && ((v6.2.1.Prog == 1) && true)))) && (v6.2.2 == 0)) && (v7.2.2 == 10)) && v10) == true)) rfl (fun hg => o_loadA (cs := queue_Queue_task_Task.Pc v6.1) rfl rfl rfl Ty.a24 Ty.s24 (Nat.le_of_ble_eq_true rfl) rfl) ?_
  obtain ⟨v11, hv11, h⟩ := bindE h
  refine y_if (g := (((((((((v2.2 == 0) && ((v5.length : Int) == 2)) && (v8 == 3)) && (v9 == 4)) && ((v6.2.1.Kind == 1) && ((v6.2.1.At == 3) && ((v6.2.1.Prog == 1) && true)))) && (v6.2.2 == 0)) && (v7.2.2 == 10)) && v10) == true)) rfl (fun hg => o_call (ds := [queue_Queue_task_Task.Pv v6.1, .int .i64 4]) rfl Ty.k18 (consE (ct hg) (consE rfl rfl)) (task_Waits_ok (onlyE hv11 hg))) ?_
  refine y_if (g := (((((((((v2.2 == 0) && ((v5.length : Int) == 2)) && (v8 == 3)) && (v9 == 4)) && ((v6.2.1.Kind == 1) && ((v6.2.1.At == 3) && ((v6.2.1.Prog == 1) && true)))) && (v6.2.2 == 0)) && (v7.2.2 == 10)) && v10) == true)) rfl (fun hg => o_not (ct hg) rfl) ?_
  refine y0 rfl (pk_and rfl rfl rfl (fun q => eqT q)) ?_
  refine y0 rfl (o_move (d := .bool (((((((((v2.2 == 0) && ((v5.length : Int) == 2)) && (v8 == 3)) && (v9 == 4)) && ((v6.2.1.Kind == 1) && ((v6.2.1.At == 3) && ((v6.2.1.Prog == 1) && true)))) && (v6.2.2 == 0)) && (v7.2.2 == 10)) && v10) && (!v11))) rfl) ?_
  refine y_if (g := ((((((((((v2.2 == 0) && ((v5.length : Int) == 2)) && (v8 == 3)) && (v9 == 4)) && ((v6.2.1.Kind == 1) && ((v6.2.1.At == 3) && ((v6.2.1.Prog == 1) && true)))) && (v6.2.2 == 0)) && (v7.2.2 == 10)) && v10) && (!v11)) == true)) rfl (fun hg => o_loadA (cs := queue_Queue_task_Task.Pc v6.1) rfl rfl rfl Ty.a24 Ty.s24 (Nat.le_of_ble_eq_true rfl) rfl) ?_
  obtain ⟨v12, hv12, h⟩ := bindE h
  refine y_if (g := ((((((((((v2.2 == 0) && ((v5.length : Int) == 2)) && (v8 == 3)) && (v9 == 4)) && ((v6.2.1.Kind == 1) && ((v6.2.1.At == 3) && ((v6.2.1.Prog == 1) && true)))) && (v6.2.2 == 0)) && (v7.2.2 == 10)) && v10) && (!v11)) == true)) rfl (fun hg => o_call (ds := [queue_Queue_task_Task.Pv v6.1, .int .i64 1]) rfl Ty.k20 (consE (ct hg) (consE rfl rfl)) (task_Count_ok (onlyE hv12 hg))) ?_
  refine y_if (g := ((((((((((v2.2 == 0) && ((v5.length : Int) == 2)) && (v8 == 3)) && (v9 == 4)) && ((v6.2.1.Kind == 1) && ((v6.2.1.At == 3) && ((v6.2.1.Prog == 1) && true)))) && (v6.2.2 == 0)) && (v7.2.2 == 10)) && v10) && (!v11)) == true)) rfl (fun hg => o_cmp (ct hg) rfl rfl) ?_
  refine y0 rfl (pk_and rfl rfl rfl (fun q => eqT q)) ?_
  refine y0 rfl (o_move (d := .bool ((((((((((v2.2 == 0) && ((v5.length : Int) == 2)) && (v8 == 3)) && (v9 == 4)) && ((v6.2.1.Kind == 1) && ((v6.2.1.At == 3) && ((v6.2.1.Prog == 1) && true)))) && (v6.2.2 == 0)) && (v7.2.2 == 10)) && v10) && (!v11)) && (v12 == 1))) rfl) ?_
  refine y_ifc (g := (((((((((((v2.2 == 0) && ((v5.length : Int) == 2)) && (v8 == 3)) && (v9 == 4)) && ((v6.2.1.Kind == 1) && ((v6.2.1.At == 3) && ((v6.2.1.Prog == 1) && true)))) && (v6.2.2 == 0)) && (v7.2.2 == 10)) && v10) && (!v11)) && (v12 == 1)) == true)) rfl (fun hg => o_callF (ls := []) (ds := []) rfl Ty.k22 rfl (task_New_ok hv1)) ?_
  refine y_if (g := (((((((((((v2.2 == 0) && ((v5.length : Int) == 2)) && (v8 == 3)) && (v9 == 4)) && ((v6.2.1.Kind == 1) && ((v6.2.1.At == 3) && ((v6.2.1.Prog == 1) && true)))) && (v6.2.2 == 0)) && (v7.2.2 == 10)) && v10) && (!v11)) && (v12 == 1)) == true)) rfl (fun hg => .fieldS _ _ _ _ _ _ _ (ct hg) Ty.f24_1 Ty.a3 rfl) ?_
  refine y_if (g := (((((((((((v2.2 == 0) && ((v5.length : Int) == 2)) && (v8 == 3)) && (v9 == 4)) && ((v6.2.1.Kind == 1) && ((v6.2.1.At == 3) && ((v6.2.1.Prog == 1) && true)))) && (v6.2.2 == 0)) && (v7.2.2 == 10)) && v10) && (!v11)) && (v12 == 1)) == true)) rfl (fun hg => o_cmp (ct hg) rfl rfl) ?_
  refine y0 rfl (pk_and rfl rfl rfl (fun q => eqT q)) ?_
  refine y0 rfl (o_assign (d := .bool (((((((((((v2.2 == 0) && ((v5.length : Int) == 2)) && (v8 == 3)) && (v9 == 4)) && ((v6.2.1.Kind == 1) && ((v6.2.1.At == 3) && ((v6.2.1.Prog == 1) && true)))) && (v6.2.2 == 0)) && (v7.2.2 == 10)) && v10) && (!v11)) && (v12 == 1)) && (v1.Cap == 30))) rfl) ?_
  refine y_nil ?_
  refine pw_ret ?_
  obtain rfl := Option.some.inj h
  exact ⟨rfl, [_], ⟨rfl, trivial⟩, rfl, by first | exact .inl rfl | exact .inr rfl⟩

set_option maxHeartbeats 4000000 in
theorem w14_its_ok {a0 : queue_Queue_task_Task} {r : r14_Queue} (h : w14_its a0 = some r) : PCalls Try.prog 9 [queue_Queue_task_Task.Pv a0] (r14_Queue.Pv r) := by
  unfold w14_its at h
  refine pc_intro (N := 25) Try.func9 rfl rfl (Nat.le_of_ble_eq_true rfl) fun w0 imm0 => ?_
  refine sr (by kernel_rfl) ?_
  refine y1 rfl (o_box (d := queue_Queue_task_Task.Pv a0) (z := 2) (cl := true) rfl rfl rfl rfl rfl) rfl ?_
  refine y1 rfl (o_alloc (d := .agg [.lst false (List.map r14_Task.Pv []), .int .i64 0]) (z := 2) rfl Ty.z30 rfl rfl rfl) rfl ?_
  refine y_nil ?_
  refine sr (by kernel_rfl) ?_
  refine y0 rfl (o_nslice rfl Ty.e28 Ty.s37) ?_
  refine y0 rfl (o_assign (d := .lst true (List.map r14_Task.Pv [])) rfl) ?_
  refine y_nil ?_
  obtain ⟨κ8, hκ6, h⟩ := jnE h
  refine pw_jn0 (κ := κ8) (r := r) (fun (j9 : List r14_Task) => St.of [(1, .ptr 1 0 0), (2, .ptr 2 0 0), (3, .sl 910003)] [(910003, ⟨List.map r14_Task.Pv j9, (List.map r14_Task.Pv j9).length, true, 3, true⟩), (2, ⟨[.agg [.lst false (List.map r14_Task.Pv []), .int .i64 0]], 0, false, 2, true⟩), (1, ⟨[queue_Queue_task_Task.Pv a0], 0, false, 2, true⟩)]) (fun j9 h => ?_) ?_
  · subst hκ6
    refine sr (by kernel_rfl) ?_
    refine y0 rfl (o_move (d := .sl 910003) rfl) ?_
    refine y0 rfl (o_fieldAddrP (k := 1) rfl Ty.f24_1 rfl) ?_
    refine y0 rfl (o_loadS rfl rfl rfl Ty.a3 rfl) ?_
    refine y0 rfl (o_build (cs := [.sl 910003, .int .i64 a0.Cap]) rfl Ty.p30 Ty.z30 rfl rfl rfl) ?_
    refine y_sto (x' := .agg [.sl 910003, .int .i64 a0.Cap]) (cl' := false) rfl rfl (.inl rfl) Ty.s30 ?_
    refine y_nil ?_
    refine pw_ret ?_
    obtain rfl := Option.some.inj h
    exact ⟨rfl, [_], ⟨o_loadA rfl rfl rfl Ty.a30 Ty.s30 (Nat.le_of_ble_eq_true rfl) rfl, trivial⟩, rfl, by first | exact .inl rfl | exact .inr rfl⟩
  · skip
    refine sr (by kernel_rfl) ?_
    refine y0 rfl (o_assign (d := .int .i64 0) rfl) ?_
    refine y_nil ?_
    refine pw_block ?_
    obtain ⟨e10, hl7, hk8⟩ := bindE h
    refine pw_lp0 (fun (q : Int × (List r14_Task)) => St.of [(1, .ptr 1 0 0), (2, .ptr 2 0 0), (3, .sl 910003), (4, .int .i64 q.1)] [(2, ⟨[.agg [.lst false (List.map r14_Task.Pv []), .int .i64 0]], 0, false, 2, true⟩), (1, ⟨[queue_Queue_task_Task.Pv a0], 0, false, 2, true⟩), (910003, ⟨List.map r14_Task.Pv q.2, (List.map r14_Task.Pv q.2).length, true, 3, true⟩)]) hl7 (Wk.trans (wk_nil (t := 3) (l := 920003) (z := 3) rfl rfl) (wk_stP (fun l => if l = 910003 then 920003 else l) _ _ ⟨rfl, rfl, rfl, rfl, rfl, rfl, rfl, rfl, rfl, rfl, rfl, rfl, trivial⟩ ⟨rowLe_ren rfl rfl rfl (fun q => nomatch q) rfl rfl rfl, rowLe_ren rfl rfl rfl (fun q => nomatch q) rfl rfl rfl, rowLe_ren rfl rfl rfl (fun _ => rfl) rfl rfl rfl, trivial⟩ rfl)) (fun q14 x13 h hx9 => ?_)
    obtain ⟨s11, s12⟩ := q14
    refine pw_seq ?_
    refine sr (by kernel_rfl) ?_
    refine y0 rfl (o_move (d := .int .i64 s11) rfl) ?_
    refine y0 rfl (o_fieldAddrP (k := 0) rfl Ty.f24_0 rfl) ?_
    refine y0 rfl (o_loadS rfl rfl rfl Ty.a22 rfl) ?_
    refine y0 rfl (o_lnL (f := task_Task.Pv) rfl Ty.e22) ?_
    refine y0 rfl (o_cmp rfl rfl rfl) ?_
    refine y_nil ?_
    refine pw_cond (decide (s11 < (a0.L.length : Int))) rfl (fun hc => ?_) (fun hc => ?_)
    · have h := ifT h hc
      refine pw_skip ?_
      refine pw_seq ?_
      refine pw_block ?_
      refine sr1 (by kernel_rfl) ?_
      refine y0 rfl (o_move (d := .sl 910003) rfl) ?_
      refine y0 rfl (o_fieldAddrP (k := 0) rfl Ty.f24_0 rfl) ?_
      refine y0 rfl (o_loadS rfl rfl rfl Ty.a22 rfl) ?_
      refine y0 rfl (o_move (d := .int .i64 s11) rfl) ?_
      obtain ⟨v15, hv10, h⟩ := bindE h
      refine y0 rfl (o_ixL (f := task_Task.Pv) (cs := task_Task.Pc v15) hv10 rfl rfl Ty.e22 Ty.s26 rfl rfl) ?_
      refine y0 rfl (o_loadRA (cs := task_Task.Pc v15) rfl Ty.a26 Ty.s26 (Nat.le_of_ble_eq_true rfl) rfl) ?_
      refine y0 rfl (o_bI (f := r14_Task.Pv) (l := [(⟨v15.Kind, v15.At, v15.Prog⟩ : r14_Task)]) rfl Ty.e28 Ty.s37 Ty.z37 rfl rfl (Nat.le_of_ble_eq_true rfl) rfl rfl) ?_
      obtain ⟨v16, hv11, h⟩ := bindE h
      refine y_app rfl (o_apR (f := r14_Task.Pv) hv11 rfl rfl rfl rfl rfl rfl (.inl ⟨_, rfl, rfl⟩) Ty.e28 Ty.s37 Ty.b37 Ty.z37 rfl (fun _ => rfl)) rfl rfl rfl ?_
      refine y0 rfl (o_assign (d := .sl 20) rfl) ?_
      refine y_nil ?_
      refine sr1 (by kernel_rfl) ?_
      refine y0 rfl (o_move (d := .int .i64 s11) rfl) ?_
      refine y0 rfl (o_ari rfl rfl rfl) ?_
      refine y0 rfl (o_assign (d := .int .i64 (w64 (s11 + 1))) rfl) ?_
      refine y_nil ?_
      exact ⟨rfl, (w64 (s11 + 1), v16), (Option.some.inj h).symm, (Wk.trans (wk_frz _ [20]) (wk_stP (fun l => if l = 910003 then 20 else l) _ _ ⟨rfl, rfl, rfl, rfl, rfl, rfl, rfl, rfl, rfl, rfl, rfl, rfl, trivial⟩ ⟨rowLe_ren rfl rfl rfl (fun q => nomatch q) rfl rfl rfl, rowLe_ren rfl rfl rfl (fun q => nomatch q) rfl rfl rfl, rowLe_ren rfl rfl rfl (fun _ => rfl) rfl rfl rfl, trivial⟩ rfl))⟩
    · have h := ifF h hc
      refine pw_exit ?_
      refine thenQ_exit ?_
      refine thenQ_exit ?_
      refine blockQ_exit ?_
      have he := hx9 _ (Option.some.inj h).symm
      have h := hk8
      rw [← he] at h
      exact ⟨rfl, s12, h, (Wk.trans (wk_frz _ [910003]) (wk_st _ _ ⟨rfl, rfl, rfl, rfl, rfl, rfl, rfl, rfl, rfl, trivial⟩ ⟨rowLe_same rfl rfl rfl (fun _ => rfl) rfl rfl rfl, rowLe_same rfl rfl rfl (fun q => nomatch q) rfl rfl rfl, rowLe_same rfl rfl rfl (fun q => nomatch q) rfl rfl rfl, trivial⟩))⟩

set_option maxHeartbeats 4000000 in
theorem r14_Add_ok {a0 : r14_Queue} {a1 : r14_Task} {r : r14_Queue × Int} (h : r14_Add a0 a1 = some r) : PCalls Try.prog 11 [r14_Queue.Pv a0, r14_Task.Pv a1] (.tup [r14_Queue.Pv r.1, .int .i64 r.2]) := by
  unfold r14_Add at h
  refine pc_intro (N := 23) Try.func11 rfl rfl (Nat.le_of_ble_eq_true rfl) fun w0 imm0 => ?_
  refine sr (by kernel_rfl) ?_
  refine y1 rfl (o_box (d := r14_Queue.Pv a0) (z := 2) (cl := true) rfl rfl rfl rfl rfl) rfl ?_
  refine y1 rfl (o_box (d := r14_Task.Pv a1) (z := 3) (cl := true) rfl rfl rfl rfl rfl) rfl ?_
  refine y1 rfl (o_alloc (d := .agg [.lst false (List.map r14_Task.Pv []), .int .i64 0]) (z := 2) rfl Ty.z30 rfl rfl rfl) rfl ?_
  refine y0 rfl (o_assign (d := .int .i64 0) rfl) ?_
  refine y_nil ?_
  refine pw_seq ?_
  refine sr (by kernel_rfl) ?_
  refine y0 rfl (o_fieldAddrP (k := 0) rfl Ty.f30_0 rfl) ?_
  refine y0 rfl (o_loadS rfl rfl rfl Ty.a28 rfl) ?_
  refine y0 rfl (o_lnL (f := r14_Task.Pv) rfl Ty.e28) ?_
  refine y0 rfl (o_fieldAddrP (k := 1) rfl Ty.f30_1 rfl) ?_
  refine y0 rfl (o_loadS rfl rfl rfl Ty.a3 rfl) ?_
  refine y0 rfl (o_cmp rfl rfl rfl) ?_
  refine y_nil ?_
  refine pw_cond (decide ((a0.L.length : Int) ≥ a0.Cap)) rfl (fun hc => ?_) (fun hc => ?_)
  · have h := ifT h hc
    refine sr (by kernel_rfl) ?_
    refine y0 rfl (o_loadA (cs := r14_Queue.Pc a0) rfl rfl rfl Ty.a30 Ty.s30 (Nat.le_of_ble_eq_true rfl) rfl) ?_
    refine y_sto (x' := r14_Queue.Pv a0) (cl' := true) rfl rfl (.inr rfl) Ty.s30 ?_
    refine y0 rfl (o_assign (d := .int .i64 4) rfl) ?_
    refine y_nil ?_
    refine pw_ret ?_
    obtain rfl := Option.some.inj h
    exact ⟨rfl, [_, _], ⟨o_loadA rfl rfl rfl Ty.a30 Ty.s30 (Nat.le_of_ble_eq_true rfl) rfl, ⟨rfl, trivial⟩⟩, rfl, by first | exact .inl rfl | exact .inr rfl⟩
  · have h := ifF h hc
    refine pw_skip ?_
    refine dr [] Ty.mix (by kernel_rfl) (by kernel_rfl) ?_
    refine d1n rfl (o_nslice rfl Ty.e28 Ty.s37) rfl ?_
    refine d7 rfl (fun _ hN => o_fieldAddrP (k := 0) rfl Ty.f30_0 rfl) rfl ?_
    refine d0 rfl (o_loadS rfl rfl rfl Ty.a28 rfl) rfl ?_
    obtain ⟨v1, hv1, h⟩ := bindE h
    refine d3 rfl (o_apT (f := r14_Task.Pv) hv1 rfl rfl (.inl ⟨_, rfl, rfl⟩) Ty.e28 Ty.s37 Ty.b37 Ty.z37 rfl (fun _ => rfl)) rfl rfl rfl ?_
    refine d0 rfl (o_loadA (cs := r14_Task.Pc a1) rfl rfl rfl Ty.a37 Ty.s37 (Nat.le_of_ble_eq_true rfl) rfl) rfl ?_
    refine d1n rfl (o_bI (f := r14_Task.Pv) (l := [a1]) rfl Ty.e28 Ty.s37 Ty.z37 rfl rfl (Nat.le_of_ble_eq_true rfl) rfl rfl) rfl ?_
    obtain ⟨v2, hv2, h⟩ := bindE h
    refine d3a rfl (o_apR (f := r14_Task.Pv) hv2 rfl rfl rfl rfl rfl rfl (.inl ⟨_, rfl, rfl⟩) Ty.e28 Ty.s37 Ty.b37 Ty.z37 rfl (fun _ => rfl)) rfl rfl rfl rfl rfl ?_
    refine d7 rfl (fun _ hN => o_fieldAddrP (k := 1) rfl Ty.f30_1 rfl) rfl ?_
    refine d0 rfl (o_loadS rfl rfl rfl Ty.a3 rfl) rfl ?_
    refine d7 rfl (fun _ hN => o_build (cs := [.sl 19, .int .i64 a0.Cap]) rfl Ty.p30 Ty.z30 rfl rfl rfl) rfl ?_
    refine d_sto (x' := .agg [.sl 19, .int .i64 a0.Cap]) (cl' := false) rfl rfl (.inl rfl) Ty.s30 ?_
    refine d7 rfl (fun _ hN => o_assign (d := .int .i64 0) rfl) rfl ?_
    refine d_nil ?_
    refine pw_ret ?_
    obtain rfl := Option.some.inj h
    exact ⟨rfl, [_, _], ⟨o_loadA rfl rfl rfl Ty.a30 Ty.s30 (Nat.le_of_ble_eq_true rfl) rfl, ⟨rfl, trivial⟩⟩, rfl, by first | exact .inl rfl | exact .inr rfl⟩

set_option maxHeartbeats 4000000 in
theorem r14_Next_ok {a0 : r14_Queue} {r : r14_Queue × r14_Task × Int} (h : r14_Next a0 = some r) : PCalls Try.prog 13 [r14_Queue.Pv a0] (.tup [r14_Queue.Pv r.1, r14_Task.Pv r.2.1, .int .i64 r.2.2]) := by
  unfold r14_Next at h
  refine pc_intro (N := 21) Try.func13 rfl rfl (Nat.le_of_ble_eq_true rfl) fun w0 imm0 => ?_
  refine sr (by kernel_rfl) ?_
  refine y1 rfl (o_box (d := r14_Queue.Pv a0) (z := 2) (cl := true) rfl rfl rfl rfl rfl) rfl ?_
  refine y1 rfl (o_alloc (d := .agg [.lst false (List.map r14_Task.Pv []), .int .i64 0]) (z := 2) rfl Ty.z30 rfl rfl rfl) rfl ?_
  refine y1 rfl (o_alloc (d := .agg [.int .i64 0, .int .i64 0, .int .i64 0]) (z := 3) rfl Ty.z37 rfl rfl rfl) rfl ?_
  refine y0 rfl (o_assign (d := .int .i64 0) rfl) ?_
  refine y_nil ?_
  refine pw_seq ?_
  refine sr (by kernel_rfl) ?_
  refine y0 rfl (o_fieldAddrP (k := 0) rfl Ty.f30_0 rfl) ?_
  refine y0 rfl (o_loadS rfl rfl rfl Ty.a28 rfl) ?_
  refine y0 rfl (o_lnL (f := r14_Task.Pv) rfl Ty.e28) ?_
  refine y0 rfl (o_cmp rfl rfl rfl) ?_
  refine y_nil ?_
  refine pw_cond ((a0.L.length : Int) == 0) rfl (fun hc => ?_) (fun hc => ?_)
  · have h := ifT h hc
    refine sr (by kernel_rfl) ?_
    refine y0 rfl (o_loadA (cs := r14_Queue.Pc a0) rfl rfl rfl Ty.a30 Ty.s30 (Nat.le_of_ble_eq_true rfl) rfl) ?_
    refine y0 rfl (o_build (cs := [.int .i64 0, .int .i64 0, .int .i64 0]) rfl Ty.p37 Ty.z37 rfl rfl rfl) ?_
    refine y_sto (x' := r14_Queue.Pv a0) (cl' := true) rfl rfl (.inr rfl) Ty.s30 ?_
    refine y_sto (x' := .agg [.int .i64 0, .int .i64 0, .int .i64 0]) (cl' := true) rfl rfl (.inl rfl) Ty.s37 ?_
    refine y0 rfl (o_assign (d := .int .i64 10) rfl) ?_
    refine y_nil ?_
    refine pw_ret ?_
    obtain rfl := Option.some.inj h
    exact ⟨rfl, [_, _, _], ⟨o_loadA rfl rfl rfl Ty.a30 Ty.s30 (Nat.le_of_ble_eq_true rfl) rfl, ⟨o_loadA rfl rfl rfl Ty.a37 Ty.s37 (Nat.le_of_ble_eq_true rfl) rfl, ⟨rfl, trivial⟩⟩⟩, rfl, by first | exact .inl rfl | exact .inr rfl⟩
  · have h := ifF h hc
    refine pw_skip ?_
    refine dr [7, 8, 9, 1001] Ty.mix (by kernel_rfl) (by kernel_rfl) ?_
    refine d7 rfl (fun _ hN => o_fieldAddrP (k := 0) rfl Ty.f30_0 rfl) rfl ?_
    refine d0 rfl (o_loadS rfl rfl rfl Ty.a28 rfl) rfl ?_
    obtain ⟨v1, hv1, h⟩ := bindE h
    refine d0 rfl (o_cutL (f := r14_Task.Pv) hv1 rfl ⟨_, rfl⟩ rfl Ty.e28 Ty.s37 (fun _ => rfl)) rfl ?_
    refine d7 rfl (fun _ hN => o_fieldAddrP (k := 1) rfl Ty.f30_1 rfl) rfl ?_
    refine d0 rfl (o_loadS rfl rfl rfl Ty.a3 rfl) rfl ?_
    refine d7 rfl (fun _ hN => o_build (cs := [.lst false (List.map r14_Task.Pv v1), .int .i64 a0.Cap]) rfl Ty.p30 Ty.z30 rfl rfl rfl) rfl ?_
    refine d7 rfl (fun _ hN => o_fieldAddrP (k := 0) rfl Ty.f30_0 rfl) rfl ?_
    refine d7 rfl (fun _ hN => n_loadS hN rfl rfl rfl rfl Ty.a28 rfl) rfl ?_
    obtain ⟨v2, hv2, h⟩ := bindE h
    refine d7 rfl (fun _ hN => o_ixL (f := r14_Task.Pv) (cs := r14_Task.Pc v2) hv2 rfl rfl Ty.e28 Ty.s37 rfl rfl) rfl ?_
    refine d7 rfl (fun _ hN => o_loadRA (cs := r14_Task.Pc v2) rfl Ty.a37 Ty.s37 (Nat.le_of_ble_eq_true rfl) rfl) rfl ?_
    refine d_sto (x' := .agg [.lst false (List.map r14_Task.Pv v1), .int .i64 a0.Cap]) (cl' := true) rfl rfl (.inr rfl) Ty.s30 ?_
    refine d_sto (x' := r14_Task.Pv v2) (cl' := true) rfl rfl (.inl rfl) Ty.s37 ?_
    refine d7 rfl (fun _ hN => o_assign (d := .int .i64 0) rfl) rfl ?_
    refine d_nil ?_
    refine pw_ret ?_
    obtain rfl := Option.some.inj h
    exact ⟨rfl, [_, _, _], ⟨o_loadA rfl rfl rfl Ty.a30 Ty.s30 (Nat.le_of_ble_eq_true rfl) rfl, ⟨o_loadA rfl rfl rfl Ty.a37 Ty.s37 (Nat.le_of_ble_eq_true rfl) rfl, ⟨rfl, trivial⟩⟩⟩, rfl, by first | exact .inl rfl | exact .inr rfl⟩

set_option maxHeartbeats 4000000 in
theorem r14_Same_ok {a0 : r14_Queue} {a1 : r14_Queue} {r : Bool} (h : r14_Same a0 a1 = some r) : PCalls Try.prog 14 [r14_Queue.Pv a0, r14_Queue.Pv a1] (.bool r) := by
  unfold r14_Same at h
  refine pc_intro (N := 38) Try.func14 rfl rfl (Nat.le_of_ble_eq_true rfl) fun w0 imm0 => ?_
  refine sr (by kernel_rfl) ?_
  refine y1 rfl (o_box (d := r14_Queue.Pv a0) (z := 2) (cl := true) rfl rfl rfl rfl rfl) rfl ?_
  refine y1 rfl (o_box (d := r14_Queue.Pv a1) (z := 2) (cl := true) rfl rfl rfl rfl rfl) rfl ?_
  refine y0 rfl (o_assign (d := .bool false) rfl) ?_
  refine y_nil ?_
  refine pw_seq ?_
  refine sr (by kernel_rfl) ?_
  refine y0 rfl (o_fieldAddrP (k := 1) rfl Ty.f30_1 rfl) ?_
  refine y0 rfl (o_loadS rfl rfl rfl Ty.a3 rfl) ?_
  refine y0 rfl (o_fieldAddrP (k := 1) rfl Ty.f30_1 rfl) ?_
  refine y0 rfl (o_loadS rfl rfl rfl Ty.a3 rfl) ?_
  refine y0 rfl (o_cmp rfl rfl rfl) ?_
  refine y0 rfl (o_move (d := .bool (a0.Cap != a1.Cap)) rfl) ?_
  refine y_if (g := ((a0.Cap != a1.Cap) == false)) rfl (fun hg => o_fieldAddrP (k := 0) rfl Ty.f30_0 rfl) ?_
  refine y_if (g := ((a0.Cap != a1.Cap) == false)) rfl (fun hg => o_loadS (ct hg) rfl rfl Ty.a28 rfl) ?_
  refine y_if (g := ((a0.Cap != a1.Cap) == false)) rfl (fun hg => o_lnL (f := r14_Task.Pv) (ct hg) Ty.e28) ?_
  refine y_if (g := ((a0.Cap != a1.Cap) == false)) rfl (fun hg => o_fieldAddrP (k := 0) rfl Ty.f30_0 rfl) ?_
  refine y_if (g := ((a0.Cap != a1.Cap) == false)) rfl (fun hg => o_loadS (ct hg) rfl rfl Ty.a28 rfl) ?_
  refine y_if (g := ((a0.Cap != a1.Cap) == false)) rfl (fun hg => o_lnL (f := r14_Task.Pv) (ct hg) Ty.e28) ?_
  refine y_if (g := ((a0.Cap != a1.Cap) == false)) rfl (fun hg => o_cmp (ct hg) (ct hg) rfl) ?_
  refine y0 rfl (pk_or rfl rfl rfl (fun q => eqF q)) ?_
  refine y_nil ?_
  refine pw_cond ((a0.Cap != a1.Cap) || ((a0.L.length : Int) != (a1.L.length : Int))) rfl (fun hc => ?_) (fun hc => ?_)
  · have h := ifT h hc
    refine sr (by kernel_rfl) ?_
    refine y0 rfl (o_assign (d := .bool false) rfl) ?_
    refine y_nil ?_
    refine pw_ret ?_
    obtain rfl := Option.some.inj h
    exact ⟨rfl, [_], ⟨rfl, trivial⟩, rfl, by first | exact .inl rfl | exact .inr rfl⟩
  · have h := ifF h hc
    refine pw_skip ?_
    obtain ⟨κ6, hκ6, h⟩ := jnE h
    refine pw_jn0 (κ := κ6) (r := r) (fun (_ : Unit) => St.of [] []) (fun q7 h => ?_) ?_
    · subst hκ6
      refine sr (by kernel_rfl) ?_
      refine y0 rfl (o_assign (d := .bool true) rfl) ?_
      refine y_nil ?_
      refine pw_ret ?_
      obtain rfl := Option.some.inj h
      exact ⟨rfl, [_], ⟨rfl, trivial⟩, rfl, by first | exact .inl rfl | exact .inr rfl⟩
    · skip
      refine sr (by kernel_rfl) ?_
      refine y0 rfl (o_assign (d := .int .i64 0) rfl) ?_
      refine y_nil ?_
      refine pw_block ?_
      obtain ⟨e8, hl7, hk8⟩ := bindE h
      refine pw_lp0 (fun (s9 : Int) => St.of [(2, .ptr 2 0 0), (3, .ptr 3 0 0), (5, .int .i64 s9)] [(3, ⟨[r14_Queue.Pv a1], 0, false, 2, true⟩), (2, ⟨[r14_Queue.Pv a0], 0, false, 2, true⟩)]) hl7 (wk_st _ _ ⟨rfl, rfl, rfl, rfl, rfl, rfl, rfl, rfl, rfl, trivial⟩ ⟨rowLe_same rfl rfl rfl (fun q => nomatch q) rfl rfl rfl, rowLe_same rfl rfl rfl (fun q => nomatch q) rfl rfl rfl, trivial⟩) (fun s9 x10 h hx9 => ?_)
      refine pw_seq ?_
      refine sr (by kernel_rfl) ?_
      refine y0 rfl (o_move (d := .int .i64 s9) rfl) ?_
      refine y0 rfl (o_fieldAddrP (k := 0) rfl Ty.f30_0 rfl) ?_
      refine y0 rfl (o_loadS rfl rfl rfl Ty.a28 rfl) ?_
      refine y0 rfl (o_lnL (f := r14_Task.Pv) rfl Ty.e28) ?_
      refine y0 rfl (o_cmp rfl rfl rfl) ?_
      refine y_nil ?_
      refine pw_cond (decide (s9 < (a0.L.length : Int))) rfl (fun hc => ?_) (fun hc => ?_)
      · have h := ifT h hc
        refine pw_skip ?_
        refine pw_seq ?_
        refine pw_block ?_
        refine dr [] Ty.mix (by kernel_rfl) (by kernel_rfl) ?_
        refine d7 rfl (fun _ hN => o_fieldAddrP (k := 0) rfl Ty.f30_0 rfl) rfl ?_
        refine d0 rfl (o_loadS rfl rfl rfl Ty.a28 rfl) rfl ?_
        refine d7 rfl (fun _ hN => o_move (d := .int .i64 s9) rfl) rfl ?_
        obtain ⟨v11, hv10, h⟩ := bindE h
        refine d0 rfl (o_ixL (f := r14_Task.Pv) (cs := r14_Task.Pc v11) hv10 rfl rfl Ty.e28 Ty.s37 rfl rfl) rfl ?_
        refine d0 rfl (o_loadRA (cs := r14_Task.Pc v11) rfl Ty.a37 Ty.s37 (Nat.le_of_ble_eq_true rfl) rfl) rfl ?_
        refine d7 rfl (fun _ hN => o_fieldAddrP (k := 0) rfl Ty.f30_0 rfl) rfl ?_
        refine d0 rfl (o_loadS rfl rfl rfl Ty.a28 rfl) rfl ?_
        refine d7 rfl (fun _ hN => o_move (d := .int .i64 s9) rfl) rfl ?_
        obtain ⟨v12, hv11, h⟩ := bindE h
        refine d0 rfl (o_ixL (f := r14_Task.Pv) (cs := r14_Task.Pc v12) hv11 rfl rfl Ty.e28 Ty.s37 rfl rfl) rfl ?_
        refine d0 rfl (o_loadRA (cs := r14_Task.Pc v12) rfl Ty.a37 Ty.s37 (Nat.le_of_ble_eq_true rfl) rfl) rfl ?_
        refine d7 rfl (fun _ hN => o_neA (xs := r14_Task.Pc v11) (ys := r14_Task.Pc v12) Ty.q37 rfl rfl rfl rfl) rfl ?_
        refine d_nil ?_
        refine pw_cond (!((v11.Kind == v12.Kind) && ((v11.At == v12.At) && ((v11.Prog == v12.Prog) && true)))) rfl (fun hc => ?_) (fun hc => ?_)
        · have h := ifT h hc
          refine sr (by kernel_rfl) ?_
          refine y0 rfl (o_assign (d := .bool false) rfl) ?_
          refine y_nil ?_
          refine pw_ret ?_
          have he := hx9 _ (Option.some.inj h).symm
          have h := hk8
          rw [← he] at h
          obtain rfl := Option.some.inj h
          exact ⟨rfl, [_], ⟨rfl, trivial⟩, rfl, by first | exact .inl rfl | exact .inr rfl⟩
        · have h := ifF h hc
          refine pw_skip ?_
          refine sr1 (by kernel_rfl) ?_
          refine y0 rfl (o_move (d := .int .i64 s9) rfl) ?_
          refine y0 rfl (o_ari rfl rfl rfl) ?_
          refine y0 rfl (o_assign (d := .int .i64 (w64 (s9 + 1))) rfl) ?_
          refine y_nil ?_
          exact ⟨rfl, w64 (s9 + 1), (Option.some.inj h).symm, (wk_st _ _ ⟨rfl, rfl, rfl, rfl, rfl, rfl, rfl, rfl, rfl, trivial⟩ ⟨rowLe_same rfl rfl rfl (fun q => nomatch q) rfl rfl rfl, rowLe_same rfl rfl rfl (fun q => nomatch q) rfl rfl rfl, trivial⟩)⟩
      · have h := ifF h hc
        refine pw_exit ?_
        refine thenQ_exit ?_
        refine thenQ_exit ?_
        refine blockQ_exit ?_
        have he := hx9 _ (Option.some.inj h).symm
        have h := hk8
        rw [← he] at h
        exact ⟨rfl, (), h, (wk_st _ _ trivial trivial)⟩

set_option maxHeartbeats 4000000 in
theorem r14_Held_ok {a0 : r14_Queue} {r : List Int} (h : r14_Held a0 = some r) : PCalls Try.prog 17 [r14_Queue.Pv a0] (.lst false (List.map (PV.int .i64) r)) := by
  unfold r14_Held at h
  refine pc_intro (N := 30) Try.func17 rfl rfl (Nat.le_of_ble_eq_true rfl) fun w0 imm0 => ?_
  refine sr (by kernel_rfl) ?_
  refine y1 rfl (o_box (d := r14_Queue.Pv a0) (z := 2) (cl := true) rfl rfl rfl rfl rfl) rfl ?_
  refine y0 rfl (o_assign (d := .lst true (List.map (PV.int .i64) [])) rfl) ?_
  refine y_nil ?_
  refine sr (by kernel_rfl) ?_
  refine y0 rfl (o_nslice rfl Ty.e44 Ty.s3) ?_
  refine y0 rfl (o_assign (d := .lst true (List.map (PV.int .i64) [])) rfl) ?_
  refine y_nil ?_
  obtain ⟨κ12, hκ9, h⟩ := jnE h
  refine pw_jn0 (κ := κ12) (r := r) (fun (j13 : List Int) => St.of [(3, .sl 910003)] [(910003, ⟨List.map (PV.int .i64) j13, (List.map (PV.int .i64) j13).length, true, 1, true⟩)]) (fun j13 h => ?_) ?_
  · subst hκ9
    refine sr (by kernel_rfl) ?_
    refine y0 rfl (o_move (d := .sl 910003) rfl) ?_
    refine y0 rfl (o_assign (d := .sl 910003) rfl) ?_
    refine y_nil ?_
    refine pw_ret ?_
    obtain rfl := Option.some.inj h
    exact ⟨rfl, [_], ⟨rfl, trivial⟩, rfl, by first | exact .inl rfl | exact .inr rfl⟩
  · skip
    refine sr (by kernel_rfl) ?_
    refine y0 rfl (o_assign (d := .int .i64 0) rfl) ?_
    refine y_nil ?_
    refine pw_block ?_
    obtain ⟨e14, hl10, hk11⟩ := bindE h
    refine pw_lp0 (fun (q : Int × (List Int)) => St.of [(1, .ptr 1 0 0), (3, .sl 910003), (4, .int .i64 q.1)] [(1, ⟨[r14_Queue.Pv a0], 0, false, 2, true⟩), (910003, ⟨List.map (PV.int .i64) q.2, (List.map (PV.int .i64) q.2).length, true, 1, true⟩)]) hl10 (Wk.trans (wk_nil (t := 3) (l := 920003) (z := 1) rfl rfl) (wk_stP (fun l => if l = 910003 then 920003 else l) _ _ ⟨rfl, rfl, rfl, rfl, rfl, rfl, rfl, rfl, rfl, trivial⟩ ⟨rowLe_ren rfl rfl rfl (fun q => nomatch q) rfl rfl rfl, rowLe_ren rfl rfl rfl (fun _ => rfl) rfl rfl rfl, trivial⟩ rfl)) (fun q18 x17 h hx12 => ?_)
    obtain ⟨s15, s16⟩ := q18
    refine pw_seq ?_
    refine sr (by kernel_rfl) ?_
    refine y0 rfl (o_move (d := .int .i64 s15) rfl) ?_
    refine y0 rfl (o_fieldAddrP (k := 0) rfl Ty.f30_0 rfl) ?_
    refine y0 rfl (o_loadS rfl rfl rfl Ty.a28 rfl) ?_
    refine y0 rfl (o_lnL (f := r14_Task.Pv) rfl Ty.e28) ?_
    refine y0 rfl (o_cmp rfl rfl rfl) ?_
    refine y_nil ?_
    refine pw_cond (decide (s15 < (a0.L.length : Int))) rfl (fun hc => ?_) (fun hc => ?_)
    · have h := ifT h hc
      refine pw_skip ?_
      obtain ⟨κ21, hκ15, h⟩ := jnE h
      refine pw_jn0 (κ := κ21) (r := x17) (fun (j22 : List Int) => St.of [(1, .ptr 1 0 0), (3, .sl 28), (4, .int .i64 s15)] [(28, ⟨List.map (PV.int .i64) j22, (List.map (PV.int .i64) j22).length, true, 1, true⟩), (1, ⟨[r14_Queue.Pv a0], 0, false, 2, true⟩)]) (fun j22 h => ?_) ?_
      · subst hκ15
        refine sr1 (by kernel_rfl) ?_
        refine y0 rfl (o_move (d := .int .i64 s15) rfl) ?_
        refine y0 rfl (o_ari rfl rfl rfl) ?_
        refine y0 rfl (o_assign (d := .int .i64 (w64 (s15 + 1))) rfl) ?_
        refine y_nil ?_
        exact ⟨rfl, (w64 (s15 + 1), j22), (Option.some.inj h).symm, (Wk.trans (wk_frz _ [28]) (wk_stP (fun l => if l = 910003 then 28 else l) _ _ ⟨rfl, rfl, rfl, rfl, rfl, rfl, rfl, rfl, rfl, trivial⟩ ⟨rowLe_ren rfl rfl rfl (fun q => nomatch q) rfl rfl rfl, rowLe_ren rfl rfl rfl (fun _ => rfl) rfl rfl rfl, trivial⟩ rfl))⟩
      · skip
        refine pw_block ?_
        refine sr (by kernel_rfl) ?_
        refine y0 rfl (o_fieldAddrP (k := 0) rfl Ty.f30_0 rfl) ?_
        refine y0 rfl (o_loadS rfl rfl rfl Ty.a28 rfl) ?_
        refine y0 rfl (o_move (d := .int .i64 s15) rfl) ?_
        obtain ⟨v23, hv16, h⟩ := bindE h
        refine y0 rfl (o_ixL (f := r14_Task.Pv) (cs := r14_Task.Pc v23) hv16 rfl rfl Ty.e28 Ty.s37 rfl rfl) ?_
        refine y0 rfl (o_fieldAddrR rfl Ty.f37_0 rfl) ?_
        refine y0 rfl (o_loadRS rfl Ty.a3 rfl) ?_
        refine y0 rfl (o_cmp rfl rfl rfl) ?_
        refine y_nil ?_
        refine pw_cond (v23.Kind == 1) rfl (fun hc => ?_) (fun hc => ?_)
        · have h := ifT h hc
          refine sr1 (by kernel_rfl) ?_
          refine y0 rfl (o_move (d := .sl 910003) rfl) ?_
          refine y0 rfl (o_fieldAddrP (k := 0) rfl Ty.f30_0 rfl) ?_
          refine y0 rfl (o_loadS rfl rfl rfl Ty.a28 rfl) ?_
          refine y0 rfl (o_move (d := .int .i64 s15) rfl) ?_
          refine y0 rfl (o_ixL (f := r14_Task.Pv) (cs := r14_Task.Pc v23) hv16 rfl rfl Ty.e28 Ty.s37 rfl rfl) ?_
          refine y0 rfl (o_fieldAddrR rfl Ty.f37_1 rfl) ?_
          refine y0 rfl (o_loadRS rfl Ty.a3 rfl) ?_
          refine y0 rfl (o_bI (f := (PV.int .i64)) (l := [v23.At]) rfl Ty.e44 Ty.s3 Ty.z3 rfl rfl (Nat.le_of_ble_eq_true rfl) rfl rfl) ?_
          obtain ⟨v24, hv17, h⟩ := bindE h
          refine y_app rfl (o_apR (f := (PV.int .i64)) hv17 rfl rfl rfl rfl rfl rfl (.inl ⟨_, rfl, rfl⟩) Ty.e44 Ty.s3 Ty.b3 Ty.z3 rfl (fun _ => rfl)) rfl rfl rfl ?_
          refine y0 rfl (o_assign (d := .sl 28) rfl) ?_
          refine y_nil ?_
          exact ⟨rfl, v24, h, (Wk.trans (wk_frz _ [28]) (wk_st _ _ ⟨rfl, rfl, rfl, rfl, rfl, rfl, rfl, rfl, rfl, trivial⟩ ⟨rowLe_same rfl rfl rfl (fun _ => rfl) rfl rfl rfl, rowLe_same rfl rfl rfl (fun q => nomatch q) rfl rfl rfl, trivial⟩))⟩
        · have h := ifF h hc
          refine pw_skip ?_
          exact ⟨rfl, s16, h, (Wk.trans (wk_frz _ [910003]) (wk_stP (fun l => if l = 28 then 910003 else l) _ _ ⟨rfl, rfl, rfl, rfl, rfl, rfl, rfl, rfl, rfl, trivial⟩ ⟨rowLe_ren rfl rfl rfl (fun _ => rfl) rfl rfl rfl, rowLe_ren rfl rfl rfl (fun q => nomatch q) rfl rfl rfl, trivial⟩ rfl))⟩
    · have h := ifF h hc
      refine pw_exit ?_
      refine thenQ_exit ?_
      refine thenQ_exit ?_
      refine blockQ_exit ?_
      have he := hx12 _ (Option.some.inj h).symm
      have h := hk11
      rw [← he] at h
      exact ⟨rfl, s16, h, (Wk.trans (wk_frz _ [910003]) (wk_st _ _ ⟨rfl, rfl, rfl, trivial⟩ ⟨rowLe_same rfl rfl rfl (fun _ => rfl) rfl rfl rfl, trivial⟩))⟩

set_option maxHeartbeats 4000000 in
theorem r02_Ints_ok {a0 : List Int} {a1 : List Int} {r : Bool} (h : r02_Ints a0 a1 = some r) : PCalls Try.prog 15 [.lst false (List.map (PV.int .i64) a0), .lst false (List.map (PV.int .i64) a1)] (.bool r) := by
  unfold r02_Ints at h
  refine pc_intro (N := 26) Try.func15 rfl rfl (Nat.le_of_ble_eq_true rfl) fun w0 imm0 => ?_
  refine sr (by kernel_rfl) ?_
  refine y0 rfl (o_assign (d := .bool false) rfl) ?_
  refine y_nil ?_
  refine pw_seq ?_
  refine sr (by kernel_rfl) ?_
  refine y0 rfl (o_move (d := .lst false (List.map (PV.int .i64) a0)) rfl) ?_
  refine y0 rfl (o_lnL (f := (PV.int .i64)) rfl Ty.e44) ?_
  refine y0 rfl (o_move (d := .lst false (List.map (PV.int .i64) a1)) rfl) ?_
  refine y0 rfl (o_lnL (f := (PV.int .i64)) rfl Ty.e44) ?_
  refine y0 rfl (o_cmp rfl rfl rfl) ?_
  refine y_nil ?_
  refine pw_cond ((a0.length : Int) != (a1.length : Int)) rfl (fun hc => ?_) (fun hc => ?_)
  · have h := ifT h hc
    refine sr (by kernel_rfl) ?_
    refine y0 rfl (o_assign (d := .bool false) rfl) ?_
    refine y_nil ?_
    refine pw_ret ?_
    obtain rfl := Option.some.inj h
    exact ⟨rfl, [_], ⟨rfl, trivial⟩, rfl, by first | exact .inl rfl | exact .inr rfl⟩
  · have h := ifF h hc
    refine pw_skip ?_
    obtain ⟨κ6, hκ6, h⟩ := jnE h
    refine pw_jn0 (κ := κ6) (r := r) (fun (_ : Unit) => St.of [] []) (fun q7 h => ?_) ?_
    · subst hκ6
      refine sr (by kernel_rfl) ?_
      refine y0 rfl (o_assign (d := .bool true) rfl) ?_
      refine y_nil ?_
      refine pw_ret ?_
      obtain rfl := Option.some.inj h
      exact ⟨rfl, [_], ⟨rfl, trivial⟩, rfl, by first | exact .inl rfl | exact .inr rfl⟩
    · skip
      refine sr (by kernel_rfl) ?_
      refine y0 rfl (o_assign (d := .int .i64 0) rfl) ?_
      refine y_nil ?_
      refine pw_block ?_
      obtain ⟨e8, hl7, hk8⟩ := bindE h
      refine pw_lp0 (fun (s9 : Int) => St.of [(0, .lst false (List.map (PV.int .i64) a0)), (1, .lst false (List.map (PV.int .i64) a1)), (5, .int .i64 s9)] []) hl7 (wk_st _ _ ⟨rfl, rfl, rfl, rfl, rfl, rfl, rfl, rfl, rfl, trivial⟩ trivial) (fun s9 x10 h hx9 => ?_)
      refine pw_seq ?_
      refine sr (by kernel_rfl) ?_
      refine y0 rfl (o_move (d := .int .i64 s9) rfl) ?_
      refine y0 rfl (o_move (d := .lst false (List.map (PV.int .i64) a0)) rfl) ?_
      refine y0 rfl (o_lnL (f := (PV.int .i64)) rfl Ty.e44) ?_
      refine y0 rfl (o_cmp rfl rfl rfl) ?_
      refine y_nil ?_
      refine pw_cond (decide (s9 < (a0.length : Int))) rfl (fun hc => ?_) (fun hc => ?_)
      · have h := ifT h hc
        refine pw_skip ?_
        refine pw_seq ?_
        refine pw_block ?_
        refine dr [] Ty.mix (by kernel_rfl) (by kernel_rfl) ?_
        refine d7 rfl (fun _ hN => o_move (d := .lst false (List.map (PV.int .i64) a0)) rfl) rfl ?_
        refine d7 rfl (fun _ hN => o_move (d := .int .i64 s9) rfl) rfl ?_
        obtain ⟨v11, hv10, h⟩ := bindE h
        refine d0 rfl (o_ixL (f := (PV.int .i64)) (cs := [.int .i64 v11]) hv10 rfl rfl Ty.e44 Ty.s3 rfl rfl) rfl ?_
        refine d0 rfl (o_loadRS rfl Ty.a3 rfl) rfl ?_
        refine d7 rfl (fun _ hN => o_move (d := .lst false (List.map (PV.int .i64) a1)) rfl) rfl ?_
        refine d7 rfl (fun _ hN => o_move (d := .int .i64 s9) rfl) rfl ?_
        obtain ⟨v12, hv11, h⟩ := bindE h
        refine d0 rfl (o_ixL (f := (PV.int .i64)) (cs := [.int .i64 v12]) hv11 rfl rfl Ty.e44 Ty.s3 rfl rfl) rfl ?_
        refine d0 rfl (o_loadRS rfl Ty.a3 rfl) rfl ?_
        refine d7 rfl (fun _ hN => o_cmp rfl rfl rfl) rfl ?_
        refine d_nil ?_
        refine pw_cond (v11 != v12) rfl (fun hc => ?_) (fun hc => ?_)
        · have h := ifT h hc
          refine sr (by kernel_rfl) ?_
          refine y0 rfl (o_assign (d := .bool false) rfl) ?_
          refine y_nil ?_
          refine pw_ret ?_
          have he := hx9 _ (Option.some.inj h).symm
          have h := hk8
          rw [← he] at h
          obtain rfl := Option.some.inj h
          exact ⟨rfl, [_], ⟨rfl, trivial⟩, rfl, by first | exact .inl rfl | exact .inr rfl⟩
        · have h := ifF h hc
          refine pw_skip ?_
          refine sr1 (by kernel_rfl) ?_
          refine y0 rfl (o_move (d := .int .i64 s9) rfl) ?_
          refine y0 rfl (o_ari rfl rfl rfl) ?_
          refine y0 rfl (o_assign (d := .int .i64 (w64 (s9 + 1))) rfl) ?_
          refine y_nil ?_
          exact ⟨rfl, w64 (s9 + 1), (Option.some.inj h).symm, (wk_st _ _ ⟨rfl, rfl, rfl, rfl, rfl, rfl, rfl, rfl, rfl, trivial⟩ trivial)⟩
      · have h := ifF h hc
        refine pw_exit ?_
        refine thenQ_exit ?_
        refine thenQ_exit ?_
        refine blockQ_exit ?_
        have he := hx9 _ (Option.some.inj h).symm
        have h := hk8
        rw [← he] at h
        exact ⟨rfl, (), h, (wk_st _ _ trivial trivial)⟩

set_option maxHeartbeats 4000000 in
theorem r14_Waits_ok {a0 : r14_Queue} {a1 : Int} {r : Bool} (h : r14_Waits a0 a1 = some r) : PCalls Try.prog 19 [r14_Queue.Pv a0, .int .i64 a1] (.bool r) := by
  unfold r14_Waits at h
  refine pc_intro (N := 30) Try.func19 rfl rfl (Nat.le_of_ble_eq_true rfl) fun w0 imm0 => ?_
  refine sr (by kernel_rfl) ?_
  refine y1 rfl (o_box (d := r14_Queue.Pv a0) (z := 2) (cl := true) rfl rfl rfl rfl rfl) rfl ?_
  refine y0 rfl (o_assign (d := .bool false) rfl) ?_
  refine y_nil ?_
  obtain ⟨κ5, hκ5, h⟩ := jnE h
  refine pw_jn0 (κ := κ5) (r := r) (fun (_ : Unit) => St.of [] []) (fun q6 h => ?_) ?_
  · subst hκ5
    refine sr (by kernel_rfl) ?_
    refine y0 rfl (o_assign (d := .bool false) rfl) ?_
    refine y_nil ?_
    refine pw_ret ?_
    obtain rfl := Option.some.inj h
    exact ⟨rfl, [_], ⟨rfl, trivial⟩, rfl, by first | exact .inl rfl | exact .inr rfl⟩
  · skip
    refine sr (by kernel_rfl) ?_
    refine y0 rfl (o_assign (d := .int .i64 0) rfl) ?_
    refine y_nil ?_
    refine pw_block ?_
    obtain ⟨e7, hl6, hk7⟩ := bindE h
    refine pw_lp0 (fun (s8 : Int) => St.of [(1, .int .i64 a1), (2, .ptr 2 0 0), (5, .int .i64 s8)] [(2, ⟨[r14_Queue.Pv a0], 0, false, 2, true⟩)]) hl6 (wk_st _ _ ⟨rfl, rfl, rfl, rfl, rfl, rfl, rfl, rfl, rfl, trivial⟩ ⟨rowLe_same rfl rfl rfl (fun q => nomatch q) rfl rfl rfl, trivial⟩) (fun s8 x9 h hx8 => ?_)
    refine pw_seq ?_
    refine sr (by kernel_rfl) ?_
    refine y0 rfl (o_move (d := .int .i64 s8) rfl) ?_
    refine y0 rfl (o_fieldAddrP (k := 0) rfl Ty.f30_0 rfl) ?_
    refine y0 rfl (o_loadS rfl rfl rfl Ty.a28 rfl) ?_
    refine y0 rfl (o_lnL (f := r14_Task.Pv) rfl Ty.e28) ?_
    refine y0 rfl (o_cmp rfl rfl rfl) ?_
    refine y_nil ?_
    refine pw_cond (decide (s8 < (a0.L.length : Int))) rfl (fun hc => ?_) (fun hc => ?_)
    · have h := ifT h hc
      refine pw_skip ?_
      refine pw_seq ?_
      refine pw_block ?_
      refine sr (by kernel_rfl) ?_
      refine y0 rfl (o_fieldAddrP (k := 0) rfl Ty.f30_0 rfl) ?_
      refine y0 rfl (o_loadS rfl rfl rfl Ty.a28 rfl) ?_
      refine y0 rfl (o_move (d := .int .i64 s8) rfl) ?_
      obtain ⟨v10, hv9, h⟩ := bindE h
      refine y0 rfl (o_ixL (f := r14_Task.Pv) (cs := r14_Task.Pc v10) hv9 rfl rfl Ty.e28 Ty.s37 rfl rfl) ?_
      refine y0 rfl (o_fieldAddrR rfl Ty.f37_0 rfl) ?_
      refine y0 rfl (o_loadRS rfl Ty.a3 rfl) ?_
      refine y0 rfl (o_cmp rfl rfl rfl) ?_
      refine y0 rfl (o_move (d := .bool (v10.Kind == 2)) rfl) ?_
      refine y_if (g := ((v10.Kind == 2) == true)) rfl (fun hg => o_fieldAddrP (k := 0) rfl Ty.f30_0 rfl) ?_
      refine y_if (g := ((v10.Kind == 2) == true)) rfl (fun hg => o_loadS (ct hg) rfl rfl Ty.a28 rfl) ?_
      refine y_if (g := ((v10.Kind == 2) == true)) rfl (fun hg => o_move (d := .int .i64 s8) rfl) ?_
      refine y_if (g := ((v10.Kind == 2) == true)) rfl (fun hg => o_ixL (f := r14_Task.Pv) (cs := r14_Task.Pc v10) hv9 (ct hg) (ct hg) Ty.e28 Ty.s37 rfl rfl) ?_
      refine y_if (g := ((v10.Kind == 2) == true)) rfl (fun hg => o_fieldAddrR (ct hg) Ty.f37_1 rfl) ?_
      refine y_if (g := ((v10.Kind == 2) == true)) rfl (fun hg => o_loadRS (ct hg) Ty.a3 rfl) ?_
      refine y_if (g := ((v10.Kind == 2) == true)) rfl (fun hg => o_move (d := .int .i64 a1) rfl) ?_
      refine y_if (g := ((v10.Kind == 2) == true)) rfl (fun hg => o_cmp (ct hg) (ct hg) rfl) ?_
      refine y0 rfl (pk_and rfl rfl rfl (fun q => eqT q)) ?_
      refine y_nil ?_
      refine pw_cond ((v10.Kind == 2) && (v10.At == a1)) rfl (fun hc => ?_) (fun hc => ?_)
      · have h := ifT h hc
        refine sr (by kernel_rfl) ?_
        refine y0 rfl (o_assign (d := .bool true) rfl) ?_
        refine y_nil ?_
        refine pw_ret ?_
        have he := hx8 _ (Option.some.inj h).symm
        have h := hk7
        rw [← he] at h
        obtain rfl := Option.some.inj h
        exact ⟨rfl, [_], ⟨rfl, trivial⟩, rfl, by first | exact .inl rfl | exact .inr rfl⟩
      · have h := ifF h hc
        refine pw_skip ?_
        refine sr1 (by kernel_rfl) ?_
        refine y0 rfl (o_move (d := .int .i64 s8) rfl) ?_
        refine y0 rfl (o_ari rfl rfl rfl) ?_
        refine y0 rfl (o_assign (d := .int .i64 (w64 (s8 + 1))) rfl) ?_
        refine y_nil ?_
        exact ⟨rfl, w64 (s8 + 1), (Option.some.inj h).symm, (wk_st _ _ ⟨rfl, rfl, rfl, rfl, rfl, rfl, rfl, rfl, rfl, trivial⟩ ⟨rowLe_same rfl rfl rfl (fun q => nomatch q) rfl rfl rfl, trivial⟩)⟩
    · have h := ifF h hc
      refine pw_exit ?_
      refine thenQ_exit ?_
      refine thenQ_exit ?_
      refine blockQ_exit ?_
      have he := hx8 _ (Option.some.inj h).symm
      have h := hk7
      rw [← he] at h
      exact ⟨rfl, (), h, (wk_st _ _ trivial trivial)⟩

set_option maxHeartbeats 4000000 in
theorem r14_Count_ok {a0 : r14_Queue} {a1 : Int} {r : Int} (h : r14_Count a0 a1 = some r) : PCalls Try.prog 21 [r14_Queue.Pv a0, .int .i64 a1] (.int .i64 r) := by
  unfold r14_Count at h
  refine pc_intro (N := 25) Try.func21 rfl rfl (Nat.le_of_ble_eq_true rfl) fun w0 imm0 => ?_
  refine sr (by kernel_rfl) ?_
  refine y1 rfl (o_box (d := r14_Queue.Pv a0) (z := 2) (cl := true) rfl rfl rfl rfl rfl) rfl ?_
  refine y0 rfl (o_assign (d := .int .i64 0) rfl) ?_
  refine y_nil ?_
  refine sr (by kernel_rfl) ?_
  refine y0 rfl (o_assign (d := .int .i64 0) rfl) ?_
  refine y_nil ?_
  obtain ⟨κ10, hκ7, h⟩ := jnE h
  refine pw_jn0 (κ := κ10) (r := r) (fun (j11 : Int) => St.of [(5, .int .i64 j11)] []) (fun j11 h => ?_) ?_
  · subst hκ7
    refine sr (by kernel_rfl) ?_
    refine y0 rfl (o_move (d := .int .i64 j11) rfl) ?_
    refine y0 rfl (o_assign (d := .int .i64 j11) rfl) ?_
    refine y_nil ?_
    refine pw_ret ?_
    obtain rfl := Option.some.inj h
    exact ⟨rfl, [_], ⟨rfl, trivial⟩, rfl, by first | exact .inl rfl | exact .inr rfl⟩
  · skip
    refine sr (by kernel_rfl) ?_
    refine y0 rfl (o_assign (d := .int .i64 0) rfl) ?_
    refine y_nil ?_
    refine pw_block ?_
    obtain ⟨e12, hl8, hk9⟩ := bindE h
    refine pw_lp0 (fun (q : Int × Int) => St.of [(1, .int .i64 a1), (2, .ptr 2 0 0), (5, .int .i64 q.1), (6, .int .i64 q.2)] [(2, ⟨[r14_Queue.Pv a0], 0, false, 2, true⟩)]) hl8 (wk_st _ _ ⟨rfl, rfl, rfl, rfl, rfl, rfl, rfl, rfl, rfl, rfl, rfl, rfl, trivial⟩ ⟨rowLe_same rfl rfl rfl (fun q => nomatch q) rfl rfl rfl, trivial⟩) (fun q16 x15 h hx10 => ?_)
    obtain ⟨s13, s14⟩ := q16
    refine pw_seq ?_
    refine sr (by kernel_rfl) ?_
    refine y0 rfl (o_move (d := .int .i64 s14) rfl) ?_
    refine y0 rfl (o_fieldAddrP (k := 0) rfl Ty.f30_0 rfl) ?_
    refine y0 rfl (o_loadS rfl rfl rfl Ty.a28 rfl) ?_
    refine y0 rfl (o_lnL (f := r14_Task.Pv) rfl Ty.e28) ?_
    refine y0 rfl (o_cmp rfl rfl rfl) ?_
    refine y_nil ?_
    refine pw_cond (decide (s14 < (a0.L.length : Int))) rfl (fun hc => ?_) (fun hc => ?_)
    · have h := ifT h hc
      refine pw_skip ?_
      obtain ⟨κ18, hκ12, h⟩ := jnE h
      refine pw_jn0 (κ := κ18) (r := x15) (fun (j19 : Int) => St.of [(1, .int .i64 a1), (2, .ptr 2 0 0), (5, .int .i64 j19), (6, .int .i64 s14)] [(2, ⟨[r14_Queue.Pv a0], 0, false, 2, true⟩)]) (fun j19 h => ?_) ?_
      · subst hκ12
        refine sr1 (by kernel_rfl) ?_
        refine y0 rfl (o_move (d := .int .i64 s14) rfl) ?_
        refine y0 rfl (o_ari rfl rfl rfl) ?_
        refine y0 rfl (o_assign (d := .int .i64 (w64 (s14 + 1))) rfl) ?_
        refine y_nil ?_
        exact ⟨rfl, (j19, w64 (s14 + 1)), (Option.some.inj h).symm, (wk_st _ _ ⟨rfl, rfl, rfl, rfl, rfl, rfl, rfl, rfl, rfl, rfl, rfl, rfl, trivial⟩ ⟨rowLe_same rfl rfl rfl (fun q => nomatch q) rfl rfl rfl, trivial⟩)⟩
      · skip
        refine pw_block ?_
        refine sr (by kernel_rfl) ?_
        refine y0 rfl (o_fieldAddrP (k := 0) rfl Ty.f30_0 rfl) ?_
        refine y0 rfl (o_loadS rfl rfl rfl Ty.a28 rfl) ?_
        refine y0 rfl (o_move (d := .int .i64 s14) rfl) ?_
        obtain ⟨v20, hv13, h⟩ := bindE h
        refine y0 rfl (o_ixL (f := r14_Task.Pv) (cs := r14_Task.Pc v20) hv13 rfl rfl Ty.e28 Ty.s37 rfl rfl) ?_
        refine y0 rfl (o_fieldAddrR rfl Ty.f37_0 rfl) ?_
        refine y0 rfl (o_loadRS rfl Ty.a3 rfl) ?_
        refine y0 rfl (o_move (d := .int .i64 a1) rfl) ?_
        refine y0 rfl (o_cmp rfl rfl rfl) ?_
        refine y_nil ?_
        refine pw_cond (v20.Kind == a1) rfl (fun hc => ?_) (fun hc => ?_)
        · have h := ifT h hc
          refine sr1 (by kernel_rfl) ?_
          refine y0 rfl (o_move (d := .int .i64 s13) rfl) ?_
          refine y0 rfl (o_ari rfl rfl rfl) ?_
          refine y0 rfl (o_assign (d := .int .i64 (w64 (s13 + 1))) rfl) ?_
          refine y_nil ?_
          exact ⟨rfl, w64 (s13 + 1), h, (wk_st _ _ ⟨rfl, rfl, rfl, rfl, rfl, rfl, rfl, rfl, rfl, rfl, rfl, rfl, trivial⟩ ⟨rowLe_same rfl rfl rfl (fun q => nomatch q) rfl rfl rfl, trivial⟩)⟩
        · have h := ifF h hc
          refine pw_skip ?_
          exact ⟨rfl, s13, h, (wk_st _ _ ⟨rfl, rfl, rfl, rfl, rfl, rfl, rfl, rfl, rfl, rfl, rfl, rfl, trivial⟩ ⟨rowLe_same rfl rfl rfl (fun q => nomatch q) rfl rfl rfl, trivial⟩)⟩
    · have h := ifF h hc
      refine pw_exit ?_
      refine thenQ_exit ?_
      refine thenQ_exit ?_
      refine blockQ_exit ?_
      have he := hx10 _ (Option.some.inj h).symm
      have h := hk9
      rw [← he] at h
      exact ⟨rfl, s13, h, (wk_st _ _ ⟨rfl, rfl, rfl, trivial⟩ trivial)⟩

set_option maxHeartbeats 4000000 in
theorem w14_TaskActs_ok {a0 : queue_Queue_task_Task} {a1 : task_Task} {a2 : Int} {r : Bool} (h : w14_TaskActs a0 a1 a2 = some r) : PCalls Try.prog 3 [queue_Queue_task_Task.Pv a0, task_Task.Pv a1, .int .i64 a2] (.bool r) := by
  unfold w14_TaskActs at h
  refine pc_intro (N := 103) Try.func3 rfl rfl (Nat.le_of_ble_eq_true rfl) fun w0 imm0 => ?_
  refine sr (by kernel_rfl) ?_
  refine y1 rfl (o_box (d := queue_Queue_task_Task.Pv a0) (z := 2) (cl := true) rfl rfl rfl rfl rfl) rfl ?_
  refine y1 rfl (o_box (d := task_Task.Pv a1) (z := 3) (cl := true) rfl rfl rfl rfl rfl) rfl ?_
  refine y0 rfl (o_assign (d := .bool false) rfl) ?_
  refine y_nil ?_
  refine pw_seq ?_
  refine sr (by kernel_rfl) ?_
  refine y0 rfl (o_fieldAddrP (k := 0) rfl Ty.f24_0 rfl) ?_
  refine y0 rfl (o_loadS rfl rfl rfl Ty.a22 rfl) ?_
  refine y0 rfl (o_lnL (f := task_Task.Pv) rfl Ty.e22) ?_
  refine y0 rfl (o_cmp rfl rfl rfl) ?_
  refine y0 rfl (o_move (d := .bool (decide ((a0.L.length : Int) > 60))) rfl) ?_
  obtain ⟨v1, hv1, h⟩ := bindE h
  refine y_if (g := ((decide ((a0.L.length : Int) > 60)) == false)) rfl (fun hg => o_call (ds := []) rfl Ty.k8 rfl (w14_shown_ok (onlyE hv1 hg))) ?_
  refine y_if (g := ((decide ((a0.L.length : Int) > 60)) == false)) rfl (fun hg => o_not (ct hg) rfl) ?_
  refine y0 rfl (pk_or rfl rfl rfl (fun q => eqF q)) ?_
  refine y_nil ?_
  refine pw_cond ((decide ((a0.L.length : Int) > 60)) || (!v1)) rfl (fun hc => ?_) (fun hc => ?_)
  · have h := ifT h hc
    refine sr (by kernel_rfl) ?_
    obtain ⟨v2, hv2, h⟩ := bindE h
    refine y0 rfl (o_call (ds := []) rfl Ty.k8 rfl (w14_shown_ok hv2)) ?_
    refine y0 rfl (o_assign (d := .bool v2) rfl) ?_
    refine y_nil ?_
    refine pw_ret ?_
    obtain rfl := Option.some.inj h
    exact ⟨rfl, [_], ⟨rfl, trivial⟩, rfl, by first | exact .inl rfl | exact .inr rfl⟩
  · have h := ifF h hc
    refine pw_skip ?_
    refine sr (by kernel_rfl) ?_
    refine y0 rfl (o_loadA (cs := queue_Queue_task_Task.Pc a0) rfl rfl rfl Ty.a24 Ty.s24 (Nat.le_of_ble_eq_true rfl) rfl) ?_
    obtain ⟨v3, hv3, h⟩ := bindE h
    refine yc rfl (o_callF (ls := []) (ds := [queue_Queue_task_Task.Pv a0]) rfl Ty.k9 rfl (w14_its_ok hv3)) ?_
    refine y1 rfl (o_alloc (d := .agg [.lst false (List.map r14_Task.Pv []), .int .i64 0]) (z := 2) rfl Ty.z30 rfl rfl rfl) rfl ?_
    refine y_sto (x' := r14_Queue.Pv v3) (cl' := true) rfl rfl (.inr rfl) Ty.s30 ?_
    refine y_nil ?_
    refine sr (by kernel_rfl) ?_
    refine y0 rfl (o_loadA (cs := queue_Queue_task_Task.Pc a0) rfl rfl rfl Ty.a24 Ty.s24 (Nat.le_of_ble_eq_true rfl) rfl) ?_
    refine y0 rfl (o_loadA (cs := task_Task.Pc a1) rfl rfl rfl Ty.a26 Ty.s26 (Nat.le_of_ble_eq_true rfl) rfl) ?_
    obtain ⟨v4, hv4, h⟩ := bindE h
    refine yc rfl (o_callF (ls := []) (ds := [queue_Queue_task_Task.Pv a0, task_Task.Pv a1]) rfl Ty.k10 rfl (task_Add_ok hv4)) ?_
    refine y0 rfl (o_move (d := .tup [queue_Queue_task_Task.Pv v4.1, .int .i64 v4.2]) rfl) ?_
    refine y0 rfl (o_extract rfl rfl) ?_
    refine y0 rfl (o_extract rfl rfl) ?_
    refine y1 rfl (o_alloc (d := .agg [.lst false (List.map task_Task.Pv []), .int .i64 0]) (z := 2) rfl Ty.z24 rfl rfl rfl) rfl ?_
    refine y_sto (x' := queue_Queue_task_Task.Pv v4.1) (cl' := true) rfl rfl (.inr rfl) Ty.s24 ?_
    refine y0 rfl (o_assign (d := .int .i64 v4.2) rfl) ?_
    refine y_nil ?_
    refine sr (by kernel_rfl) ?_
    refine y0 rfl (o_loadA (cs := r14_Queue.Pc v3) rfl rfl rfl Ty.a30 Ty.s30 (Nat.le_of_ble_eq_true rfl) rfl) ?_
    refine y0 rfl (o_loadA (cs := task_Task.Pc a1) rfl rfl rfl Ty.a26 Ty.s26 (Nat.le_of_ble_eq_true rfl) rfl) ?_
    obtain ⟨v5, hv5, h⟩ := bindE h
    refine yc rfl (o_callF (ls := []) (ds := [r14_Queue.Pv v3, .agg [.int .i64 a1.Kind, .int .i64 a1.At, .int .i64 a1.Prog]]) rfl Ty.k11 rfl (r14_Add_ok hv5)) ?_
    refine y0 rfl (o_move (d := .tup [r14_Queue.Pv v5.1, .int .i64 v5.2]) rfl) ?_
    refine y0 rfl (o_extract rfl rfl) ?_
    refine y0 rfl (o_extract rfl rfl) ?_
    refine y1 rfl (o_alloc (d := .agg [.lst false (List.map r14_Task.Pv []), .int .i64 0]) (z := 2) rfl Ty.z30 rfl rfl rfl) rfl ?_
    refine y_sto (x' := r14_Queue.Pv v5.1) (cl' := true) rfl rfl (.inr rfl) Ty.s30 ?_
    refine y0 rfl (o_assign (d := .int .i64 v5.2) rfl) ?_
    refine y_nil ?_
    refine sr (by kernel_rfl) ?_
    refine y0 rfl (o_loadA (cs := queue_Queue_task_Task.Pc a0) rfl rfl rfl Ty.a24 Ty.s24 (Nat.le_of_ble_eq_true rfl) rfl) ?_
    obtain ⟨v6, hv6, h⟩ := bindE h
    refine yc rfl (o_callF (ls := []) (ds := [queue_Queue_task_Task.Pv a0]) rfl Ty.k12 rfl (task_Next_ok hv6)) ?_
    refine y0 rfl (o_move (d := .tup [queue_Queue_task_Task.Pv v6.1, task_Task.Pv v6.2.1, .int .i64 v6.2.2]) rfl) ?_
    refine y0 rfl (o_extract rfl rfl) ?_
    refine y0 rfl (o_extract rfl rfl) ?_
    refine y0 rfl (o_extract rfl rfl) ?_
    refine y1 rfl (o_alloc (d := .agg [.lst false (List.map task_Task.Pv []), .int .i64 0]) (z := 2) rfl Ty.z24 rfl rfl rfl) rfl ?_
    refine y1 rfl (o_alloc (d := .agg [.int .i64 0, .int .i64 0, .int .i64 0]) (z := 3) rfl Ty.z26 rfl rfl rfl) rfl ?_
    refine y_sto (x' := queue_Queue_task_Task.Pv v6.1) (cl' := true) rfl rfl (.inr rfl) Ty.s24 ?_
    refine y_sto (x' := task_Task.Pv v6.2.1) (cl' := true) rfl rfl (.inl rfl) Ty.s26 ?_
    refine y0 rfl (o_assign (d := .int .i64 v6.2.2) rfl) ?_
    refine y_nil ?_
    refine sr (by kernel_rfl) ?_
    refine y0 rfl (o_loadA (cs := r14_Queue.Pc v3) rfl rfl rfl Ty.a30 Ty.s30 (Nat.le_of_ble_eq_true rfl) rfl) ?_
    obtain ⟨v7, hv7, h⟩ := bindE h
    refine yc rfl (o_callF (ls := []) (ds := [r14_Queue.Pv v3]) rfl Ty.k13 rfl (r14_Next_ok hv7)) ?_
    refine y0 rfl (o_move (d := .tup [r14_Queue.Pv v7.1, r14_Task.Pv v7.2.1, .int .i64 v7.2.2]) rfl) ?_
    refine y0 rfl (o_extract rfl rfl) ?_
    refine y0 rfl (o_extract rfl rfl) ?_
    refine y0 rfl (o_extract rfl rfl) ?_
    refine y1 rfl (o_alloc (d := .agg [.lst false (List.map r14_Task.Pv []), .int .i64 0]) (z := 2) rfl Ty.z30 rfl rfl rfl) rfl ?_
    refine y1 rfl (o_alloc (d := .agg [.int .i64 0, .int .i64 0, .int .i64 0]) (z := 3) rfl Ty.z37 rfl rfl rfl) rfl ?_
    refine y_sto (x' := r14_Queue.Pv v7.1) (cl' := true) rfl rfl (.inr rfl) Ty.s30 ?_
    refine y_sto (x' := r14_Task.Pv v7.2.1) (cl' := true) rfl rfl (.inl rfl) Ty.s37 ?_
    refine y0 rfl (o_assign (d := .int .i64 v7.2.2) rfl) ?_
    refine y_nil ?_
    refine dr [] Ty.mix (by kernel_rfl) (by kernel_rfl) ?_
    refine d0 rfl (o_loadA (cs := queue_Queue_task_Task.Pc v4.1) rfl rfl rfl Ty.a24 Ty.s24 (Nat.le_of_ble_eq_true rfl) rfl) rfl ?_
    obtain ⟨v8, hv8, h⟩ := bindE h
    refine d2f rfl (o_callF (ls := []) (ds := [queue_Queue_task_Task.Pv v4.1]) rfl Ty.k9 rfl (w14_its_ok hv8)) rfl ?_
    refine d0 rfl (o_loadA (cs := r14_Queue.Pc v5.1) rfl rfl rfl Ty.a30 Ty.s30 (Nat.le_of_ble_eq_true rfl) rfl) rfl ?_
    obtain ⟨v9, hv9, h⟩ := bindE h
    refine d2 rfl (o_call (ds := [r14_Queue.Pv v8, r14_Queue.Pv v5.1]) rfl Ty.k14 rfl (r14_Same_ok hv9)) rfl ?_
    refine d7 rfl (fun _ hN => o_move (d := .bool v9) rfl) rfl ?_
    refine d_if7 (g := (v9 == true)) rfl (fun hg _ hN => o_move (d := .int .i64 v4.2) rfl) rfl ?_
    refine d_if7 (g := (v9 == true)) rfl (fun hg _ hN => o_move (d := .int .i64 v5.2) rfl) rfl ?_
    refine d_if7 (g := (v9 == true)) rfl (fun hg _ hN => o_cmp (ct hg) (ct hg) rfl) rfl ?_
    refine d7 rfl (fun _ hN => pk_and rfl rfl rfl (fun q => eqT q)) rfl ?_
    refine d7 rfl (fun _ hN => o_move (d := .bool (v9 && (v4.2 == v5.2))) rfl) rfl ?_
    refine d_if0 (g := ((v9 && (v4.2 == v5.2)) == true)) rfl (fun hg => o_loadA (cs := queue_Queue_task_Task.Pc v6.1) rfl rfl rfl Ty.a24 Ty.s24 (Nat.le_of_ble_eq_true rfl) rfl) rfl ?_
    obtain ⟨v10, hv10, h⟩ := bindE h
    refine d_if2f (g := ((v9 && (v4.2 == v5.2)) == true)) rfl (fun hg => o_callF (ls := []) (ds := [queue_Queue_task_Task.Pv v6.1]) rfl Ty.k9 (consE (ct hg) rfl) (w14_its_ok (onlyE hv10 hg))) rfl ?_
    refine d_if0 (g := ((v9 && (v4.2 == v5.2)) == true)) rfl (fun hg => o_loadA (cs := r14_Queue.Pc v7.1) rfl rfl rfl Ty.a30 Ty.s30 (Nat.le_of_ble_eq_true rfl) rfl) rfl ?_
    obtain ⟨v11, hv11, h⟩ := bindE h
    refine d_if2 (g := ((v9 && (v4.2 == v5.2)) == true)) rfl (fun hg => o_call (ds := [r14_Queue.Pv v10, r14_Queue.Pv v7.1]) rfl Ty.k14 (consE (ct hg) (consE (ct hg) rfl)) (r14_Same_ok (onlyE hv11 hg))) rfl ?_
    refine d7 rfl (fun _ hN => pk_and rfl rfl rfl (fun q => eqT q)) rfl ?_
    refine d7 rfl (fun _ hN => o_move (d := .bool ((v9 && (v4.2 == v5.2)) && v11)) rfl) rfl ?_
    refine d_if0 (g := (((v9 && (v4.2 == v5.2)) && v11) == true)) rfl (fun hg => o_loadA (cs := task_Task.Pc v6.2.1) rfl rfl rfl Ty.a26 Ty.s26 (Nat.le_of_ble_eq_true rfl) rfl) rfl ?_
    refine d_if0 (g := (((v9 && (v4.2 == v5.2)) && v11) == true)) rfl (fun hg => o_loadA (cs := r14_Task.Pc v7.2.1) rfl rfl rfl Ty.a37 Ty.s37 (Nat.le_of_ble_eq_true rfl) rfl) rfl ?_
    refine d_if7 (g := (((v9 && (v4.2 == v5.2)) && v11) == true)) rfl (fun hg _ hN => o_eqA (xs := task_Task.Pc v6.2.1) (ys := r14_Task.Pc v7.2.1) Ty.q37 (ct hg) (ct hg) rfl) rfl ?_
    refine d7 rfl (fun _ hN => pk_and rfl rfl rfl (fun q => eqT q)) rfl ?_
    refine d7 rfl (fun _ hN => o_move (d := .bool (((v9 && (v4.2 == v5.2)) && v11) && ((v6.2.1.Kind == v7.2.1.Kind) && ((v6.2.1.At == v7.2.1.At) && ((v6.2.1.Prog == v7.2.1.Prog) && true))))) rfl) rfl ?_
    refine d_if7 (g := ((((v9 && (v4.2 == v5.2)) && v11) && ((v6.2.1.Kind == v7.2.1.Kind) && ((v6.2.1.At == v7.2.1.At) && ((v6.2.1.Prog == v7.2.1.Prog) && true)))) == true)) rfl (fun hg _ hN => o_move (d := .int .i64 v6.2.2) rfl) rfl ?_
    refine d_if7 (g := ((((v9 && (v4.2 == v5.2)) && v11) && ((v6.2.1.Kind == v7.2.1.Kind) && ((v6.2.1.At == v7.2.1.At) && ((v6.2.1.Prog == v7.2.1.Prog) && true)))) == true)) rfl (fun hg _ hN => o_move (d := .int .i64 v7.2.2) rfl) rfl ?_
    refine d_if7 (g := ((((v9 && (v4.2 == v5.2)) && v11) && ((v6.2.1.Kind == v7.2.1.Kind) && ((v6.2.1.At == v7.2.1.At) && ((v6.2.1.Prog == v7.2.1.Prog) && true)))) == true)) rfl (fun hg _ hN => o_cmp (ct hg) (ct hg) rfl) rfl ?_
    refine d7 rfl (fun _ hN => pk_and rfl rfl rfl (fun q => eqT q)) rfl ?_
    refine d7 rfl (fun _ hN => o_move (d := .bool ((((v9 && (v4.2 == v5.2)) && v11) && ((v6.2.1.Kind == v7.2.1.Kind) && ((v6.2.1.At == v7.2.1.At) && ((v6.2.1.Prog == v7.2.1.Prog) && true)))) && (v6.2.2 == v7.2.2))) rfl) rfl ?_
    refine d_if0 (g := (((((v9 && (v4.2 == v5.2)) && v11) && ((v6.2.1.Kind == v7.2.1.Kind) && ((v6.2.1.At == v7.2.1.At) && ((v6.2.1.Prog == v7.2.1.Prog) && true)))) && (v6.2.2 == v7.2.2)) == true)) rfl (fun hg => o_loadA (cs := queue_Queue_task_Task.Pc a0) rfl rfl rfl Ty.a24 Ty.s24 (Nat.le_of_ble_eq_true rfl) rfl) rfl ?_
    obtain ⟨v12, hv12, h⟩ := bindE h
    refine d_if2f (g := (((((v9 && (v4.2 == v5.2)) && v11) && ((v6.2.1.Kind == v7.2.1.Kind) && ((v6.2.1.At == v7.2.1.At) && ((v6.2.1.Prog == v7.2.1.Prog) && true)))) && (v6.2.2 == v7.2.2)) == true)) rfl (fun hg => o_callF (ls := []) (ds := [queue_Queue_task_Task.Pv a0]) rfl Ty.k16 (consE (ct hg) rfl) (task_Held_ok (onlyE hv12 hg))) rfl ?_
    refine d_if0 (g := (((((v9 && (v4.2 == v5.2)) && v11) && ((v6.2.1.Kind == v7.2.1.Kind) && ((v6.2.1.At == v7.2.1.At) && ((v6.2.1.Prog == v7.2.1.Prog) && true)))) && (v6.2.2 == v7.2.2)) == true)) rfl (fun hg => o_loadA (cs := r14_Queue.Pc v3) rfl rfl rfl Ty.a30 Ty.s30 (Nat.le_of_ble_eq_true rfl) rfl) rfl ?_
    obtain ⟨v13, hv13, h⟩ := bindE h
    refine d_if2f (g := (((((v9 && (v4.2 == v5.2)) && v11) && ((v6.2.1.Kind == v7.2.1.Kind) && ((v6.2.1.At == v7.2.1.At) && ((v6.2.1.Prog == v7.2.1.Prog) && true)))) && (v6.2.2 == v7.2.2)) == true)) rfl (fun hg => o_callF (ls := []) (ds := [r14_Queue.Pv v3]) rfl Ty.k17 (consE (ct hg) rfl) (r14_Held_ok (onlyE hv13 hg))) rfl ?_
    obtain ⟨v14, hv14, h⟩ := bindE h
    refine d_if2 (g := (((((v9 && (v4.2 == v5.2)) && v11) && ((v6.2.1.Kind == v7.2.1.Kind) && ((v6.2.1.At == v7.2.1.At) && ((v6.2.1.Prog == v7.2.1.Prog) && true)))) && (v6.2.2 == v7.2.2)) == true)) rfl (fun hg => o_call (ds := [.lst false (List.map (PV.int .i64) v12), .lst false (List.map (PV.int .i64) v13)]) rfl Ty.k15 (consE (ct hg) (consE (ct hg) rfl)) (r02_Ints_ok (onlyE hv14 hg))) rfl ?_
    refine d7 rfl (fun _ hN => pk_and rfl rfl rfl (fun q => eqT q)) rfl ?_
    refine d7 rfl (fun _ hN => o_move (d := .bool (((((v9 && (v4.2 == v5.2)) && v11) && ((v6.2.1.Kind == v7.2.1.Kind) && ((v6.2.1.At == v7.2.1.At) && ((v6.2.1.Prog == v7.2.1.Prog) && true)))) && (v6.2.2 == v7.2.2)) && v14)) rfl) rfl ?_
    refine d_if0 (g := ((((((v9 && (v4.2 == v5.2)) && v11) && ((v6.2.1.Kind == v7.2.1.Kind) && ((v6.2.1.At == v7.2.1.At) && ((v6.2.1.Prog == v7.2.1.Prog) && true)))) && (v6.2.2 == v7.2.2)) && v14) == true)) rfl (fun hg => o_loadA (cs := queue_Queue_task_Task.Pc a0) rfl rfl rfl Ty.a24 Ty.s24 (Nat.le_of_ble_eq_true rfl) rfl) rfl ?_
    refine d_if7 (g := ((((((v9 && (v4.2 == v5.2)) && v11) && ((v6.2.1.Kind == v7.2.1.Kind) && ((v6.2.1.At == v7.2.1.At) && ((v6.2.1.Prog == v7.2.1.Prog) && true)))) && (v6.2.2 == v7.2.2)) && v14) == true)) rfl (fun hg _ hN => o_move (d := .int .i64 a2) rfl) rfl ?_
    obtain ⟨v15, hv15, h⟩ := bindE h
    refine d_if2 (g := ((((((v9 && (v4.2 == v5.2)) && v11) && ((v6.2.1.Kind == v7.2.1.Kind) && ((v6.2.1.At == v7.2.1.At) && ((v6.2.1.Prog == v7.2.1.Prog) && true)))) && (v6.2.2 == v7.2.2)) && v14) == true)) rfl (fun hg => o_call (ds := [queue_Queue_task_Task.Pv a0, .int .i64 a2]) rfl Ty.k18 (consE (ct hg) (consE (ct hg) rfl)) (task_Waits_ok (onlyE hv15 hg))) rfl ?_
    refine d_if0 (g := ((((((v9 && (v4.2 == v5.2)) && v11) && ((v6.2.1.Kind == v7.2.1.Kind) && ((v6.2.1.At == v7.2.1.At) && ((v6.2.1.Prog == v7.2.1.Prog) && true)))) && (v6.2.2 == v7.2.2)) && v14) == true)) rfl (fun hg => o_loadA (cs := r14_Queue.Pc v3) rfl rfl rfl Ty.a30 Ty.s30 (Nat.le_of_ble_eq_true rfl) rfl) rfl ?_
    refine d_if7 (g := ((((((v9 && (v4.2 == v5.2)) && v11) && ((v6.2.1.Kind == v7.2.1.Kind) && ((v6.2.1.At == v7.2.1.At) && ((v6.2.1.Prog == v7.2.1.Prog) && true)))) && (v6.2.2 == v7.2.2)) && v14) == true)) rfl (fun hg _ hN => o_move (d := .int .i64 a2) rfl) rfl ?_
    obtain ⟨v16, hv16, h⟩ := bindE h
    refine d_if2 (g := ((((((v9 && (v4.2 == v5.2)) && v11) && ((v6.2.1.Kind == v7.2.1.Kind) && ((v6.2.1.At == v7.2.1.At) && ((v6.2.1.Prog == v7.2.1.Prog) && true)))) && (v6.2.2 == v7.2.2)) && v14) == true)) rfl (fun hg => o_call (ds := [r14_Queue.Pv v3, .int .i64 a2]) rfl Ty.k19 (consE (ct hg) (consE (ct hg) rfl)) (r14_Waits_ok (onlyE hv16 hg))) rfl ?_
    refine d_if7 (g := ((((((v9 && (v4.2 == v5.2)) && v11) && ((v6.2.1.Kind == v7.2.1.Kind) && ((v6.2.1.At == v7.2.1.At) && ((v6.2.1.Prog == v7.2.1.Prog) && true)))) && (v6.2.2 == v7.2.2)) && v14) == true)) rfl (fun hg _ hN => o_eqB (ct hg) (ct hg) Ty.u4 rfl) rfl ?_
    refine d7 rfl (fun _ hN => pk_and rfl rfl rfl (fun q => eqT q)) rfl ?_
    refine d7 rfl (fun _ hN => o_move (d := .bool ((((((v9 && (v4.2 == v5.2)) && v11) && ((v6.2.1.Kind == v7.2.1.Kind) && ((v6.2.1.At == v7.2.1.At) && ((v6.2.1.Prog == v7.2.1.Prog) && true)))) && (v6.2.2 == v7.2.2)) && v14) && (v15 == v16))) rfl) rfl ?_
    refine d_if0 (g := (((((((v9 && (v4.2 == v5.2)) && v11) && ((v6.2.1.Kind == v7.2.1.Kind) && ((v6.2.1.At == v7.2.1.At) && ((v6.2.1.Prog == v7.2.1.Prog) && true)))) && (v6.2.2 == v7.2.2)) && v14) && (v15 == v16)) == true)) rfl (fun hg => o_loadA (cs := queue_Queue_task_Task.Pc a0) rfl rfl rfl Ty.a24 Ty.s24 (Nat.le_of_ble_eq_true rfl) rfl) rfl ?_
    refine d_if7 (g := (((((((v9 && (v4.2 == v5.2)) && v11) && ((v6.2.1.Kind == v7.2.1.Kind) && ((v6.2.1.At == v7.2.1.At) && ((v6.2.1.Prog == v7.2.1.Prog) && true)))) && (v6.2.2 == v7.2.2)) && v14) && (v15 == v16)) == true)) rfl (fun hg _ hN => o_move (d := .int .i64 a2) rfl) rfl ?_
    obtain ⟨v17, hv17, h⟩ := bindE h
    refine d_if2 (g := (((((((v9 && (v4.2 == v5.2)) && v11) && ((v6.2.1.Kind == v7.2.1.Kind) && ((v6.2.1.At == v7.2.1.At) && ((v6.2.1.Prog == v7.2.1.Prog) && true)))) && (v6.2.2 == v7.2.2)) && v14) && (v15 == v16)) == true)) rfl (fun hg => o_call (ds := [queue_Queue_task_Task.Pv a0, .int .i64 a2]) rfl Ty.k20 (consE (ct hg) (consE (ct hg) rfl)) (task_Count_ok (onlyE hv17 hg))) rfl ?_
    refine d_if0 (g := (((((((v9 && (v4.2 == v5.2)) && v11) && ((v6.2.1.Kind == v7.2.1.Kind) && ((v6.2.1.At == v7.2.1.At) && ((v6.2.1.Prog == v7.2.1.Prog) && true)))) && (v6.2.2 == v7.2.2)) && v14) && (v15 == v16)) == true)) rfl (fun hg => o_loadA (cs := r14_Queue.Pc v3) rfl rfl rfl Ty.a30 Ty.s30 (Nat.le_of_ble_eq_true rfl) rfl) rfl ?_
    refine d_if7 (g := (((((((v9 && (v4.2 == v5.2)) && v11) && ((v6.2.1.Kind == v7.2.1.Kind) && ((v6.2.1.At == v7.2.1.At) && ((v6.2.1.Prog == v7.2.1.Prog) && true)))) && (v6.2.2 == v7.2.2)) && v14) && (v15 == v16)) == true)) rfl (fun hg _ hN => o_move (d := .int .i64 a2) rfl) rfl ?_
    obtain ⟨v18, hv18, h⟩ := bindE h
    refine d_if2 (g := (((((((v9 && (v4.2 == v5.2)) && v11) && ((v6.2.1.Kind == v7.2.1.Kind) && ((v6.2.1.At == v7.2.1.At) && ((v6.2.1.Prog == v7.2.1.Prog) && true)))) && (v6.2.2 == v7.2.2)) && v14) && (v15 == v16)) == true)) rfl (fun hg => o_call (ds := [r14_Queue.Pv v3, .int .i64 a2]) rfl Ty.k21 (consE (ct hg) (consE (ct hg) rfl)) (r14_Count_ok (onlyE hv18 hg))) rfl ?_
    refine d_if7 (g := (((((((v9 && (v4.2 == v5.2)) && v11) && ((v6.2.1.Kind == v7.2.1.Kind) && ((v6.2.1.At == v7.2.1.At) && ((v6.2.1.Prog == v7.2.1.Prog) && true)))) && (v6.2.2 == v7.2.2)) && v14) && (v15 == v16)) == true)) rfl (fun hg _ hN => o_cmp (ct hg) (ct hg) rfl) rfl ?_
    refine d7 rfl (fun _ hN => pk_and rfl rfl rfl (fun q => eqT q)) rfl ?_
    refine d7 rfl (fun _ hN => o_assign (d := .bool (((((((v9 && (v4.2 == v5.2)) && v11) && ((v6.2.1.Kind == v7.2.1.Kind) && ((v6.2.1.At == v7.2.1.At) && ((v6.2.1.Prog == v7.2.1.Prog) && true)))) && (v6.2.2 == v7.2.2)) && v14) && (v15 == v16)) && (v17 == v18))) rfl) rfl ?_
    refine d_nil ?_
    refine pw_ret ?_
    obtain rfl := Option.some.inj h
    exact ⟨rfl, [_], ⟨rfl, trivial⟩, rfl, by first | exact .inl rfl | exact .inr rfl⟩

set_option maxHeartbeats 4000000 in
theorem w14_TaskOrder_ok {a0 : List task_Task} {r : Bool} (h : w14_TaskOrder a0 = some r) : PCalls Try.prog 4 [.lst false (List.map task_Task.Pv a0)] (.bool r) := by
  unfold w14_TaskOrder at h
  refine pc_intro (N := 79) Try.func4 rfl rfl (Nat.le_of_ble_eq_true rfl) fun w0 imm0 => ?_
  refine sr (by kernel_rfl) ?_
  refine y0 rfl (o_assign (d := .bool false) rfl) ?_
  refine y_nil ?_
  refine pw_seq ?_
  refine sr (by kernel_rfl) ?_
  refine y0 rfl (o_move (d := .lst false (List.map task_Task.Pv a0)) rfl) ?_
  refine y0 rfl (o_lnL (f := task_Task.Pv) rfl Ty.e22) ?_
  refine y0 rfl (o_cmp rfl rfl rfl) ?_
  refine y0 rfl (o_move (d := .bool (decide ((a0.length : Int) > 60))) rfl) ?_
  obtain ⟨v1, hv1, h⟩ := bindE h
  refine y_if (g := ((decide ((a0.length : Int) > 60)) == false)) rfl (fun hg => o_call (ds := []) rfl Ty.k8 rfl (w14_shown_ok (onlyE hv1 hg))) ?_
  refine y_if (g := ((decide ((a0.length : Int) > 60)) == false)) rfl (fun hg => o_not (ct hg) rfl) ?_
  refine y0 rfl (pk_or rfl rfl rfl (fun q => eqF q)) ?_
  refine y_nil ?_
  refine pw_cond ((decide ((a0.length : Int) > 60)) || (!v1)) rfl (fun hc => ?_) (fun hc => ?_)
  · have h := ifT h hc
    refine sr (by kernel_rfl) ?_
    obtain ⟨v2, hv2, h⟩ := bindE h
    refine y0 rfl (o_call (ds := []) rfl Ty.k8 rfl (w14_shown_ok hv2)) ?_
    refine y0 rfl (o_assign (d := .bool v2) rfl) ?_
    refine y_nil ?_
    refine pw_ret ?_
    obtain rfl := Option.some.inj h
    exact ⟨rfl, [_], ⟨rfl, trivial⟩, rfl, by first | exact .inl rfl | exact .inr rfl⟩
  · have h := ifF h hc
    refine pw_skip ?_
    refine sr (by kernel_rfl) ?_
    obtain ⟨v3, hv3, h⟩ := bindE h
    refine yc rfl (o_callF (ls := []) (ds := []) rfl Ty.k22 rfl (task_New_ok hv3)) ?_
    refine y1 rfl (o_alloc (d := .agg [.lst false (List.map task_Task.Pv []), .int .i64 0]) (z := 2) rfl Ty.z24 rfl rfl rfl) rfl ?_
    refine y_sto (x' := queue_Queue_task_Task.Pv v3) (cl' := true) rfl rfl (.inr rfl) Ty.s24 ?_
    refine y_nil ?_
    obtain ⟨κ11, hκ9, h⟩ := jnE h
    refine pw_jn0 (κ := κ11) (r := r) (fun (j12 : queue_Queue_task_Task) => St.of [(0, .lst false (List.map task_Task.Pv a0)), (3, .ptr 3 0 0)] [(3, ⟨[queue_Queue_task_Task.Pv j12], 0, false, 2, true⟩)]) (fun j12 h => ?_) ?_
    · subst hκ9
      obtain ⟨κ20, hκ15, h⟩ := jnE h
      refine pw_jn0 (κ := κ20) (r := r) (fun (j21 : queue_Queue_task_Task) => St.of [(3, .ptr 3 0 0)] [(3, ⟨[queue_Queue_task_Task.Pv j21], 0, false, 2, true⟩)]) (fun j21 h => ?_) ?_
      · subst hκ15
        refine sr (by kernel_rfl) ?_
        refine y0 rfl (o_loadA (cs := queue_Queue_task_Task.Pc j21) rfl rfl rfl Ty.a24 Ty.s24 (Nat.le_of_ble_eq_true rfl) rfl) ?_
        obtain ⟨v22, hv16, h⟩ := bindE h
        refine yc rfl (o_callF (ls := []) (ds := [queue_Queue_task_Task.Pv j21]) rfl Ty.k12 rfl (task_Next_ok hv16)) ?_
        refine y0 rfl (o_move (d := .tup [queue_Queue_task_Task.Pv v22.1, task_Task.Pv v22.2.1, .int .i64 v22.2.2]) rfl) ?_
        refine y0 rfl (o_extract rfl rfl) ?_
        refine y0 rfl (o_extract rfl rfl) ?_
        refine y0 rfl (o_extract rfl rfl) ?_
        refine y1 rfl (o_alloc (d := .agg [.lst false (List.map task_Task.Pv []), .int .i64 0]) (z := 2) rfl Ty.z24 rfl rfl rfl) rfl ?_
        refine y1 rfl (o_alloc (d := .agg [.int .i64 0, .int .i64 0, .int .i64 0]) (z := 3) rfl Ty.z26 rfl rfl rfl) rfl ?_
        refine y_sto (x' := queue_Queue_task_Task.Pv v22.1) (cl' := true) rfl rfl (.inr rfl) Ty.s24 ?_
        refine y_sto (x' := task_Task.Pv v22.2.1) (cl' := true) rfl rfl (.inl rfl) Ty.s26 ?_
        refine y0 rfl (o_assign (d := .int .i64 v22.2.2) rfl) ?_
        refine y_nil ?_
        refine sr (by kernel_rfl) ?_
        refine y0 rfl (o_move (d := .int .i64 v22.2.2) rfl) ?_
        refine y0 rfl (o_cmp rfl rfl rfl) ?_
        refine y0 rfl (o_assign (d := .bool (v22.2.2 == 10)) rfl) ?_
        refine y_nil ?_
        refine pw_ret ?_
        obtain rfl := Option.some.inj h
        exact ⟨rfl, [_], ⟨rfl, trivial⟩, rfl, by first | exact .inl rfl | exact .inr rfl⟩
      · skip
        refine sr (by kernel_rfl) ?_
        refine y0 rfl (o_assign (d := .int .i64 0) rfl) ?_
        refine y_nil ?_
        refine pw_block ?_
        obtain ⟨e23, hl17, hk18⟩ := bindE h
        refine pw_lp0 (fun (q : Int × queue_Queue_task_Task) => St.of [(0, .lst false (List.map task_Task.Pv a0)), (3, .ptr 3 0 0), (7, .int .i64 q.1)] [(3, ⟨[queue_Queue_task_Task.Pv q.2], 0, false, 2, true⟩)]) hl17 (wk_st _ _ ⟨rfl, rfl, rfl, rfl, rfl, rfl, rfl, rfl, rfl, trivial⟩ ⟨rowLe_same rfl rfl rfl (fun q => nomatch q) rfl rfl rfl, trivial⟩) (fun q27 x26 h hx19 => ?_)
        obtain ⟨s24, s25⟩ := q27
        refine pw_seq ?_
        refine sr (by kernel_rfl) ?_
        refine y0 rfl (o_move (d := .int .i64 s24) rfl) ?_
        refine y0 rfl (o_move (d := .lst false (List.map task_Task.Pv a0)) rfl) ?_
        refine y0 rfl (o_lnL (f := task_Task.Pv) rfl Ty.e22) ?_
        refine y0 rfl (o_cmp rfl rfl rfl) ?_
        refine y0 rfl (o_move (d := .bool (decide (s24 < (a0.length : Int)))) rfl) ?_
        refine y_if (g := ((decide (s24 < (a0.length : Int))) == true)) rfl (fun hg => o_move (d := .int .i64 s24) rfl) ?_
        refine y_if (g := ((decide (s24 < (a0.length : Int))) == true)) rfl (fun hg => o_cmp (ct hg) rfl rfl) ?_
        refine y0 rfl (pk_and rfl rfl rfl (fun q => eqT q)) ?_
        refine y_nil ?_
        refine pw_cond ((decide (s24 < (a0.length : Int))) && (decide (s24 < 30))) rfl (fun hc => ?_) (fun hc => ?_)
        · have h := ifT h hc
          refine pw_skip ?_
          refine pw_seq ?_
          refine pw_block ?_
          refine sr (by kernel_rfl) ?_
          refine y0 rfl (o_loadA (cs := queue_Queue_task_Task.Pc s25) rfl rfl rfl Ty.a24 Ty.s24 (Nat.le_of_ble_eq_true rfl) rfl) ?_
          obtain ⟨v28, hv20, h⟩ := bindE h
          refine yc rfl (o_callF (ls := []) (ds := [queue_Queue_task_Task.Pv s25]) rfl Ty.k12 rfl (task_Next_ok hv20)) ?_
          refine y0 rfl (o_move (d := .tup [queue_Queue_task_Task.Pv v28.1, task_Task.Pv v28.2.1, .int .i64 v28.2.2]) rfl) ?_
          refine y0 rfl (o_extract rfl rfl) ?_
          refine y0 rfl (o_extract rfl rfl) ?_
          refine y0 rfl (o_extract rfl rfl) ?_
          refine y1 rfl (o_alloc (d := .agg [.lst false (List.map task_Task.Pv []), .int .i64 0]) (z := 2) rfl Ty.z24 rfl rfl rfl) rfl ?_
          refine y1 rfl (o_alloc (d := .agg [.int .i64 0, .int .i64 0, .int .i64 0]) (z := 3) rfl Ty.z26 rfl rfl rfl) rfl ?_
          refine y_sto (x' := queue_Queue_task_Task.Pv v28.1) (cl' := true) rfl rfl (.inr rfl) Ty.s24 ?_
          refine y_sto (x' := task_Task.Pv v28.2.1) (cl' := true) rfl rfl (.inl rfl) Ty.s26 ?_
          refine y0 rfl (o_assign (d := .int .i64 v28.2.2) rfl) ?_
          refine y_nil ?_
          refine pw_seq ?_
          refine dr [] Ty.mix (by kernel_rfl) (by kernel_rfl) ?_
          refine d7 rfl (fun _ hN => o_move (d := .int .i64 v28.2.2) rfl) rfl ?_
          refine d7 rfl (fun _ hN => o_cmp rfl rfl rfl) rfl ?_
          refine d7 rfl (fun _ hN => o_move (d := .bool (v28.2.2 != 0)) rfl) rfl ?_
          refine d_if0 (g := ((v28.2.2 != 0) == false)) rfl (fun hg => o_loadA (cs := task_Task.Pc v28.2.1) rfl rfl rfl Ty.a26 Ty.s26 (Nat.le_of_ble_eq_true rfl) rfl) rfl ?_
          refine d_if7 (g := ((v28.2.2 != 0) == false)) rfl (fun hg _ hN => o_move (d := .lst false (List.map task_Task.Pv a0)) rfl) rfl ?_
          refine d_if7 (g := ((v28.2.2 != 0) == false)) rfl (fun hg _ hN => o_move (d := .int .i64 s24) rfl) rfl ?_
          obtain ⟨v29, hv21, h⟩ := bindE h
          refine d_if0 (g := ((v28.2.2 != 0) == false)) rfl (fun hg => o_ixL (f := task_Task.Pv) (cs := task_Task.Pc v29) (onlyE hv21 hg) (ct hg) (ct hg) Ty.e22 Ty.s26 rfl rfl) rfl ?_
          refine d_if0 (g := ((v28.2.2 != 0) == false)) rfl (fun hg => o_loadRA (cs := task_Task.Pc v29) (ct hg) Ty.a26 Ty.s26 (Nat.le_of_ble_eq_true rfl) rfl) rfl ?_
          refine d_if7 (g := ((v28.2.2 != 0) == false)) rfl (fun hg _ hN => o_neA (xs := task_Task.Pc v28.2.1) (ys := task_Task.Pc v29) Ty.q26 (ct hg) (ct hg) rfl rfl) rfl ?_
          refine d7 rfl (fun _ hN => pk_or rfl rfl rfl (fun q => eqF q)) rfl ?_
          refine d_nil ?_
          refine pw_cond ((v28.2.2 != 0) || (!((v28.2.1.Kind == v29.Kind) && ((v28.2.1.At == v29.At) && ((v28.2.1.Prog == v29.Prog) && true))))) rfl (fun hc => ?_) (fun hc => ?_)
          · have h := ifT h hc
            refine sr (by kernel_rfl) ?_
            refine y0 rfl (o_assign (d := .bool false) rfl) ?_
            refine y_nil ?_
            refine pw_ret ?_
            have he := hx19 _ (Option.some.inj h).symm
            have h := hk18
            rw [← he] at h
            obtain rfl := Option.some.inj h
            exact ⟨rfl, [_], ⟨rfl, trivial⟩, rfl, by first | exact .inl rfl | exact .inr rfl⟩
          · have h := ifF h hc
            refine pw_skip ?_
            refine sr1 (by kernel_rfl) ?_
            refine y0 rfl (o_loadA (cs := queue_Queue_task_Task.Pc v28.1) rfl rfl rfl Ty.a24 Ty.s24 (Nat.le_of_ble_eq_true rfl) rfl) ?_
            refine y_sto (x' := queue_Queue_task_Task.Pv v28.1) (cl' := true) rfl rfl (.inr rfl) Ty.s24 ?_
            refine y_nil ?_
            refine sr1 (by kernel_rfl) ?_
            refine y0 rfl (o_move (d := .int .i64 s24) rfl) ?_
            refine y0 rfl (o_ari rfl rfl rfl) ?_
            refine y0 rfl (o_assign (d := .int .i64 (w64 (s24 + 1))) rfl) ?_
            refine y_nil ?_
            exact ⟨rfl, (w64 (s24 + 1), v28.1), (Option.some.inj h).symm, (wk_st _ _ ⟨rfl, rfl, rfl, rfl, rfl, rfl, rfl, rfl, rfl, trivial⟩ ⟨rowLe_same rfl rfl rfl (fun q => nomatch q) rfl rfl rfl, trivial⟩)⟩
        · have h := ifF h hc
          refine pw_exit ?_
          refine thenQ_exit ?_
          refine thenQ_exit ?_
          refine blockQ_exit ?_
          have he := hx19 _ (Option.some.inj h).symm
          have h := hk18
          rw [← he] at h
          exact ⟨rfl, s25, h, (wk_st _ _ ⟨rfl, rfl, rfl, trivial⟩ ⟨rowLe_same rfl rfl rfl (fun q => nomatch q) rfl rfl rfl, trivial⟩)⟩
    · skip
      refine sr (by kernel_rfl) ?_
      refine y0 rfl (o_assign (d := .int .i64 0) rfl) ?_
      refine y_nil ?_
      refine pw_block ?_
      obtain ⟨e30, hl22, hk23⟩ := bindE h
      refine pw_lp0 (fun (q : Int × queue_Queue_task_Task) => St.of [(0, .lst false (List.map task_Task.Pv a0)), (3, .ptr 3 0 0), (4, .int .i64 q.1)] [(3, ⟨[queue_Queue_task_Task.Pv q.2], 0, false, 2, true⟩)]) hl22 (wk_st _ _ ⟨rfl, rfl, rfl, rfl, rfl, rfl, rfl, rfl, rfl, trivial⟩ ⟨rowLe_same rfl rfl rfl (fun q => nomatch q) rfl rfl rfl, trivial⟩) (fun q34 x33 h hx24 => ?_)
      obtain ⟨s31, s32⟩ := q34
      refine pw_seq ?_
      refine sr (by kernel_rfl) ?_
      refine y0 rfl (o_move (d := .int .i64 s31) rfl) ?_
      refine y0 rfl (o_move (d := .lst false (List.map task_Task.Pv a0)) rfl) ?_
      refine y0 rfl (o_lnL (f := task_Task.Pv) rfl Ty.e22) ?_
      refine y0 rfl (o_cmp rfl rfl rfl) ?_
      refine y_nil ?_
      refine pw_cond (decide (s31 < (a0.length : Int))) rfl (fun hc => ?_) (fun hc => ?_)
      · have h := ifT h hc
        refine pw_skip ?_
        refine pw_seq ?_
        refine pw_block ?_
        refine dr [] Ty.mix (by kernel_rfl) (by kernel_rfl) ?_
        refine d0 rfl (o_loadA (cs := queue_Queue_task_Task.Pc s32) rfl rfl rfl Ty.a24 Ty.s24 (Nat.le_of_ble_eq_true rfl) rfl) rfl ?_
        refine d7 rfl (fun _ hN => o_move (d := .lst false (List.map task_Task.Pv a0)) rfl) rfl ?_
        refine d7 rfl (fun _ hN => o_move (d := .int .i64 s31) rfl) rfl ?_
        obtain ⟨v35, hv25, h⟩ := bindE h
        refine d0 rfl (o_ixL (f := task_Task.Pv) (cs := task_Task.Pc v35) hv25 rfl rfl Ty.e22 Ty.s26 rfl rfl) rfl ?_
        refine d0 rfl (o_loadRA (cs := task_Task.Pc v35) rfl Ty.a26 Ty.s26 (Nat.le_of_ble_eq_true rfl) rfl) rfl ?_
        obtain ⟨v36, hv26, h⟩ := bindE h
        refine d2f rfl (o_callF (ls := []) (ds := [queue_Queue_task_Task.Pv s32, task_Task.Pv v35]) rfl Ty.k10 rfl (task_Add_ok hv26)) rfl ?_
        refine d7 rfl (fun _ hN => o_move (d := .tup [queue_Queue_task_Task.Pv v36.1, .int .i64 v36.2]) rfl) rfl ?_
        refine d7 rfl (fun _ hN => o_extract rfl rfl) rfl ?_
        refine d7 rfl (fun _ hN => o_extract rfl rfl) rfl ?_
        refine d1 rfl (o_alloc (d := .agg [.lst false (List.map task_Task.Pv []), .int .i64 0]) (z := 2) rfl Ty.z24 rfl rfl rfl) rfl rfl rfl ?_
        refine d_sto (x' := queue_Queue_task_Task.Pv v36.1) (cl' := true) rfl rfl (.inr rfl) Ty.s24 ?_
        refine d7 rfl (fun _ hN => o_assign (d := .int .i64 v36.2) rfl) rfl ?_
        refine d_nil ?_
        refine pw_seq ?_
        refine sr (by kernel_rfl) ?_
        refine y0 rfl (o_move (d := .int .i64 v36.2) rfl) ?_
        refine y0 rfl (o_cmp rfl rfl rfl) ?_
        refine y0 rfl (o_move (d := .int .i64 s31) rfl) ?_
        refine y0 rfl (o_cmp rfl rfl rfl) ?_
        refine y0 rfl (o_neB rfl rfl Ty.u4 rfl) ?_
        refine y_nil ?_
        refine pw_cond ((v36.2 == 0) != (decide (s31 < 30))) rfl (fun hc => ?_) (fun hc => ?_)
        · have h := ifT h hc
          refine sr (by kernel_rfl) ?_
          refine y0 rfl (o_assign (d := .bool false) rfl) ?_
          refine y_nil ?_
          refine pw_ret ?_
          have he := hx24 _ (Option.some.inj h).symm
          have h := hk23
          rw [← he] at h
          obtain rfl := Option.some.inj h
          exact ⟨rfl, [_], ⟨rfl, trivial⟩, rfl, by first | exact .inl rfl | exact .inr rfl⟩
        · have h := ifF h hc
          refine pw_skip ?_
          refine sr1 (by kernel_rfl) ?_
          refine y0 rfl (o_loadA (cs := queue_Queue_task_Task.Pc v36.1) rfl rfl rfl Ty.a24 Ty.s24 (Nat.le_of_ble_eq_true rfl) rfl) ?_
          refine y_sto (x' := queue_Queue_task_Task.Pv v36.1) (cl' := true) rfl rfl (.inr rfl) Ty.s24 ?_
          refine y_nil ?_
          refine sr1 (by kernel_rfl) ?_
          refine y0 rfl (o_move (d := .int .i64 s31) rfl) ?_
          refine y0 rfl (o_ari rfl rfl rfl) ?_
          refine y0 rfl (o_assign (d := .int .i64 (w64 (s31 + 1))) rfl) ?_
          refine y_nil ?_
          exact ⟨rfl, (w64 (s31 + 1), v36.1), (Option.some.inj h).symm, (wk_st _ _ ⟨rfl, rfl, rfl, rfl, rfl, rfl, rfl, rfl, rfl, trivial⟩ ⟨rowLe_same rfl rfl rfl (fun q => nomatch q) rfl rfl rfl, trivial⟩)⟩
      · have h := ifF h hc
        refine pw_exit ?_
        refine thenQ_exit ?_
        refine thenQ_exit ?_
        refine blockQ_exit ?_
        have he := hx24 _ (Option.some.inj h).symm
        have h := hk23
        rw [← he] at h
        exact ⟨rfl, s32, h, (wk_st _ _ ⟨rfl, rfl, rfl, rfl, rfl, rfl, trivial⟩ ⟨rowLe_same rfl rfl rfl (fun q => nomatch q) rfl rfl rfl, trivial⟩)⟩

set_option maxHeartbeats 4000000 in
theorem w14_TaskCounts_ok {a0 : queue_Queue_task_Task} {a1 : task_Task} {a2 : Int} {r : Bool} (h : w14_TaskCounts a0 a1 a2 = some r) : PCalls Try.prog 5 [queue_Queue_task_Task.Pv a0, task_Task.Pv a1, .int .i64 a2] (.bool r) := by
  unfold w14_TaskCounts at h
  refine pc_intro (N := 89) Try.func5 rfl rfl (Nat.le_of_ble_eq_true rfl) fun w0 imm0 => ?_
  refine sr (by kernel_rfl) ?_
  refine y1 rfl (o_box (d := queue_Queue_task_Task.Pv a0) (z := 2) (cl := true) rfl rfl rfl rfl rfl) rfl ?_
  refine y1 rfl (o_box (d := task_Task.Pv a1) (z := 3) (cl := true) rfl rfl rfl rfl rfl) rfl ?_
  refine y0 rfl (o_assign (d := .bool false) rfl) ?_
  refine y_nil ?_
  refine pw_seq ?_
  refine sr (by kernel_rfl) ?_
  refine y0 rfl (o_fieldAddrP (k := 0) rfl Ty.f24_0 rfl) ?_
  refine y0 rfl (o_loadS rfl rfl rfl Ty.a22 rfl) ?_
  refine y0 rfl (o_lnL (f := task_Task.Pv) rfl Ty.e22) ?_
  refine y0 rfl (o_cmp rfl rfl rfl) ?_
  refine y0 rfl (o_move (d := .bool (decide ((a0.L.length : Int) > 60))) rfl) ?_
  obtain ⟨v1, hv1, h⟩ := bindE h
  refine y_if (g := ((decide ((a0.L.length : Int) > 60)) == false)) rfl (fun hg => o_call (ds := []) rfl Ty.k8 rfl (w14_shown_ok (onlyE hv1 hg))) ?_
  refine y_if (g := ((decide ((a0.L.length : Int) > 60)) == false)) rfl (fun hg => o_not (ct hg) rfl) ?_
  refine y0 rfl (pk_or rfl rfl rfl (fun q => eqF q)) ?_
  refine y_nil ?_
  refine pw_cond ((decide ((a0.L.length : Int) > 60)) || (!v1)) rfl (fun hc => ?_) (fun hc => ?_)
  · have h := ifT h hc
    refine sr (by kernel_rfl) ?_
    obtain ⟨v2, hv2, h⟩ := bindE h
    refine y0 rfl (o_call (ds := []) rfl Ty.k8 rfl (w14_shown_ok hv2)) ?_
    refine y0 rfl (o_assign (d := .bool v2) rfl) ?_
    refine y_nil ?_
    refine pw_ret ?_
    obtain rfl := Option.some.inj h
    exact ⟨rfl, [_], ⟨rfl, trivial⟩, rfl, by first | exact .inl rfl | exact .inr rfl⟩
  · have h := ifF h hc
    refine pw_skip ?_
    refine sr (by kernel_rfl) ?_
    refine y0 rfl (o_loadA (cs := queue_Queue_task_Task.Pc a0) rfl rfl rfl Ty.a24 Ty.s24 (Nat.le_of_ble_eq_true rfl) rfl) ?_
    refine y0 rfl (o_loadA (cs := task_Task.Pc a1) rfl rfl rfl Ty.a26 Ty.s26 (Nat.le_of_ble_eq_true rfl) rfl) ?_
    obtain ⟨v3, hv3, h⟩ := bindE h
    refine yc rfl (o_callF (ls := []) (ds := [queue_Queue_task_Task.Pv a0, task_Task.Pv a1]) rfl Ty.k10 rfl (task_Add_ok hv3)) ?_
    refine y0 rfl (o_move (d := .tup [queue_Queue_task_Task.Pv v3.1, .int .i64 v3.2]) rfl) ?_
    refine y0 rfl (o_extract rfl rfl) ?_
    refine y0 rfl (o_extract rfl rfl) ?_
    refine y1 rfl (o_alloc (d := .agg [.lst false (List.map task_Task.Pv []), .int .i64 0]) (z := 2) rfl Ty.z24 rfl rfl rfl) rfl ?_
    refine y_sto (x' := queue_Queue_task_Task.Pv v3.1) (cl' := true) rfl rfl (.inr rfl) Ty.s24 ?_
    refine y0 rfl (o_assign (d := .int .i64 v3.2) rfl) ?_
    refine y_nil ?_
    refine pw_seq ?_
    refine sr (by kernel_rfl) ?_
    refine y0 rfl (o_move (d := .int .i64 v3.2) rfl) ?_
    refine y0 rfl (o_cmp rfl rfl rfl) ?_
    refine y_nil ?_
    refine pw_cond (v3.2 != 0) rfl (fun hc => ?_) (fun hc => ?_)
    · have h := ifT h hc
      refine dr [] Ty.mix (by kernel_rfl) (by kernel_rfl) ?_
      refine d0 rfl (o_loadA (cs := queue_Queue_task_Task.Pc v3.1) rfl rfl rfl Ty.a24 Ty.s24 (Nat.le_of_ble_eq_true rfl) rfl) rfl ?_
      refine d7 rfl (fun _ hN => o_move (d := .int .i64 a2) rfl) rfl ?_
      obtain ⟨v4, hv4, h⟩ := bindE h
      refine d2 rfl (o_call (ds := [queue_Queue_task_Task.Pv v3.1, .int .i64 a2]) rfl Ty.k20 rfl (task_Count_ok hv4)) rfl ?_
      refine d0 rfl (o_loadA (cs := queue_Queue_task_Task.Pc a0) rfl rfl rfl Ty.a24 Ty.s24 (Nat.le_of_ble_eq_true rfl) rfl) rfl ?_
      refine d7 rfl (fun _ hN => o_move (d := .int .i64 a2) rfl) rfl ?_
      obtain ⟨v5, hv5, h⟩ := bindE h
      refine d2 rfl (o_call (ds := [queue_Queue_task_Task.Pv a0, .int .i64 a2]) rfl Ty.k20 rfl (task_Count_ok hv5)) rfl ?_
      refine d7 rfl (fun _ hN => o_cmp rfl rfl rfl) rfl ?_
      refine d7 rfl (fun _ hN => o_assign (d := .bool (v4 == v5)) rfl) rfl ?_
      refine d_nil ?_
      refine pw_ret ?_
      obtain rfl := Option.some.inj h
      exact ⟨rfl, [_], ⟨rfl, trivial⟩, rfl, by first | exact .inl rfl | exact .inr rfl⟩
    · have h := ifF h hc
      refine pw_skip ?_
      refine sr (by kernel_rfl) ?_
      refine y0 rfl (o_assign (d := .int .i64 0) rfl) ?_
      refine y_nil ?_
      obtain ⟨κ6, hκ6, h⟩ := jnE h
      refine pw_jn0 (κ := κ6) (r := r) (fun (j7 : Int) => St.of [(2, .int .i64 a2), (3, .ptr 3 0 0), (4, .ptr 4 0 0), (7, .ptr 7 0 0), (9, .int .i64 j7)] [(7, ⟨[queue_Queue_task_Task.Pv v3.1], 0, false, 2, true⟩), (4, ⟨[task_Task.Pv a1], 0, false, 3, true⟩), (3, ⟨[queue_Queue_task_Task.Pv a0], 0, false, 2, true⟩)]) (fun j7 h => ?_) ?_
      · subst hκ6
        refine sr (by kernel_rfl) ?_
        refine y0 rfl (o_loadA (cs := queue_Queue_task_Task.Pc v3.1) rfl rfl rfl Ty.a24 Ty.s24 (Nat.le_of_ble_eq_true rfl) rfl) ?_
        obtain ⟨v8, hv7, h⟩ := bindE h
        refine yc rfl (o_callF (ls := []) (ds := [queue_Queue_task_Task.Pv v3.1]) rfl Ty.k16 rfl (task_Held_ok hv7)) ?_
        refine y0 rfl (o_assign (d := .lst false (List.map (PV.int .i64) v8)) rfl) ?_
        refine y_nil ?_
        refine sr (by kernel_rfl) ?_
        refine y0 rfl (o_move (d := .lst false (List.map (PV.int .i64) v8)) rfl) ?_
        refine y0 rfl (o_lnL (f := (PV.int .i64)) rfl Ty.e44) ?_
        refine y0 rfl (o_assign (d := .int .i64 (v8.length : Int)) rfl) ?_
        refine y_nil ?_
        refine dr [] Ty.mix (by kernel_rfl) (by kernel_rfl) ?_
        refine d0 rfl (o_loadA (cs := queue_Queue_task_Task.Pc v3.1) rfl rfl rfl Ty.a24 Ty.s24 (Nat.le_of_ble_eq_true rfl) rfl) rfl ?_
        refine d7 rfl (fun _ hN => o_move (d := .int .i64 a2) rfl) rfl ?_
        obtain ⟨v9, hv8, h⟩ := bindE h
        refine d2 rfl (o_call (ds := [queue_Queue_task_Task.Pv v3.1, .int .i64 a2]) rfl Ty.k20 rfl (task_Count_ok hv8)) rfl ?_
        refine d0 rfl (o_loadA (cs := queue_Queue_task_Task.Pc a0) rfl rfl rfl Ty.a24 Ty.s24 (Nat.le_of_ble_eq_true rfl) rfl) rfl ?_
        refine d7 rfl (fun _ hN => o_move (d := .int .i64 a2) rfl) rfl ?_
        obtain ⟨v10, hv9, h⟩ := bindE h
        refine d2 rfl (o_call (ds := [queue_Queue_task_Task.Pv a0, .int .i64 a2]) rfl Ty.k20 rfl (task_Count_ok hv9)) rfl ?_
        refine d7 rfl (fun _ hN => o_move (d := .int .i64 j7) rfl) rfl ?_
        refine d7 rfl (fun _ hN => o_ari rfl rfl rfl) rfl ?_
        refine d7 rfl (fun _ hN => o_cmp rfl rfl rfl) rfl ?_
        refine d7 rfl (fun _ hN => o_move (d := .bool (v9 == (w64 (v10 + j7)))) rfl) rfl ?_
        refine d_if7 (g := ((v9 == (w64 (v10 + j7))) == true)) rfl (fun hg _ hN => o_fieldAddrP (k := 0) rfl Ty.f26_0 rfl) rfl ?_
        refine d_if0 (g := ((v9 == (w64 (v10 + j7))) == true)) rfl (fun hg => o_loadS (ct hg) rfl rfl Ty.a3 rfl) rfl ?_
        refine d_if7 (g := ((v9 == (w64 (v10 + j7))) == true)) rfl (fun hg _ hN => o_cmp (ct hg) rfl rfl) rfl ?_
        refine d_if7 (g := ((v9 == (w64 (v10 + j7))) == true)) rfl (fun hg _ hN => o_move (d := .bool (a1.Kind != 1)) (ct hg)) rfl ?_
        refine d_if7 (g := (((v9 == (w64 (v10 + j7))) == true) && ((a1.Kind != 1) == false))) (want2 rfl rfl rfl) (fun hg _ hN => o_move (d := .int .i64 (v8.length : Int)) rfl) rfl ?_
        refine d_if7 (g := (((v9 == (w64 (v10 + j7))) == true) && ((a1.Kind != 1) == false))) (want2 rfl rfl rfl) (fun hg _ hN => o_cmp (ct hg) rfl rfl) rfl ?_
        refine d_if7 (g := (((v9 == (w64 (v10 + j7))) == true) && ((a1.Kind != 1) == false))) (want2 rfl rfl rfl) (fun hg _ hN => o_move (d := .bool (decide ((v8.length : Int) > 0))) (ct hg)) rfl ?_
        refine d_if7 (g := ((((v9 == (w64 (v10 + j7))) == true) && ((a1.Kind != 1) == false)) && ((decide ((v8.length : Int) > 0)) == true))) (want2 rfl rfl rfl) (fun hg _ hN => o_move (d := .lst false (List.map (PV.int .i64) v8)) rfl) rfl ?_
        refine d_if7 (g := ((((v9 == (w64 (v10 + j7))) == true) && ((a1.Kind != 1) == false)) && ((decide ((v8.length : Int) > 0)) == true))) (want2 rfl rfl rfl) (fun hg _ hN => o_move (d := .int .i64 (v8.length : Int)) rfl) rfl ?_
        refine d_if7 (g := ((((v9 == (w64 (v10 + j7))) == true) && ((a1.Kind != 1) == false)) && ((decide ((v8.length : Int) > 0)) == true))) (want2 rfl rfl rfl) (fun hg _ hN => o_ari (ct hg) rfl rfl) rfl ?_
        obtain ⟨v11, hv10, h⟩ := bindE h
        refine d_if0 (g := ((((v9 == (w64 (v10 + j7))) == true) && ((a1.Kind != 1) == false)) && ((decide ((v8.length : Int) > 0)) == true))) (want2 rfl rfl rfl) (fun hg => o_ixL (f := (PV.int .i64)) (cs := [.int .i64 v11]) (onlyE hv10 hg) (ct hg) (ct hg) Ty.e44 Ty.s3 rfl rfl) rfl ?_
        refine d_if0 (g := ((((v9 == (w64 (v10 + j7))) == true) && ((a1.Kind != 1) == false)) && ((decide ((v8.length : Int) > 0)) == true))) (want2 rfl rfl rfl) (fun hg => o_loadRS (ct hg) Ty.a3 rfl) rfl ?_
        refine d_if7 (g := ((((v9 == (w64 (v10 + j7))) == true) && ((a1.Kind != 1) == false)) && ((decide ((v8.length : Int) > 0)) == true))) (want2 rfl rfl rfl) (fun hg _ hN => o_fieldAddrP (k := 1) rfl Ty.f26_1 rfl) rfl ?_
        refine d_if0 (g := ((((v9 == (w64 (v10 + j7))) == true) && ((a1.Kind != 1) == false)) && ((decide ((v8.length : Int) > 0)) == true))) (want2 rfl rfl rfl) (fun hg => o_loadS (ct hg) rfl rfl Ty.a3 rfl) rfl ?_
        refine d_if7 (g := ((((v9 == (w64 (v10 + j7))) == true) && ((a1.Kind != 1) == false)) && ((decide ((v8.length : Int) > 0)) == true))) (want2 rfl rfl rfl) (fun hg _ hN => o_cmp (ct hg) (ct hg) rfl) rfl ?_
        refine d_if7 (g := (((v9 == (w64 (v10 + j7))) == true) && ((a1.Kind != 1) == false))) (want2 rfl rfl rfl) (fun hg _ hN => pk_and (ct hg) rfl rfl (fun q => andI hg (eqT q))) rfl ?_
        refine d_if7 (g := ((v9 == (w64 (v10 + j7))) == true)) rfl (fun hg _ hN => pk_or (ct hg) rfl rfl (fun q => andI hg (eqF q))) rfl ?_
        refine d7 rfl (fun _ hN => pk_and rfl rfl rfl (fun q => eqT q)) rfl ?_
        refine d7 rfl (fun _ hN => o_move (d := .bool ((v9 == (w64 (v10 + j7))) && ((a1.Kind != 1) || ((decide ((v8.length : Int) > 0)) && (v11 == a1.At))))) rfl) rfl ?_
        refine d_if7 (g := (((v9 == (w64 (v10 + j7))) && ((a1.Kind != 1) || ((decide ((v8.length : Int) > 0)) && (v11 == a1.At)))) == true)) rfl (fun hg _ hN => o_fieldAddrP (k := 0) rfl Ty.f26_0 rfl) rfl ?_
        refine d_if0 (g := (((v9 == (w64 (v10 + j7))) && ((a1.Kind != 1) || ((decide ((v8.length : Int) > 0)) && (v11 == a1.At)))) == true)) rfl (fun hg => o_loadS (ct hg) rfl rfl Ty.a3 rfl) rfl ?_
        refine d_if7 (g := (((v9 == (w64 (v10 + j7))) && ((a1.Kind != 1) || ((decide ((v8.length : Int) > 0)) && (v11 == a1.At)))) == true)) rfl (fun hg _ hN => o_cmp (ct hg) rfl rfl) rfl ?_
        refine d_if7 (g := (((v9 == (w64 (v10 + j7))) && ((a1.Kind != 1) || ((decide ((v8.length : Int) > 0)) && (v11 == a1.At)))) == true)) rfl (fun hg _ hN => o_move (d := .bool (a1.Kind != 2)) (ct hg)) rfl ?_
        refine d_if0 (g := ((((v9 == (w64 (v10 + j7))) && ((a1.Kind != 1) || ((decide ((v8.length : Int) > 0)) && (v11 == a1.At)))) == true) && ((a1.Kind != 2) == false))) (want2 rfl rfl rfl) (fun hg => o_loadA (cs := queue_Queue_task_Task.Pc v3.1) rfl rfl rfl Ty.a24 Ty.s24 (Nat.le_of_ble_eq_true rfl) rfl) rfl ?_
        refine d_if7 (g := ((((v9 == (w64 (v10 + j7))) && ((a1.Kind != 1) || ((decide ((v8.length : Int) > 0)) && (v11 == a1.At)))) == true) && ((a1.Kind != 2) == false))) (want2 rfl rfl rfl) (fun hg _ hN => o_fieldAddrP (k := 1) rfl Ty.f26_1 rfl) rfl ?_
        refine d_if0 (g := ((((v9 == (w64 (v10 + j7))) && ((a1.Kind != 1) || ((decide ((v8.length : Int) > 0)) && (v11 == a1.At)))) == true) && ((a1.Kind != 2) == false))) (want2 rfl rfl rfl) (fun hg => o_loadS (ct hg) rfl rfl Ty.a3 rfl) rfl ?_
        obtain ⟨v12, hv11, h⟩ := bindE h
        refine d_if2 (g := ((((v9 == (w64 (v10 + j7))) && ((a1.Kind != 1) || ((decide ((v8.length : Int) > 0)) && (v11 == a1.At)))) == true) && ((a1.Kind != 2) == false))) (want2 rfl rfl rfl) (fun hg => o_call (ds := [queue_Queue_task_Task.Pv v3.1, .int .i64 a1.At]) rfl Ty.k18 (consE (ct hg) (consE (ct hg) rfl)) (task_Waits_ok (onlyE hv11 hg))) rfl ?_
        refine d_if7 (g := (((v9 == (w64 (v10 + j7))) && ((a1.Kind != 1) || ((decide ((v8.length : Int) > 0)) && (v11 == a1.At)))) == true)) rfl (fun hg _ hN => pk_or (ct hg) rfl rfl (fun q => andI hg (eqF q))) rfl ?_
        refine d7 rfl (fun _ hN => pk_and rfl rfl rfl (fun q => eqT q)) rfl ?_
        refine d7 rfl (fun _ hN => o_move (d := .bool (((v9 == (w64 (v10 + j7))) && ((a1.Kind != 1) || ((decide ((v8.length : Int) > 0)) && (v11 == a1.At)))) && ((a1.Kind != 2) || v12))) rfl) rfl ?_
        refine d_if7 (g := ((((v9 == (w64 (v10 + j7))) && ((a1.Kind != 1) || ((decide ((v8.length : Int) > 0)) && (v11 == a1.At)))) && ((a1.Kind != 2) || v12)) == true)) rfl (fun hg _ hN => o_move (d := .int .i64 (v8.length : Int)) rfl) rfl ?_
        refine d_if0 (g := ((((v9 == (w64 (v10 + j7))) && ((a1.Kind != 1) || ((decide ((v8.length : Int) > 0)) && (v11 == a1.At)))) && ((a1.Kind != 2) || v12)) == true)) rfl (fun hg => o_loadA (cs := queue_Queue_task_Task.Pc v3.1) rfl rfl rfl Ty.a24 Ty.s24 (Nat.le_of_ble_eq_true rfl) rfl) rfl ?_
        obtain ⟨v13, hv12, h⟩ := bindE h
        refine d_if2 (g := ((((v9 == (w64 (v10 + j7))) && ((a1.Kind != 1) || ((decide ((v8.length : Int) > 0)) && (v11 == a1.At)))) && ((a1.Kind != 2) || v12)) == true)) rfl (fun hg => o_call (ds := [queue_Queue_task_Task.Pv v3.1, .int .i64 1]) rfl Ty.k20 (consE (ct hg) (consE rfl rfl)) (task_Count_ok (onlyE hv12 hg))) rfl ?_
        refine d_if7 (g := ((((v9 == (w64 (v10 + j7))) && ((a1.Kind != 1) || ((decide ((v8.length : Int) > 0)) && (v11 == a1.At)))) && ((a1.Kind != 2) || v12)) == true)) rfl (fun hg _ hN => o_cmp (ct hg) (ct hg) rfl) rfl ?_
        refine d7 rfl (fun _ hN => pk_and rfl rfl rfl (fun q => eqT q)) rfl ?_
        refine d7 rfl (fun _ hN => o_assign (d := .bool ((((v9 == (w64 (v10 + j7))) && ((a1.Kind != 1) || ((decide ((v8.length : Int) > 0)) && (v11 == a1.At)))) && ((a1.Kind != 2) || v12)) && ((v8.length : Int) == v13))) rfl) rfl ?_
        refine d_nil ?_
        refine pw_ret ?_
        obtain rfl := Option.some.inj h
        exact ⟨rfl, [_], ⟨rfl, trivial⟩, rfl, by first | exact .inl rfl | exact .inr rfl⟩
      · skip
        refine sr (by kernel_rfl) ?_
        refine y0 rfl (o_fieldAddrP (k := 0) rfl Ty.f26_0 rfl) ?_
        refine y0 rfl (o_loadS rfl rfl rfl Ty.a3 rfl) ?_
        refine y0 rfl (o_move (d := .int .i64 a2) rfl) ?_
        refine y0 rfl (o_cmp rfl rfl rfl) ?_
        refine y_nil ?_
        refine pw_cond (a1.Kind == a2) rfl (fun hc => ?_) (fun hc => ?_)
        · have h := ifT h hc
          refine sr1 (by kernel_rfl) ?_
          refine y0 rfl (o_assign (d := .int .i64 1) rfl) ?_
          refine y_nil ?_
          exact ⟨rfl, 1, h, (wk_st _ _ ⟨rfl, rfl, rfl, rfl, rfl, rfl, rfl, rfl, rfl, rfl, rfl, rfl, rfl, rfl, rfl, trivial⟩ ⟨rowLe_same rfl rfl rfl (fun q => nomatch q) rfl rfl rfl, rowLe_same rfl rfl rfl (fun q => nomatch q) rfl rfl rfl, rowLe_same rfl rfl rfl (fun q => nomatch q) rfl rfl rfl, trivial⟩)⟩
        · have h := ifF h hc
          refine pw_skip ?_
          exact ⟨rfl, 0, h, (wk_st _ _ ⟨rfl, rfl, rfl, rfl, rfl, rfl, rfl, rfl, rfl, rfl, rfl, rfl, rfl, rfl, rfl, trivial⟩ ⟨rowLe_same rfl rfl rfl (fun q => nomatch q) rfl rfl rfl, rowLe_same rfl rfl rfl (fun q => nomatch q) rfl rfl rfl, rowLe_same rfl rfl rfl (fun q => nomatch q) rfl rfl rfl, trivial⟩)⟩

set_option maxHeartbeats 4000000 in
theorem w14_TaskTurns_ok {a0 : List task_Task} {a1 : Int} {a2 : Int} {r : Bool} (h : w14_TaskTurns a0 a1 a2 = some r) : PCalls Try.prog 6 [.lst false (List.map task_Task.Pv a0), .int .u8 a1, .int .i64 a2] (.bool r) := by
  unfold w14_TaskTurns at h
  refine pc_intro (N := 103) Try.func6 rfl rfl (Nat.le_of_ble_eq_true rfl) fun w0 imm0 => ?_
  refine sr (by kernel_rfl) ?_
  refine y0 rfl (o_assign (d := .bool false) rfl) ?_
  refine y_nil ?_
  refine pw_seq ?_
  refine sr (by kernel_rfl) ?_
  refine y0 rfl (o_move (d := .lst false (List.map task_Task.Pv a0)) rfl) ?_
  refine y0 rfl (o_lnL (f := task_Task.Pv) rfl Ty.e22) ?_
  refine y0 rfl (o_cmp rfl rfl rfl) ?_
  refine y0 rfl (o_move (d := .bool (decide ((a0.length : Int) > 30))) rfl) ?_
  obtain ⟨v1, hv1, h⟩ := bindE h
  refine y_if (g := ((decide ((a0.length : Int) > 30)) == false)) rfl (fun hg => o_call (ds := []) rfl Ty.k8 rfl (w14_shown_ok (onlyE hv1 hg))) ?_
  refine y_if (g := ((decide ((a0.length : Int) > 30)) == false)) rfl (fun hg => o_not (ct hg) rfl) ?_
  refine y0 rfl (pk_or rfl rfl rfl (fun q => eqF q)) ?_
  refine y_nil ?_
  refine pw_cond ((decide ((a0.length : Int) > 30)) || (!v1)) rfl (fun hc => ?_) (fun hc => ?_)
  · have h := ifT h hc
    refine sr (by kernel_rfl) ?_
    obtain ⟨v2, hv2, h⟩ := bindE h
    refine y0 rfl (o_call (ds := []) rfl Ty.k8 rfl (w14_shown_ok hv2)) ?_
    refine y0 rfl (o_assign (d := .bool v2) rfl) ?_
    refine y_nil ?_
    refine pw_ret ?_
    obtain rfl := Option.some.inj h
    exact ⟨rfl, [_], ⟨rfl, trivial⟩, rfl, by first | exact .inl rfl | exact .inr rfl⟩
  · have h := ifF h hc
    refine pw_skip ?_
    refine sr (by kernel_rfl) ?_
    obtain ⟨v3, hv3, h⟩ := bindE h
    refine yc rfl (o_callF (ls := []) (ds := []) rfl Ty.k22 rfl (task_New_ok hv3)) ?_
    refine y1 rfl (o_alloc (d := .agg [.lst false (List.map task_Task.Pv []), .int .i64 0]) (z := 2) rfl Ty.z24 rfl rfl rfl) rfl ?_
    refine y_sto (x' := queue_Queue_task_Task.Pv v3) (cl' := true) rfl rfl (.inr rfl) Ty.s24 ?_
    refine y_nil ?_
    obtain ⟨κ11, hκ9, h⟩ := jnE h
    refine pw_jn0 (κ := κ11) (r := r) (fun (j12 : queue_Queue_task_Task) => St.of [(0, .lst false (List.map task_Task.Pv a0)), (1, .int .u8 a1), (2, .int .i64 a2), (7, .ptr 7 0 0)] [(7, ⟨[queue_Queue_task_Task.Pv j12], 0, false, 2, true⟩)]) (fun j12 h => ?_) ?_
    · subst hκ9
      refine sr (by kernel_rfl) ?_
      refine y0 rfl (o_move (d := .int .u8 a1) rfl) ?_
      refine y0 rfl (o_conv rfl Ty.u5 Ty.i3 rfl) ?_
      obtain ⟨v13, hv10, h⟩ := bindE h
      refine y0 rfl (o_ari rfl rfl hv10) ?_
      refine y0 rfl (o_assign (d := .int .i64 v13) rfl) ?_
      refine y_nil ?_
      obtain ⟨κ20, hκ15, h⟩ := jnE h
      refine pw_jn0 (κ := κ20) (r := r) (fun (j21 : queue_Queue_task_Task) => St.of [(0, .lst false (List.map task_Task.Pv a0)), (2, .int .i64 a2), (7, .ptr 7 0 0), (9, .int .i64 v13)] [(7, ⟨[queue_Queue_task_Task.Pv j21], 0, false, 2, true⟩)]) (fun j21 h => ?_) ?_
      · subst hκ15
        refine sr (by kernel_rfl) ?_
        refine y0 rfl (o_assign (d := .bool false) rfl) ?_
        refine y_nil ?_
        refine sr (by kernel_rfl) ?_
        refine y0 rfl (o_nslice rfl Ty.e44 Ty.s3) ?_
        refine y0 rfl (o_assign (d := .lst true (List.map (PV.int .i64) [])) rfl) ?_
        refine y_nil ?_
        obtain ⟨κ40, hκ28, h⟩ := jnE h
        refine pw_jn0 (κ := κ40) (r := r) (fun (q : Bool × (List Int)) => St.of [(2, .int .i64 a2), (7, .ptr 7 0 0), (11, .bool q.1), (12, .sl 910012)] [(910012, ⟨List.map (PV.int .i64) q.2, (List.map (PV.int .i64) q.2).length, true, 1, true⟩), (7, ⟨[queue_Queue_task_Task.Pv j21], 0, false, 2, true⟩)]) (fun q43 h => ?_) ?_
        · subst hκ28
          obtain ⟨j41, j42⟩ := q43
          refine sr (by kernel_rfl) ?_
          refine y0 rfl (o_loadA (cs := queue_Queue_task_Task.Pc j21) rfl rfl rfl Ty.a24 Ty.s24 (Nat.le_of_ble_eq_true rfl) rfl) ?_
          refine y0 rfl (o_move (d := .int .i64 a2) rfl) ?_
          obtain ⟨v44, hv29, h⟩ := bindE h
          refine y0 rfl (o_call (ds := [queue_Queue_task_Task.Pv j21, .int .i64 a2]) rfl Ty.k18 rfl (task_Waits_ok hv29)) ?_
          refine y0 rfl (o_move (d := .bool j41) rfl) ?_
          refine y0 rfl (o_eqB rfl rfl Ty.u4 rfl) ?_
          refine y0 rfl (o_move (d := .bool (v44 == j41)) rfl) ?_
          refine y_if (g := ((v44 == j41) == true)) rfl (fun hg => o_loadA (cs := queue_Queue_task_Task.Pc j21) rfl rfl rfl Ty.a24 Ty.s24 (Nat.le_of_ble_eq_true rfl) rfl) ?_
          obtain ⟨v45, hv30, h⟩ := bindE h
          refine y_ifc (g := ((v44 == j41) == true)) rfl (fun hg => o_callF (ls := []) (ds := [queue_Queue_task_Task.Pv j21]) rfl Ty.k16 (consE (ct hg) rfl) (task_Held_ok (onlyE hv30 hg))) ?_
          refine y_if (g := ((v44 == j41) == true)) rfl (fun hg => o_move (d := .sl 910012) rfl) ?_
          obtain ⟨v46, hv31, h⟩ := bindE h
          refine y_if (g := ((v44 == j41) == true)) rfl (fun hg => o_call (ds := [.lst false (List.map (PV.int .i64) v45), .sl 910012]) rfl Ty.k15 (consE (ct hg) (consE (ct hg) rfl)) (r02_Ints_ok (onlyE hv31 hg))) ?_
          refine y0 rfl (pk_and rfl rfl rfl (fun q => eqT q)) ?_
          refine y0 rfl (o_assign (d := .bool ((v44 == j41) && v46)) rfl) ?_
          refine y_nil ?_
          refine pw_ret ?_
          obtain rfl := Option.some.inj h
          exact ⟨rfl, [_], ⟨rfl, trivial⟩, rfl, by first | exact .inl rfl | exact .inr rfl⟩
        · skip
          refine sr (by kernel_rfl) ?_
          refine y0 rfl (o_move (d := .int .i64 v13) rfl) ?_
          refine y0 rfl (o_assign (d := .int .i64 v13) rfl) ?_
          refine y_nil ?_
          refine pw_block ?_
          obtain ⟨e47, hl32, hk33⟩ := bindE h
          refine pw_lp0 (fun (q : Bool × Int × (List Int)) => St.of [(0, .lst false (List.map task_Task.Pv a0)), (2, .int .i64 a2), (7, .ptr 7 0 0), (11, .bool q.1), (12, .sl 910012), (13, .int .i64 q.2.1)] [(7, ⟨[queue_Queue_task_Task.Pv j21], 0, false, 2, true⟩), (910012, ⟨List.map (PV.int .i64) q.2.2, (List.map (PV.int .i64) q.2.2).length, true, 1, true⟩)]) hl32 (Wk.trans (wk_nil (t := 12) (l := 920012) (z := 1) rfl rfl) (wk_stP (fun l => if l = 910012 then 920012 else l) _ _ ⟨rfl, rfl, rfl, rfl, rfl, rfl, rfl, rfl, rfl, rfl, rfl, rfl, rfl, rfl, rfl, rfl, rfl, rfl, trivial⟩ ⟨rowLe_ren rfl rfl rfl (fun q => nomatch q) rfl rfl rfl, rowLe_ren rfl rfl rfl (fun _ => rfl) rfl rfl rfl, trivial⟩ rfl)) (fun q52 x51 h hx34 => ?_)
          obtain ⟨s48, s49, s50⟩ := q52
          refine pw_seq ?_
          refine sr (by kernel_rfl) ?_
          refine y0 rfl (o_move (d := .int .i64 s49) rfl) ?_
          refine y0 rfl (o_move (d := .lst false (List.map task_Task.Pv a0)) rfl) ?_
          refine y0 rfl (o_lnL (f := task_Task.Pv) rfl Ty.e22) ?_
          refine y0 rfl (o_cmp rfl rfl rfl) ?_
          refine y_nil ?_
          refine pw_cond (decide (s49 < (a0.length : Int))) rfl (fun hc => ?_) (fun hc => ?_)
          · have h := ifT h hc
            refine pw_skip ?_
            obtain ⟨κ57, hκ39, h⟩ := jnE h
            refine pw_jn0 (κ := κ57) (r := x51) (fun (q : Bool × (List Int)) => St.of [(0, .lst false (List.map task_Task.Pv a0)), (2, .int .i64 a2), (7, .ptr 7 0 0), (11, .bool q.1), (12, .sl 91), (13, .int .i64 s49)] [(91, ⟨List.map (PV.int .i64) q.2, (List.map (PV.int .i64) q.2).length, true, 1, true⟩), (7, ⟨[queue_Queue_task_Task.Pv j21], 0, false, 2, true⟩)]) (fun q60 h => ?_) ?_
            · subst hκ39
              obtain ⟨j58, j59⟩ := q60
              refine sr1 (by kernel_rfl) ?_
              refine y0 rfl (o_move (d := .int .i64 s49) rfl) ?_
              refine y0 rfl (o_ari rfl rfl rfl) ?_
              refine y0 rfl (o_assign (d := .int .i64 (w64 (s49 + 1))) rfl) ?_
              refine y_nil ?_
              exact ⟨rfl, (j58, w64 (s49 + 1), j59), (Option.some.inj h).symm, (Wk.trans (wk_frz _ [91]) (wk_stP (fun l => if l = 910012 then 91 else l) _ _ ⟨rfl, rfl, rfl, rfl, rfl, rfl, rfl, rfl, rfl, rfl, rfl, rfl, rfl, rfl, rfl, rfl, rfl, rfl, trivial⟩ ⟨rowLe_ren rfl rfl rfl (fun q => nomatch q) rfl rfl rfl, rowLe_ren rfl rfl rfl (fun _ => rfl) rfl rfl rfl, trivial⟩ rfl))⟩
            · skip
              refine pw_block ?_
              refine sr (by kernel_rfl) ?_
              refine y0 rfl (o_move (d := .bool s48) rfl) ?_
              refine y0 rfl (o_move (d := .bool s48) rfl) ?_
              refine y_if (g := (s48 == false)) rfl (fun hg => o_move (d := .lst false (List.map task_Task.Pv a0)) rfl) ?_
              refine y_if (g := (s48 == false)) rfl (fun hg => o_move (d := .int .i64 s49) rfl) ?_
              obtain ⟨v61, hv40, h⟩ := bindE h
              refine y_if (g := (s48 == false)) rfl (fun hg => o_ixL (f := task_Task.Pv) (cs := task_Task.Pc v61) (onlyE hv40 hg) (ct hg) (ct hg) Ty.e22 Ty.s26 rfl rfl) ?_
              refine y_if (g := (s48 == false)) rfl (fun hg => o_fieldAddrR (ct hg) Ty.f26_0 rfl) ?_
              refine y_if (g := (s48 == false)) rfl (fun hg => o_loadRS (ct hg) Ty.a3 rfl) ?_
              refine y_if (g := (s48 == false)) rfl (fun hg => o_cmp (ct hg) rfl rfl) ?_
              refine y_if (g := (s48 == false)) rfl (fun hg => o_move (d := .bool (v61.Kind == 2)) (ct hg)) ?_
              refine y_if (g := ((s48 == false) && ((v61.Kind == 2) == true))) (want2 rfl rfl rfl) (fun hg => o_move (d := .lst false (List.map task_Task.Pv a0)) rfl) ?_
              refine y_if (g := ((s48 == false) && ((v61.Kind == 2) == true))) (want2 rfl rfl rfl) (fun hg => o_move (d := .int .i64 s49) rfl) ?_
              obtain ⟨v62, hv41, h⟩ := bindE h
              refine y_if (g := ((s48 == false) && ((v61.Kind == 2) == true))) (want2 rfl rfl rfl) (fun hg => o_ixL (f := task_Task.Pv) (cs := task_Task.Pc v62) (onlyE hv41 hg) (ct hg) (ct hg) Ty.e22 Ty.s26 rfl rfl) ?_
              refine y_if (g := ((s48 == false) && ((v61.Kind == 2) == true))) (want2 rfl rfl rfl) (fun hg => o_fieldAddrR (ct hg) Ty.f26_1 rfl) ?_
              refine y_if (g := ((s48 == false) && ((v61.Kind == 2) == true))) (want2 rfl rfl rfl) (fun hg => o_loadRS (ct hg) Ty.a3 rfl) ?_
              refine y_if (g := ((s48 == false) && ((v61.Kind == 2) == true))) (want2 rfl rfl rfl) (fun hg => o_move (d := .int .i64 a2) rfl) ?_
              refine y_if (g := ((s48 == false) && ((v61.Kind == 2) == true))) (want2 rfl rfl rfl) (fun hg => o_cmp (ct hg) (ct hg) rfl) ?_
              refine y_if (g := (s48 == false)) rfl (fun hg => pk_and (ct hg) rfl rfl (fun q => andI hg (eqT q))) ?_
              refine y0 rfl (pk_or rfl rfl rfl (fun q => eqF q)) ?_
              refine y0 rfl (o_assign (d := .bool (s48 || ((v61.Kind == 2) && (v62.At == a2)))) rfl) ?_
              refine y_nil ?_
              refine sr (by kernel_rfl) ?_
              refine y0 rfl (o_move (d := .lst false (List.map task_Task.Pv a0)) rfl) ?_
              refine y0 rfl (o_move (d := .int .i64 s49) rfl) ?_
              obtain ⟨v63, hv42, h⟩ := bindE h
              refine y0 rfl (o_ixL (f := task_Task.Pv) (cs := task_Task.Pc v63) hv42 rfl rfl Ty.e22 Ty.s26 rfl rfl) ?_
              refine y0 rfl (o_fieldAddrR rfl Ty.f26_0 rfl) ?_
              refine y0 rfl (o_loadRS rfl Ty.a3 rfl) ?_
              refine y0 rfl (o_cmp rfl rfl rfl) ?_
              refine y_nil ?_
              refine pw_cond (v63.Kind == 1) rfl (fun hc => ?_) (fun hc => ?_)
              · have h := ifT h hc
                refine sr1 (by kernel_rfl) ?_
                refine y0 rfl (o_move (d := .sl 910012) rfl) ?_
                refine y0 rfl (o_move (d := .lst false (List.map task_Task.Pv a0)) rfl) ?_
                refine y0 rfl (o_move (d := .int .i64 s49) rfl) ?_
                refine y0 rfl (o_ixL (f := task_Task.Pv) (cs := task_Task.Pc v63) hv42 rfl rfl Ty.e22 Ty.s26 rfl rfl) ?_
                refine y0 rfl (o_fieldAddrR rfl Ty.f26_1 rfl) ?_
                refine y0 rfl (o_loadRS rfl Ty.a3 rfl) ?_
                refine y0 rfl (o_bI (f := (PV.int .i64)) (l := [v63.At]) rfl Ty.e44 Ty.s3 Ty.z3 rfl rfl (Nat.le_of_ble_eq_true rfl) rfl rfl) ?_
                obtain ⟨v64, hv43, h⟩ := bindE h
                refine y_app rfl (o_apR (f := (PV.int .i64)) hv43 rfl rfl rfl rfl rfl rfl (.inl ⟨_, rfl, rfl⟩) Ty.e44 Ty.s3 Ty.b3 Ty.z3 rfl (fun _ => rfl)) rfl rfl rfl ?_
                refine y0 rfl (o_assign (d := .sl 91) rfl) ?_
                refine y_nil ?_
                exact ⟨rfl, ((s48 || ((v61.Kind == 2) && (v62.At == a2))), v64), h, (Wk.trans (wk_frz _ [91]) (wk_st _ _ ⟨rfl, rfl, rfl, rfl, rfl, rfl, rfl, rfl, rfl, rfl, rfl, rfl, rfl, rfl, rfl, rfl, rfl, rfl, trivial⟩ ⟨rowLe_same rfl rfl rfl (fun _ => rfl) rfl rfl rfl, rowLe_same rfl rfl rfl (fun q => nomatch q) rfl rfl rfl, trivial⟩))⟩
              · have h := ifF h hc
                refine pw_skip ?_
                exact ⟨rfl, ((s48 || ((v61.Kind == 2) && (v62.At == a2))), s50), h, (Wk.trans (wk_frz _ [910012]) (wk_stP (fun l => if l = 91 then 910012 else l) _ _ ⟨rfl, rfl, rfl, rfl, rfl, rfl, rfl, rfl, rfl, rfl, rfl, rfl, rfl, rfl, rfl, rfl, rfl, rfl, trivial⟩ ⟨rowLe_ren rfl rfl rfl (fun _ => rfl) rfl rfl rfl, rowLe_ren rfl rfl rfl (fun q => nomatch q) rfl rfl rfl, trivial⟩ rfl))⟩
          · have h := ifF h hc
            refine pw_exit ?_
            refine thenQ_exit ?_
            refine thenQ_exit ?_
            refine blockQ_exit ?_
            have he := hx34 _ (Option.some.inj h).symm
            have h := hk33
            rw [← he] at h
            exact ⟨rfl, (s48, s50), h, (Wk.trans (wk_frz _ [910012]) (wk_st _ _ ⟨rfl, rfl, rfl, rfl, rfl, rfl, rfl, rfl, rfl, rfl, rfl, rfl, trivial⟩ ⟨rowLe_same rfl rfl rfl (fun _ => rfl) rfl rfl rfl, rowLe_same rfl rfl rfl (fun q => nomatch q) rfl rfl rfl, trivial⟩))⟩
      · skip
        refine sr (by kernel_rfl) ?_
        refine y0 rfl (o_assign (d := .int .i64 0) rfl) ?_
        refine y_nil ?_
        refine pw_block ?_
        obtain ⟨e65, hl44, hk45⟩ := bindE h
        refine pw_lp0 (fun (q : Int × queue_Queue_task_Task) => St.of [(0, .lst false (List.map task_Task.Pv a0)), (2, .int .i64 a2), (7, .ptr 7 0 0), (9, .int .i64 v13), (10, .int .i64 q.1)] [(7, ⟨[queue_Queue_task_Task.Pv q.2], 0, false, 2, true⟩)]) hl44 (wk_st _ _ ⟨rfl, rfl, rfl, rfl, rfl, rfl, rfl, rfl, rfl, rfl, rfl, rfl, rfl, rfl, rfl, trivial⟩ ⟨rowLe_same rfl rfl rfl (fun q => nomatch q) rfl rfl rfl, trivial⟩) (fun q69 x68 h hx46 => ?_)
        obtain ⟨s66, s67⟩ := q69
        refine pw_seq ?_
        refine sr (by kernel_rfl) ?_
        refine y0 rfl (o_move (d := .int .i64 s66) rfl) ?_
        refine y0 rfl (o_move (d := .int .i64 v13) rfl) ?_
        refine y0 rfl (o_cmp rfl rfl rfl) ?_
        refine y_nil ?_
        refine pw_cond (decide (s66 < v13)) rfl (fun hc => ?_) (fun hc => ?_)
        · have h := ifT h hc
          refine pw_skip ?_
          refine pw_seq ?_
          refine pw_block ?_
          refine sr1 (by kernel_rfl) ?_
          refine y0 rfl (o_loadA (cs := queue_Queue_task_Task.Pc s67) rfl rfl rfl Ty.a24 Ty.s24 (Nat.le_of_ble_eq_true rfl) rfl) ?_
          obtain ⟨v70, hv47, h⟩ := bindE h
          refine yc rfl (o_callF (ls := []) (ds := [queue_Queue_task_Task.Pv s67]) rfl Ty.k12 rfl (task_Next_ok hv47)) ?_
          refine y0 rfl (o_move (d := .tup [queue_Queue_task_Task.Pv v70.1, task_Task.Pv v70.2.1, .int .i64 v70.2.2]) rfl) ?_
          refine y0 rfl (o_extract rfl rfl) ?_
          refine y0 rfl (o_extract rfl rfl) ?_
          refine y0 rfl (o_extract rfl rfl) ?_
          refine y_sto (x' := queue_Queue_task_Task.Pv v70.1) (cl' := true) rfl rfl (.inr rfl) Ty.s24 ?_
          refine y_nil ?_
          refine sr1 (by kernel_rfl) ?_
          refine y0 rfl (o_move (d := .int .i64 s66) rfl) ?_
          refine y0 rfl (o_ari rfl rfl rfl) ?_
          refine y0 rfl (o_assign (d := .int .i64 (w64 (s66 + 1))) rfl) ?_
          refine y_nil ?_
          exact ⟨rfl, (w64 (s66 + 1), v70.1), (Option.some.inj h).symm, (wk_st _ _ ⟨rfl, rfl, rfl, rfl, rfl, rfl, rfl, rfl, rfl, rfl, rfl, rfl, rfl, rfl, rfl, trivial⟩ ⟨rowLe_same rfl rfl rfl (fun q => nomatch q) rfl rfl rfl, trivial⟩)⟩
        · have h := ifF h hc
          refine pw_exit ?_
          refine thenQ_exit ?_
          refine thenQ_exit ?_
          refine blockQ_exit ?_
          have he := hx46 _ (Option.some.inj h).symm
          have h := hk45
          rw [← he] at h
          exact ⟨rfl, s67, h, (wk_st _ _ ⟨rfl, rfl, rfl, rfl, rfl, rfl, rfl, rfl, rfl, rfl, rfl, rfl, trivial⟩ ⟨rowLe_same rfl rfl rfl (fun q => nomatch q) rfl rfl rfl, trivial⟩)⟩
    · skip
      refine sr (by kernel_rfl) ?_
      refine y0 rfl (o_assign (d := .int .i64 0) rfl) ?_
      refine y_nil ?_
      refine pw_block ?_
      obtain ⟨e71, hl48, hk49⟩ := bindE h
      refine pw_lp0 (fun (q : Int × queue_Queue_task_Task) => St.of [(0, .lst false (List.map task_Task.Pv a0)), (1, .int .u8 a1), (2, .int .i64 a2), (7, .ptr 7 0 0), (8, .int .i64 q.1)] [(7, ⟨[queue_Queue_task_Task.Pv q.2], 0, false, 2, true⟩)]) hl48 (wk_st _ _ ⟨rfl, rfl, rfl, rfl, rfl, rfl, rfl, rfl, rfl, rfl, rfl, rfl, rfl, rfl, rfl, trivial⟩ ⟨rowLe_same rfl rfl rfl (fun q => nomatch q) rfl rfl rfl, trivial⟩) (fun q75 x74 h hx50 => ?_)
      obtain ⟨s72, s73⟩ := q75
      refine pw_seq ?_
      refine sr (by kernel_rfl) ?_
      refine y0 rfl (o_move (d := .int .i64 s72) rfl) ?_
      refine y0 rfl (o_move (d := .lst false (List.map task_Task.Pv a0)) rfl) ?_
      refine y0 rfl (o_lnL (f := task_Task.Pv) rfl Ty.e22) ?_
      refine y0 rfl (o_cmp rfl rfl rfl) ?_
      refine y_nil ?_
      refine pw_cond (decide (s72 < (a0.length : Int))) rfl (fun hc => ?_) (fun hc => ?_)
      · have h := ifT h hc
        refine pw_skip ?_
        refine pw_seq ?_
        refine pw_block ?_
        refine pw_drw [] Ty.mix (by kernel_rfl) (by kernel_rfl) ?_
        refine d0 rfl (o_loadA (cs := queue_Queue_task_Task.Pc s73) rfl rfl rfl Ty.a24 Ty.s24 (Nat.le_of_ble_eq_true rfl) rfl) rfl ?_
        refine d7 rfl (fun _ hN => o_move (d := .lst false (List.map task_Task.Pv a0)) rfl) rfl ?_
        refine d7 rfl (fun _ hN => o_move (d := .int .i64 s72) rfl) rfl ?_
        obtain ⟨v76, hv51, h⟩ := bindE h
        refine d0 rfl (o_ixL (f := task_Task.Pv) (cs := task_Task.Pc v76) hv51 rfl rfl Ty.e22 Ty.s26 rfl rfl) rfl ?_
        refine d0 rfl (o_loadRA (cs := task_Task.Pc v76) rfl Ty.a26 Ty.s26 (Nat.le_of_ble_eq_true rfl) rfl) rfl ?_
        obtain ⟨v77, hv52, h⟩ := bindE h
        refine d2f rfl (o_callF (ls := []) (ds := [queue_Queue_task_Task.Pv s73, task_Task.Pv v76]) rfl Ty.k10 rfl (task_Add_ok hv52)) rfl ?_
        refine d7 rfl (fun _ hN => o_move (d := .tup [queue_Queue_task_Task.Pv v77.1, .int .i64 v77.2]) rfl) rfl ?_
        refine d7 rfl (fun _ hN => o_extract rfl rfl) rfl ?_
        refine d7 rfl (fun _ hN => o_extract rfl rfl) rfl ?_
        refine d_sto (x' := queue_Queue_task_Task.Pv v77.1) (cl' := true) rfl rfl (.inr rfl) Ty.s24 ?_
        refine d_nil ?_
        refine sr1 (by kernel_rfl) ?_
        refine y0 rfl (o_move (d := .int .i64 s72) rfl) ?_
        refine y0 rfl (o_ari rfl rfl rfl) ?_
        refine y0 rfl (o_assign (d := .int .i64 (w64 (s72 + 1))) rfl) ?_
        refine y_nil ?_
        exact ⟨rfl, (w64 (s72 + 1), v77.1), (Option.some.inj h).symm, (wk_st _ _ ⟨rfl, rfl, rfl, rfl, rfl, rfl, rfl, rfl, rfl, rfl, rfl, rfl, rfl, rfl, rfl, trivial⟩ ⟨rowLe_same rfl rfl rfl (fun q => nomatch q) rfl rfl rfl, trivial⟩)⟩
      · have h := ifF h hc
        refine pw_exit ?_
        refine thenQ_exit ?_
        refine thenQ_exit ?_
        refine blockQ_exit ?_
        have he := hx50 _ (Option.some.inj h).symm
        have h := hk49
        rw [← he] at h
        exact ⟨rfl, s73, h, (wk_st _ _ ⟨rfl, rfl, rfl, rfl, rfl, rfl, rfl, rfl, rfl, rfl, rfl, rfl, trivial⟩ ⟨rowLe_same rfl rfl rfl (fun q => nomatch q) rfl rfl rfl, trivial⟩)⟩

set_option maxHeartbeats 4000000 in
theorem w14_TaskOwn_ok {a0 : queue_Queue_task_Task} {a1 : task_Task} {a2 : task_Task} {r : Bool} (h : w14_TaskOwn a0 a1 a2 = some r) : PCalls Try.prog 7 [queue_Queue_task_Task.Pv a0, task_Task.Pv a1, task_Task.Pv a2] (.bool r) := by
  unfold w14_TaskOwn at h
  refine pc_intro (N := 91) Try.func7 rfl rfl (Nat.le_of_ble_eq_true rfl) fun w0 imm0 => ?_
  refine sr (by kernel_rfl) ?_
  refine y1 rfl (o_box (d := queue_Queue_task_Task.Pv a0) (z := 2) (cl := true) rfl rfl rfl rfl rfl) rfl ?_
  refine y1 rfl (o_box (d := task_Task.Pv a1) (z := 3) (cl := true) rfl rfl rfl rfl rfl) rfl ?_
  refine y1 rfl (o_box (d := task_Task.Pv a2) (z := 3) (cl := true) rfl rfl rfl rfl rfl) rfl ?_
  refine y0 rfl (o_assign (d := .bool false) rfl) ?_
  refine y_nil ?_
  refine pw_seq ?_
  refine sr (by kernel_rfl) ?_
  refine y0 rfl (o_fieldAddrP (k := 0) rfl Ty.f24_0 rfl) ?_
  refine y0 rfl (o_loadS rfl rfl rfl Ty.a22 rfl) ?_
  refine y0 rfl (o_lnL (f := task_Task.Pv) rfl Ty.e22) ?_
  refine y0 rfl (o_cmp rfl rfl rfl) ?_
  refine y0 rfl (o_move (d := .bool (decide ((a0.L.length : Int) > 60))) rfl) ?_
  obtain ⟨v1, hv1, h⟩ := bindE h
  refine y_if (g := ((decide ((a0.L.length : Int) > 60)) == false)) rfl (fun hg => o_call (ds := []) rfl Ty.k8 rfl (w14_shown_ok (onlyE hv1 hg))) ?_
  refine y_if (g := ((decide ((a0.L.length : Int) > 60)) == false)) rfl (fun hg => o_not (ct hg) rfl) ?_
  refine y0 rfl (pk_or rfl rfl rfl (fun q => eqF q)) ?_
  refine y_nil ?_
  refine pw_cond ((decide ((a0.L.length : Int) > 60)) || (!v1)) rfl (fun hc => ?_) (fun hc => ?_)
  · have h := ifT h hc
    refine sr (by kernel_rfl) ?_
    obtain ⟨v2, hv2, h⟩ := bindE h
    refine y0 rfl (o_call (ds := []) rfl Ty.k8 rfl (w14_shown_ok hv2)) ?_
    refine y0 rfl (o_assign (d := .bool v2) rfl) ?_
    refine y_nil ?_
    refine pw_ret ?_
    obtain rfl := Option.some.inj h
    exact ⟨rfl, [_], ⟨rfl, trivial⟩, rfl, by first | exact .inl rfl | exact .inr rfl⟩
  · have h := ifF h hc
    refine pw_skip ?_
    refine sr (by kernel_rfl) ?_
    refine y0 rfl (o_loadA (cs := queue_Queue_task_Task.Pc a0) rfl rfl rfl Ty.a24 Ty.s24 (Nat.le_of_ble_eq_true rfl) rfl) ?_
    refine y0 rfl (o_loadA (cs := task_Task.Pc a1) rfl rfl rfl Ty.a26 Ty.s26 (Nat.le_of_ble_eq_true rfl) rfl) ?_
    obtain ⟨v3, hv3, h⟩ := bindE h
    refine yc rfl (o_callF (ls := []) (ds := [queue_Queue_task_Task.Pv a0, task_Task.Pv a1]) rfl Ty.k10 rfl (task_Add_ok hv3)) ?_
    refine y0 rfl (o_move (d := .tup [queue_Queue_task_Task.Pv v3.1, .int .i64 v3.2]) rfl) ?_
    refine y0 rfl (o_extract rfl rfl) ?_
    refine y0 rfl (o_extract rfl rfl) ?_
    refine y1 rfl (o_alloc (d := .agg [.lst false (List.map task_Task.Pv []), .int .i64 0]) (z := 2) rfl Ty.z24 rfl rfl rfl) rfl ?_
    refine y_sto (x' := queue_Queue_task_Task.Pv v3.1) (cl' := true) rfl rfl (.inr rfl) Ty.s24 ?_
    refine y0 rfl (o_assign (d := .int .i64 v3.2) rfl) ?_
    refine y_nil ?_
    refine sr (by kernel_rfl) ?_
    refine y0 rfl (o_loadA (cs := queue_Queue_task_Task.Pc a0) rfl rfl rfl Ty.a24 Ty.s24 (Nat.le_of_ble_eq_true rfl) rfl) ?_
    refine y0 rfl (o_loadA (cs := task_Task.Pc a2) rfl rfl rfl Ty.a26 Ty.s26 (Nat.le_of_ble_eq_true rfl) rfl) ?_
    obtain ⟨v4, hv4, h⟩ := bindE h
    refine yc rfl (o_callF (ls := []) (ds := [queue_Queue_task_Task.Pv a0, task_Task.Pv a2]) rfl Ty.k10 rfl (task_Add_ok hv4)) ?_
    refine y0 rfl (o_move (d := .tup [queue_Queue_task_Task.Pv v4.1, .int .i64 v4.2]) rfl) ?_
    refine y0 rfl (o_extract rfl rfl) ?_
    refine y0 rfl (o_extract rfl rfl) ?_
    refine y1 rfl (o_alloc (d := .agg [.lst false (List.map task_Task.Pv []), .int .i64 0]) (z := 2) rfl Ty.z24 rfl rfl rfl) rfl ?_
    refine y_sto (x' := queue_Queue_task_Task.Pv v4.1) (cl' := true) rfl rfl (.inr rfl) Ty.s24 ?_
    refine y0 rfl (o_assign (d := .int .i64 v4.2) rfl) ?_
    refine y_nil ?_
    refine sr (by kernel_rfl) ?_
    refine y0 rfl (o_fieldAddrP (k := 0) rfl Ty.f24_0 rfl) ?_
    refine y0 rfl (o_loadS rfl rfl rfl Ty.a22 rfl) ?_
    refine y0 rfl (o_lnL (f := task_Task.Pv) rfl Ty.e22) ?_
    refine y0 rfl (o_assign (d := .int .i64 (a0.L.length : Int)) rfl) ?_
    refine y_nil ?_
    refine pw_seq ?_
    refine sr (by kernel_rfl) ?_
    refine y0 rfl (o_move (d := .int .i64 v3.2) rfl) ?_
    refine y0 rfl (o_cmp rfl rfl rfl) ?_
    refine y_nil ?_
    refine pw_cond (v3.2 != 0) rfl (fun hc => ?_) (fun hc => ?_)
    · have h := ifT h hc
      refine sr (by kernel_rfl) ?_
      refine y0 rfl (o_move (d := .int .i64 v4.2) rfl) ?_
      refine y0 rfl (o_move (d := .int .i64 v3.2) rfl) ?_
      refine y0 rfl (o_cmp rfl rfl rfl) ?_
      refine y0 rfl (o_move (d := .bool (v4.2 == v3.2)) rfl) ?_
      refine y_if (g := ((v4.2 == v3.2) == true)) rfl (fun hg => o_fieldAddrP (k := 0) rfl Ty.f24_0 rfl) ?_
      refine y_if (g := ((v4.2 == v3.2) == true)) rfl (fun hg => o_loadS (ct hg) rfl rfl Ty.a22 rfl) ?_
      refine y_if (g := ((v4.2 == v3.2) == true)) rfl (fun hg => o_lnL (f := task_Task.Pv) (ct hg) Ty.e22) ?_
      refine y_if (g := ((v4.2 == v3.2) == true)) rfl (fun hg => o_move (d := .int .i64 (a0.L.length : Int)) rfl) ?_
      refine y_if (g := ((v4.2 == v3.2) == true)) rfl (fun hg => o_cmp (ct hg) (ct hg) rfl) ?_
      refine y0 rfl (pk_and rfl rfl rfl (fun q => eqT q)) ?_
      refine y0 rfl (o_move (d := .bool ((v4.2 == v3.2) && ((v3.1.L.length : Int) == (a0.L.length : Int)))) rfl) ?_
      refine y_if (g := (((v4.2 == v3.2) && ((v3.1.L.length : Int) == (a0.L.length : Int))) == true)) rfl (fun hg => o_fieldAddrP (k := 0) rfl Ty.f24_0 rfl) ?_
      refine y_if (g := (((v4.2 == v3.2) && ((v3.1.L.length : Int) == (a0.L.length : Int))) == true)) rfl (fun hg => o_loadS (ct hg) rfl rfl Ty.a22 rfl) ?_
      refine y_if (g := (((v4.2 == v3.2) && ((v3.1.L.length : Int) == (a0.L.length : Int))) == true)) rfl (fun hg => o_lnL (f := task_Task.Pv) (ct hg) Ty.e22) ?_
      refine y_if (g := (((v4.2 == v3.2) && ((v3.1.L.length : Int) == (a0.L.length : Int))) == true)) rfl (fun hg => o_move (d := .int .i64 (a0.L.length : Int)) rfl) ?_
      refine y_if (g := (((v4.2 == v3.2) && ((v3.1.L.length : Int) == (a0.L.length : Int))) == true)) rfl (fun hg => o_cmp (ct hg) (ct hg) rfl) ?_
      refine y0 rfl (pk_and rfl rfl rfl (fun q => eqT q)) ?_
      refine y0 rfl (o_assign (d := .bool (((v4.2 == v3.2) && ((v3.1.L.length : Int) == (a0.L.length : Int))) && ((v4.1.L.length : Int) == (a0.L.length : Int)))) rfl) ?_
      refine y_nil ?_
      refine pw_ret ?_
      obtain rfl := Option.some.inj h
      exact ⟨rfl, [_], ⟨rfl, trivial⟩, rfl, by first | exact .inl rfl | exact .inr rfl⟩
    · have h := ifF h hc
      refine pw_skip ?_
      refine dr [] Ty.mix (by kernel_rfl) (by kernel_rfl) ?_
      refine d7 rfl (fun _ hN => o_move (d := .int .i64 v4.2) rfl) rfl ?_
      refine d7 rfl (fun _ hN => o_cmp rfl rfl rfl) rfl ?_
      refine d7 rfl (fun _ hN => o_move (d := .bool (v4.2 == 0)) rfl) rfl ?_
      refine d_if7 (g := ((v4.2 == 0) == true)) rfl (fun hg _ hN => o_fieldAddrP (k := 0) rfl Ty.f24_0 rfl) rfl ?_
      refine d_if0 (g := ((v4.2 == 0) == true)) rfl (fun hg => o_loadS (ct hg) rfl rfl Ty.a22 rfl) rfl ?_
      refine d_if0 (g := ((v4.2 == 0) == true)) rfl (fun hg => o_lnL (f := task_Task.Pv) (ct hg) Ty.e22) rfl ?_
      refine d_if7 (g := ((v4.2 == 0) == true)) rfl (fun hg _ hN => o_move (d := .int .i64 (a0.L.length : Int)) rfl) rfl ?_
      refine d_if7 (g := ((v4.2 == 0) == true)) rfl (fun hg _ hN => o_ari (ct hg) rfl rfl) rfl ?_
      refine d_if7 (g := ((v4.2 == 0) == true)) rfl (fun hg _ hN => o_cmp (ct hg) (ct hg) rfl) rfl ?_
      refine d7 rfl (fun _ hN => pk_and rfl rfl rfl (fun q => eqT q)) rfl ?_
      refine d7 rfl (fun _ hN => o_move (d := .bool ((v4.2 == 0) && ((v3.1.L.length : Int) == (w64 ((a0.L.length : Int) + 1))))) rfl) rfl ?_
      refine d_if7 (g := (((v4.2 == 0) && ((v3.1.L.length : Int) == (w64 ((a0.L.length : Int) + 1)))) == true)) rfl (fun hg _ hN => o_fieldAddrP (k := 0) rfl Ty.f24_0 rfl) rfl ?_
      refine d_if0 (g := (((v4.2 == 0) && ((v3.1.L.length : Int) == (w64 ((a0.L.length : Int) + 1)))) == true)) rfl (fun hg => o_loadS (ct hg) rfl rfl Ty.a22 rfl) rfl ?_
      refine d_if0 (g := (((v4.2 == 0) && ((v3.1.L.length : Int) == (w64 ((a0.L.length : Int) + 1)))) == true)) rfl (fun hg => o_lnL (f := task_Task.Pv) (ct hg) Ty.e22) rfl ?_
      refine d_if7 (g := (((v4.2 == 0) && ((v3.1.L.length : Int) == (w64 ((a0.L.length : Int) + 1)))) == true)) rfl (fun hg _ hN => o_move (d := .int .i64 (a0.L.length : Int)) rfl) rfl ?_
      refine d_if7 (g := (((v4.2 == 0) && ((v3.1.L.length : Int) == (w64 ((a0.L.length : Int) + 1)))) == true)) rfl (fun hg _ hN => o_ari (ct hg) rfl rfl) rfl ?_
      refine d_if7 (g := (((v4.2 == 0) && ((v3.1.L.length : Int) == (w64 ((a0.L.length : Int) + 1)))) == true)) rfl (fun hg _ hN => o_cmp (ct hg) (ct hg) rfl) rfl ?_
      refine d7 rfl (fun _ hN => pk_and rfl rfl rfl (fun q => eqT q)) rfl ?_
      refine d7 rfl (fun _ hN => o_move (d := .bool (((v4.2 == 0) && ((v3.1.L.length : Int) == (w64 ((a0.L.length : Int) + 1)))) && ((v4.1.L.length : Int) == (w64 ((a0.L.length : Int) + 1))))) rfl) rfl ?_
      refine d_if7 (g := ((((v4.2 == 0) && ((v3.1.L.length : Int) == (w64 ((a0.L.length : Int) + 1)))) && ((v4.1.L.length : Int) == (w64 ((a0.L.length : Int) + 1)))) == true)) rfl (fun hg _ hN => o_fieldAddrP (k := 0) rfl Ty.f24_0 rfl) rfl ?_
      refine d_if0 (g := ((((v4.2 == 0) && ((v3.1.L.length : Int) == (w64 ((a0.L.length : Int) + 1)))) && ((v4.1.L.length : Int) == (w64 ((a0.L.length : Int) + 1)))) == true)) rfl (fun hg => o_loadS (ct hg) rfl rfl Ty.a22 rfl) rfl ?_
      refine d_if7 (g := ((((v4.2 == 0) && ((v3.1.L.length : Int) == (w64 ((a0.L.length : Int) + 1)))) && ((v4.1.L.length : Int) == (w64 ((a0.L.length : Int) + 1)))) == true)) rfl (fun hg _ hN => o_move (d := .int .i64 (a0.L.length : Int)) rfl) rfl ?_
      obtain ⟨v5, hv5, h⟩ := bindE h
      refine d_if0 (g := ((((v4.2 == 0) && ((v3.1.L.length : Int) == (w64 ((a0.L.length : Int) + 1)))) && ((v4.1.L.length : Int) == (w64 ((a0.L.length : Int) + 1)))) == true)) rfl (fun hg => o_ixL (f := task_Task.Pv) (cs := task_Task.Pc v5) (onlyE hv5 hg) (ct hg) (ct hg) Ty.e22 Ty.s26 rfl rfl) rfl ?_
      refine d_if0 (g := ((((v4.2 == 0) && ((v3.1.L.length : Int) == (w64 ((a0.L.length : Int) + 1)))) && ((v4.1.L.length : Int) == (w64 ((a0.L.length : Int) + 1)))) == true)) rfl (fun hg => o_loadRA (cs := task_Task.Pc v5) (ct hg) Ty.a26 Ty.s26 (Nat.le_of_ble_eq_true rfl) rfl) rfl ?_
      refine d_if0 (g := ((((v4.2 == 0) && ((v3.1.L.length : Int) == (w64 ((a0.L.length : Int) + 1)))) && ((v4.1.L.length : Int) == (w64 ((a0.L.length : Int) + 1)))) == true)) rfl (fun hg => o_loadA (cs := task_Task.Pc a1) rfl rfl rfl Ty.a26 Ty.s26 (Nat.le_of_ble_eq_true rfl) rfl) rfl ?_
      refine d_if7 (g := ((((v4.2 == 0) && ((v3.1.L.length : Int) == (w64 ((a0.L.length : Int) + 1)))) && ((v4.1.L.length : Int) == (w64 ((a0.L.length : Int) + 1)))) == true)) rfl (fun hg _ hN => o_eqA (xs := task_Task.Pc v5) (ys := task_Task.Pc a1) Ty.q26 (ct hg) (ct hg) rfl) rfl ?_
      refine d7 rfl (fun _ hN => pk_and rfl rfl rfl (fun q => eqT q)) rfl ?_
      refine d7 rfl (fun _ hN => o_move (d := .bool ((((v4.2 == 0) && ((v3.1.L.length : Int) == (w64 ((a0.L.length : Int) + 1)))) && ((v4.1.L.length : Int) == (w64 ((a0.L.length : Int) + 1)))) && ((v5.Kind == a1.Kind) && ((v5.At == a1.At) && ((v5.Prog == a1.Prog) && true))))) rfl) rfl ?_
      refine d_if7 (g := (((((v4.2 == 0) && ((v3.1.L.length : Int) == (w64 ((a0.L.length : Int) + 1)))) && ((v4.1.L.length : Int) == (w64 ((a0.L.length : Int) + 1)))) && ((v5.Kind == a1.Kind) && ((v5.At == a1.At) && ((v5.Prog == a1.Prog) && true)))) == true)) rfl (fun hg _ hN => o_fieldAddrP (k := 0) rfl Ty.f24_0 rfl) rfl ?_
      refine d_if0 (g := (((((v4.2 == 0) && ((v3.1.L.length : Int) == (w64 ((a0.L.length : Int) + 1)))) && ((v4.1.L.length : Int) == (w64 ((a0.L.length : Int) + 1)))) && ((v5.Kind == a1.Kind) && ((v5.At == a1.At) && ((v5.Prog == a1.Prog) && true)))) == true)) rfl (fun hg => o_loadS (ct hg) rfl rfl Ty.a22 rfl) rfl ?_
      refine d_if7 (g := (((((v4.2 == 0) && ((v3.1.L.length : Int) == (w64 ((a0.L.length : Int) + 1)))) && ((v4.1.L.length : Int) == (w64 ((a0.L.length : Int) + 1)))) && ((v5.Kind == a1.Kind) && ((v5.At == a1.At) && ((v5.Prog == a1.Prog) && true)))) == true)) rfl (fun hg _ hN => o_move (d := .int .i64 (a0.L.length : Int)) rfl) rfl ?_
      obtain ⟨v6, hv6, h⟩ := bindE h
      refine d_if0 (g := (((((v4.2 == 0) && ((v3.1.L.length : Int) == (w64 ((a0.L.length : Int) + 1)))) && ((v4.1.L.length : Int) == (w64 ((a0.L.length : Int) + 1)))) && ((v5.Kind == a1.Kind) && ((v5.At == a1.At) && ((v5.Prog == a1.Prog) && true)))) == true)) rfl (fun hg => o_ixL (f := task_Task.Pv) (cs := task_Task.Pc v6) (onlyE hv6 hg) (ct hg) (ct hg) Ty.e22 Ty.s26 rfl rfl) rfl ?_
      refine d_if0 (g := (((((v4.2 == 0) && ((v3.1.L.length : Int) == (w64 ((a0.L.length : Int) + 1)))) && ((v4.1.L.length : Int) == (w64 ((a0.L.length : Int) + 1)))) && ((v5.Kind == a1.Kind) && ((v5.At == a1.At) && ((v5.Prog == a1.Prog) && true)))) == true)) rfl (fun hg => o_loadRA (cs := task_Task.Pc v6) (ct hg) Ty.a26 Ty.s26 (Nat.le_of_ble_eq_true rfl) rfl) rfl ?_
      refine d_if0 (g := (((((v4.2 == 0) && ((v3.1.L.length : Int) == (w64 ((a0.L.length : Int) + 1)))) && ((v4.1.L.length : Int) == (w64 ((a0.L.length : Int) + 1)))) && ((v5.Kind == a1.Kind) && ((v5.At == a1.At) && ((v5.Prog == a1.Prog) && true)))) == true)) rfl (fun hg => o_loadA (cs := task_Task.Pc a2) rfl rfl rfl Ty.a26 Ty.s26 (Nat.le_of_ble_eq_true rfl) rfl) rfl ?_
      refine d_if7 (g := (((((v4.2 == 0) && ((v3.1.L.length : Int) == (w64 ((a0.L.length : Int) + 1)))) && ((v4.1.L.length : Int) == (w64 ((a0.L.length : Int) + 1)))) && ((v5.Kind == a1.Kind) && ((v5.At == a1.At) && ((v5.Prog == a1.Prog) && true)))) == true)) rfl (fun hg _ hN => o_eqA (xs := task_Task.Pc v6) (ys := task_Task.Pc a2) Ty.q26 (ct hg) (ct hg) rfl) rfl ?_
      refine d7 rfl (fun _ hN => pk_and rfl rfl rfl (fun q => eqT q)) rfl ?_
      refine d7 rfl (fun _ hN => o_assign (d := .bool (((((v4.2 == 0) && ((v3.1.L.length : Int) == (w64 ((a0.L.length : Int) + 1)))) && ((v4.1.L.length : Int) == (w64 ((a0.L.length : Int) + 1)))) && ((v5.Kind == a1.Kind) && ((v5.At == a1.At) && ((v5.Prog == a1.Prog) && true)))) && ((v6.Kind == a2.Kind) && ((v6.At == a2.At) && ((v6.Prog == a2.Prog) && true))))) rfl) rfl ?_
      refine d_nil ?_
      refine pw_ret ?_
      obtain rfl := Option.some.inj h
      exact ⟨rfl, [_], ⟨rfl, trivial⟩, rfl, by first | exact .inl rfl | exact .inr rfl⟩

end Go.Proofs.Yteofjcfbjnfnkaa.Ok
