/-
 The functions of the program do as the plain functions do.
-/
import Derived.Test.YtkjilddlbaibfaaGreatH13Ok2
namespace Go.Proofs.YtkjilddlbaibfaaGreat.Ok
open Go Go.Pw Go.Sh Go.Proofs
set_option linter.unusedVariables false
set_option maxRecDepth 100000
set_option maxHeartbeats 4000000
theorem r12_rounds_ok {a0 : r06_Store} {a1 : List r10_Place} {a2 : List Int} {r : (List Int) × Int} (h : r12_rounds a0 a1 a2 = some r) : PCalls Tryz.prog 64 [r06_Store.Pv a0, .lst false (List.map r10_Place.Pv a1), .lst false (List.map (PV.int .i64) a2)] (.tup [.lst false (List.map (PV.int .i64) r.1), .int .i64 r.2]) := by
 unfold r12_rounds at h
 refine pc_intro (N := 35) Tryz.func64 rfl rfl nl fun w0 imm0 => sR <| y1 rfl (o_box (d := r06_Store.Pv a0) (z := 3) (cl := true) rfl rfl rfl rfl rfl) rfl <| y0 rfl (o_assign (d := .lst true (List.map (PV.int .i64) [])) rfl) <| y0 rfl (o_assign (d := .int .i64 0) rfl) <| y_nil <| sR <| y0 rfl (o_loadA (cs := r06_Store.Pc a0) rfl rfl rfl Ty.a34 Ty.s34 nl rfl) ?_
 refine y0 rfl (o_move (d := .lst false (List.map (PV.int .i64) a2)) rfl) ?_
 obtain ⟨v1, hv1, h⟩ := bindE h
 refine yc rfl (o_callF (ls := []) (ds := [r06_Store.Pv a0, .lst false (List.map (PV.int .i64) a2)]) rfl Ty.k112 rfl (r08_From_ok hv1)) <| y0 rfl (o_assign (d := .lst false (List.map (PV.int .i64) v1)) rfl) <| y_nil ?_
 obtain ⟨κ12, hκ10, h⟩ := jnE h
 refine pw_jn0 (κ := κ12) (r := r) (fun (j13 : List Int) => St.of [(8, .lst false (List.map (PV.int .i64) j13))] []) (fun j13 h => ?_) ?_
 ·subst hκ10
  refine sR <| y0 rfl (o_move (d := .lst false (List.map (PV.int .i64) j13)) rfl) <| y0 rfl (o_assign (d := .lst false (List.map (PV.int .i64) j13)) rfl) <| y0 rfl (o_assign (d := .int .i64 30) rfl) <| y_nil <| pw_ret ?_
  obtain rfl := Option.some.inj h
  exact ⟨rfl, [_, _], ⟨rfl, ⟨rfl, trivial⟩⟩, rfl, io⟩
 ·skip
  refine sR <| y0 rfl (o_assign (d := .int .i64 0) rfl) <| y_nil <| pw_block ?_
  obtain ⟨e14, hl11, hk12⟩ := bindE h
  refine pw_lp0 (fun (q : (List Int) × Int) => St.of [(1, .lst false (List.map r10_Place.Pv a1)), (3, .ptr 3 0 0), (8, .lst false (List.map (PV.int .i64) q.1)), (9, .int .i64 q.2)] [(3, ⟨[r06_Store.Pv a0], 0, false, 3, true⟩)]) hl11 (wk_st _ _ ⟨rfl, rfl, rfl, rfl, rfl, rfl, rfl, rfl, rfl, rfl, rfl, rfl, trivial⟩ ⟨rS, trivial⟩) (fun q18 x17 h hx13 => ?_)
  obtain ⟨s15, s16⟩ := q18
  refine pw_seq <| sR <| y0 rfl (o_move (d := .int .i64 s16) rfl) <| y0 rfl (o_cmp rfl rfl rfl) <| y_nil ?_
  refine pw_cond (decide (s16 < 30)) rfl (fun hc => ?_) (fun hc => ?_)
  ·have h := ifT h hc
   refine pw_skip <| pw_seq <| pw_block <| dr [9] Ty.mix (by kernel_rfl) (by kernel_rfl) <| d0 rfl (o_loadA (cs := r06_Store.Pc a0) rfl rfl rfl Ty.a34 Ty.s34 nl rfl) rfl <| d1n rfl (o_nslice rfl Ty.e28 Ty.s3) rfl <| d7 rfl (fun _ hN => o_move (d := .lst false (List.map (PV.int .i64) s15)) rfl) rfl ?_
   obtain ⟨v19, hv14, h⟩ := bindE h
   refine d3 rfl (o_apT (f := (PV.int .i64)) hv14 rfl rfl (.inl ⟨_, rfl, rfl⟩) Ty.e28 Ty.s3 Ty.b3 Ty.z3 rfl (fun _ => rfl)) rfl rfl rfl <| d0 rfl (o_loadA (cs := r06_Store.Pc a0) rfl rfl rfl Ty.a34 Ty.s34 nl rfl) rfl <| d7 rfl (fun _ hN => o_move (d := .lst false (List.map r10_Place.Pv a1)) rfl) rfl <| d7 rfl (fun _ hN => o_move (d := .lst false (List.map (PV.int .i64) s15)) rfl) rfl ?_
   obtain ⟨v20, hv15, h⟩ := bindE h
   refine d2f rfl (o_callF (ls := []) (ds := [r06_Store.Pv a0, .lst false (List.map r10_Place.Pv a1), .lst false (List.map (PV.int .i64) s15)]) rfl Ty.k72 rfl (r12_held_ok hv15)) rfl ?_
   obtain ⟨v21, hv16, h⟩ := bindE h
   refine d3a rfl (o_apR (f := (PV.int .i64)) hv16 rfl rfl rfl rfl rfl rfl (.inl ⟨_, rfl, rfl⟩) Ty.e28 Ty.s3 Ty.b3 Ty.z3 rfl (fun _ => rfl)) rfl rfl rfl rfl rfl ?_
   obtain ⟨v22, hv17, h⟩ := bindE h
   refine d5f rfl (o_callF (ls := [26]) (ds := [r06_Store.Pv a0, .sl 26]) rfl Ty.k112 rfl (r08_From_ok hv17)) rfl rfl <| d7 rfl (fun _ hN => o_assign (d := .lst false (List.map (PV.int .i64) v22)) rfl) rfl <| d_nil <| pw_seq <| sR <| y0 rfl (o_move (d := .lst false (List.map (PV.int .i64) v22)) rfl) <| y0 rfl (o_move (d := .lst false (List.map (PV.int .i64) s15)) rfl) ?_
   obtain ⟨v23, hv18, h⟩ := bindE h
   refine y0 rfl (o_call (ds := [.lst false (List.map (PV.int .i64) v22), .lst false (List.map (PV.int .i64) s15)]) rfl Ty.k18 rfl (r02_Ints_ok hv18)) <| y_nil ?_
   refine pw_cond v23 rfl (fun hc => ?_) (fun hc => ?_)
   ·have h := ifT h hc
    refine sR <| y0 rfl (o_move (d := .lst false (List.map (PV.int .i64) s15)) rfl) <| y0 rfl (o_move (d := .int .i64 s16) rfl) <| y0 rfl (o_assign (d := .lst false (List.map (PV.int .i64) s15)) rfl) <| y0 rfl (o_assign (d := .int .i64 s16) rfl) <| y_nil <| pw_ret ?_
    have he := hx13 _ (Option.some.inj h).symm
    have h := hk12
    rw [← he] at h
    obtain rfl := Option.some.inj h
    exact ⟨rfl, [_, _], ⟨rfl, ⟨rfl, trivial⟩⟩, rfl, io⟩
   ·have h := ifF h hc
    refine pw_skip <| sr1 (by kernel_rfl) <| y0 rfl (o_move (d := .lst false (List.map (PV.int .i64) v22)) rfl) <| y0 rfl (o_assign (d := .lst false (List.map (PV.int .i64) v22)) rfl) <| y_nil <| sr1 (by kernel_rfl) <| y0 rfl (o_move (d := .int .i64 s16) rfl) <| y0 rfl (o_ari rfl rfl rfl) ?_
    refine y0 rfl (o_assign (d := .int .i64 (w64 (s16 + 1))) rfl) <| y_nil ?_
    exact ⟨rfl, (v22, w64 (s16 + 1)), (Option.some.inj h).symm, (wk_st _ _ ⟨rfl, rfl, rfl, rfl, rfl, rfl, rfl, rfl, rfl, rfl, rfl, rfl, trivial⟩ ⟨rS, trivial⟩)⟩
  ·have h := ifF h hc
   refine pw_exit <| thenQ_exit <| thenQ_exit <| blockQ_exit ?_
   have he := hx13 _ (Option.some.inj h).symm
   have h := hk12
   rw [← he] at h
   exact ⟨rfl, s15, h, (wk_st _ _ ⟨rfl, rfl, rfl, trivial⟩ trivial)⟩

theorem r12_From_ok {a0 : r06_Store} {a1 : List r10_Place} {a2 : List Int} {r : List Int} (h : r12_From a0 a1 a2 = some r) : PCalls Tryz.prog 20 [r06_Store.Pv a0, .lst false (List.map r10_Place.Pv a1), .lst false (List.map (PV.int .i64) a2)] (.lst false (List.map (PV.int .i64) r)) := by
 unfold r12_From at h
 refine pc_intro (N := 17) Tryz.func20 rfl rfl nl fun w0 imm0 => sR <| y1 rfl (o_box (d := r06_Store.Pv a0) (z := 3) (cl := true) rfl rfl rfl rfl rfl) rfl <| y0 rfl (o_assign (d := .lst true (List.map (PV.int .i64) [])) rfl) <| y_nil <| sR <| y0 rfl (o_loadA (cs := r06_Store.Pc a0) rfl rfl rfl Ty.a34 Ty.s34 nl rfl) <| y0 rfl (o_move (d := .lst false (List.map r10_Place.Pv a1)) rfl) ?_
 refine y0 rfl (o_move (d := .lst false (List.map (PV.int .i64) a2)) rfl) ?_
 obtain ⟨v1, hv1, h⟩ := bindE h
 refine yc rfl (o_callF (ls := []) (ds := [r06_Store.Pv a0, .lst false (List.map r10_Place.Pv a1), .lst false (List.map (PV.int .i64) a2)]) rfl Ty.k64 rfl (r12_rounds_ok hv1)) <| y0 rfl (o_move (d := .tup [.lst false (List.map (PV.int .i64) v1.1), .int .i64 v1.2]) rfl) <| y0 rfl (o_extract rfl rfl) <| y0 rfl (o_extract rfl rfl) <| y0 rfl (o_assign (d := .lst false (List.map (PV.int .i64) v1.1)) rfl) <| y0 rfl (o_assign (d := .int .i64 v1.2) rfl) <| y_nil <| sR ?_
 refine y0 rfl (o_move (d := .lst false (List.map (PV.int .i64) v1.1)) rfl) <| y0 rfl (o_assign (d := .lst false (List.map (PV.int .i64) v1.1)) rfl) <| y_nil <| pw_ret ?_
 obtain rfl := Option.some.inj h
 exact ⟨rfl, [_], ⟨rfl, trivial⟩, rfl, io⟩

theorem r12_Lost_ok {a0 : r06_Store} {a1 : List r10_Place} {a2 : List Int} {r : List Int} (h : r12_Lost a0 a1 a2 = some r) : PCalls Tryz.prog 22 [r06_Store.Pv a0, .lst false (List.map r10_Place.Pv a1), .lst false (List.map (PV.int .i64) a2)] (.lst false (List.map (PV.int .i64) r)) := by
 unfold r12_Lost at h
 refine pc_intro (N := 39) Tryz.func22 rfl rfl nl fun w0 imm0 => sR <| y1 rfl (o_box (d := r06_Store.Pv a0) (z := 3) (cl := true) rfl rfl rfl rfl rfl) rfl <| y0 rfl (o_assign (d := .lst true (List.map (PV.int .i64) [])) rfl) <| y_nil <| sR <| y0 rfl (o_loadA (cs := r06_Store.Pc a0) rfl rfl rfl Ty.a34 Ty.s34 nl rfl) <| y0 rfl (o_move (d := .lst false (List.map r10_Place.Pv a1)) rfl) ?_
 refine y0 rfl (o_move (d := .lst false (List.map (PV.int .i64) a2)) rfl) ?_
 obtain ⟨v1, hv1, h⟩ := bindE h
 refine yc rfl (o_callF (ls := []) (ds := [r06_Store.Pv a0, .lst false (List.map r10_Place.Pv a1), .lst false (List.map (PV.int .i64) a2)]) rfl Ty.k20 rfl (r12_From_ok hv1)) <| y0 rfl (o_assign (d := .lst false (List.map (PV.int .i64) v1)) rfl) <| y_nil <| sR <| y0 rfl (o_nslice rfl Ty.e28 Ty.s3) <| y0 rfl (o_assign (d := .lst true (List.map (PV.int .i64) [])) rfl) <| y_nil <| sR ?_
 refine y0 rfl (o_loadA (cs := r06_Store.Pc a0) rfl rfl rfl Ty.a34 Ty.s34 nl rfl) ?_
 obtain ⟨v2, hv2, h⟩ := bindE h
 refine yc rfl (o_callF (ls := []) (ds := [r06_Store.Pv a0]) rfl Ty.k27 rfl (r06_Live_ok hv2)) <| y0 rfl (o_assign (d := .lst false (List.map (PV.int .i64) v2)) rfl) <| y_nil ?_
 obtain ⟨κ16, hκ13, h⟩ := jnE h
 refine pw_jn0 (κ := κ16) (r := r) (fun (j17 : List Int) => St.of [(8, .sl 910008)] [(910008, ⟨List.map (PV.int .i64) j17, (List.map (PV.int .i64) j17).length, true, 1, true⟩)]) (fun j17 h => ?_) ?_
 ·subst hκ13
  refine sR <| y0 rfl (o_move (d := .sl 910008) rfl) <| y0 rfl (o_assign (d := .sl 910008) rfl) <| y_nil <| pw_ret ?_
  obtain rfl := Option.some.inj h
  exact ⟨rfl, [_], ⟨rfl, trivial⟩, rfl, io⟩
 ·skip
  refine sR <| y0 rfl (o_assign (d := .int .i64 0) rfl) <| y_nil <| pw_block ?_
  obtain ⟨e18, hl14, hk15⟩ := bindE h
  refine pw_lp0 (fun (q : Int × (List Int)) => St.of [(7, .lst false (List.map (PV.int .i64) v1)), (8, .sl 910008), (9, .lst false (List.map (PV.int .i64) v2)), (10, .int .i64 q.1)] [(910008, ⟨List.map (PV.int .i64) q.2, (List.map (PV.int .i64) q.2).length, true, 1, true⟩)]) hl14 (Wk.trans (wk_nil (t := 8) (l := 920008) (z := 1) rfl rfl) (wk_stP (fun l => if l = 910008 then 920008 else l) _ _ ⟨rfl, rfl, rfl, rfl, rfl, rfl, rfl, rfl, rfl, rfl, rfl, rfl, trivial⟩ ⟨rN, trivial⟩ rfl)) (fun q22 x21 h hx16 => ?_)
  obtain ⟨s19, s20⟩ := q22
  refine pw_seq <| sR <| y0 rfl (o_move (d := .int .i64 s19) rfl) <| y0 rfl (o_move (d := .lst false (List.map (PV.int .i64) v2)) rfl) <| y0 rfl (o_lnL (f := (PV.int .i64)) rfl Ty.e28) <| y0 rfl (o_cmp rfl rfl rfl) <| y_nil ?_
  refine pw_cond (decide (s19 < (v2.length : Int))) rfl (fun hc => ?_) (fun hc => ?_)
  ·have h := ifT h hc
   refine pw_skip ?_
   obtain ⟨κ26, hκ20, h⟩ := jnE h
   refine pw_jn0 (κ := κ26) (r := x21) (fun (j27 : List Int) => St.of [(7, .lst false (List.map (PV.int .i64) v1)), (8, .sl 37), (9, .lst false (List.map (PV.int .i64) v2)), (10, .int .i64 s19)] [(37, ⟨List.map (PV.int .i64) j27, (List.map (PV.int .i64) j27).length, true, 1, true⟩)]) (fun j27 h => ?_) ?_
   ·subst hκ20
    refine sr1 (by kernel_rfl) <| y0 rfl (o_move (d := .int .i64 s19) rfl) <| y0 rfl (o_ari rfl rfl rfl) <| y0 rfl (o_assign (d := .int .i64 (w64 (s19 + 1))) rfl) <| y_nil ?_
    exact ⟨rfl, (w64 (s19 + 1), j27), (Option.some.inj h).symm, (Wk.trans (wk_frz _ [37]) (wk_stP (fun l => if l = 910008 then 37 else l) _ _ ⟨rfl, rfl, rfl, rfl, rfl, rfl, rfl, rfl, rfl, rfl, rfl, rfl, trivial⟩ ⟨rN, trivial⟩ rfl))⟩
   ·skip
    refine pw_block <| sR <| y0 rfl (o_move (d := .lst false (List.map (PV.int .i64) v1)) rfl) <| y0 rfl (o_move (d := .lst false (List.map (PV.int .i64) v2)) rfl) <| y0 rfl (o_move (d := .int .i64 s19) rfl) ?_
    obtain ⟨v28, hv21, h⟩ := bindE h
    refine y0 rfl (o_ixL (f := (PV.int .i64)) (cs := [.int .i64 v28]) hv21 rfl rfl Ty.e28 Ty.s3 rfl rfl) <| y0 rfl (o_loadRS rfl Ty.a3 rfl) ?_
    obtain ⟨v29, hv22, h⟩ := bindE h
    refine y0 rfl (o_call (ds := [.lst false (List.map (PV.int .i64) v1), .int .i64 v28]) rfl Ty.k66 rfl (r08_Has_ok hv22)) <| y0 rfl (o_not rfl rfl) <| y_nil ?_
    refine pw_cond (!v29) rfl (fun hc => ?_) (fun hc => ?_)
    ·have h := ifT h hc
     refine sr1 (by kernel_rfl) <| y0 rfl (o_move (d := .sl 910008) rfl) <| y0 rfl (o_move (d := .lst false (List.map (PV.int .i64) v2)) rfl) <| y0 rfl (o_move (d := .int .i64 s19) rfl) <| y0 rfl (o_ixL (f := (PV.int .i64)) (cs := [.int .i64 v28]) hv21 rfl rfl Ty.e28 Ty.s3 rfl rfl) <| y0 rfl (o_loadRS rfl Ty.a3 rfl) <| y0 rfl (o_bI (f := (PV.int .i64)) (l := [v28]) rfl Ty.e28 Ty.s3 Ty.z3 rfl rfl nl rfl rfl) ?_
     obtain ⟨v30, hv23, h⟩ := bindE h
     refine y_app rfl (o_apR (f := (PV.int .i64)) hv23 rfl rfl rfl rfl rfl rfl (.inl ⟨_, rfl, rfl⟩) Ty.e28 Ty.s3 Ty.b3 Ty.z3 rfl (fun _ => rfl)) rfl rfl rfl <| y0 rfl (o_assign (d := .sl 37) rfl) <| y_nil ?_
     exact ⟨rfl, v30, h, (Wk.trans (wk_frz _ [37]) (wk_st _ _ ⟨rfl, rfl, rfl, rfl, rfl, rfl, rfl, rfl, rfl, rfl, rfl, rfl, trivial⟩ ⟨rS, trivial⟩))⟩
    ·have h := ifF h hc
     refine pw_skip ?_
     exact ⟨rfl, s20, h, (Wk.trans (wk_frz _ [910008]) (wk_stP (fun l => if l = 37 then 910008 else l) _ _ ⟨rfl, rfl, rfl, rfl, rfl, rfl, rfl, rfl, rfl, rfl, rfl, rfl, trivial⟩ ⟨rN, trivial⟩ rfl))⟩
  ·have h := ifF h hc
   refine pw_exit <| thenQ_exit <| thenQ_exit <| blockQ_exit ?_
   have he := hx16 _ (Option.some.inj h).symm
   have h := hk15
   rw [← he] at h
   exact ⟨rfl, s20, h, (Wk.trans (wk_frz _ [910008]) (wk_st _ _ ⟨rfl, rfl, rfl, trivial⟩ ⟨rS, trivial⟩))⟩

theorem r13_Garbage_ok {a0 : r06_Store} {a1 : List r10_Place} {r : List Int} (h : r13_Garbage a0 a1 = some r) : PCalls Tryz.prog 46 [r06_Store.Pv a0, .lst false (List.map r10_Place.Pv a1)] (.lst false (List.map (PV.int .i64) r)) := by
 unfold r13_Garbage at h
 refine pc_intro (N := 11) Tryz.func46 rfl rfl nl fun w0 imm0 => sR <| y1 rfl (o_box (d := r06_Store.Pv a0) (z := 3) (cl := true) rfl rfl rfl rfl rfl) rfl <| y0 rfl (o_assign (d := .lst true (List.map (PV.int .i64) [])) rfl) <| y_nil <| dr [] Ty.mix (by kernel_rfl) (by kernel_rfl) <| d0 rfl (o_loadA (cs := r06_Store.Pc a0) rfl rfl rfl Ty.a34 Ty.s34 nl rfl) rfl <| d7 rfl (fun _ hN => o_move (d := .lst false (List.map r10_Place.Pv a1)) rfl) rfl ?_
 refine d0 rfl (o_loadA (cs := r06_Store.Pc a0) rfl rfl rfl Ty.a34 Ty.s34 nl rfl) rfl <| d7 rfl (fun _ hN => o_move (d := .lst false (List.map r10_Place.Pv a1)) rfl) rfl ?_
 obtain ⟨v1, hv1, h⟩ := bindE h
 refine d2f rfl (o_callF (ls := []) (ds := [r06_Store.Pv a0, .lst false (List.map r10_Place.Pv a1)]) rfl Ty.k44 rfl (r13_Held_ok hv1)) rfl ?_
 obtain ⟨v2, hv2, h⟩ := bindE h
 refine d2f rfl (o_callF (ls := []) (ds := [r06_Store.Pv a0, .lst false (List.map r10_Place.Pv a1), .lst false (List.map (PV.int .i64) v1)]) rfl Ty.k22 rfl (r12_Lost_ok hv2)) rfl <| d7 rfl (fun _ hN => o_assign (d := .lst false (List.map (PV.int .i64) v2)) rfl) rfl <| d_nil <| pw_ret ?_
 obtain rfl := Option.some.inj h
 exact ⟨rfl, [_], ⟨rfl, trivial⟩, rfl, io⟩

theorem r13_Fair_ok {a0 : r06_Store} {a1 : List r10_Place} {a2 : List Int} {r : Bool} (h : r13_Fair a0 a1 a2 = some r) : PCalls Tryz.prog 48 [r06_Store.Pv a0, .lst false (List.map r10_Place.Pv a1), .lst false (List.map (PV.int .i64) a2)] (.bool r) := by
 unfold r13_Fair at h
 refine pc_intro (N := 40) Tryz.func48 rfl rfl nl fun w0 imm0 => sR <| y1 rfl (o_box (d := r06_Store.Pv a0) (z := 3) (cl := true) rfl rfl rfl rfl rfl) rfl <| y0 rfl (o_assign (d := .bool false) rfl) <| y_nil <| sR <| y0 rfl (o_loadA (cs := r06_Store.Pc a0) rfl rfl rfl Ty.a34 Ty.s34 nl rfl) ?_
 obtain ⟨v1, hv1, h⟩ := bindE h
 refine yc rfl (o_callF (ls := []) (ds := [r06_Store.Pv a0]) rfl Ty.k27 rfl (r06_Live_ok hv1)) <| y0 rfl (o_assign (d := .lst false (List.map (PV.int .i64) v1)) rfl) <| y_nil ?_
 obtain ⟨κ9, hκ9, h⟩ := jnE h
 refine pw_jn0 (κ := κ9) (r := r) (fun (_ : Unit) => St.of [] []) (fun q10 h => ?_) ?_
 ·subst hκ9
  refine sR <| y0 rfl (o_assign (d := .bool true) rfl) <| y_nil <| pw_ret ?_
  obtain rfl := Option.some.inj h
  exact ⟨rfl, [_], ⟨rfl, trivial⟩, rfl, io⟩
 ·skip
  refine sR <| y0 rfl (o_assign (d := .int .i64 0) rfl) <| y_nil <| pw_block ?_
  obtain ⟨e11, hl10, hk11⟩ := bindE h
  refine pw_lp0 (fun (s12 : Int) => St.of [(1, .lst false (List.map r10_Place.Pv a1)), (2, .lst false (List.map (PV.int .i64) a2)), (3, .ptr 3 0 0), (7, .lst false (List.map (PV.int .i64) v1)), (8, .int .i64 s12)] [(3, ⟨[r06_Store.Pv a0], 0, false, 3, true⟩)]) hl10 (wk_st _ _ ⟨rfl, rfl, rfl, rfl, rfl, rfl, rfl, rfl, rfl, rfl, rfl, rfl, rfl, rfl, rfl, trivial⟩ ⟨rS, trivial⟩) (fun s12 x13 h hx12 => ?_)
  refine pw_seq <| sR <| y0 rfl (o_move (d := .int .i64 s12) rfl) <| y0 rfl (o_move (d := .lst false (List.map (PV.int .i64) v1)) rfl) <| y0 rfl (o_lnL (f := (PV.int .i64)) rfl Ty.e28) <| y0 rfl (o_cmp rfl rfl rfl) <| y_nil ?_
  refine pw_cond (decide (s12 < (v1.length : Int))) rfl (fun hc => ?_) (fun hc => ?_)
  ·have h := ifT h hc
   refine pw_skip <| pw_seq <| pw_block <| dr [] Ty.mix (by kernel_rfl) (by kernel_rfl) <| d0 rfl (o_loadA (cs := r06_Store.Pc a0) rfl rfl rfl Ty.a34 Ty.s34 nl rfl) rfl <| d7 rfl (fun _ hN => o_move (d := .lst false (List.map (PV.int .i64) v1)) rfl) rfl <| d7 rfl (fun _ hN => o_move (d := .int .i64 s12) rfl) rfl ?_
   obtain ⟨v14, hv13, h⟩ := bindE h
   refine d0 rfl (o_ixL (f := (PV.int .i64)) (cs := [.int .i64 v14]) hv13 rfl rfl Ty.e28 Ty.s3 rfl rfl) rfl <| d0 rfl (o_loadRS rfl Ty.a3 rfl) rfl ?_
   obtain ⟨v15, hv14, h⟩ := bindE h
   refine d2 rfl (o_call (ds := [r06_Store.Pv a0, .int .i64 v14]) rfl Ty.k94 rfl (r13_stuck_ok hv14)) rfl <| d7 rfl (fun _ hN => o_not rfl rfl) rfl <| d7 rfl (fun _ hN => o_move (d := .bool (!v15)) rfl) rfl <| d_if0 (g := ((!v15) == true)) rfl (fun hg => o_loadA (cs := r06_Store.Pc a0) rfl rfl rfl Ty.a34 Ty.s34 nl rfl) rfl <| d_if7 (g := ((!v15) == true)) rfl (fun hg _ hN => o_move (d := .lst false (List.map r10_Place.Pv a1)) rfl) rfl <| d_if7 (g := ((!v15) == true)) rfl (fun hg _ hN => o_move (d := .lst false (List.map (PV.int .i64) v1)) rfl) rfl <| d_if7 (g := ((!v15) == true)) rfl (fun hg _ hN => o_move (d := .int .i64 s12) rfl) rfl <| d_if0 (g := ((!v15) == true)) rfl (fun hg => o_ixL (f := (PV.int .i64)) (cs := [.int .i64 v14]) hv13 (ct hg) (ct hg) Ty.e28 Ty.s3 rfl rfl) rfl ?_
   refine d_if0 (g := ((!v15) == true)) rfl (fun hg => o_loadRS (ct hg) Ty.a3 rfl) rfl ?_
   obtain ⟨v16, hv15, h⟩ := bindE h
   refine d_if2 (g := ((!v15) == true)) rfl (fun hg => o_call (ds := [r06_Store.Pv a0, .lst false (List.map r10_Place.Pv a1), .int .i64 v14]) rfl Ty.k42 (consE (ct hg) (consE (ct hg) (consE (ct hg) rfl))) (r13_Rest_ok (onlyE hv15 hg))) rfl <| d_if7 (g := ((!v15) == true)) rfl (fun hg _ hN => o_move (d := .lst false (List.map (PV.int .i64) a2)) rfl) rfl <| d_if7 (g := ((!v15) == true)) rfl (fun hg _ hN => o_move (d := .lst false (List.map (PV.int .i64) v1)) rfl) rfl <| d_if7 (g := ((!v15) == true)) rfl (fun hg _ hN => o_move (d := .int .i64 s12) rfl) rfl <| d_if0 (g := ((!v15) == true)) rfl (fun hg => o_ixL (f := (PV.int .i64)) (cs := [.int .i64 v14]) hv13 (ct hg) (ct hg) Ty.e28 Ty.s3 rfl rfl) rfl <| d_if0 (g := ((!v15) == true)) rfl (fun hg => o_loadRS (ct hg) Ty.a3 rfl) rfl ?_
   obtain ⟨v17, hv16, h⟩ := bindE h
   refine d_if2 (g := ((!v15) == true)) rfl (fun hg => o_call (ds := [.lst false (List.map (PV.int .i64) a2), .int .i64 v14]) rfl Ty.k28 (consE (ct hg) (consE (ct hg) rfl)) (r07_Times_ok (onlyE hv16 hg))) rfl <| d_if7 (g := ((!v15) == true)) rfl (fun hg _ hN => o_cmp (ct hg) (ct hg) rfl) rfl <| d7 rfl (fun _ hN => pk_and rfl rfl rfl (fun q => eqT q)) rfl <| d_nil ?_
   refine pw_cond ((!v15) && (v16 != v17)) rfl (fun hc => ?_) (fun hc => ?_)
   ·have h := ifT h hc
    refine sR <| y0 rfl (o_assign (d := .bool false) rfl) <| y_nil <| pw_ret ?_
    have he := hx12 _ (Option.some.inj h).symm
    have h := hk11
    rw [← he] at h
    obtain rfl := Option.some.inj h
    exact ⟨rfl, [_], ⟨rfl, trivial⟩, rfl, io⟩
   ·have h := ifF h hc
    refine pw_skip <| sr1 (by kernel_rfl) <| y0 rfl (o_move (d := .int .i64 s12) rfl) <| y0 rfl (o_ari rfl rfl rfl) <| y0 rfl (o_assign (d := .int .i64 (w64 (s12 + 1))) rfl) <| y_nil ?_
    exact ⟨rfl, w64 (s12 + 1), (Option.some.inj h).symm, (wk_st _ _ ⟨rfl, rfl, rfl, rfl, rfl, rfl, rfl, rfl, rfl, rfl, rfl, rfl, rfl, rfl, rfl, trivial⟩ ⟨rS, trivial⟩)⟩
  ·have h := ifF h hc
   refine pw_exit <| thenQ_exit <| thenQ_exit <| blockQ_exit ?_
   have he := hx12 _ (Option.some.inj h).symm
   have h := hk11
   rw [← he] at h
   exact ⟨rfl, (), h, (wk_st _ _ trivial trivial)⟩

theorem w13_TrialTells_ok {a0 : store_Store} {a1 : List hash_Place} {a2 : Int} {a3 : List Int} {r : Bool} (h : w13_TrialTells a0 a1 a2 a3 = some r) : PCalls Tryz.prog 8 [store_Store.Pv a0, .lst false (List.map hash_Place.Pv a1), .int .i64 a2, .lst false (List.map (PV.int .i64) a3)] (.bool r) := by
 unfold w13_TrialTells at h
 refine pc_intro (N := 82) Tryz.func8 rfl rfl nl fun w0 imm0 => sR <| y1 rfl (o_box (d := store_Store.Pv a0) (z := 3) (cl := true) rfl rfl rfl rfl rfl) rfl <| y0 rfl (o_assign (d := .bool false) rfl) <| y_nil <| pw_seq <| sR <| y0 rfl (o_loadA (cs := store_Store.Pc a0) rfl rfl rfl Ty.a26 Ty.s26 nl rfl) ?_
 obtain ⟨v1, hv1, h⟩ := bindE h
 refine y0 rfl (o_call (ds := [store_Store.Pv a0]) rfl Ty.k34 rfl (w13_right_ok hv1)) <| y0 rfl (o_not rfl rfl) <| y0 rfl (o_move (d := .bool (!v1)) rfl) <| y_if (g := ((!v1) == false)) rfl (fun hg => o_move (d := .lst false (List.map hash_Place.Pv a1)) rfl) ?_
 obtain ⟨v2, hv2, h⟩ := bindE h
 refine y_if (g := ((!v1) == false)) rfl (fun hg => o_call (ds := [.lst false (List.map hash_Place.Pv a1)]) rfl Ty.k35 (consE (ct hg) rfl) (w13_even_ok (onlyE hv2 hg))) <| y_if (g := ((!v1) == false)) rfl (fun hg => o_not (ct hg) rfl) <| y0 rfl (pk_or rfl rfl rfl (fun q => eqF q)) <| y0 rfl (o_move (d := .bool ((!v1) || (!v2))) rfl) <| y_if (g := (((!v1) || (!v2)) == false)) rfl (fun hg => o_move (d := .lst false (List.map (PV.int .i64) a3)) rfl) <| y_if (g := (((!v1) || (!v2)) == false)) rfl (fun hg => o_lnL (f := (PV.int .i64)) (ct hg) Ty.e28) <| y_if (g := (((!v1) || (!v2)) == false)) rfl (fun hg => o_cmp (ct hg) rfl rfl) <| y0 rfl (pk_or rfl rfl rfl (fun q => eqF q)) ?_
 refine y0 rfl (o_move (d := .bool (((!v1) || (!v2)) || (decide ((a3.length : Int) > 50)))) rfl) ?_
 obtain ⟨v3, hv3, h⟩ := bindE h
 refine y_if (g := ((((!v1) || (!v2)) || (decide ((a3.length : Int) > 50))) == false)) rfl (fun hg => o_call (ds := []) rfl Ty.k36 rfl (w13_shown_ok (onlyE hv3 hg))) <| y_if (g := ((((!v1) || (!v2)) || (decide ((a3.length : Int) > 50))) == false)) rfl (fun hg => o_not (ct hg) rfl) <| y0 rfl (pk_or rfl rfl rfl (fun q => eqF q)) <| y_nil ?_
 refine pw_cond ((((!v1) || (!v2)) || (decide ((a3.length : Int) > 50))) || (!v3)) rfl (fun hc => ?_) (fun hc => ?_)
 ·have h := ifT h hc
  refine sR ?_
  obtain ⟨v4, hv4, h⟩ := bindE h
  refine y0 rfl (o_call (ds := []) rfl Ty.k36 rfl (w13_shown_ok hv4)) <| y0 rfl (o_assign (d := .bool v4) rfl) <| y_nil <| pw_ret ?_
  obtain rfl := Option.some.inj h
  exact ⟨rfl, [_], ⟨rfl, trivial⟩, rfl, io⟩
 ·have h := ifF h hc
  refine pw_skip <| sR <| y0 rfl (o_loadA (cs := store_Store.Pc a0) rfl rfl rfl Ty.a26 Ty.s26 nl rfl) ?_
  obtain ⟨v5, hv5, h⟩ := bindE h
  refine yc rfl (o_callF (ls := []) (ds := [store_Store.Pv a0]) rfl Ty.k37 rfl (w13_its_ok hv5)) <| y1 rfl (o_alloc (d := .agg [.lst true (List.map r06_Cell.Pv []), .int .i64 0, .int .i64 0]) (z := 3) rfl Ty.z34 rfl rfl rfl) rfl <| y_sto (x' := r06_Store.Pv v5) (cl' := true) rfl rfl (.inr rfl) Ty.s34 <| y_nil <| sR <| y0 rfl (o_move (d := .lst false (List.map hash_Place.Pv a1)) rfl) ?_
  obtain ⟨v6, hv6, h⟩ := bindE h
  refine yc rfl (o_callF (ls := []) (ds := [.lst false (List.map hash_Place.Pv a1)]) rfl Ty.k38 rfl (w13_tab_ok hv6)) <| y0 rfl (o_assign (d := .lst false (List.map r10_Place.Pv v6)) rfl) <| y_nil <| dr [] Ty.mix (by kernel_rfl) (by kernel_rfl) <| d0 rfl (o_loadA (cs := store_Store.Pc a0) rfl rfl rfl Ty.a26 Ty.s26 nl rfl) rfl <| d7 rfl (fun _ hN => o_move (d := .lst false (List.map hash_Place.Pv a1)) rfl) rfl <| d7 rfl (fun _ hN => o_move (d := .int .i64 a2) rfl) rfl ?_
  obtain ⟨v7, hv7, h⟩ := bindE h
  refine d2 rfl (o_call (ds := [store_Store.Pv a0, .lst false (List.map hash_Place.Pv a1), .int .i64 a2]) rfl Ty.k39 rfl (trial_Inner_ok hv7)) rfl <| d0 rfl (o_loadA (cs := r06_Store.Pc v5) rfl rfl rfl Ty.a34 Ty.s34 nl rfl) rfl <| d7 rfl (fun _ hN => o_move (d := .lst false (List.map r10_Place.Pv v6)) rfl) rfl <| d7 rfl (fun _ hN => o_move (d := .int .i64 a2) rfl) rfl ?_
  obtain ⟨v8, hv8, h⟩ := bindE h
  refine d2 rfl (o_call (ds := [r06_Store.Pv v5, .lst false (List.map r10_Place.Pv v6), .int .i64 a2]) rfl Ty.k40 rfl (r13_Inner_ok hv8)) rfl <| d7 rfl (fun _ hN => o_cmp rfl rfl rfl) rfl <| d7 rfl (fun _ hN => o_move (d := .bool (v7 == v8)) rfl) rfl <| d_if0 (g := ((v7 == v8) == true)) rfl (fun hg => o_loadA (cs := store_Store.Pc a0) rfl rfl rfl Ty.a26 Ty.s26 nl rfl) rfl <| d_if7 (g := ((v7 == v8) == true)) rfl (fun hg _ hN => o_move (d := .lst false (List.map hash_Place.Pv a1)) rfl) rfl <| d_if7 (g := ((v7 == v8) == true)) rfl (fun hg _ hN => o_move (d := .int .i64 a2) rfl) rfl ?_
  obtain ⟨v9, hv9, h⟩ := bindE h
  refine d_if2 (g := ((v7 == v8) == true)) rfl (fun hg => o_call (ds := [store_Store.Pv a0, .lst false (List.map hash_Place.Pv a1), .int .i64 a2]) rfl Ty.k41 (consE (ct hg) (consE (ct hg) (consE (ct hg) rfl))) (trial_Rest_ok (onlyE hv9 hg))) rfl <| d_if0 (g := ((v7 == v8) == true)) rfl (fun hg => o_loadA (cs := r06_Store.Pc v5) rfl rfl rfl Ty.a34 Ty.s34 nl rfl) rfl <| d_if7 (g := ((v7 == v8) == true)) rfl (fun hg _ hN => o_move (d := .lst false (List.map r10_Place.Pv v6)) rfl) rfl <| d_if7 (g := ((v7 == v8) == true)) rfl (fun hg _ hN => o_move (d := .int .i64 a2) rfl) rfl ?_
  obtain ⟨v10, hv10, h⟩ := bindE h
  refine d_if2 (g := ((v7 == v8) == true)) rfl (fun hg => o_call (ds := [r06_Store.Pv v5, .lst false (List.map r10_Place.Pv v6), .int .i64 a2]) rfl Ty.k42 (consE (ct hg) (consE (ct hg) (consE (ct hg) rfl))) (r13_Rest_ok (onlyE hv10 hg))) rfl <| d_if7 (g := ((v7 == v8) == true)) rfl (fun hg _ hN => o_cmp (ct hg) (ct hg) rfl) rfl <| d7 rfl (fun _ hN => pk_and rfl rfl rfl (fun q => eqT q)) rfl <| d7 rfl (fun _ hN => o_move (d := .bool ((v7 == v8) && (v9 == v10))) rfl) rfl <| d_if0 (g := (((v7 == v8) && (v9 == v10)) == true)) rfl (fun hg => o_loadA (cs := store_Store.Pc a0) rfl rfl rfl Ty.a26 Ty.s26 nl rfl) rfl <| d_if7 (g := (((v7 == v8) && (v9 == v10)) == true)) rfl (fun hg _ hN => o_move (d := .lst false (List.map hash_Place.Pv a1)) rfl) rfl ?_
  obtain ⟨v11, hv11, h⟩ := bindE h
  refine d_if2f (g := (((v7 == v8) && (v9 == v10)) == true)) rfl (fun hg => o_callF (ls := []) (ds := [store_Store.Pv a0, .lst false (List.map hash_Place.Pv a1)]) rfl Ty.k43 (consE (ct hg) (consE (ct hg) rfl)) (trial_Held_ok (onlyE hv11 hg))) rfl <| d_if0 (g := (((v7 == v8) && (v9 == v10)) == true)) rfl (fun hg => o_loadA (cs := r06_Store.Pc v5) rfl rfl rfl Ty.a34 Ty.s34 nl rfl) rfl <| d_if7 (g := (((v7 == v8) && (v9 == v10)) == true)) rfl (fun hg _ hN => o_move (d := .lst false (List.map r10_Place.Pv v6)) rfl) rfl ?_
  obtain ⟨v12, hv12, h⟩ := bindE h
  refine d_if2f (g := (((v7 == v8) && (v9 == v10)) == true)) rfl (fun hg => o_callF (ls := []) (ds := [r06_Store.Pv v5, .lst false (List.map r10_Place.Pv v6)]) rfl Ty.k44 (consE (ct hg) (consE (ct hg) rfl)) (r13_Held_ok (onlyE hv12 hg))) rfl ?_
  obtain ⟨v13, hv13, h⟩ := bindE h
  refine d_if2 (g := (((v7 == v8) && (v9 == v10)) == true)) rfl (fun hg => o_call (ds := [.lst false (List.map (PV.int .i64) v11), .lst false (List.map (PV.int .i64) v12)]) rfl Ty.k18 (consE (ct hg) (consE (ct hg) rfl)) (r02_Ints_ok (onlyE hv13 hg))) rfl <| d7 rfl (fun _ hN => pk_and rfl rfl rfl (fun q => eqT q)) rfl <| d7 rfl (fun _ hN => o_move (d := .bool (((v7 == v8) && (v9 == v10)) && v13)) rfl) rfl <| d_if0 (g := ((((v7 == v8) && (v9 == v10)) && v13) == true)) rfl (fun hg => o_loadA (cs := store_Store.Pc a0) rfl rfl rfl Ty.a26 Ty.s26 nl rfl) rfl <| d_if7 (g := ((((v7 == v8) && (v9 == v10)) && v13) == true)) rfl (fun hg _ hN => o_move (d := .lst false (List.map hash_Place.Pv a1)) rfl) rfl ?_
  obtain ⟨v14, hv14, h⟩ := bindE h
  refine d_if2f (g := ((((v7 == v8) && (v9 == v10)) && v13) == true)) rfl (fun hg => o_callF (ls := []) (ds := [store_Store.Pv a0, .lst false (List.map hash_Place.Pv a1)]) rfl Ty.k45 (consE (ct hg) (consE (ct hg) rfl)) (trial_Garbage_ok (onlyE hv14 hg))) rfl <| d_if0 (g := ((((v7 == v8) && (v9 == v10)) && v13) == true)) rfl (fun hg => o_loadA (cs := r06_Store.Pc v5) rfl rfl rfl Ty.a34 Ty.s34 nl rfl) rfl <| d_if7 (g := ((((v7 == v8) && (v9 == v10)) && v13) == true)) rfl (fun hg _ hN => o_move (d := .lst false (List.map r10_Place.Pv v6)) rfl) rfl ?_
  obtain ⟨v15, hv15, h⟩ := bindE h
  refine d_if2f (g := ((((v7 == v8) && (v9 == v10)) && v13) == true)) rfl (fun hg => o_callF (ls := []) (ds := [r06_Store.Pv v5, .lst false (List.map r10_Place.Pv v6)]) rfl Ty.k46 (consE (ct hg) (consE (ct hg) rfl)) (r13_Garbage_ok (onlyE hv15 hg))) rfl ?_
  obtain ⟨v16, hv16, h⟩ := bindE h
  refine d_if2 (g := ((((v7 == v8) && (v9 == v10)) && v13) == true)) rfl (fun hg => o_call (ds := [.lst false (List.map (PV.int .i64) v14), .lst false (List.map (PV.int .i64) v15)]) rfl Ty.k18 (consE (ct hg) (consE (ct hg) rfl)) (r02_Ints_ok (onlyE hv16 hg))) rfl <| d7 rfl (fun _ hN => pk_and rfl rfl rfl (fun q => eqT q)) rfl <| d7 rfl (fun _ hN => o_move (d := .bool ((((v7 == v8) && (v9 == v10)) && v13) && v16)) rfl) rfl <| d_if0 (g := (((((v7 == v8) && (v9 == v10)) && v13) && v16) == true)) rfl (fun hg => o_loadA (cs := store_Store.Pc a0) rfl rfl rfl Ty.a26 Ty.s26 nl rfl) rfl <| d_if7 (g := (((((v7 == v8) && (v9 == v10)) && v13) && v16) == true)) rfl (fun hg _ hN => o_move (d := .lst false (List.map hash_Place.Pv a1)) rfl) rfl <| d_if7 (g := (((((v7 == v8) && (v9 == v10)) && v13) && v16) == true)) rfl (fun hg _ hN => o_move (d := .lst false (List.map (PV.int .i64) a3)) rfl) rfl ?_
  obtain ⟨v17, hv17, h⟩ := bindE h
  refine d_if2 (g := (((((v7 == v8) && (v9 == v10)) && v13) && v16) == true)) rfl (fun hg => o_call (ds := [store_Store.Pv a0, .lst false (List.map hash_Place.Pv a1), .lst false (List.map (PV.int .i64) a3)]) rfl Ty.k47 (consE (ct hg) (consE (ct hg) (consE (ct hg) rfl))) (trial_Fair_ok (onlyE hv17 hg))) rfl <| d_if0 (g := (((((v7 == v8) && (v9 == v10)) && v13) && v16) == true)) rfl (fun hg => o_loadA (cs := r06_Store.Pc v5) rfl rfl rfl Ty.a34 Ty.s34 nl rfl) rfl <| d_if7 (g := (((((v7 == v8) && (v9 == v10)) && v13) && v16) == true)) rfl (fun hg _ hN => o_move (d := .lst false (List.map r10_Place.Pv v6)) rfl) rfl <| d_if7 (g := (((((v7 == v8) && (v9 == v10)) && v13) && v16) == true)) rfl (fun hg _ hN => o_move (d := .lst false (List.map (PV.int .i64) a3)) rfl) rfl ?_
  obtain ⟨v18, hv18, h⟩ := bindE h
  refine d_if2 (g := (((((v7 == v8) && (v9 == v10)) && v13) && v16) == true)) rfl (fun hg => o_call (ds := [r06_Store.Pv v5, .lst false (List.map r10_Place.Pv v6), .lst false (List.map (PV.int .i64) a3)]) rfl Ty.k48 (consE (ct hg) (consE (ct hg) (consE (ct hg) rfl))) (r13_Fair_ok (onlyE hv18 hg))) rfl <| d_if7 (g := (((((v7 == v8) && (v9 == v10)) && v13) && v16) == true)) rfl (fun hg _ hN => o_eqB (ct hg) (ct hg) Ty.u4 rfl) rfl <| d7 rfl (fun _ hN => pk_and rfl rfl rfl (fun q => eqT q)) rfl <| d7 rfl (fun _ hN => o_assign (d := .bool (((((v7 == v8) && (v9 == v10)) && v13) && v16) && (v17 == v18))) rfl) rfl <| d_nil <| pw_ret ?_
  obtain rfl := Option.some.inj h
  exact ⟨rfl, [_], ⟨rfl, trivial⟩, rfl, io⟩

theorem w13_fair_ok {a0 : store_Store} {a1 : List hash_Place} {a2 : List Int} {r : store_Store} (h : w13_fair a0 a1 a2 = some r) : PCalls Tryz.prog 49 [store_Store.Pv a0, .lst false (List.map hash_Place.Pv a1), .lst false (List.map (PV.int .i64) a2)] (store_Store.Pv r) := by
 unfold w13_fair at h
 refine pc_intro (N := 61) Tryz.func49 rfl rfl nl fun w0 imm0 => sR <| y1 rfl (o_box (d := store_Store.Pv a0) (z := 3) (cl := true) rfl rfl rfl rfl rfl) rfl <| y1 rfl (o_alloc (d := .agg [.lst true (List.map slab_Cell_store_Obj.Pv []), .int .i64 0, .int .i64 0]) (z := 3) rfl Ty.z26 rfl rfl rfl) rfl <| y_nil <| sR <| y0 rfl (o_loadA (cs := store_Store.Pc a0) rfl rfl rfl Ty.a26 Ty.s26 nl rfl) ?_
 obtain ⟨v1, hv1, h⟩ := bindE h
 refine yc rfl (o_callF (ls := []) (ds := [store_Store.Pv a0]) rfl Ty.k37 rfl (w13_its_ok hv1)) ?_
 obtain ⟨v2, hv2, h⟩ := bindE h
 refine yc rfl (o_callF (ls := []) (ds := [r06_Store.Pv v1]) rfl Ty.k27 rfl (r06_Live_ok hv2)) <| y0 rfl (o_assign (d := .lst false (List.map (PV.int .i64) v2)) rfl) <| y_nil ?_
 obtain ⟨κ21, hκ18, h⟩ := jnE h
 refine pw_jn0 (κ := κ21) (r := r) (fun (j22 : store_Store) => St.of [(3, .ptr 3 0 0), (6, .ptr 6 0 0)] [(6, ⟨[.agg [.lst true (List.map slab_Cell_store_Obj.Pv []), .int .i64 0, .int .i64 0]], 0, false, 3, true⟩), (3, ⟨[store_Store.Pv j22], 0, false, 3, true⟩)]) (fun j22 h => ?_) ?_
 ·subst hκ18
  refine sR <| y0 rfl (o_loadA (cs := store_Store.Pc j22) rfl rfl rfl Ty.a26 Ty.s26 nl rfl) <| y_sto (x' := store_Store.Pv j22) (cl' := true) rfl rfl (.inr rfl) Ty.s26 <| y_nil <| pw_ret ?_
  obtain rfl := Option.some.inj h
  exact ⟨rfl, [_], ⟨o_loadA rfl rfl rfl Ty.a26 Ty.s26 nl rfl, trivial⟩, rfl, io⟩
 ·skip
  refine sR <| y0 rfl (o_assign (d := .int .i64 0) rfl) <| y_nil <| pw_block ?_
  obtain ⟨e23, hl19, hk20⟩ := bindE h
  refine pw_lp0 (fun (q : Int × store_Store) => St.of [(1, .lst false (List.map hash_Place.Pv a1)), (2, .lst false (List.map (PV.int .i64) a2)), (3, .ptr 3 0 0), (6, .ptr 6 0 0), (7, .lst false (List.map (PV.int .i64) v2)), (8, .int .i64 q.1)] [(6, ⟨[.agg [.lst true (List.map slab_Cell_store_Obj.Pv []), .int .i64 0, .int .i64 0]], 0, false, 3, true⟩), (3, ⟨[store_Store.Pv q.2], 0, false, 3, true⟩)]) hl19 (wk_st _ _ ⟨rfl, rfl, rfl, rfl, rfl, rfl, rfl, rfl, rfl, rfl, rfl, rfl, rfl, rfl, rfl, rfl, rfl, rfl, trivial⟩ ⟨rS, rS, trivial⟩) (fun q27 x26 h hx21 => ?_)
  obtain ⟨s24, s25⟩ := q27
  refine pw_seq <| sR <| y0 rfl (o_move (d := .int .i64 s24) rfl) <| y0 rfl (o_move (d := .lst false (List.map (PV.int .i64) v2)) rfl) <| y0 rfl (o_lnL (f := (PV.int .i64)) rfl Ty.e28) <| y0 rfl (o_cmp rfl rfl rfl) <| y_nil ?_
  refine pw_cond (decide (s24 < (v2.length : Int))) rfl (fun hc => ?_) (fun hc => ?_)
  ·have h := ifT h hc
   refine pw_skip <| pw_seq <| pw_block <| dr [] Ty.mix (by kernel_rfl) (by kernel_rfl) <| d0 rfl (o_loadA (cs := store_Store.Pc s25) rfl rfl rfl Ty.a26 Ty.s26 nl rfl) rfl <| d7 rfl (fun _ hN => o_move (d := .lst false (List.map (PV.int .i64) v2)) rfl) rfl <| d7 rfl (fun _ hN => o_move (d := .int .i64 s24) rfl) rfl ?_
   obtain ⟨v28, hv22, h⟩ := bindE h
   refine d0 rfl (o_ixL (f := (PV.int .i64)) (cs := [.int .i64 v28]) hv22 rfl rfl Ty.e28 Ty.s3 rfl rfl) rfl <| d0 rfl (o_loadRS rfl Ty.a3 rfl) rfl ?_
   obtain ⟨v29, hv23, h⟩ := bindE h
   refine d2f rfl (o_callF (ls := []) (ds := [store_Store.Pv s25, .int .i64 v28]) rfl Ty.k54 rfl (store_Get_ok hv23)) rfl <| d7 rfl (fun _ hN => o_move (d := .tup [store_Obj.Pv v29.1, .int .i64 v29.2]) rfl) rfl <| d7 rfl (fun _ hN => o_extract rfl rfl) rfl <| d7 rfl (fun _ hN => o_extract rfl rfl) rfl <| d1 rfl (o_alloc (d := .agg [.int .i64 0, .int .i64 0, .int .i64 0, .int .i64 0, .bool false, .lst true (List.map (PV.int .i64) [])]) (z := 6) rfl Ty.z73 rfl rfl rfl) rfl rfl rfl <| d_sto (x' := store_Obj.Pv v29.1) (cl' := true) rfl rfl (.inr rfl) Ty.s73 <| d7 rfl (fun _ hN => o_assign (d := .int .i64 v29.2) rfl) rfl <| d_nil ?_
   obtain ⟨κ34, hκ28, h⟩ := jnE h
   refine pw_jn0 (κ := κ34) (r := x26) (fun (j35 : Int) => St.of [(1, .lst false (List.map hash_Place.Pv a1)), (2, .lst false (List.map (PV.int .i64) a2)), (3, .ptr 3 0 0), (6, .ptr 6 0 0), (7, .lst false (List.map (PV.int .i64) v2)), (8, .int .i64 s24), (9, .ptr 9 0 0)] [(9, ⟨[.agg [.int .i64 v29.1.Serial, .int .i64 j35, .int .i64 v29.1.Weak, .int .i64 v29.1.Prog, .bool v29.1.Started, .lst false (List.map (PV.int .i64) v29.1.Fields)]], 0, false, 6, true⟩), (6, ⟨[.agg [.lst true (List.map slab_Cell_store_Obj.Pv []), .int .i64 0, .int .i64 0]], 0, false, 3, true⟩), (3, ⟨[store_Store.Pv s25], 0, false, 3, true⟩)]) (fun j35 h => ?_) ?_
   ·subst hκ28
    refine pw_drw [] Ty.mix (by kernel_rfl) (by kernel_rfl) <| d0 rfl (o_loadA (cs := store_Store.Pc s25) rfl rfl rfl Ty.a26 Ty.s26 nl rfl) rfl <| d7 rfl (fun _ hN => o_move (d := .lst false (List.map (PV.int .i64) v2)) rfl) rfl <| d7 rfl (fun _ hN => o_move (d := .int .i64 s24) rfl) rfl <| d0 rfl (o_ixL (f := (PV.int .i64)) (cs := [.int .i64 v28]) hv22 rfl rfl Ty.e28 Ty.s3 rfl rfl) rfl <| d0 rfl (o_loadRS rfl Ty.a3 rfl) rfl <| d0 rfl (o_loadA (cs := [.int .i64 v29.1.Serial, .int .i64 j35, .int .i64 v29.1.Weak, .int .i64 v29.1.Prog, .bool v29.1.Started, .lst false (List.map (PV.int .i64) v29.1.Fields)]) rfl rfl rfl Ty.a73 Ty.s73 nl rfl) rfl ?_
    obtain ⟨v36, hv29, h⟩ := bindE h
    refine d2f rfl (o_callF (ls := []) (ds := [store_Store.Pv s25, .int .i64 v28, .agg [.int .i64 v29.1.Serial, .int .i64 j35, .int .i64 v29.1.Weak, .int .i64 v29.1.Prog, .bool v29.1.Started, .lst false (List.map (PV.int .i64) v29.1.Fields)]]) rfl Ty.k55 rfl (store_Set_ok hv29)) rfl <| d7 rfl (fun _ hN => o_move (d := .tup [store_Store.Pv v36.1, .int .i64 v36.2]) rfl) rfl <| d7 rfl (fun _ hN => o_extract rfl rfl) rfl <| d7 rfl (fun _ hN => o_extract rfl rfl) rfl <| d_sto (x' := store_Store.Pv v36.1) (cl' := true) rfl rfl (.inr rfl) Ty.s26 <| d_nil <| sr1 (by kernel_rfl) <| y0 rfl (o_move (d := .int .i64 s24) rfl) ?_
    refine y0 rfl (o_ari rfl rfl rfl) <| y0 rfl (o_assign (d := .int .i64 (w64 (s24 + 1))) rfl) <| y_nil ?_
    exact ⟨rfl, (w64 (s24 + 1), v36.1), (Option.some.inj h).symm, (wk_st _ _ ⟨rfl, rfl, rfl, rfl, rfl, rfl, rfl, rfl, rfl, rfl, rfl, rfl, rfl, rfl, rfl, rfl, rfl, rfl, trivial⟩ ⟨rS, rS, trivial⟩)⟩
   ·skip
    refine sR <| y0 rfl (o_fieldAddrP (k := 1) rfl Ty.f73_1 rfl) <| y0 rfl (o_loadS rfl rfl rfl Ty.a3 rfl) <| y0 rfl (o_cmp rfl rfl rfl) <| y_nil ?_
    refine pw_cond (decide (v29.1.Strong < 12)) rfl (fun hc => ?_) (fun hc => ?_)
    ·have h := ifT h hc
     refine pw_drw [] Ty.mix (by kernel_rfl) (by kernel_rfl) <| d0 rfl (o_loadA (cs := store_Store.Pc s25) rfl rfl rfl Ty.a26 Ty.s26 nl rfl) rfl ?_
     obtain ⟨v37, hv30, h⟩ := bindE h
     refine d2f rfl (o_callF (ls := []) (ds := [store_Store.Pv s25]) rfl Ty.k37 rfl (w13_its_ok hv30)) rfl <| d7 rfl (fun _ hN => o_move (d := .lst false (List.map hash_Place.Pv a1)) rfl) rfl ?_
     obtain ⟨v38, hv31, h⟩ := bindE h
     refine d2f rfl (o_callF (ls := []) (ds := [.lst false (List.map hash_Place.Pv a1)]) rfl Ty.k38 rfl (w13_tab_ok hv31)) rfl <| d7 rfl (fun _ hN => o_move (d := .lst false (List.map (PV.int .i64) v2)) rfl) rfl <| d7 rfl (fun _ hN => o_move (d := .int .i64 s24) rfl) rfl <| d0 rfl (o_ixL (f := (PV.int .i64)) (cs := [.int .i64 v28]) hv22 rfl rfl Ty.e28 Ty.s3 rfl rfl) rfl <| d0 rfl (o_loadRS rfl Ty.a3 rfl) rfl ?_
     obtain ⟨v39, hv32, h⟩ := bindE h
     refine d2 rfl (o_call (ds := [r06_Store.Pv v37, .lst false (List.map r10_Place.Pv v38), .int .i64 v28]) rfl Ty.k40 rfl (r13_Inner_ok hv32)) rfl <| d7 rfl (fun _ hN => o_move (d := .lst false (List.map (PV.int .i64) a2)) rfl) rfl <| d7 rfl (fun _ hN => o_move (d := .lst false (List.map (PV.int .i64) v2)) rfl) rfl <| d7 rfl (fun _ hN => o_move (d := .int .i64 s24) rfl) rfl <| d0 rfl (o_ixL (f := (PV.int .i64)) (cs := [.int .i64 v28]) hv22 rfl rfl Ty.e28 Ty.s3 rfl rfl) rfl <| d0 rfl (o_loadRS rfl Ty.a3 rfl) rfl ?_
     obtain ⟨v40, hv33, h⟩ := bindE h
     refine d2 rfl (o_call (ds := [.lst false (List.map (PV.int .i64) a2), .int .i64 v28]) rfl Ty.k28 rfl (r07_Times_ok hv33)) rfl <| d7 rfl (fun _ hN => o_ari rfl rfl rfl) rfl <| d7 rfl (fun _ hN => o_min rfl rfl rfl) rfl <| d7 rfl (fun _ hN => o_fieldAddrP (k := 1) rfl Ty.f73_1 rfl) rfl <| d_sto (x' := .agg [.int .i64 v29.1.Serial, .int .i64 (if (w64 (v39 + v40)) < 11 then w64 (v39 + v40) else 11), .int .i64 v29.1.Weak, .int .i64 v29.1.Prog, .bool v29.1.Started, .lst false (List.map (PV.int .i64) v29.1.Fields)]) (cl' := true) rfl rfl (.inl rfl) Ty.s3 <| d_nil ?_
     exact ⟨rfl, (if (w64 (v39 + v40)) < 11 then w64 (v39 + v40) else 11), h, (wk_st _ _ ⟨rfl, rfl, rfl, rfl, rfl, rfl, rfl, rfl, rfl, rfl, rfl, rfl, rfl, rfl, rfl, rfl, rfl, rfl, rfl, rfl, rfl, trivial⟩ ⟨rS, rS, rS, trivial⟩)⟩
    ·have h := ifF h hc
     refine pw_skip ?_
     exact ⟨rfl, v29.1.Strong, h, (wk_st _ _ ⟨rfl, rfl, rfl, rfl, rfl, rfl, rfl, rfl, rfl, rfl, rfl, rfl, rfl, rfl, rfl, rfl, rfl, rfl, rfl, rfl, rfl, trivial⟩ ⟨rS, rS, rS, trivial⟩)⟩
  ·have h := ifF h hc
   refine pw_exit <| thenQ_exit <| thenQ_exit <| blockQ_exit ?_
   have he := hx21 _ (Option.some.inj h).symm
   have h := hk20
   rw [← he] at h
   exact ⟨rfl, s25, h, (wk_st _ _ ⟨rfl, rfl, rfl, rfl, rfl, rfl, trivial⟩ ⟨rS, rS, trivial⟩)⟩

theorem w13_TrialOuter_ok {a0 : store_Store} {a1 : List hash_Place} {a2 : List Int} {r : Bool} (h : w13_TrialOuter a0 a1 a2 = some r) : PCalls Tryz.prog 9 [store_Store.Pv a0, .lst false (List.map hash_Place.Pv a1), .lst false (List.map (PV.int .i64) a2)] (.bool r) := by
 unfold w13_TrialOuter at h
 refine pc_intro (N := 95) Tryz.func9 rfl rfl nl fun w0 imm0 => sR <| y1 rfl (o_box (d := store_Store.Pv a0) (z := 3) (cl := true) rfl rfl rfl rfl rfl) rfl <| y0 rfl (o_assign (d := .bool false) rfl) <| y_nil <| pw_seq <| sR <| y0 rfl (o_loadA (cs := store_Store.Pc a0) rfl rfl rfl Ty.a26 Ty.s26 nl rfl) ?_
 obtain ⟨v1, hv1, h⟩ := bindE h
 refine y0 rfl (o_call (ds := [store_Store.Pv a0]) rfl Ty.k34 rfl (w13_right_ok hv1)) <| y0 rfl (o_not rfl rfl) <| y0 rfl (o_move (d := .bool (!v1)) rfl) <| y_if (g := ((!v1) == false)) rfl (fun hg => o_move (d := .lst false (List.map hash_Place.Pv a1)) rfl) ?_
 obtain ⟨v2, hv2, h⟩ := bindE h
 refine y_if (g := ((!v1) == false)) rfl (fun hg => o_call (ds := [.lst false (List.map hash_Place.Pv a1)]) rfl Ty.k35 (consE (ct hg) rfl) (w13_even_ok (onlyE hv2 hg))) <| y_if (g := ((!v1) == false)) rfl (fun hg => o_not (ct hg) rfl) <| y0 rfl (pk_or rfl rfl rfl (fun q => eqF q)) <| y0 rfl (o_move (d := .bool ((!v1) || (!v2))) rfl) <| y_if (g := (((!v1) || (!v2)) == false)) rfl (fun hg => o_move (d := .lst false (List.map (PV.int .i64) a2)) rfl) <| y_if (g := (((!v1) || (!v2)) == false)) rfl (fun hg => o_lnL (f := (PV.int .i64)) (ct hg) Ty.e28) <| y_if (g := (((!v1) || (!v2)) == false)) rfl (fun hg => o_cmp (ct hg) rfl rfl) <| y0 rfl (pk_or rfl rfl rfl (fun q => eqF q)) ?_
 refine y0 rfl (o_move (d := .bool (((!v1) || (!v2)) || (decide ((a2.length : Int) > 5)))) rfl) ?_
 obtain ⟨v3, hv3, h⟩ := bindE h
 refine y_if (g := ((((!v1) || (!v2)) || (decide ((a2.length : Int) > 5))) == false)) rfl (fun hg => o_call (ds := []) rfl Ty.k36 rfl (w13_shown_ok (onlyE hv3 hg))) <| y_if (g := ((((!v1) || (!v2)) || (decide ((a2.length : Int) > 5))) == false)) rfl (fun hg => o_not (ct hg) rfl) <| y0 rfl (pk_or rfl rfl rfl (fun q => eqF q)) <| y_nil ?_
 refine pw_cond ((((!v1) || (!v2)) || (decide ((a2.length : Int) > 5))) || (!v3)) rfl (fun hc => ?_) (fun hc => ?_)
 ·have h := ifT h hc
  refine sR ?_
  obtain ⟨v4, hv4, h⟩ := bindE h
  refine y0 rfl (o_call (ds := []) rfl Ty.k36 rfl (w13_shown_ok hv4)) <| y0 rfl (o_assign (d := .bool v4) rfl) <| y_nil <| pw_ret ?_
  obtain rfl := Option.some.inj h
  exact ⟨rfl, [_], ⟨rfl, trivial⟩, rfl, io⟩
 ·have h := ifF h hc
  refine pw_skip <| sR <| y0 rfl (o_loadA (cs := store_Store.Pc a0) rfl rfl rfl Ty.a26 Ty.s26 nl rfl) <| y0 rfl (o_move (d := .lst false (List.map hash_Place.Pv a1)) rfl) <| y0 rfl (o_move (d := .lst false (List.map (PV.int .i64) a2)) rfl) ?_
  obtain ⟨v5, hv5, h⟩ := bindE h
  refine yc rfl (o_callF (ls := []) (ds := [store_Store.Pv a0, .lst false (List.map hash_Place.Pv a1), .lst false (List.map (PV.int .i64) a2)]) rfl Ty.k49 rfl (w13_fair_ok hv5)) <| y1 rfl (o_alloc (d := .agg [.lst true (List.map slab_Cell_store_Obj.Pv []), .int .i64 0, .int .i64 0]) (z := 3) rfl Ty.z26 rfl rfl rfl) rfl <| y_sto (x' := store_Store.Pv v5) (cl' := true) rfl rfl (.inr rfl) Ty.s26 <| y_nil <| pw_seq <| sR <| y0 rfl (o_loadA (cs := store_Store.Pc v5) rfl rfl rfl Ty.a26 Ty.s26 nl rfl) ?_
  obtain ⟨v6, hv6, h⟩ := bindE h
  refine y0 rfl (o_call (ds := [store_Store.Pv v5]) rfl Ty.k50 rfl (w13_small_ok hv6)) <| y0 rfl (o_not rfl rfl) <| y0 rfl (o_move (d := .bool (!v6)) rfl) <| y_if (g := ((!v6) == false)) rfl (fun hg => o_loadA (cs := store_Store.Pc v5) rfl rfl rfl Ty.a26 Ty.s26 nl rfl) ?_
  obtain ⟨v7, hv7, h⟩ := bindE h
  refine y_ifc (g := ((!v6) == false)) rfl (fun hg => o_callF (ls := []) (ds := [store_Store.Pv v5]) rfl Ty.k37 (consE (ct hg) rfl) (w13_its_ok (onlyE hv7 hg))) <| y_if (g := ((!v6) == false)) rfl (fun hg => o_move (d := .lst false (List.map hash_Place.Pv a1)) rfl) ?_
  obtain ⟨v8, hv8, h⟩ := bindE h
  refine y_ifc (g := ((!v6) == false)) rfl (fun hg => o_callF (ls := []) (ds := [.lst false (List.map hash_Place.Pv a1)]) rfl Ty.k38 (consE (ct hg) rfl) (w13_tab_ok (onlyE hv8 hg))) <| y_if (g := ((!v6) == false)) rfl (fun hg => o_move (d := .lst false (List.map (PV.int .i64) a2)) rfl) ?_
  obtain ⟨v9, hv9, h⟩ := bindE h
  refine y_if (g := ((!v6) == false)) rfl (fun hg => o_call (ds := [r06_Store.Pv v7, .lst false (List.map r10_Place.Pv v8), .lst false (List.map (PV.int .i64) a2)]) rfl Ty.k48 (consE (ct hg) (consE (ct hg) (consE (ct hg) rfl))) (r13_Fair_ok (onlyE hv9 hg))) <| y_if (g := ((!v6) == false)) rfl (fun hg => o_not (ct hg) rfl) <| y0 rfl (pk_or rfl rfl rfl (fun q => eqF q)) <| y_nil ?_
  refine pw_cond ((!v6) || (!v9)) rfl (fun hc => ?_) (fun hc => ?_)
  ·have h := ifT h hc
   refine sR <| y0 rfl (o_assign (d := .bool true) rfl) <| y_nil <| pw_ret ?_
   obtain rfl := Option.some.inj h
   exact ⟨rfl, [_], ⟨rfl, trivial⟩, rfl, io⟩
  ·have h := ifF h hc
   refine pw_skip <| sR <| y0 rfl (o_nslice rfl Ty.e28 Ty.s3) <| y0 rfl (o_move (d := .lst false (List.map (PV.int .i64) a2)) rfl) ?_
   obtain ⟨v10, hv10, h⟩ := bindE h
   refine y1 rfl (o_apT (f := (PV.int .i64)) hv10 rfl rfl (.inl ⟨_, rfl, rfl⟩) Ty.e28 Ty.s3 Ty.b3 Ty.z3 rfl (fun _ => rfl)) rfl <| y0 rfl (o_assign (d := .sl 49) rfl) <| y_nil <| sR <| y0 rfl (o_loadA (cs := store_Store.Pc v5) rfl rfl rfl Ty.a26 Ty.s26 nl rfl) ?_
   obtain ⟨v11, hv11, h⟩ := bindE h
   refine yc rfl (o_callF (ls := []) (ds := [store_Store.Pv v5]) rfl Ty.k37 rfl (w13_its_ok hv11)) ?_
   obtain ⟨v12, hv12, h⟩ := bindE h
   refine yc rfl (o_callF (ls := []) (ds := [r06_Store.Pv v11]) rfl Ty.k27 rfl (r06_Live_ok hv12)) <| y0 rfl (o_assign (d := .lst false (List.map (PV.int .i64) v12)) rfl) <| y_nil ?_
   obtain ⟨κ28, hκ25, h⟩ := jnE h
   refine pw_jn0 (κ := κ28) (r := r) (fun (j29 : List Int) => St.of [(1, .lst false (List.map hash_Place.Pv a1)), (2, .lst false (List.map (PV.int .i64) a2)), (7, .ptr 7 0 0), (8, .sl 49)] [(49, ⟨List.map (PV.int .i64) j29, (List.map (PV.int .i64) j29).length, true, 1, true⟩), (7, ⟨[store_Store.Pv v5], 0, false, 3, true⟩)]) (fun j29 h => ?_) ?_
   ·subst hκ25
    refine dr [13] Ty.mix (by kernel_rfl) (by kernel_rfl) <| d0 rfl (o_loadA (cs := store_Store.Pc v5) rfl rfl rfl Ty.a26 Ty.s26 nl rfl) rfl <| d7 rfl (fun _ hN => o_move (d := .lst false (List.map hash_Place.Pv a1)) rfl) rfl <| d7 rfl (fun _ hN => o_move (d := .lst false (List.map (PV.int .i64) a2)) rfl) rfl ?_
    obtain ⟨v30, hv26, h⟩ := bindE h
    refine d2 rfl (o_call (ds := [store_Store.Pv v5, .lst false (List.map hash_Place.Pv a1), .lst false (List.map (PV.int .i64) a2)]) rfl Ty.k47 rfl (trial_Fair_ok hv26)) rfl <| d7 rfl (fun _ hN => o_move (d := .bool v30) rfl) rfl <| d_if0 (g := (v30 == true)) rfl (fun hg => o_loadA (cs := store_Store.Pc v5) rfl rfl rfl Ty.a26 Ty.s26 nl rfl) rfl <| d_if7 (g := (v30 == true)) rfl (fun hg _ hN => o_move (d := .lst false (List.map hash_Place.Pv a1)) rfl) rfl ?_
    obtain ⟨v31, hv27, h⟩ := bindE h
    refine d_if2f (g := (v30 == true)) rfl (fun hg => o_callF (ls := []) (ds := [store_Store.Pv v5, .lst false (List.map hash_Place.Pv a1)]) rfl Ty.k45 (consE (ct hg) (consE (ct hg) rfl)) (trial_Garbage_ok (onlyE hv27 hg))) rfl <| d_if0 (g := (v30 == true)) rfl (fun hg => o_loadA (cs := store_Store.Pc v5) rfl rfl rfl Ty.a26 Ty.s26 nl rfl) rfl <| d_if2f (g := (v30 == true)) rfl (fun hg => o_callF (ls := []) (ds := [store_Store.Pv v5]) rfl Ty.k37 (consE (ct hg) rfl) (w13_its_ok hv11)) rfl <| d_if7 (g := (v30 == true)) rfl (fun hg _ hN => o_move (d := .lst false (List.map hash_Place.Pv a1)) rfl) rfl ?_
    obtain ⟨v32, hv28, h⟩ := bindE h
    refine d_if2f (g := (v30 == true)) rfl (fun hg => o_callF (ls := []) (ds := [.lst false (List.map hash_Place.Pv a1)]) rfl Ty.k38 (consE (ct hg) rfl) (w13_tab_ok (onlyE hv28 hg))) rfl <| d_if7 (g := (v30 == true)) rfl (fun hg _ hN => o_move (d := .sl 49) rfl) rfl ?_
    rcases Bool.eq_false_or_eq_true (v30 == true) with hg29 | hg29
    ·have h := ifT h hg29
     obtain ⟨v33, hv30, h⟩ := bindE h
     refine d5f (congrArg some hg29) (o_callF (ls := [49]) (ds := [r06_Store.Pv v11, .lst false (List.map r10_Place.Pv v32), .sl 49]) rfl Ty.k22 (consE (ct hg29) (consE (ct hg29) (consE (ct hg29) rfl))) (r12_Lost_ok hv30)) rfl rfl ?_
     obtain ⟨v34, hv31, h⟩ := bindE h
     refine d2 (congrArg some hg29) (o_call (ds := [.lst false (List.map (PV.int .i64) v31), .lst false (List.map (PV.int .i64) v33)]) rfl Ty.k18 (consE (ct hg29) (consE rfl rfl)) (r02_Ints_ok hv31)) rfl <| d7 rfl (fun _ hN => pk_andT rfl rfl hg29) rfl <| d7 rfl (fun _ hN => o_assign (d := .bool v34) rfl) rfl <| d_nil <| pw_ret ?_
     obtain rfl := Option.some.inj h
     exact ⟨rfl, [_], ⟨rfl, trivial⟩, rfl, io⟩
    ·have h := ifF h hg29
     refine d_skip (congrArg some hg29) <| d_skip (congrArg some hg29) <| d7 rfl (fun _ hN => pk_andF rfl rfl hg29) rfl <| d7 rfl (fun _ hN => o_assign (d := .bool false) rfl) rfl <| d_nil <| pw_ret ?_
     obtain rfl := Option.some.inj h
     exact ⟨rfl, [_], ⟨rfl, trivial⟩, rfl, io⟩
   ·skip
    refine sR <| y0 rfl (o_assign (d := .int .i64 0) rfl) <| y_nil <| pw_block ?_
    obtain ⟨e35, hl32, hk33⟩ := bindE h
    refine pw_lp0 (fun (q : Int × (List Int)) => St.of [(1, .lst false (List.map hash_Place.Pv a1)), (2, .lst false (List.map (PV.int .i64) a2)), (7, .ptr 7 0 0), (8, .sl 49), (9, .lst false (List.map (PV.int .i64) v12)), (10, .int .i64 q.1)] [(49, ⟨List.map (PV.int .i64) q.2, (List.map (PV.int .i64) q.2).length, true, 1, true⟩), (7, ⟨[store_Store.Pv v5], 0, false, 3, true⟩)]) hl32 (Wk.trans (wk_frz _ [49]) (wk_st _ _ ⟨rfl, rfl, rfl, rfl, rfl, rfl, rfl, rfl, rfl, rfl, rfl, rfl, rfl, rfl, rfl, rfl, rfl, rfl, trivial⟩ ⟨rS, rS, trivial⟩)) (fun q39 x38 h hx34 => ?_)
    obtain ⟨s36, s37⟩ := q39
    refine pw_seq <| sR <| y0 rfl (o_move (d := .int .i64 s36) rfl) <| y0 rfl (o_move (d := .lst false (List.map (PV.int .i64) v12)) rfl) <| y0 rfl (o_lnL (f := (PV.int .i64)) rfl Ty.e28) <| y0 rfl (o_cmp rfl rfl rfl) <| y_nil ?_
    refine pw_cond (decide (s36 < (v12.length : Int))) rfl (fun hc => ?_) (fun hc => ?_)
    ·have h := ifT h hc
     refine pw_skip ?_
     obtain ⟨κ44, hκ39, h⟩ := jnE h
     refine pw_jn0 (κ := κ44) (r := x38) (fun (j45 : List Int) => St.of [(1, .lst false (List.map hash_Place.Pv a1)), (2, .lst false (List.map (PV.int .i64) a2)), (7, .ptr 7 0 0), (8, .sl 78), (9, .lst false (List.map (PV.int .i64) v12)), (10, .int .i64 s36)] [(78, ⟨List.map (PV.int .i64) j45, (List.map (PV.int .i64) j45).length, true, 1, true⟩), (7, ⟨[store_Store.Pv v5], 0, false, 3, true⟩)]) (fun j45 h => ?_) ?_
     ·subst hκ39
      refine sr1 (by kernel_rfl) <| y0 rfl (o_move (d := .int .i64 s36) rfl) <| y0 rfl (o_ari rfl rfl rfl) <| y0 rfl (o_assign (d := .int .i64 (w64 (s36 + 1))) rfl) <| y_nil ?_
      exact ⟨rfl, (w64 (s36 + 1), j45), (Option.some.inj h).symm, (Wk.trans (wk_frz _ [78]) (wk_stP (fun l => if l = 49 then 78 else l) _ _ ⟨rfl, rfl, rfl, rfl, rfl, rfl, rfl, rfl, rfl, rfl, rfl, rfl, rfl, rfl, rfl, rfl, rfl, rfl, trivial⟩ ⟨rN, rN, trivial⟩ rfl))⟩
     ·skip
      refine pw_block <| dr [] Ty.mix (by kernel_rfl) (by kernel_rfl) <| d0 rfl (o_loadA (cs := store_Store.Pc v5) rfl rfl rfl Ty.a26 Ty.s26 nl rfl) rfl <| d2f rfl (o_callF (ls := []) (ds := [store_Store.Pv v5]) rfl Ty.k37 rfl (w13_its_ok hv11)) rfl <| d7 rfl (fun _ hN => o_move (d := .lst false (List.map (PV.int .i64) v12)) rfl) rfl <| d7 rfl (fun _ hN => o_move (d := .int .i64 s36) rfl) rfl ?_
      obtain ⟨v46, hv40, h⟩ := bindE h
      refine d0 rfl (o_ixL (f := (PV.int .i64)) (cs := [.int .i64 v46]) hv40 rfl rfl Ty.e28 Ty.s3 rfl rfl) rfl <| d0 rfl (o_loadRS rfl Ty.a3 rfl) rfl ?_
      obtain ⟨v47, hv41, h⟩ := bindE h
      refine d2f rfl (o_callF (ls := []) (ds := [r06_Store.Pv v11, .int .i64 v46]) rfl Ty.k51 rfl (r06_Get_ok hv41)) rfl <| d7 rfl (fun _ hN => o_move (d := .tup [r06_Obj.Pv v47.1, .int .i64 v47.2]) rfl) rfl <| d7 rfl (fun _ hN => o_extract rfl rfl) rfl <| d7 rfl (fun _ hN => o_extract rfl rfl) rfl <| d1 rfl (o_alloc (d := .agg [.int .i64 0, .int .i64 0, .int .i64 0, .int .i64 0, .bool false, .lst true (List.map (PV.int .i64) [])]) (z := 6) rfl Ty.z67 rfl rfl rfl) rfl rfl rfl <| d_sto (x' := r06_Obj.Pv v47.1) (cl' := true) rfl rfl (.inr rfl) Ty.s67 <| d7 rfl (fun _ hN => o_assign (d := .int .i64 v47.2) rfl) rfl <| d_nil ?_
      refine sR <| y0 rfl (o_fieldAddrP (k := 1) rfl Ty.f67_1 rfl) <| y0 rfl (o_loadS rfl rfl rfl Ty.a3 rfl) ?_
      obtain ⟨v48, hv42, h⟩ := bindE h
      refine y0 rfl (o_call (ds := [.int .i64 v47.1.Strong]) rfl Ty.k52 rfl (r04_Stuck_ok hv42)) <| y_nil ?_
      refine pw_cond v48 rfl (fun hc => ?_) (fun hc => ?_)
      ·have h := ifT h hc
       refine sr1 (by kernel_rfl) <| y0 rfl (o_move (d := .sl 49) rfl) <| y0 rfl (o_move (d := .lst false (List.map (PV.int .i64) v12)) rfl) <| y0 rfl (o_move (d := .int .i64 s36) rfl) <| y0 rfl (o_ixL (f := (PV.int .i64)) (cs := [.int .i64 v46]) hv40 rfl rfl Ty.e28 Ty.s3 rfl rfl) <| y0 rfl (o_loadRS rfl Ty.a3 rfl) <| y0 rfl (o_bI (f := (PV.int .i64)) (l := [v46]) rfl Ty.e28 Ty.s3 Ty.z3 rfl rfl nl rfl rfl) ?_
       obtain ⟨v49, hv43, h⟩ := bindE h
       refine y_app rfl (o_apR (f := (PV.int .i64)) hv43 rfl rfl rfl rfl rfl rfl (.inl ⟨_, rfl, rfl⟩) Ty.e28 Ty.s3 Ty.b3 Ty.z3 rfl (fun _ => rfl)) rfl rfl rfl <| y0 rfl (o_assign (d := .sl 78) rfl) <| y_nil ?_
       exact ⟨rfl, v49, h, (Wk.trans (wk_frz _ [78]) (wk_st _ _ ⟨rfl, rfl, rfl, rfl, rfl, rfl, rfl, rfl, rfl, rfl, rfl, rfl, rfl, rfl, rfl, rfl, rfl, rfl, trivial⟩ ⟨rS, rS, trivial⟩))⟩
      ·have h := ifF h hc
       refine pw_skip ?_
       exact ⟨rfl, s37, h, (Wk.trans (wk_frz _ [49]) (wk_stP (fun l => if l = 78 then 49 else l) _ _ ⟨rfl, rfl, rfl, rfl, rfl, rfl, rfl, rfl, rfl, rfl, rfl, rfl, rfl, rfl, rfl, rfl, rfl, rfl, trivial⟩ ⟨rN, rN, trivial⟩ rfl))⟩
    ·have h := ifF h hc
     refine pw_exit <| thenQ_exit <| thenQ_exit <| blockQ_exit ?_
     have he := hx34 _ (Option.some.inj h).symm
     have h := hk33
     rw [← he] at h
     exact ⟨rfl, s37, h, (Wk.trans (wk_frz _ [49]) (wk_st _ _ ⟨rfl, rfl, rfl, rfl, rfl, rfl, rfl, rfl, rfl, rfl, rfl, rfl, trivial⟩ ⟨rS, rS, trivial⟩))⟩

theorem w13_TrialKeeps_ok {a0 : store_Store} {a1 : List hash_Place} {a2 : Int} {r : Bool} (h : w13_TrialKeeps a0 a1 a2 = some r) : PCalls Tryz.prog 10 [store_Store.Pv a0, .lst false (List.map hash_Place.Pv a1), .int .i64 a2] (.bool r) := by
 unfold w13_TrialKeeps at h
 refine pc_intro (N := 66) Tryz.func10 rfl rfl nl fun w0 imm0 => sR <| y1 rfl (o_box (d := store_Store.Pv a0) (z := 3) (cl := true) rfl rfl rfl rfl rfl) rfl <| y0 rfl (o_assign (d := .bool false) rfl) <| y_nil <| pw_seq <| sR <| y0 rfl (o_loadA (cs := store_Store.Pc a0) rfl rfl rfl Ty.a26 Ty.s26 nl rfl) ?_
 obtain ⟨v1, hv1, h⟩ := bindE h
 refine y0 rfl (o_call (ds := [store_Store.Pv a0]) rfl Ty.k34 rfl (w13_right_ok hv1)) <| y0 rfl (o_not rfl rfl) <| y0 rfl (o_move (d := .bool (!v1)) rfl) <| y_if (g := ((!v1) == false)) rfl (fun hg => o_move (d := .lst false (List.map hash_Place.Pv a1)) rfl) ?_
 obtain ⟨v2, hv2, h⟩ := bindE h
 refine y_if (g := ((!v1) == false)) rfl (fun hg => o_call (ds := [.lst false (List.map hash_Place.Pv a1)]) rfl Ty.k35 (consE (ct hg) rfl) (w13_even_ok (onlyE hv2 hg))) <| y_if (g := ((!v1) == false)) rfl (fun hg => o_not (ct hg) rfl) <| y0 rfl (pk_or rfl rfl rfl (fun q => eqF q)) <| y0 rfl (o_move (d := .bool ((!v1) || (!v2))) rfl) ?_
 obtain ⟨v3, hv3, h⟩ := bindE h
 refine y_if (g := (((!v1) || (!v2)) == false)) rfl (fun hg => o_call (ds := []) rfl Ty.k36 rfl (w13_shown_ok (onlyE hv3 hg))) <| y_if (g := (((!v1) || (!v2)) == false)) rfl (fun hg => o_not (ct hg) rfl) <| y0 rfl (pk_or rfl rfl rfl (fun q => eqF q)) <| y_nil ?_
 refine pw_cond (((!v1) || (!v2)) || (!v3)) rfl (fun hc => ?_) (fun hc => ?_)
 ·have h := ifT h hc
  refine sR ?_
  obtain ⟨v4, hv4, h⟩ := bindE h
  refine y0 rfl (o_call (ds := []) rfl Ty.k36 rfl (w13_shown_ok hv4)) <| y0 rfl (o_assign (d := .bool v4) rfl) <| y_nil <| pw_ret ?_
  obtain rfl := Option.some.inj h
  exact ⟨rfl, [_], ⟨rfl, trivial⟩, rfl, io⟩
 ·have h := ifF h hc
  refine pw_skip <| sR <| y0 rfl (o_loadA (cs := store_Store.Pc a0) rfl rfl rfl Ty.a26 Ty.s26 nl rfl) <| y0 rfl (o_move (d := .lst false (List.map hash_Place.Pv a1)) rfl) ?_
  obtain ⟨v5, hv5, h⟩ := bindE h
  refine yc rfl (o_callF (ls := []) (ds := [store_Store.Pv a0, .lst false (List.map hash_Place.Pv a1)]) rfl Ty.k45 rfl (trial_Garbage_ok hv5)) <| y0 rfl (o_assign (d := .lst false (List.map (PV.int .i64) v5)) rfl) <| y_nil <| sR <| y0 rfl (o_loadA (cs := store_Store.Pc a0) rfl rfl rfl Ty.a26 Ty.s26 nl rfl) <| y0 rfl (o_move (d := .lst false (List.map hash_Place.Pv a1)) rfl) ?_
  obtain ⟨v6, hv6, h⟩ := bindE h
  refine yc rfl (o_callF (ls := []) (ds := [store_Store.Pv a0, .lst false (List.map hash_Place.Pv a1)]) rfl Ty.k43 rfl (trial_Held_ok hv6)) <| y0 rfl (o_assign (d := .lst false (List.map (PV.int .i64) v6)) rfl) <| y_nil <| sR <| y0 rfl (o_loadA (cs := store_Store.Pc a0) rfl rfl rfl Ty.a26 Ty.s26 nl rfl) ?_
  obtain ⟨v7, hv7, h⟩ := bindE h
  refine yc rfl (o_callF (ls := []) (ds := [store_Store.Pv a0]) rfl Ty.k37 rfl (w13_its_ok hv7)) <| y0 rfl (o_move (d := .int .i64 a2) rfl) ?_
  obtain ⟨v8, hv8, h⟩ := bindE h
  refine yc rfl (o_callF (ls := []) (ds := [r06_Store.Pv v7, .int .i64 a2]) rfl Ty.k53 rfl (r07_Out_ok hv8)) <| y0 rfl (o_assign (d := .lst false (List.map (PV.int .i64) v8)) rfl) <| y_nil ?_
  obtain ⟨κ23, hκ22, h⟩ := jnE h
  refine pw_jn0 (κ := κ23) (r := r) (fun (_ : Unit) => St.of [(1, .lst false (List.map hash_Place.Pv a1)), (2, .int .i64 a2), (3, .ptr 3 0 0), (7, .lst false (List.map (PV.int .i64) v5))] [(3, ⟨[store_Store.Pv a0], 0, false, 3, true⟩)]) (fun q24 h => ?_) ?_
  ·subst hκ22
   refine sR <| y0 rfl (o_move (d := .lst false (List.map (PV.int .i64) v5)) rfl) <| y0 rfl (o_move (d := .int .i64 a2) rfl) ?_
   obtain ⟨v25, hv23, h⟩ := bindE h
   refine y0 rfl (o_call (ds := [.lst false (List.map (PV.int .i64) v5), .int .i64 a2]) rfl Ty.k28 rfl (r07_Times_ok hv23)) <| y0 rfl (o_cmp rfl rfl rfl) <| y0 rfl (o_move (d := .bool (v25 == 0)) rfl) <| y_if (g := ((v25 == 0) == false)) rfl (fun hg => o_loadA (cs := store_Store.Pc a0) rfl rfl rfl Ty.a26 Ty.s26 nl rfl) <| y_if (g := ((v25 == 0) == false)) rfl (fun hg => o_move (d := .lst false (List.map hash_Place.Pv a1)) rfl) <| y_if (g := ((v25 == 0) == false)) rfl (fun hg => o_move (d := .int .i64 a2) rfl) ?_
   obtain ⟨v26, hv24, h⟩ := bindE h
   refine y_if (g := ((v25 == 0) == false)) rfl (fun hg => o_call (ds := [store_Store.Pv a0, .lst false (List.map hash_Place.Pv a1), .int .i64 a2]) rfl Ty.k41 (consE (ct hg) (consE (ct hg) (consE (ct hg) rfl))) (trial_Rest_ok (onlyE hv24 hg))) <| y_if (g := ((v25 == 0) == false)) rfl (fun hg => o_cmp (ct hg) rfl rfl) <| y0 rfl (pk_or rfl rfl rfl (fun q => eqF q)) <| y0 rfl (o_assign (d := .bool ((v25 == 0) || (decide (v26 ≤ 0)))) rfl) <| y_nil <| pw_ret ?_
   obtain rfl := Option.some.inj h
   exact ⟨rfl, [_], ⟨rfl, trivial⟩, rfl, io⟩
  ·skip
   refine sR <| y0 rfl (o_move (d := .lst false (List.map (PV.int .i64) v6)) rfl) <| y0 rfl (o_move (d := .int .i64 a2) rfl) ?_
   obtain ⟨v27, hv25, h⟩ := bindE h
   refine y0 rfl (o_call (ds := [.lst false (List.map (PV.int .i64) v6), .int .i64 a2]) rfl Ty.k28 rfl (r07_Times_ok hv25)) <| y0 rfl (o_cmp rfl rfl rfl) <| y_nil ?_
   refine pw_cond (decide (v27 > 0)) rfl (fun hc => ?_) (fun hc => ?_)
   ·have h := ifT h hc
    obtain ⟨κ33, hκ31, h⟩ := jnE h
    refine pw_jn0 (κ := κ33) (r := r) (fun (_ : Unit) => St.of [(2, .int .i64 a2), (7, .lst false (List.map (PV.int .i64) v5))] []) (fun q34 h => ?_) ?_
    ·subst hκ31
     refine sR <| y0 rfl (o_move (d := .lst false (List.map (PV.int .i64) v5)) rfl) <| y0 rfl (o_move (d := .int .i64 a2) rfl) ?_
     obtain ⟨v35, hv32, h⟩ := bindE h
     refine y0 rfl (o_call (ds := [.lst false (List.map (PV.int .i64) v5), .int .i64 a2]) rfl Ty.k28 rfl (r07_Times_ok hv32)) <| y0 rfl (o_cmp rfl rfl rfl) <| y0 rfl (o_assign (d := .bool (v35 == 0)) rfl) <| y_nil <| pw_ret ?_
     obtain rfl := Option.some.inj h
     exact ⟨rfl, [_], ⟨rfl, trivial⟩, rfl, io⟩
    ·skip
     refine sR <| y0 rfl (o_assign (d := .int .i64 0) rfl) <| y_nil <| pw_block ?_
     obtain ⟨e36, hl33, hk34⟩ := bindE h
     refine pw_lp0 (fun (s37 : Int) => St.of [(2, .int .i64 a2), (7, .lst false (List.map (PV.int .i64) v5)), (9, .lst false (List.map (PV.int .i64) v8)), (10, .int .i64 s37)] []) hl33 (wk_st _ _ ⟨rfl, rfl, rfl, rfl, rfl, rfl, rfl, rfl, rfl, rfl, rfl, rfl, trivial⟩ trivial) (fun s37 x38 h hx35 => ?_)
     refine pw_seq <| sR <| y0 rfl (o_move (d := .int .i64 s37) rfl) <| y0 rfl (o_move (d := .lst false (List.map (PV.int .i64) v8)) rfl) <| y0 rfl (o_lnL (f := (PV.int .i64)) rfl Ty.e28) <| y0 rfl (o_cmp rfl rfl rfl) <| y_nil ?_
     refine pw_cond (decide (s37 < (v8.length : Int))) rfl (fun hc => ?_) (fun hc => ?_)
     ·have h := ifT h hc
      refine pw_skip <| pw_seq <| pw_block <| sR <| y0 rfl (o_move (d := .lst false (List.map (PV.int .i64) v5)) rfl) <| y0 rfl (o_move (d := .lst false (List.map (PV.int .i64) v8)) rfl) <| y0 rfl (o_move (d := .int .i64 s37) rfl) ?_
      obtain ⟨v39, hv36, h⟩ := bindE h
      refine y0 rfl (o_ixL (f := (PV.int .i64)) (cs := [.int .i64 v39]) hv36 rfl rfl Ty.e28 Ty.s3 rfl rfl) <| y0 rfl (o_loadRS rfl Ty.a3 rfl) ?_
      obtain ⟨v40, hv37, h⟩ := bindE h
      refine y0 rfl (o_call (ds := [.lst false (List.map (PV.int .i64) v5), .int .i64 v39]) rfl Ty.k28 rfl (r07_Times_ok hv37)) <| y0 rfl (o_cmp rfl rfl rfl) <| y_nil ?_
      refine pw_cond (decide (v40 > 0)) rfl (fun hc => ?_) (fun hc => ?_)
      ·have h := ifT h hc
       refine sR <| y0 rfl (o_assign (d := .bool false) rfl) <| y_nil <| pw_ret ?_
       have he := hx35 _ (Option.some.inj h).symm
       have h := hk34
       rw [← he] at h
       obtain rfl := Option.some.inj h
       exact ⟨rfl, [_], ⟨rfl, trivial⟩, rfl, io⟩
      ·have h := ifF h hc
       refine pw_skip <| sr1 (by kernel_rfl) <| y0 rfl (o_move (d := .int .i64 s37) rfl) <| y0 rfl (o_ari rfl rfl rfl) <| y0 rfl (o_assign (d := .int .i64 (w64 (s37 + 1))) rfl) <| y_nil ?_
       exact ⟨rfl, w64 (s37 + 1), (Option.some.inj h).symm, (wk_st _ _ ⟨rfl, rfl, rfl, rfl, rfl, rfl, rfl, rfl, rfl, rfl, rfl, rfl, trivial⟩ trivial)⟩
     ·have h := ifF h hc
      refine pw_exit <| thenQ_exit <| thenQ_exit <| blockQ_exit ?_
      have he := hx35 _ (Option.some.inj h).symm
      have h := hk34
      rw [← he] at h
      exact ⟨rfl, (), h, (wk_st _ _ ⟨rfl, rfl, rfl, rfl, rfl, rfl, trivial⟩ trivial)⟩
   ·have h := ifF h hc
    refine pw_skip ?_
    exact ⟨rfl, (), h, (wk_st _ _ ⟨rfl, rfl, rfl, rfl, rfl, rfl, rfl, rfl, rfl, rfl, rfl, rfl, trivial⟩ ⟨rS, trivial⟩)⟩

theorem w13_TrialCounts_ok {a0 : store_Store} {a1 : List hash_Place} {a2 : Int} {r : Bool} (h : w13_TrialCounts a0 a1 a2 = some r) : PCalls Tryz.prog 11 [store_Store.Pv a0, .lst false (List.map hash_Place.Pv a1), .int .i64 a2] (.bool r) := by
 unfold w13_TrialCounts at h
 refine pc_intro (N := 91) Tryz.func11 rfl rfl nl fun w0 imm0 => sR <| y1 rfl (o_box (d := store_Store.Pv a0) (z := 3) (cl := true) rfl rfl rfl rfl rfl) rfl <| y0 rfl (o_assign (d := .bool false) rfl) <| y_nil <| pw_seq <| sR <| y0 rfl (o_loadA (cs := store_Store.Pc a0) rfl rfl rfl Ty.a26 Ty.s26 nl rfl) ?_
 obtain ⟨v1, hv1, h⟩ := bindE h
 refine y0 rfl (o_call (ds := [store_Store.Pv a0]) rfl Ty.k34 rfl (w13_right_ok hv1)) <| y0 rfl (o_not rfl rfl) <| y0 rfl (o_move (d := .bool (!v1)) rfl) <| y_if (g := ((!v1) == false)) rfl (fun hg => o_move (d := .lst false (List.map hash_Place.Pv a1)) rfl) ?_
 obtain ⟨v2, hv2, h⟩ := bindE h
 refine y_if (g := ((!v1) == false)) rfl (fun hg => o_call (ds := [.lst false (List.map hash_Place.Pv a1)]) rfl Ty.k35 (consE (ct hg) rfl) (w13_even_ok (onlyE hv2 hg))) <| y_if (g := ((!v1) == false)) rfl (fun hg => o_not (ct hg) rfl) <| y0 rfl (pk_or rfl rfl rfl (fun q => eqF q)) <| y0 rfl (o_move (d := .bool ((!v1) || (!v2))) rfl) ?_
 obtain ⟨v3, hv3, h⟩ := bindE h
 refine y_if (g := (((!v1) || (!v2)) == false)) rfl (fun hg => o_call (ds := []) rfl Ty.k36 rfl (w13_shown_ok (onlyE hv3 hg))) <| y_if (g := (((!v1) || (!v2)) == false)) rfl (fun hg => o_not (ct hg) rfl) <| y0 rfl (pk_or rfl rfl rfl (fun q => eqF q)) <| y_nil ?_
 refine pw_cond (((!v1) || (!v2)) || (!v3)) rfl (fun hc => ?_) (fun hc => ?_)
 ·have h := ifT h hc
  refine sR ?_
  obtain ⟨v4, hv4, h⟩ := bindE h
  refine y0 rfl (o_call (ds := []) rfl Ty.k36 rfl (w13_shown_ok hv4)) <| y0 rfl (o_assign (d := .bool v4) rfl) <| y_nil <| pw_ret ?_
  obtain rfl := Option.some.inj h
  exact ⟨rfl, [_], ⟨rfl, trivial⟩, rfl, io⟩
 ·have h := ifF h hc
  refine pw_skip <| sR <| y0 rfl (o_loadA (cs := store_Store.Pc a0) rfl rfl rfl Ty.a26 Ty.s26 nl rfl) <| y0 rfl (o_move (d := .int .i64 a2) rfl) ?_
  obtain ⟨v5, hv5, h⟩ := bindE h
  refine yc rfl (o_callF (ls := []) (ds := [store_Store.Pv a0, .int .i64 a2]) rfl Ty.k54 rfl (store_Get_ok hv5)) <| y0 rfl (o_move (d := .tup [store_Obj.Pv v5.1, .int .i64 v5.2]) rfl) <| y0 rfl (o_extract rfl rfl) <| y0 rfl (o_extract rfl rfl) <| y1 rfl (o_alloc (d := .agg [.int .i64 0, .int .i64 0, .int .i64 0, .int .i64 0, .bool false, .lst true (List.map (PV.int .i64) [])]) (z := 6) rfl Ty.z73 rfl rfl rfl) rfl <| y_sto (x' := store_Obj.Pv v5.1) (cl' := true) rfl rfl (.inr rfl) Ty.s73 <| y0 rfl (o_assign (d := .int .i64 v5.2) rfl) <| y_nil ?_
  refine pw_seq <| sR <| y0 rfl (o_move (d := .int .i64 v5.2) rfl) <| y0 rfl (o_cmp rfl rfl rfl) <| y0 rfl (o_move (d := .bool (v5.2 != 0)) rfl) <| y_if (g := ((v5.2 != 0) == false)) rfl (fun hg => o_fieldAddrP (k := 1) rfl Ty.f73_1 rfl) <| y_if (g := ((v5.2 != 0) == false)) rfl (fun hg => o_loadS (ct hg) rfl rfl Ty.a3 rfl) <| y_if (g := ((v5.2 != 0) == false)) rfl (fun hg => o_cmp (ct hg) rfl rfl) ?_
  refine y0 rfl (pk_or rfl rfl rfl (fun q => eqF q)) <| y_nil ?_
  refine pw_cond ((v5.2 != 0) || (decide (v5.1.Strong > 1000000))) rfl (fun hc => ?_) (fun hc => ?_)
  ·have h := ifT h hc
   refine sR <| y0 rfl (o_assign (d := .bool true) rfl) <| y_nil <| pw_ret ?_
   obtain rfl := Option.some.inj h
   exact ⟨rfl, [_], ⟨rfl, trivial⟩, rfl, io⟩
  ·have h := ifF h hc
   refine pw_skip <| sR <| y0 rfl (o_loadA (cs := store_Store.Pc a0) rfl rfl rfl Ty.a26 Ty.s26 nl rfl) <| y0 rfl (o_move (d := .lst false (List.map hash_Place.Pv a1)) rfl) <| y0 rfl (o_move (d := .int .i64 a2) rfl) ?_
   obtain ⟨v6, hv6, h⟩ := bindE h
   refine y0 rfl (o_call (ds := [store_Store.Pv a0, .lst false (List.map hash_Place.Pv a1), .int .i64 a2]) rfl Ty.k41 rfl (trial_Rest_ok hv6)) <| y0 rfl (o_assign (d := .int .i64 v6) rfl) <| y_nil <| sR <| y0 rfl (o_fieldAddrP (k := 1) rfl Ty.f73_1 rfl) <| y0 rfl (o_loadS rfl rfl rfl Ty.a3 rfl) <| y0 rfl (o_ari rfl rfl rfl) <| y0 rfl (o_fieldAddrP (k := 1) rfl Ty.f73_1 rfl) ?_
   refine y_sto (x' := .agg [.int .i64 v5.1.Serial, .int .i64 (w64 (v5.1.Strong + 1)), .int .i64 v5.1.Weak, .int .i64 v5.1.Prog, .bool v5.1.Started, .lst false (List.map (PV.int .i64) v5.1.Fields)]) (cl' := true) rfl rfl (.inl rfl) Ty.s3 <| y_nil <| sR <| y0 rfl (o_loadA (cs := store_Store.Pc a0) rfl rfl rfl Ty.a26 Ty.s26 nl rfl) <| y0 rfl (o_move (d := .int .i64 a2) rfl) <| y0 rfl (o_loadA (cs := [.int .i64 v5.1.Serial, .int .i64 (w64 (v5.1.Strong + 1)), .int .i64 v5.1.Weak, .int .i64 v5.1.Prog, .bool v5.1.Started, .lst false (List.map (PV.int .i64) v5.1.Fields)]) rfl rfl rfl Ty.a73 Ty.s73 nl rfl) ?_
   obtain ⟨v7, hv7, h⟩ := bindE h
   refine yc rfl (o_callF (ls := []) (ds := [store_Store.Pv a0, .int .i64 a2, .agg [.int .i64 v5.1.Serial, .int .i64 (w64 (v5.1.Strong + 1)), .int .i64 v5.1.Weak, .int .i64 v5.1.Prog, .bool v5.1.Started, .lst false (List.map (PV.int .i64) v5.1.Fields)]]) rfl Ty.k55 rfl (store_Set_ok hv7)) <| y0 rfl (o_move (d := .tup [store_Store.Pv v7.1, .int .i64 v7.2]) rfl) <| y0 rfl (o_extract rfl rfl) <| y0 rfl (o_extract rfl rfl) <| y1 rfl (o_alloc (d := .agg [.lst true (List.map slab_Cell_store_Obj.Pv []), .int .i64 0, .int .i64 0]) (z := 3) rfl Ty.z26 rfl rfl rfl) rfl <| y_sto (x' := store_Store.Pv v7.1) (cl' := true) rfl rfl (.inr rfl) Ty.s26 <| y0 rfl (o_assign (d := .int .i64 v7.2) rfl) <| y_nil ?_
   refine sR <| y0 rfl (o_move (d := .int .i64 v6) rfl) <| y0 rfl (o_ari rfl rfl rfl) <| y0 rfl (o_cmp rfl rfl rfl) <| y0 rfl (o_move (d := .bool (decide ((w64 (v6 + 1)) > 0))) rfl) <| y_if (g := ((decide ((w64 (v6 + 1)) > 0)) == false)) rfl (fun hg => o_fieldAddrP (k := 1) rfl Ty.f73_1 rfl) <| y_if (g := ((decide ((w64 (v6 + 1)) > 0)) == false)) rfl (fun hg => o_loadS (ct hg) rfl rfl Ty.a3 rfl) <| y_if (g := ((decide ((w64 (v6 + 1)) > 0)) == false)) rfl (fun hg => o_cmp (ct hg) rfl rfl) ?_
   refine y0 rfl (pk_or rfl rfl rfl (fun q => eqF q)) <| y0 rfl (o_assign (d := .bool ((decide ((w64 (v6 + 1)) > 0)) || (decide ((w64 (v5.1.Strong + 1)) ≥ 12)))) rfl) <| y_nil <| sR <| y0 rfl (o_loadA (cs := store_Store.Pc v7.1) rfl rfl rfl Ty.a26 Ty.s26 nl rfl) <| y0 rfl (o_move (d := .lst false (List.map hash_Place.Pv a1)) rfl) <| y0 rfl (o_move (d := .int .i64 a2) rfl) ?_
   obtain ⟨v8, hv8, h⟩ := bindE h
   refine y0 rfl (o_call (ds := [store_Store.Pv v7.1, .lst false (List.map hash_Place.Pv a1), .int .i64 a2]) rfl Ty.k41 rfl (trial_Rest_ok hv8)) <| y0 rfl (o_move (d := .int .i64 v6) rfl) <| y0 rfl (o_ari rfl rfl rfl) <| y0 rfl (o_cmp rfl rfl rfl) <| y0 rfl (o_move (d := .bool (v8 == (w64 (v6 + 1)))) rfl) <| y_if (g := ((v8 == (w64 (v6 + 1))) == true)) rfl (fun hg => o_loadA (cs := store_Store.Pc v7.1) rfl rfl rfl Ty.a26 Ty.s26 nl rfl) <| y_if (g := ((v8 == (w64 (v6 + 1))) == true)) rfl (fun hg => o_move (d := .lst false (List.map hash_Place.Pv a1)) rfl) ?_
   obtain ⟨v9, hv9, h⟩ := bindE h
   refine y_ifc (g := ((v8 == (w64 (v6 + 1))) == true)) rfl (fun hg => o_callF (ls := []) (ds := [store_Store.Pv v7.1, .lst false (List.map hash_Place.Pv a1)]) rfl Ty.k43 (consE (ct hg) (consE (ct hg) rfl)) (trial_Held_ok (onlyE hv9 hg))) <| y_if (g := ((v8 == (w64 (v6 + 1))) == true)) rfl (fun hg => o_move (d := .int .i64 a2) rfl) ?_
   obtain ⟨v10, hv10, h⟩ := bindE h
   refine y_if (g := ((v8 == (w64 (v6 + 1))) == true)) rfl (fun hg => o_call (ds := [.lst false (List.map (PV.int .i64) v9), .int .i64 a2]) rfl Ty.k28 (consE (ct hg) (consE (ct hg) rfl)) (r07_Times_ok (onlyE hv10 hg))) <| y_if (g := ((v8 == (w64 (v6 + 1))) == true)) rfl (fun hg => o_cmp (ct hg) rfl rfl) <| y_if (g := ((v8 == (w64 (v6 + 1))) == true)) rfl (fun hg => o_move (d := .bool ((decide ((w64 (v6 + 1)) > 0)) || (decide ((w64 (v5.1.Strong + 1)) ≥ 12)))) rfl) <| y_if (g := ((v8 == (w64 (v6 + 1))) == true)) rfl (fun hg => o_eqB (ct hg) (ct hg) Ty.u4 rfl) <| y0 rfl (pk_and rfl rfl rfl (fun q => eqT q)) <| y0 rfl (o_move (d := .bool ((v8 == (w64 (v6 + 1))) && ((decide (v10 > 0)) == ((decide ((w64 (v6 + 1)) > 0)) || (decide ((w64 (v5.1.Strong + 1)) ≥ 12)))))) rfl) <| y_if (g := (((v8 == (w64 (v6 + 1))) && ((decide (v10 > 0)) == ((decide ((w64 (v6 + 1)) > 0)) || (decide ((w64 (v5.1.Strong + 1)) ≥ 12))))) == true)) rfl (fun hg => o_move (d := .bool ((decide ((w64 (v6 + 1)) > 0)) || (decide ((w64 (v5.1.Strong + 1)) ≥ 12)))) rfl) <| y_if (g := (((v8 == (w64 (v6 + 1))) && ((decide (v10 > 0)) == ((decide ((w64 (v6 + 1)) > 0)) || (decide ((w64 (v5.1.Strong + 1)) ≥ 12))))) == true)) rfl (fun hg => o_not (ct hg) rfl) ?_
   refine y_if (g := (((v8 == (w64 (v6 + 1))) && ((decide (v10 > 0)) == ((decide ((w64 (v6 + 1)) > 0)) || (decide ((w64 (v5.1.Strong + 1)) ≥ 12))))) == true)) rfl (fun hg => o_move (d := .bool (!((decide ((w64 (v6 + 1)) > 0)) || (decide ((w64 (v5.1.Strong + 1)) ≥ 12))))) (ct hg)) <| y_if (g := ((((v8 == (w64 (v6 + 1))) && ((decide (v10 > 0)) == ((decide ((w64 (v6 + 1)) > 0)) || (decide ((w64 (v5.1.Strong + 1)) ≥ 12))))) == true) && ((!((decide ((w64 (v6 + 1)) > 0)) || (decide ((w64 (v5.1.Strong + 1)) ≥ 12)))) == false))) (want2 rfl rfl rfl) (fun hg => o_loadA (cs := store_Store.Pc v7.1) rfl rfl rfl Ty.a26 Ty.s26 nl rfl) <| y_if (g := ((((v8 == (w64 (v6 + 1))) && ((decide (v10 > 0)) == ((decide ((w64 (v6 + 1)) > 0)) || (decide ((w64 (v5.1.Strong + 1)) ≥ 12))))) == true) && ((!((decide ((w64 (v6 + 1)) > 0)) || (decide ((w64 (v5.1.Strong + 1)) ≥ 12)))) == false))) (want2 rfl rfl rfl) (fun hg => o_move (d := .lst false (List.map hash_Place.Pv a1)) rfl) ?_
   obtain ⟨v11, hv11, h⟩ := bindE h
   refine y_ifc (g := ((((v8 == (w64 (v6 + 1))) && ((decide (v10 > 0)) == ((decide ((w64 (v6 + 1)) > 0)) || (decide ((w64 (v5.1.Strong + 1)) ≥ 12))))) == true) && ((!((decide ((w64 (v6 + 1)) > 0)) || (decide ((w64 (v5.1.Strong + 1)) ≥ 12)))) == false))) (want2 rfl rfl rfl) (fun hg => o_callF (ls := []) (ds := [store_Store.Pv v7.1, .lst false (List.map hash_Place.Pv a1)]) rfl Ty.k45 (consE (ct hg) (consE (ct hg) rfl)) (trial_Garbage_ok (onlyE hv11 hg))) <| y_if (g := ((((v8 == (w64 (v6 + 1))) && ((decide (v10 > 0)) == ((decide ((w64 (v6 + 1)) > 0)) || (decide ((w64 (v5.1.Strong + 1)) ≥ 12))))) == true) && ((!((decide ((w64 (v6 + 1)) > 0)) || (decide ((w64 (v5.1.Strong + 1)) ≥ 12)))) == false))) (want2 rfl rfl rfl) (fun hg => o_move (d := .int .i64 a2) rfl) ?_
   obtain ⟨v12, hv12, h⟩ := bindE h
   refine y_if (g := ((((v8 == (w64 (v6 + 1))) && ((decide (v10 > 0)) == ((decide ((w64 (v6 + 1)) > 0)) || (decide ((w64 (v5.1.Strong + 1)) ≥ 12))))) == true) && ((!((decide ((w64 (v6 + 1)) > 0)) || (decide ((w64 (v5.1.Strong + 1)) ≥ 12)))) == false))) (want2 rfl rfl rfl) (fun hg => o_call (ds := [.lst false (List.map (PV.int .i64) v11), .int .i64 a2]) rfl Ty.k28 (consE (ct hg) (consE (ct hg) rfl)) (r07_Times_ok (onlyE hv12 hg))) <| y_if (g := ((((v8 == (w64 (v6 + 1))) && ((decide (v10 > 0)) == ((decide ((w64 (v6 + 1)) > 0)) || (decide ((w64 (v5.1.Strong + 1)) ≥ 12))))) == true) && ((!((decide ((w64 (v6 + 1)) > 0)) || (decide ((w64 (v5.1.Strong + 1)) ≥ 12)))) == false))) (want2 rfl rfl rfl) (fun hg => o_cmp (ct hg) rfl rfl) <| y_if (g := (((v8 == (w64 (v6 + 1))) && ((decide (v10 > 0)) == ((decide ((w64 (v6 + 1)) > 0)) || (decide ((w64 (v5.1.Strong + 1)) ≥ 12))))) == true)) rfl (fun hg => pk_or (ct hg) rfl rfl (fun q => andI hg (eqF q))) <| y0 rfl (pk_and rfl rfl rfl (fun q => eqT q)) <| y0 rfl (o_assign (d := .bool (((v8 == (w64 (v6 + 1))) && ((decide (v10 > 0)) == ((decide ((w64 (v6 + 1)) > 0)) || (decide ((w64 (v5.1.Strong + 1)) ≥ 12))))) && ((!((decide ((w64 (v6 + 1)) > 0)) || (decide ((w64 (v5.1.Strong + 1)) ≥ 12)))) || (v12 == 0)))) rfl) <| y_nil <| pw_ret ?_
   obtain rfl := Option.some.inj h
   exact ⟨rfl, [_], ⟨rfl, trivial⟩, rfl, io⟩

theorem w13_TrialTwice_ok {a0 : store_Store} {a1 : List hash_Place} {r : Bool} (h : w13_TrialTwice a0 a1 = some r) : PCalls Tryz.prog 12 [store_Store.Pv a0, .lst false (List.map hash_Place.Pv a1)] (.bool r) := by
 unfold w13_TrialTwice at h
 refine pc_intro (N := 98) Tryz.func12 rfl rfl nl fun w0 imm0 => sR <| y1 rfl (o_box (d := store_Store.Pv a0) (z := 3) (cl := true) rfl rfl rfl rfl rfl) rfl <| y0 rfl (o_assign (d := .bool false) rfl) <| y_nil <| pw_seq <| sR <| y0 rfl (o_loadA (cs := store_Store.Pc a0) rfl rfl rfl Ty.a26 Ty.s26 nl rfl) ?_
 obtain ⟨v1, hv1, h⟩ := bindE h
 refine y0 rfl (o_call (ds := [store_Store.Pv a0]) rfl Ty.k34 rfl (w13_right_ok hv1)) <| y0 rfl (o_not rfl rfl) <| y0 rfl (o_move (d := .bool (!v1)) rfl) <| y_if (g := ((!v1) == false)) rfl (fun hg => o_move (d := .lst false (List.map hash_Place.Pv a1)) rfl) ?_
 obtain ⟨v2, hv2, h⟩ := bindE h
 refine y_if (g := ((!v1) == false)) rfl (fun hg => o_call (ds := [.lst false (List.map hash_Place.Pv a1)]) rfl Ty.k35 (consE (ct hg) rfl) (w13_even_ok (onlyE hv2 hg))) <| y_if (g := ((!v1) == false)) rfl (fun hg => o_not (ct hg) rfl) <| y0 rfl (pk_or rfl rfl rfl (fun q => eqF q)) <| y0 rfl (o_move (d := .bool ((!v1) || (!v2))) rfl) ?_
 obtain ⟨v3, hv3, h⟩ := bindE h
 refine y_if (g := (((!v1) || (!v2)) == false)) rfl (fun hg => o_call (ds := []) rfl Ty.k36 rfl (w13_shown_ok (onlyE hv3 hg))) <| y_if (g := (((!v1) || (!v2)) == false)) rfl (fun hg => o_not (ct hg) rfl) <| y0 rfl (pk_or rfl rfl rfl (fun q => eqF q)) <| y_nil ?_
 refine pw_cond (((!v1) || (!v2)) || (!v3)) rfl (fun hc => ?_) (fun hc => ?_)
 ·have h := ifT h hc
  refine sR ?_
  obtain ⟨v4, hv4, h⟩ := bindE h
  refine y0 rfl (o_call (ds := []) rfl Ty.k36 rfl (w13_shown_ok hv4)) <| y0 rfl (o_assign (d := .bool v4) rfl) <| y_nil <| pw_ret ?_
  obtain rfl := Option.some.inj h
  exact ⟨rfl, [_], ⟨rfl, trivial⟩, rfl, io⟩
 ·have h := ifF h hc
  refine pw_skip <| sR <| y0 rfl (o_loadA (cs := store_Store.Pc a0) rfl rfl rfl Ty.a26 Ty.s26 nl rfl) <| y0 rfl (o_move (d := .lst false (List.map hash_Place.Pv a1)) rfl) ?_
  obtain ⟨v5, hv5, h⟩ := bindE h
  refine yc rfl (o_callF (ls := []) (ds := [store_Store.Pv a0, .lst false (List.map hash_Place.Pv a1)]) rfl Ty.k45 rfl (trial_Garbage_ok hv5)) <| y0 rfl (o_assign (d := .lst false (List.map (PV.int .i64) v5)) rfl) <| y_nil <| sR <| y0 rfl (o_loadA (cs := store_Store.Pc a0) rfl rfl rfl Ty.a26 Ty.s26 nl rfl) ?_
  obtain ⟨v6, hv6, h⟩ := bindE h
  refine yc rfl (o_callF (ls := []) (ds := [store_Store.Pv a0]) rfl Ty.k37 rfl (w13_its_ok hv6)) ?_
  obtain ⟨v7, hv7, h⟩ := bindE h
  refine yc rfl (o_callF (ls := []) (ds := [r06_Store.Pv v6]) rfl Ty.k27 rfl (r06_Live_ok hv7)) <| y0 rfl (o_assign (d := .lst false (List.map (PV.int .i64) v7)) rfl) <| y_nil ?_
  obtain ⟨κ57, hκ54, h⟩ := jnE h
  refine pw_jn0 (κ := κ57) (r := r) (fun (_ : Unit) => St.of [(5, .lst false (List.map (PV.int .i64) v5)), (6, .lst false (List.map (PV.int .i64) v7))] []) (fun q58 h => ?_) ?_
  ·subst hκ54
   refine sR <| y0 rfl (o_move (d := .lst false (List.map (PV.int .i64) v5)) rfl) <| y0 rfl (o_lnL (f := (PV.int .i64)) rfl Ty.e28) <| y0 rfl (o_move (d := .lst false (List.map (PV.int .i64) v7)) rfl) <| y0 rfl (o_lnL (f := (PV.int .i64)) rfl Ty.e28) <| y0 rfl (o_cmp rfl rfl rfl) <| y0 rfl (o_assign (d := .bool (decide ((v5.length : Int) ≤ (v7.length : Int)))) rfl) <| y_nil ?_
   refine pw_ret ?_
   obtain rfl := Option.some.inj h
   exact ⟨rfl, [_], ⟨rfl, trivial⟩, rfl, io⟩
  ·skip
   refine sR <| y0 rfl (o_assign (d := .int .i64 0) rfl) <| y_nil <| pw_block ?_
   obtain ⟨e59, hl55, hk56⟩ := bindE h
   refine pw_lp0 (fun (s60 : Int) => St.of [(1, .lst false (List.map hash_Place.Pv a1)), (2, .ptr 2 0 0), (5, .lst false (List.map (PV.int .i64) v5)), (6, .lst false (List.map (PV.int .i64) v7)), (7, .int .i64 s60)] [(2, ⟨[store_Store.Pv a0], 0, false, 3, true⟩)]) hl55 (wk_st _ _ ⟨rfl, rfl, rfl, rfl, rfl, rfl, rfl, rfl, rfl, rfl, rfl, rfl, rfl, rfl, rfl, trivial⟩ ⟨rS, trivial⟩) (fun s60 x61 h hx57 => ?_)
   refine pw_seq <| sR <| y0 rfl (o_move (d := .int .i64 s60) rfl) <| y0 rfl (o_move (d := .lst false (List.map (PV.int .i64) v7)) rfl) <| y0 rfl (o_lnL (f := (PV.int .i64)) rfl Ty.e28) <| y0 rfl (o_cmp rfl rfl rfl) <| y_nil ?_
   refine pw_cond (decide (s60 < (v7.length : Int))) rfl (fun hc => ?_) (fun hc => ?_)
   ·have h := ifT h hc
    refine pw_skip ?_
    obtain ⟨κ84, hκ79, h⟩ := jnE h
    refine pw_jn0 (κ := κ84) (r := x61) (fun (_ : Unit) => St.of [(1, .lst false (List.map hash_Place.Pv a1)), (2, .ptr 2 0 0), (5, .lst false (List.map (PV.int .i64) v5)), (6, .lst false (List.map (PV.int .i64) v7)), (7, .int .i64 s60)] [(2, ⟨[store_Store.Pv a0], 0, false, 3, true⟩)]) (fun q85 h => ?_) ?_
    ·subst hκ79
     refine sr1 (by kernel_rfl) <| y0 rfl (o_move (d := .int .i64 s60) rfl) <| y0 rfl (o_ari rfl rfl rfl) <| y0 rfl (o_assign (d := .int .i64 (w64 (s60 + 1))) rfl) <| y_nil ?_
     exact ⟨rfl, w64 (s60 + 1), (Option.some.inj h).symm, (wk_st _ _ ⟨rfl, rfl, rfl, rfl, rfl, rfl, rfl, rfl, rfl, rfl, rfl, rfl, rfl, rfl, rfl, trivial⟩ ⟨rS, trivial⟩)⟩
    ·skip
     refine pw_block <| pw_seq <| sR <| y0 rfl (o_move (d := .lst false (List.map (PV.int .i64) v5)) rfl) <| y0 rfl (o_move (d := .lst false (List.map (PV.int .i64) v7)) rfl) <| y0 rfl (o_move (d := .int .i64 s60) rfl) ?_
     obtain ⟨v86, hv80, h⟩ := bindE h
     refine y0 rfl (o_ixL (f := (PV.int .i64)) (cs := [.int .i64 v86]) hv80 rfl rfl Ty.e28 Ty.s3 rfl rfl) <| y0 rfl (o_loadRS rfl Ty.a3 rfl) ?_
     obtain ⟨v87, hv81, h⟩ := bindE h
     refine y0 rfl (o_call (ds := [.lst false (List.map (PV.int .i64) v5), .int .i64 v86]) rfl Ty.k28 rfl (r07_Times_ok hv81)) <| y0 rfl (o_cmp rfl rfl rfl) <| y_nil ?_
     refine pw_cond (decide (v87 > 0)) rfl (fun hc => ?_) (fun hc => ?_)
     ·have h := ifT h hc
      refine pw_exit <| thenQ_exit <| blockQ_exit ?_
      exact ⟨rfl, (), h, (wk_st _ _ ⟨rfl, rfl, rfl, rfl, rfl, rfl, rfl, rfl, rfl, rfl, rfl, rfl, rfl, rfl, rfl, trivial⟩ ⟨rS, trivial⟩)⟩
     ·have h := ifF h hc
      refine pw_skip <| dr [] Ty.mix (by kernel_rfl) (by kernel_rfl) <| d0 rfl (o_loadA (cs := store_Store.Pc a0) rfl rfl rfl Ty.a26 Ty.s26 nl rfl) rfl <| d2f rfl (o_callF (ls := []) (ds := [store_Store.Pv a0]) rfl Ty.k37 rfl (w13_its_ok hv6)) rfl <| d7 rfl (fun _ hN => o_move (d := .lst false (List.map (PV.int .i64) v7)) rfl) rfl <| d7 rfl (fun _ hN => o_move (d := .int .i64 s60) rfl) rfl <| d0 rfl (o_ixL (f := (PV.int .i64)) (cs := [.int .i64 v86]) hv80 rfl rfl Ty.e28 Ty.s3 rfl rfl) rfl <| d0 rfl (o_loadRS rfl Ty.a3 rfl) rfl ?_
      obtain ⟨v88, hv82, h⟩ := bindE h
      refine d2f rfl (o_callF (ls := []) (ds := [r06_Store.Pv v6, .int .i64 v86]) rfl Ty.k53 rfl (r07_Out_ok hv82)) rfl <| d7 rfl (fun _ hN => o_assign (d := .lst false (List.map (PV.int .i64) v88)) rfl) rfl <| d_nil ?_
      obtain ⟨κ94, hκ88, h⟩ := jnE h
      refine pw_jn0 (κ := κ94) (r := x61) (fun (_ : Unit) => St.of [(1, .lst false (List.map hash_Place.Pv a1)), (2, .ptr 2 0 0), (5, .lst false (List.map (PV.int .i64) v5)), (6, .lst false (List.map (PV.int .i64) v7)), (7, .int .i64 s60)] [(2, ⟨[store_Store.Pv a0], 0, false, 3, true⟩)]) (fun q95 h => ?_) ?_
      ·subst hκ88
       refine sR <| y0 rfl (o_move (d := .lst false (List.map hash_Place.Pv a1)) rfl) ?_
       obtain ⟨v96, hv89, h⟩ := bindE h
       refine yc rfl (o_callF (ls := []) (ds := [.lst false (List.map hash_Place.Pv a1)]) rfl Ty.k38 rfl (w13_tab_ok hv89)) ?_
       obtain ⟨v97, hv90, h⟩ := bindE h
       refine yc rfl (o_callF (ls := []) (ds := [.lst false (List.map r10_Place.Pv v96)]) rfl Ty.k56 rfl (r11_Pairs_ok hv90)) <| y0 rfl (o_assign (d := .lst false (List.map r11_Pair.Pv v97)) rfl) <| y_nil <| sR <| y0 rfl (o_assign (d := .int .i64 0) rfl) <| y_nil <| pw_block ?_
       obtain ⟨e98, hl91, hk92⟩ := bindE h
       refine pw_lp0 (fun (s99 : Int) => St.of [(1, .lst false (List.map hash_Place.Pv a1)), (2, .ptr 2 0 0), (5, .lst false (List.map (PV.int .i64) v5)), (6, .lst false (List.map (PV.int .i64) v7)), (7, .int .i64 s60), (10, .lst false (List.map r11_Pair.Pv v97)), (11, .int .i64 s99)] [(2, ⟨[store_Store.Pv a0], 0, false, 3, true⟩)]) hl91 (wk_st _ _ ⟨rfl, rfl, rfl, rfl, rfl, rfl, rfl, rfl, rfl, rfl, rfl, rfl, rfl, rfl, rfl, rfl, rfl, rfl, rfl, rfl, rfl, trivial⟩ ⟨rS, trivial⟩) (fun s99 x100 h hx93 => ?_)
       refine pw_seq <| sR <| y0 rfl (o_move (d := .int .i64 s99) rfl) <| y0 rfl (o_move (d := .lst false (List.map r11_Pair.Pv v97)) rfl) <| y0 rfl (o_lnL (f := r11_Pair.Pv) rfl Ty.e78) <| y0 rfl (o_cmp rfl rfl rfl) <| y_nil ?_
       refine pw_cond (decide (s99 < (v97.length : Int))) rfl (fun hc => ?_) (fun hc => ?_)
       ·have h := ifT h hc
        refine pw_skip <| pw_seq <| pw_block <| dr [] Ty.mix (by kernel_rfl) (by kernel_rfl) <| d7 rfl (fun _ hN => o_move (d := .lst false (List.map r11_Pair.Pv v97)) rfl) rfl <| d7 rfl (fun _ hN => o_move (d := .int .i64 s99) rfl) rfl ?_
        obtain ⟨v101, hv94, h⟩ := bindE h
        refine d0 rfl (o_ixL (f := r11_Pair.Pv) (cs := r11_Pair.Pc v101) hv94 rfl rfl Ty.e78 Ty.s80 rfl rfl) rfl <| d7 rfl (fun _ hN => o_fieldAddrR rfl Ty.f80_0 rfl) rfl <| d0 rfl (o_loadRS rfl Ty.a3 rfl) rfl <| d7 rfl (fun _ hN => o_move (d := .lst false (List.map (PV.int .i64) v7)) rfl) rfl <| d7 rfl (fun _ hN => o_move (d := .int .i64 s60) rfl) rfl <| d0 rfl (o_ixL (f := (PV.int .i64)) (cs := [.int .i64 v86]) hv80 rfl rfl Ty.e28 Ty.s3 rfl rfl) rfl <| d0 rfl (o_loadRS rfl Ty.a3 rfl) rfl <| d7 rfl (fun _ hN => o_cmp rfl rfl rfl) rfl ?_
        refine d7 rfl (fun _ hN => o_move (d := .bool (v101.Key == v86)) rfl) rfl <| d_if7 (g := ((v101.Key == v86) == true)) rfl (fun hg _ hN => o_move (d := .lst false (List.map (PV.int .i64) v5)) rfl) rfl <| d_if7 (g := ((v101.Key == v86) == true)) rfl (fun hg _ hN => o_move (d := .lst false (List.map r11_Pair.Pv v97)) rfl) rfl <| d_if7 (g := ((v101.Key == v86) == true)) rfl (fun hg _ hN => o_move (d := .int .i64 s99) rfl) rfl <| d_if0 (g := ((v101.Key == v86) == true)) rfl (fun hg => o_ixL (f := r11_Pair.Pv) (cs := r11_Pair.Pc v101) hv94 (ct hg) (ct hg) Ty.e78 Ty.s80 rfl rfl) rfl <| d_if7 (g := ((v101.Key == v86) == true)) rfl (fun hg _ hN => o_fieldAddrR (ct hg) Ty.f80_1 rfl) rfl <| d_if0 (g := ((v101.Key == v86) == true)) rfl (fun hg => o_loadRS (ct hg) Ty.a3 rfl) rfl ?_
        obtain ⟨v102, hv95, h⟩ := bindE h
        refine d_if2 (g := ((v101.Key == v86) == true)) rfl (fun hg => o_call (ds := [.lst false (List.map (PV.int .i64) v5), .int .i64 v101.Val]) rfl Ty.k28 (consE (ct hg) (consE (ct hg) rfl)) (r07_Times_ok (onlyE hv95 hg))) rfl <| d_if7 (g := ((v101.Key == v86) == true)) rfl (fun hg _ hN => o_cmp (ct hg) rfl rfl) rfl <| d7 rfl (fun _ hN => pk_and rfl rfl rfl (fun q => eqT q)) rfl <| d_nil ?_
        refine pw_cond ((v101.Key == v86) && (decide (v102 > 0))) rfl (fun hc => ?_) (fun hc => ?_)
        ·have h := ifT h hc
         refine sR <| y0 rfl (o_assign (d := .bool false) rfl) <| y_nil <| pw_ret ?_
         have he := hx93 _ (Option.some.inj h).symm
         have h := hk92
         rw [← he] at h
         have he := hx57 _ (Option.some.inj h).symm
         have h := hk56
         rw [← he] at h
         obtain rfl := Option.some.inj h
         exact ⟨rfl, [_], ⟨rfl, trivial⟩, rfl, io⟩
        ·have h := ifF h hc
         refine pw_skip <| sr1 (by kernel_rfl) <| y0 rfl (o_move (d := .int .i64 s99) rfl) <| y0 rfl (o_ari rfl rfl rfl) <| y0 rfl (o_assign (d := .int .i64 (w64 (s99 + 1))) rfl) <| y_nil ?_
         exact ⟨rfl, w64 (s99 + 1), (Option.some.inj h).symm, (wk_st _ _ ⟨rfl, rfl, rfl, rfl, rfl, rfl, rfl, rfl, rfl, rfl, rfl, rfl, rfl, rfl, rfl, rfl, rfl, rfl, rfl, rfl, rfl, trivial⟩ ⟨rS, trivial⟩)⟩
       ·have h := ifF h hc
        refine pw_exit <| thenQ_exit <| thenQ_exit <| blockQ_exit ?_
        have he := hx93 _ (Option.some.inj h).symm
        have h := hk92
        rw [← he] at h
        exact ⟨rfl, (), h, (wk_st _ _ ⟨rfl, rfl, rfl, rfl, rfl, rfl, rfl, rfl, rfl, rfl, rfl, rfl, rfl, rfl, rfl, trivial⟩ ⟨rS, trivial⟩)⟩
      ·skip
       refine sR <| y0 rfl (o_assign (d := .int .i64 0) rfl) <| y_nil <| pw_block ?_
       obtain ⟨e103, hl96, hk97⟩ := bindE h
       refine pw_lp0 (fun (s104 : Int) => St.of [(1, .lst false (List.map hash_Place.Pv a1)), (2, .ptr 2 0 0), (5, .lst false (List.map (PV.int .i64) v5)), (6, .lst false (List.map (PV.int .i64) v7)), (7, .int .i64 s60), (8, .lst false (List.map (PV.int .i64) v88)), (9, .int .i64 s104)] [(2, ⟨[store_Store.Pv a0], 0, false, 3, true⟩)]) hl96 (wk_st _ _ ⟨rfl, rfl, rfl, rfl, rfl, rfl, rfl, rfl, rfl, rfl, rfl, rfl, rfl, rfl, rfl, rfl, rfl, rfl, rfl, rfl, rfl, trivial⟩ ⟨rS, trivial⟩) (fun s104 x105 h hx98 => ?_)
       refine pw_seq <| sR <| y0 rfl (o_move (d := .int .i64 s104) rfl) <| y0 rfl (o_move (d := .lst false (List.map (PV.int .i64) v88)) rfl) <| y0 rfl (o_lnL (f := (PV.int .i64)) rfl Ty.e28) <| y0 rfl (o_cmp rfl rfl rfl) <| y_nil ?_
       refine pw_cond (decide (s104 < (v88.length : Int))) rfl (fun hc => ?_) (fun hc => ?_)
       ·have h := ifT h hc
        refine pw_skip <| pw_seq <| pw_block <| sR <| y0 rfl (o_move (d := .lst false (List.map (PV.int .i64) v5)) rfl) <| y0 rfl (o_move (d := .lst false (List.map (PV.int .i64) v88)) rfl) <| y0 rfl (o_move (d := .int .i64 s104) rfl) ?_
        obtain ⟨v106, hv99, h⟩ := bindE h
        refine y0 rfl (o_ixL (f := (PV.int .i64)) (cs := [.int .i64 v106]) hv99 rfl rfl Ty.e28 Ty.s3 rfl rfl) <| y0 rfl (o_loadRS rfl Ty.a3 rfl) ?_
        obtain ⟨v107, hv100, h⟩ := bindE h
        refine y0 rfl (o_call (ds := [.lst false (List.map (PV.int .i64) v5), .int .i64 v106]) rfl Ty.k28 rfl (r07_Times_ok hv100)) <| y0 rfl (o_cmp rfl rfl rfl) <| y_nil ?_
        refine pw_cond (decide (v107 > 0)) rfl (fun hc => ?_) (fun hc => ?_)
        ·have h := ifT h hc
         refine sR <| y0 rfl (o_assign (d := .bool false) rfl) <| y_nil <| pw_ret ?_
         have he := hx98 _ (Option.some.inj h).symm
         have h := hk97
         rw [← he] at h
         have he := hx57 _ (Option.some.inj h).symm
         have h := hk56
         rw [← he] at h
         obtain rfl := Option.some.inj h
         exact ⟨rfl, [_], ⟨rfl, trivial⟩, rfl, io⟩
        ·have h := ifF h hc
         refine pw_skip <| sr1 (by kernel_rfl) <| y0 rfl (o_move (d := .int .i64 s104) rfl) <| y0 rfl (o_ari rfl rfl rfl) <| y0 rfl (o_assign (d := .int .i64 (w64 (s104 + 1))) rfl) <| y_nil ?_
         exact ⟨rfl, w64 (s104 + 1), (Option.some.inj h).symm, (wk_st _ _ ⟨rfl, rfl, rfl, rfl, rfl, rfl, rfl, rfl, rfl, rfl, rfl, rfl, rfl, rfl, rfl, rfl, rfl, rfl, rfl, rfl, rfl, trivial⟩ ⟨rS, trivial⟩)⟩
       ·have h := ifF h hc
        refine pw_exit <| thenQ_exit <| thenQ_exit <| blockQ_exit ?_
        have he := hx98 _ (Option.some.inj h).symm
        have h := hk97
        rw [← he] at h
        exact ⟨rfl, (), h, (wk_st _ _ ⟨rfl, rfl, rfl, rfl, rfl, rfl, rfl, rfl, rfl, rfl, rfl, rfl, rfl, rfl, rfl, trivial⟩ ⟨rS, trivial⟩)⟩
   ·have h := ifF h hc
    refine pw_exit <| thenQ_exit <| thenQ_exit <| blockQ_exit ?_
    have he := hx57 _ (Option.some.inj h).symm
    have h := hk56
    rw [← he] at h
    exact ⟨rfl, (), h, (wk_st _ _ ⟨rfl, rfl, rfl, rfl, rfl, rfl, trivial⟩ trivial)⟩

end Go.Proofs.YtkjilddlbaibfaaGreat.Ok
