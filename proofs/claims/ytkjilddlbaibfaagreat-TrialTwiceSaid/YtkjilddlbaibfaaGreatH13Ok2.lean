/-
 The functions of the program do as the plain functions do.
-/
import Derived.Test.YtkjilddlbaibfaaGreatH13Ok1
namespace Go.Proofs.YtkjilddlbaibfaaGreat.Ok
open Go Go.Pw Go.Sh Go.Proofs
set_option linter.unusedVariables false
set_option maxRecDepth 100000
set_option maxHeartbeats 4000000
theorem reach_spread_ok {a0 : store_Store} {a1 : List Int} {r : List (Int × Bool)} (h : reach_spread a0 a1 = some r) : PCalls Tryz.prog 76 [store_Store.Pv a0, .lst false (List.map (PV.int .i64) a1)] (.abs (ImMap (List.map (ent (PV.int .i64) PV.bool) r))) := by
 unfold reach_spread at h
 refine pc_intro (N := 33) Tryz.func76 rfl rfl nl fun w0 imm0 => sR <| y1 rfl (o_box (d := store_Store.Pv a0) (z := 3) (cl := true) rfl rfl rfl rfl rfl) rfl <| y0 rfl (o_assign (d := .abs NilMap) rfl) <| y_nil <| sR <| y_mkM (KT := Int) (VT := Bool) (EK := (PV.int .i64)) (E := PV.bool) 5000009 rfl rfl <| y1 rfl (o_alloc (d := .abs NilMap) (z := 1) rfl Ty.z104 rfl rfl rfl) rfl ?_
 refine y_sto (x' := .mp 5000009) (cl' := false) rfl rfl (.inl rfl) Ty.s104 <| y_nil <| sR <| y0 rfl (o_loadA (cs := store_Store.Pc a0) rfl rfl rfl Ty.a26 Ty.s26 nl rfl) ?_
 obtain ⟨v1, hv1, h⟩ := bindE h
 refine yc rfl (o_callF (ls := []) (ds := [store_Store.Pv a0]) rfl Ty.k123 rfl (store_Live_ok hv1)) <| y0 rfl (o_lnL (f := (PV.int .i64)) rfl Ty.e28) ?_
 obtain ⟨v2, hv2, h⟩ := bindE h
 refine yc rfl (o_callF (ls := []) (ds := [.int .i64 (v1.length : Int)]) rfl Ty.k122 rfl (queue_New_int_ok hv2)) <| y1 rfl (o_alloc (d := .agg [.lst true (List.map (PV.int .i64) []), .int .i64 0]) (z := 2) rfl Ty.z148 rfl rfl rfl) rfl <| y_sto (x' := queue_Queue_int.Pv v2) (cl' := true) rfl rfl (.inr rfl) Ty.s148 <| y_nil <| sR <| y0 rfl (o_mkFunc rfl) <| y0 rfl (o_assign (d := .fn (.func 124) [.ptr 2 0 0, .ptr 5 0 0, .ptr 6 0 0]) rfl) <| y_nil ?_
 refine sR <| y0 rfl (o_move (d := .fn (.func 124) [.ptr 2 0 0, .ptr 5 0 0, .ptr 6 0 0]) rfl) <| y0 rfl (o_move (d := .lst false (List.map (PV.int .i64) a1)) rfl) <| y_wk (wk_stP (fun l => if l = 2001 then 6 else if l = 2002 then 5 else if l = 2003 then 2 else if l = 5002004 then 5000009 else l) [(2, .ptr 2003 0 0), (5, .ptr 2002 0 0), (6, .ptr 2001 0 0), (7, .fn (.func 124) [.ptr 2003 0 0, .ptr 2002 0 0, .ptr 2001 0 0]), (15, .fn (.func 124) [.ptr 2003 0 0, .ptr 2002 0 0, .ptr 2001 0 0]), (16, .lst false (List.map (PV.int .i64) a1))] [(2001, ⟨[queue_Queue_int.Pv v2], 0, false, 2, true⟩), (2002, ⟨[.mp 5002004], 0, false, 1, false⟩), (5002004, ⟨[.mapc (List.map (ent (PV.int .i64) PV.bool) [])], 0, false, 0, false⟩), (2003, ⟨[store_Store.Pv a0], 0, false, 3, true⟩)] ⟨rfl, rfl, rfl, rfl, rfl, rfl, rfl, rfl, rfl, rfl, rfl, rfl, rfl, rfl, rfl, rfl, rfl, rfl, trivial⟩ ⟨rN, rowLe_open rfl rfl rfl (fun q => nomatch q) rfl rfl rfl rfl, rowLe_open rfl rfl rfl (fun q => nomatch q) rfl rfl rfl rfl, rN, trivial⟩ rfl) ?_
 refine y_inl (fn := Tryz.f124) (N1 := 31) rfl rfl Tryz.func124 rfl Ty.k124 rfl rfl nl (fun e3 o4 => ?_)
 obtain ⟨κ19, hκ17, h⟩ := jnE h
 refine pw_jnR (κ := κ19) (r := r) (fun (q : queue_Queue_int × (List (Int × Bool))) => St.of [(1000002, .ptr 2003 0 0), (1000005, .ptr 2002 0 0), (1000006, .ptr 2001 0 0), (1000007, .fn (.func 124) [.ptr 2003 0 0, .ptr 2002 0 0, .ptr 2001 0 0]), (1000015, .fn (.func 124) [.ptr 2003 0 0, .ptr 2002 0 0, .ptr 2001 0 0]), (1000016, .lst false (List.map (PV.int .i64) a1))] [(2001, ⟨[queue_Queue_int.Pv q.1], 0, false, 2, true⟩), (2002, ⟨[.mp 5002004], 0, false, 1, false⟩), (5002004, ⟨[.mapc (List.map (ent (PV.int .i64) PV.bool) q.2)], 0, false, 0, false⟩), (2003, ⟨[store_Store.Pv a0], 0, false, 3, true⟩)]) (fun q22 h => dup ?_) ?_
 ·subst hκ17
  obtain ⟨j20, j21⟩ := q22
  refine ⟨rfl, [], trivial, ?_⟩
  refine y_wk (wk_st [(2, .ptr 2003 0 0), (5, .ptr 2002 0 0), (6, .ptr 2001 0 0), (7, .fn (.func 124) [.ptr 2003 0 0, .ptr 2002 0 0, .ptr 2001 0 0])] [(2001, ⟨[queue_Queue_int.Pv j20], 0, false, 2, true⟩), (2002, ⟨[.mp 5002004], 0, false, 1, false⟩), (5002004, ⟨[.mapc (List.map (ent (PV.int .i64) PV.bool) j21)], 0, false, 0, false⟩), (2003, ⟨[store_Store.Pv a0], 0, false, 3, true⟩)] ⟨rfl, rfl, rfl, rfl, rfl, rfl, rfl, rfl, rfl, rfl, rfl, rfl, trivial⟩ ⟨rS, rowLe_open rfl rfl rfl (fun q => nomatch q) rfl rfl rfl rfl, rowLe_open rfl rfl rfl (fun q => nomatch q) rfl rfl rfl rfl, rS, trivial⟩) <| y_nil ?_
  obtain ⟨κ67, hκ51, h⟩ := jnE h
  refine pw_jn0 (κ := κ67) (r := r) (fun (j68 : List (Int × Bool)) => St.of [(5, .ptr 2002 0 0)] [(2002, ⟨[.mp 5002004], 0, false, 1, false⟩), (5002004, ⟨[.mapc (List.map (ent (PV.int .i64) PV.bool) j68)], 0, false, 0, false⟩)]) (fun j68 h => ?_) ?_
  ·subst hκ51
   refine sR <| y0 rfl (o_loadS rfl rfl rfl Ty.a104 rfl) <| y0 rfl (o_assign (d := .mp 5002004) rfl) <| y_nil <| pw_wk (wk_mfz 4 5002004 rfl rfl) <| pw_ret ?_
   obtain rfl := Option.some.inj h
   exact ⟨rfl, [_], ⟨rfl, trivial⟩, rfl, io⟩
  ·skip
   refine pw_block ?_
   obtain ⟨e69, hl52, hk53⟩ := bindE h
   refine pw_lp0 (fun (q : queue_Queue_int × (List (Int × Bool))) => St.of [(2, .ptr 2003 0 0), (5, .ptr 2002 0 0), (6, .ptr 2001 0 0), (7, .fn (.func 124) [.ptr 2003 0 0, .ptr 2002 0 0, .ptr 2001 0 0])] [(2001, ⟨[queue_Queue_int.Pv q.1], 0, false, 2, true⟩), (2002, ⟨[.mp 5002004], 0, false, 1, false⟩), (5002004, ⟨[.mapc (List.map (ent (PV.int .i64) PV.bool) q.2)], 0, false, 0, false⟩), (2003, ⟨[store_Store.Pv a0], 0, false, 3, true⟩)]) hl52 (wk_st _ _ ⟨rfl, rfl, rfl, rfl, rfl, rfl, rfl, rfl, rfl, rfl, rfl, rfl, trivial⟩ ⟨rS, rowLe_open rfl rfl rfl (fun q => nomatch q) rfl rfl rfl rfl, rowLe_open rfl rfl rfl (fun q => nomatch q) rfl rfl rfl rfl, rS, trivial⟩) (fun q73 x72 h hx54 => ?_)
   obtain ⟨s70, s71⟩ := q73
   refine pw_seq <| sR <| y0 rfl (o_loadA (cs := queue_Queue_int.Pc s70) rfl rfl rfl Ty.a148 Ty.s148 nl rfl) ?_
   obtain ⟨v74, hv55, h⟩ := bindE h
   refine y0 rfl (o_call (ds := [queue_Queue_int.Pv s70]) rfl Ty.k126 rfl (queue_Len_int_ok hv55)) <| y0 rfl (o_cmp rfl rfl rfl) <| y_nil ?_
   refine pw_cond (decide (v74 > 0)) rfl (fun hc => ?_) (fun hc => ?_)
   ·have h := ifT h hc
    refine pw_skip <| pw_block <| sR <| y0 rfl (o_assign (d := .int .i64 0) rfl) <| y_nil <| sR <| y0 rfl (o_loadA (cs := queue_Queue_int.Pc s70) rfl rfl rfl Ty.a148 Ty.s148 nl rfl) ?_
    obtain ⟨v75, hv56, h⟩ := bindE h
    refine yc rfl (o_callF (ls := []) (ds := [queue_Queue_int.Pv s70]) rfl Ty.k127 rfl (queue_Pop_int_ok hv56)) <| y0 rfl (o_move (d := .tup [queue_Queue_int.Pv v75.1, .int .i64 v75.2.1, .int .i64 v75.2.2]) rfl) <| y0 rfl (o_extract rfl rfl) <| y0 rfl (o_extract rfl rfl) <| y0 rfl (o_extract rfl rfl) <| y_sto (x' := queue_Queue_int.Pv v75.1) (cl' := true) rfl rfl (.inr rfl) Ty.s148 <| y0 rfl (o_assign (d := .int .i64 v75.2.1) rfl) <| y_nil ?_
    refine sr1 (by kernel_rfl) <| y0 rfl (o_move (d := .fn (.func 124) [.ptr 2003 0 0, .ptr 2002 0 0, .ptr 2001 0 0]) rfl) <| y0 rfl (o_loadA (cs := store_Store.Pc a0) rfl rfl rfl Ty.a26 Ty.s26 nl rfl) <| y0 rfl (o_move (d := .int .i64 v75.2.1) rfl) ?_
    obtain ⟨v76, hv57, h⟩ := bindE h
    refine yc rfl (o_callF (ls := []) (ds := [store_Store.Pv a0, .int .i64 v75.2.1]) rfl Ty.k115 rfl (refs_Out_ok hv57)) <| y_wk (wk_st [(2, .ptr 2003 0 0), (5, .ptr 2002 0 0), (6, .ptr 2001 0 0), (7, .fn (.func 124) [.ptr 2003 0 0, .ptr 2002 0 0, .ptr 2001 0 0]), (27, .fn (.func 124) [.ptr 2003 0 0, .ptr 2002 0 0, .ptr 2001 0 0]), (30, .lst false (List.map (PV.int .i64) v76))] [(2001, ⟨[queue_Queue_int.Pv v75.1], 0, false, 2, true⟩), (2002, ⟨[.mp 5002004], 0, false, 1, false⟩), (5002004, ⟨[.mapc (List.map (ent (PV.int .i64) PV.bool) s71)], 0, false, 0, false⟩), (2003, ⟨[store_Store.Pv a0], 0, false, 3, true⟩)] ⟨rfl, rfl, rfl, rfl, rfl, rfl, rfl, rfl, rfl, rfl, rfl, rfl, rfl, rfl, rfl, rfl, rfl, rfl, trivial⟩ ⟨rS, rowLe_open rfl rfl rfl (fun q => nomatch q) rfl rfl rfl rfl, rowLe_open rfl rfl rfl (fun q => nomatch q) rfl rfl rfl rfl, rS, trivial⟩) ?_
    refine y_inl (fn := Tryz.f124) (N1 := 31) rfl rfl Tryz.func124 rfl Ty.k124 rfl rfl nl (fun e58 o59 => ?_)
    obtain ⟨κ93, hκ72, h⟩ := jnE h
    refine pw_jnR (κ := κ93) (r := x72) (fun (q : queue_Queue_int × (List (Int × Bool))) => St.of [(1000002, .ptr 2003 0 0), (1000005, .ptr 2002 0 0), (1000006, .ptr 2001 0 0), (1000007, .fn (.func 124) [.ptr 2003 0 0, .ptr 2002 0 0, .ptr 2001 0 0]), (1000027, .fn (.func 124) [.ptr 2003 0 0, .ptr 2002 0 0, .ptr 2001 0 0]), (1000030, .lst false (List.map (PV.int .i64) v76))] [(2001, ⟨[queue_Queue_int.Pv q.1], 0, false, 2, true⟩), (2002, ⟨[.mp 5002004], 0, false, 1, false⟩), (5002004, ⟨[.mapc (List.map (ent (PV.int .i64) PV.bool) q.2)], 0, false, 0, false⟩), (2003, ⟨[store_Store.Pv a0], 0, false, 3, true⟩)]) (fun q96 h => dup ?_) ?_
    ·subst hκ72
     obtain ⟨j94, j95⟩ := q96
     refine ⟨rfl, [], trivial, ?_⟩
     refine y_wk (wk_st [(2, .ptr 2003 0 0), (5, .ptr 2002 0 0), (6, .ptr 2001 0 0), (7, .fn (.func 124) [.ptr 2003 0 0, .ptr 2002 0 0, .ptr 2001 0 0])] [(2001, ⟨[queue_Queue_int.Pv j94], 0, false, 2, true⟩), (2002, ⟨[.mp 5002004], 0, false, 1, false⟩), (5002004, ⟨[.mapc (List.map (ent (PV.int .i64) PV.bool) j95)], 0, false, 0, false⟩), (2003, ⟨[store_Store.Pv a0], 0, false, 3, true⟩)] ⟨rfl, rfl, rfl, rfl, rfl, rfl, rfl, rfl, rfl, rfl, rfl, rfl, trivial⟩ ⟨rS, rowLe_open rfl rfl rfl (fun q => nomatch q) rfl rfl rfl rfl, rowLe_open rfl rfl rfl (fun q => nomatch q) rfl rfl rfl rfl, rS, trivial⟩) <| y_nil ?_
     exact ⟨rfl, (j94, j95), (Option.some.inj h).symm, (wk_st _ _ ⟨rfl, rfl, rfl, rfl, rfl, rfl, rfl, rfl, rfl, rfl, rfl, rfl, trivial⟩ ⟨rS, rowLe_open rfl rfl rfl (fun q => nomatch q) rfl rfl rfl rfl, rowLe_open rfl rfl rfl (fun q => nomatch q) rfl rfl rfl rfl, rS, trivial⟩)⟩
    ·skip
     refine sR <| y0 rfl (o_move (d := .lst false (List.map (PV.int .i64) v76)) rfl) <| y0 rfl (o_lnL (f := (PV.int .i64)) rfl Ty.e28) <| y0 rfl (o_move (d := .int .i64 0) rfl) <| y_nil <| pw_block ?_
     obtain ⟨e97, hl73, hk74⟩ := bindE h
     refine pw_lp0 (fun (q : Int × queue_Queue_int × (List (Int × Bool))) => St.of [(1000002, .ptr 2003 0 0), (1000005, .ptr 2002 0 0), (1000006, .ptr 2001 0 0), (1000007, .fn (.func 124) [.ptr 2003 0 0, .ptr 2002 0 0, .ptr 2001 0 0]), (1000027, .fn (.func 124) [.ptr 2003 0 0, .ptr 2002 0 0, .ptr 2001 0 0]), (1000030, .lst false (List.map (PV.int .i64) v76)), (1, .ptr 2003 0 0), (2, .ptr 2002 0 0), (3, .ptr 2001 0 0), (7, .lst false (List.map (PV.int .i64) v76)), (8, .int .i64 (v76.length : Int)), (9, .int .i64 q.1)] [(2001, ⟨[queue_Queue_int.Pv q.2.1], 0, false, 2, true⟩), (2002, ⟨[.mp 5002004], 0, false, 1, false⟩), (5002004, ⟨[.mapc (List.map (ent (PV.int .i64) PV.bool) q.2.2)], 0, false, 0, false⟩), (2003, ⟨[store_Store.Pv a0], 0, false, 3, true⟩)]) hl73 (wk_st _ _ ⟨rfl, rfl, rfl, rfl, rfl, rfl, rfl, rfl, rfl, rfl, rfl, rfl, rfl, rfl, rfl, rfl, rfl, rfl, rfl, rfl, rfl, rfl, rfl, rfl, rfl, rfl, rfl, rfl, rfl, rfl, rfl, rfl, rfl, rfl, rfl, rfl, trivial⟩ ⟨rS, rowLe_open rfl rfl rfl (fun q => nomatch q) rfl rfl rfl rfl, rowLe_open rfl rfl rfl (fun q => nomatch q) rfl rfl rfl rfl, rS, trivial⟩) (fun q102 x101 h hx75 => ?_)
     obtain ⟨s98, s99, s100⟩ := q102
     refine sR <| y0 rfl (o_cmp rfl rfl rfl) <| y_nil <| pw_seq ?_
     refine pw_cond (decide (s98 < (v76.length : Int))) rfl (fun hc => ?_) (fun hc => ?_)
     ·have h := ifT h hc
      refine pw_skip ?_
      obtain ⟨κ106, hκ80, h⟩ := jnE h
      refine pw_jn0 (κ := κ106) (r := x101) (fun (q : queue_Queue_int × (List (Int × Bool))) => St.of [(1000002, .ptr 2003 0 0), (1000005, .ptr 2002 0 0), (1000006, .ptr 2001 0 0), (1000007, .fn (.func 124) [.ptr 2003 0 0, .ptr 2002 0 0, .ptr 2001 0 0]), (1000027, .fn (.func 124) [.ptr 2003 0 0, .ptr 2002 0 0, .ptr 2001 0 0]), (1000030, .lst false (List.map (PV.int .i64) v76)), (1, .ptr 2003 0 0), (2, .ptr 2002 0 0), (3, .ptr 2001 0 0), (7, .lst false (List.map (PV.int .i64) v76)), (8, .int .i64 (v76.length : Int)), (9, .int .i64 s98)] [(2001, ⟨[queue_Queue_int.Pv q.1], 0, false, 2, true⟩), (2002, ⟨[.mp 5002004], 0, false, 1, false⟩), (5002004, ⟨[.mapc (List.map (ent (PV.int .i64) PV.bool) q.2)], 0, false, 0, false⟩), (2003, ⟨[store_Store.Pv a0], 0, false, 3, true⟩)]) (fun q109 h => ?_) ?_
      ·subst hκ80
       obtain ⟨j107, j108⟩ := q109
       refine sr1 (by kernel_rfl) <| y0 rfl (o_ari rfl rfl rfl) <| y0 rfl (o_move (d := .int .i64 (w64 (s98 + 1))) rfl) <| y_nil ?_
       exact ⟨rfl, (w64 (s98 + 1), j107, j108), (Option.some.inj h).symm, (wk_st _ _ ⟨rfl, rfl, rfl, rfl, rfl, rfl, rfl, rfl, rfl, rfl, rfl, rfl, rfl, rfl, rfl, rfl, rfl, rfl, rfl, rfl, rfl, rfl, rfl, rfl, rfl, rfl, rfl, rfl, rfl, rfl, rfl, rfl, rfl, rfl, rfl, rfl, trivial⟩ ⟨rS, rowLe_open rfl rfl rfl (fun q => nomatch q) rfl rfl rfl rfl, rowLe_open rfl rfl rfl (fun q => nomatch q) rfl rfl rfl rfl, rS, trivial⟩)⟩
      ·skip
       refine pw_block <| sR ?_
       obtain ⟨v110, hv81, h⟩ := bindE h
       refine y0 rfl (o_ixL (f := (PV.int .i64)) (cs := [.int .i64 v110]) hv81 rfl rfl Ty.e28 Ty.s3 rfl rfl) <| y0 rfl (o_loadRS rfl Ty.a3 rfl) <| y0 rfl (o_assign (d := .int .i64 v110) rfl) <| y_nil <| sR <| y0 rfl (o_loadA (cs := store_Store.Pc a0) rfl rfl rfl Ty.a26 Ty.s26 nl rfl) <| y0 rfl (o_move (d := .int .i64 v110) rfl) ?_
       obtain ⟨v111, hv82, h⟩ := bindE h
       refine y0 rfl (o_call (ds := [store_Store.Pv a0, .int .i64 v110]) rfl Ty.k116 rfl (reach_isLive_ok hv82)) <| y0 rfl (o_move (d := .bool v111) rfl) <| y_if (g := (v111 == true)) rfl (fun hg => o_loadS rfl rfl rfl Ty.a104 rfl) <| y_if (g := (v111 == true)) rfl (fun hg => o_move (d := .int .i64 v110) rfl) ?_
       rcases Bool.eq_false_or_eq_true (v111 == true) with hg83 | hg83
       ·have h := ifT h hg83
        refine y_lkM (es := s100) (k := v110) (E := PV.bool) (EK := (PV.int .i64)) (d := .bool ((mget s100 v110).getD (false : Bool))) (congrArg some hg83) (ct hg83) rfl (ct hg83) Ty.mm104 (keyT_int Ty.u3) Ty.z4 rfl (lk1 _ _ _) <| y0 (congrArg some hg83) (o_not rfl rfl) <| y0 rfl (pk_andT rfl rfl hg83) <| y_nil ?_
        refine pw_cond (!((mget s100 v110).getD (false : Bool))) rfl (fun hc => ?_) (fun hc => ?_)
        ·have h := ifT h hc
         refine sR <| y0 rfl (o_loadS rfl rfl rfl Ty.a104 rfl) <| y0 rfl (o_move (d := .int .i64 v110) rfl) <| y_setM (es := s100) (k := v110) (v := true) (E := PV.bool) (EK := (PV.int .i64)) (.inl rfl) rfl rfl rfl rfl rfl rfl Ty.mm104 (keyT_int Ty.u3) <| y_nil <| sr1 (by kernel_rfl) <| y0 rfl (o_loadA (cs := queue_Queue_int.Pc s99) rfl rfl rfl Ty.a148 Ty.s148 nl rfl) <| y0 rfl (o_move (d := .int .i64 v110) rfl) ?_
         obtain ⟨v112, hv84, h⟩ := bindE h
         refine yc rfl (o_callF (ls := []) (ds := [queue_Queue_int.Pv s99, .int .i64 v110]) rfl Ty.k125 rfl (queue_Push_int_ok hv84)) <| y0 rfl (o_move (d := .tup [queue_Queue_int.Pv v112.1, .int .i64 v112.2]) rfl) <| y0 rfl (o_extract rfl rfl) <| y0 rfl (o_extract rfl rfl) <| y_sto (x' := queue_Queue_int.Pv v112.1) (cl' := true) rfl rfl (.inr rfl) Ty.s148 <| y_nil ?_
         exact ⟨rfl, (v112.1, (mput s100 v110 true)), h, (wk_st _ _ ⟨rfl, rfl, rfl, rfl, rfl, rfl, rfl, rfl, rfl, rfl, rfl, rfl, rfl, rfl, rfl, rfl, rfl, rfl, rfl, rfl, rfl, rfl, rfl, rfl, rfl, rfl, rfl, rfl, rfl, rfl, rfl, rfl, rfl, rfl, rfl, rfl, trivial⟩ ⟨rS, rowLe_open rfl rfl rfl (fun q => nomatch q) rfl rfl rfl rfl, rowLe_open rfl rfl rfl (fun q => nomatch q) rfl rfl rfl rfl, rS, trivial⟩)⟩
        ·have h := ifF h hc
         refine pw_skip ?_
         exact ⟨rfl, (s99, s100), h, (wk_st _ _ ⟨rfl, rfl, rfl, rfl, rfl, rfl, rfl, rfl, rfl, rfl, rfl, rfl, rfl, rfl, rfl, rfl, rfl, rfl, rfl, rfl, rfl, rfl, rfl, rfl, rfl, rfl, rfl, rfl, rfl, rfl, rfl, rfl, rfl, rfl, rfl, rfl, trivial⟩ ⟨rS, rowLe_open rfl rfl rfl (fun q => nomatch q) rfl rfl rfl rfl, rowLe_open rfl rfl rfl (fun q => nomatch q) rfl rfl rfl rfl, rS, trivial⟩)⟩
       ·have h := ifF h hg83
        refine y_skip (congrArg some hg83) <| y_skip (congrArg some hg83) <| y0 rfl (pk_andF rfl rfl hg83) <| y_nil ?_
        refine pw_cond false rfl (fun q => nomatch q) (fun _ => ?_)
        refine pw_skip ?_
        exact ⟨rfl, (s99, s100), h, (wk_st _ _ ⟨rfl, rfl, rfl, rfl, rfl, rfl, rfl, rfl, rfl, rfl, rfl, rfl, rfl, rfl, rfl, rfl, rfl, rfl, rfl, rfl, rfl, rfl, rfl, rfl, rfl, rfl, rfl, rfl, rfl, rfl, rfl, rfl, rfl, rfl, rfl, rfl, trivial⟩ ⟨rS, rowLe_open rfl rfl rfl (fun q => nomatch q) rfl rfl rfl rfl, rowLe_open rfl rfl rfl (fun q => nomatch q) rfl rfl rfl rfl, rS, trivial⟩)⟩
     ·have h := ifF h hc
      refine pw_exit <| thenQ_exit <| thenQ_exit <| blockQ_exit ?_
      have he := hx75 _ (Option.some.inj h).symm
      have h := hk74
      rw [← he] at h
      exact ⟨rfl, (s99, s100), h, (wk_st _ _ ⟨rfl, rfl, rfl, rfl, rfl, rfl, rfl, rfl, rfl, rfl, rfl, rfl, rfl, rfl, rfl, rfl, rfl, rfl, trivial⟩ ⟨rS, rowLe_open rfl rfl rfl (fun q => nomatch q) rfl rfl rfl rfl, rowLe_open rfl rfl rfl (fun q => nomatch q) rfl rfl rfl rfl, rS, trivial⟩)⟩
   ·have h := ifF h hc
    refine pw_exit <| thenQ_exit <| thenQ_exit <| blockQ_exit ?_
    have he := hx54 _ (Option.some.inj h).symm
    have h := hk53
    rw [← he] at h
    exact ⟨rfl, s71, h, (wk_st _ _ ⟨rfl, rfl, rfl, trivial⟩ ⟨rowLe_open rfl rfl rfl (fun q => nomatch q) rfl rfl rfl rfl, rowLe_open rfl rfl rfl (fun q => nomatch q) rfl rfl rfl rfl, trivial⟩)⟩
 ·skip
  refine sR <| y0 rfl (o_move (d := .lst false (List.map (PV.int .i64) a1)) rfl) <| y0 rfl (o_lnL (f := (PV.int .i64)) rfl Ty.e28) <| y0 rfl (o_move (d := .int .i64 0) rfl) <| y_nil <| pw_block ?_
  obtain ⟨e113, hl85, hk86⟩ := bindE h
  refine pw_lp0 (fun (q : Int × queue_Queue_int × (List (Int × Bool))) => St.of [(1000002, .ptr 2003 0 0), (1000005, .ptr 2002 0 0), (1000006, .ptr 2001 0 0), (1000007, .fn (.func 124) [.ptr 2003 0 0, .ptr 2002 0 0, .ptr 2001 0 0]), (1000015, .fn (.func 124) [.ptr 2003 0 0, .ptr 2002 0 0, .ptr 2001 0 0]), (1000016, .lst false (List.map (PV.int .i64) a1)), (1, .ptr 2003 0 0), (2, .ptr 2002 0 0), (3, .ptr 2001 0 0), (7, .lst false (List.map (PV.int .i64) a1)), (8, .int .i64 (a1.length : Int)), (9, .int .i64 q.1)] [(2001, ⟨[queue_Queue_int.Pv q.2.1], 0, false, 2, true⟩), (2002, ⟨[.mp 5002004], 0, false, 1, false⟩), (5002004, ⟨[.mapc (List.map (ent (PV.int .i64) PV.bool) q.2.2)], 0, false, 0, false⟩), (2003, ⟨[store_Store.Pv a0], 0, false, 3, true⟩)]) hl85 (wk_st _ _ ⟨rfl, rfl, rfl, rfl, rfl, rfl, rfl, rfl, rfl, rfl, rfl, rfl, rfl, rfl, rfl, rfl, rfl, rfl, rfl, rfl, rfl, rfl, rfl, rfl, rfl, rfl, rfl, rfl, rfl, rfl, rfl, rfl, rfl, rfl, rfl, rfl, trivial⟩ ⟨rS, rowLe_open rfl rfl rfl (fun q => nomatch q) rfl rfl rfl rfl, rowLe_open rfl rfl rfl (fun q => nomatch q) rfl rfl rfl rfl, rS, trivial⟩) (fun q118 x117 h hx87 => ?_)
  obtain ⟨s114, s115, s116⟩ := q118
  refine sR <| y0 rfl (o_cmp rfl rfl rfl) <| y_nil <| pw_seq ?_
  refine pw_cond (decide (s114 < (a1.length : Int))) rfl (fun hc => ?_) (fun hc => ?_)
  ·have h := ifT h hc
   refine pw_skip ?_
   obtain ⟨κ122, hκ92, h⟩ := jnE h
   refine pw_jn0 (κ := κ122) (r := x117) (fun (q : queue_Queue_int × (List (Int × Bool))) => St.of [(1000002, .ptr 2003 0 0), (1000005, .ptr 2002 0 0), (1000006, .ptr 2001 0 0), (1000007, .fn (.func 124) [.ptr 2003 0 0, .ptr 2002 0 0, .ptr 2001 0 0]), (1000015, .fn (.func 124) [.ptr 2003 0 0, .ptr 2002 0 0, .ptr 2001 0 0]), (1000016, .lst false (List.map (PV.int .i64) a1)), (1, .ptr 2003 0 0), (2, .ptr 2002 0 0), (3, .ptr 2001 0 0), (7, .lst false (List.map (PV.int .i64) a1)), (8, .int .i64 (a1.length : Int)), (9, .int .i64 s114)] [(2001, ⟨[queue_Queue_int.Pv q.1], 0, false, 2, true⟩), (2002, ⟨[.mp 5002004], 0, false, 1, false⟩), (5002004, ⟨[.mapc (List.map (ent (PV.int .i64) PV.bool) q.2)], 0, false, 0, false⟩), (2003, ⟨[store_Store.Pv a0], 0, false, 3, true⟩)]) (fun q125 h => ?_) ?_
   ·subst hκ92
    obtain ⟨j123, j124⟩ := q125
    refine sr1 (by kernel_rfl) <| y0 rfl (o_ari rfl rfl rfl) <| y0 rfl (o_move (d := .int .i64 (w64 (s114 + 1))) rfl) <| y_nil ?_
    exact ⟨rfl, (w64 (s114 + 1), j123, j124), (Option.some.inj h).symm, (wk_st _ _ ⟨rfl, rfl, rfl, rfl, rfl, rfl, rfl, rfl, rfl, rfl, rfl, rfl, rfl, rfl, rfl, rfl, rfl, rfl, rfl, rfl, rfl, rfl, rfl, rfl, rfl, rfl, rfl, rfl, rfl, rfl, rfl, rfl, rfl, rfl, rfl, rfl, trivial⟩ ⟨rS, rowLe_open rfl rfl rfl (fun q => nomatch q) rfl rfl rfl rfl, rowLe_open rfl rfl rfl (fun q => nomatch q) rfl rfl rfl rfl, rS, trivial⟩)⟩
   ·skip
    refine pw_block <| sR ?_
    obtain ⟨v126, hv93, h⟩ := bindE h
    refine y0 rfl (o_ixL (f := (PV.int .i64)) (cs := [.int .i64 v126]) hv93 rfl rfl Ty.e28 Ty.s3 rfl rfl) <| y0 rfl (o_loadRS rfl Ty.a3 rfl) <| y0 rfl (o_assign (d := .int .i64 v126) rfl) <| y_nil <| sR <| y0 rfl (o_loadA (cs := store_Store.Pc a0) rfl rfl rfl Ty.a26 Ty.s26 nl rfl) <| y0 rfl (o_move (d := .int .i64 v126) rfl) ?_
    obtain ⟨v127, hv94, h⟩ := bindE h
    refine y0 rfl (o_call (ds := [store_Store.Pv a0, .int .i64 v126]) rfl Ty.k116 rfl (reach_isLive_ok hv94)) <| y0 rfl (o_move (d := .bool v127) rfl) <| y_if (g := (v127 == true)) rfl (fun hg => o_loadS rfl rfl rfl Ty.a104 rfl) <| y_if (g := (v127 == true)) rfl (fun hg => o_move (d := .int .i64 v126) rfl) ?_
    rcases Bool.eq_false_or_eq_true (v127 == true) with hg95 | hg95
    ·have h := ifT h hg95
     refine y_lkM (es := s116) (k := v126) (E := PV.bool) (EK := (PV.int .i64)) (d := .bool ((mget s116 v126).getD (false : Bool))) (congrArg some hg95) (ct hg95) rfl (ct hg95) Ty.mm104 (keyT_int Ty.u3) Ty.z4 rfl (lk1 _ _ _) <| y0 (congrArg some hg95) (o_not rfl rfl) <| y0 rfl (pk_andT rfl rfl hg95) <| y_nil ?_
     refine pw_cond (!((mget s116 v126).getD (false : Bool))) rfl (fun hc => ?_) (fun hc => ?_)
     ·have h := ifT h hc
      refine sR <| y0 rfl (o_loadS rfl rfl rfl Ty.a104 rfl) <| y0 rfl (o_move (d := .int .i64 v126) rfl) <| y_setM (es := s116) (k := v126) (v := true) (E := PV.bool) (EK := (PV.int .i64)) (.inl rfl) rfl rfl rfl rfl rfl rfl Ty.mm104 (keyT_int Ty.u3) <| y_nil <| sr1 (by kernel_rfl) <| y0 rfl (o_loadA (cs := queue_Queue_int.Pc s115) rfl rfl rfl Ty.a148 Ty.s148 nl rfl) <| y0 rfl (o_move (d := .int .i64 v126) rfl) ?_
      obtain ⟨v128, hv96, h⟩ := bindE h
      refine yc rfl (o_callF (ls := []) (ds := [queue_Queue_int.Pv s115, .int .i64 v126]) rfl Ty.k125 rfl (queue_Push_int_ok hv96)) <| y0 rfl (o_move (d := .tup [queue_Queue_int.Pv v128.1, .int .i64 v128.2]) rfl) <| y0 rfl (o_extract rfl rfl) <| y0 rfl (o_extract rfl rfl) <| y_sto (x' := queue_Queue_int.Pv v128.1) (cl' := true) rfl rfl (.inr rfl) Ty.s148 <| y_nil ?_
      exact ⟨rfl, (v128.1, (mput s116 v126 true)), h, (wk_st _ _ ⟨rfl, rfl, rfl, rfl, rfl, rfl, rfl, rfl, rfl, rfl, rfl, rfl, rfl, rfl, rfl, rfl, rfl, rfl, rfl, rfl, rfl, rfl, rfl, rfl, rfl, rfl, rfl, rfl, rfl, rfl, rfl, rfl, rfl, rfl, rfl, rfl, trivial⟩ ⟨rS, rowLe_open rfl rfl rfl (fun q => nomatch q) rfl rfl rfl rfl, rowLe_open rfl rfl rfl (fun q => nomatch q) rfl rfl rfl rfl, rS, trivial⟩)⟩
     ·have h := ifF h hc
      refine pw_skip ?_
      exact ⟨rfl, (s115, s116), h, (wk_st _ _ ⟨rfl, rfl, rfl, rfl, rfl, rfl, rfl, rfl, rfl, rfl, rfl, rfl, rfl, rfl, rfl, rfl, rfl, rfl, rfl, rfl, rfl, rfl, rfl, rfl, rfl, rfl, rfl, rfl, rfl, rfl, rfl, rfl, rfl, rfl, rfl, rfl, trivial⟩ ⟨rS, rowLe_open rfl rfl rfl (fun q => nomatch q) rfl rfl rfl rfl, rowLe_open rfl rfl rfl (fun q => nomatch q) rfl rfl rfl rfl, rS, trivial⟩)⟩
    ·have h := ifF h hg95
     refine y_skip (congrArg some hg95) <| y_skip (congrArg some hg95) <| y0 rfl (pk_andF rfl rfl hg95) <| y_nil ?_
     refine pw_cond false rfl (fun q => nomatch q) (fun _ => ?_)
     refine pw_skip ?_
     exact ⟨rfl, (s115, s116), h, (wk_st _ _ ⟨rfl, rfl, rfl, rfl, rfl, rfl, rfl, rfl, rfl, rfl, rfl, rfl, rfl, rfl, rfl, rfl, rfl, rfl, rfl, rfl, rfl, rfl, rfl, rfl, rfl, rfl, rfl, rfl, rfl, rfl, rfl, rfl, rfl, rfl, rfl, rfl, trivial⟩ ⟨rS, rowLe_open rfl rfl rfl (fun q => nomatch q) rfl rfl rfl rfl, rowLe_open rfl rfl rfl (fun q => nomatch q) rfl rfl rfl rfl, rS, trivial⟩)⟩
  ·have h := ifF h hc
   refine pw_exit <| thenQ_exit <| thenQ_exit <| blockQ_exit ?_
   have he := hx87 _ (Option.some.inj h).symm
   have h := hk86
   rw [← he] at h
   exact ⟨rfl, (s115, s116), h, (wk_st _ _ ⟨rfl, rfl, rfl, rfl, rfl, rfl, rfl, rfl, rfl, rfl, rfl, rfl, rfl, rfl, rfl, rfl, rfl, rfl, trivial⟩ ⟨rS, rowLe_open rfl rfl rfl (fun q => nomatch q) rfl rfl rfl rfl, rowLe_open rfl rfl rfl (fun q => nomatch q) rfl rfl rfl rfl, rS, trivial⟩)⟩

theorem reach_From_1_ok {a0 : Int} {a1 : List (Int × Bool)} {r : Bool} (h : reach_From_1 a0 a1 = some r) : PCalls Tryz.prog 78 [.int .i64 a0, .rptr [.abs (ImMap (List.map (ent (PV.int .i64) PV.bool) a1))]] (.bool r) := by
 unfold reach_From_1 at h
 refine pc_intro (N := 7) Tryz.func78 rfl rfl nl fun w0 imm0 => sR <| y0 rfl (o_assign (d := .bool false) rfl) <| y_nil <| sR <| y0 rfl (o_loadRS rfl Ty.a104 rfl) <| y0 rfl (o_move (d := .int .i64 a0) rfl) <| y0 rfl (o_lkI (es := a1) (k := a0) (E := PV.bool) (EK := (PV.int .i64)) (d := .bool ((mget a1 a0).getD (false : Bool))) rfl rfl Ty.mm104 (keyT_int Ty.u3) Ty.z4 rfl (lk1 _ _ _)) ?_
 refine y0 rfl (o_assign (d := .bool ((mget a1 a0).getD (false : Bool))) rfl) <| y_nil <| pw_ret ?_
 obtain rfl := Option.some.inj h
 exact ⟨rfl, [_], ⟨rfl, trivial⟩, rfl, io⟩

theorem reach_live__reach_From_1_ok {a0 : store_Store} {a1 : List (Int × Bool)} {r : List Int} (h : reach_live__reach_From_1 a0 a1 = some r) : PCalls Tryz.prog 77 [store_Store.Pv a0, .fn (.func 78) [.rptr [.abs (ImMap (List.map (ent (PV.int .i64) PV.bool) a1))]]] (.lst false (List.map (PV.int .i64) r)) := by
 unfold reach_live__reach_From_1 at h
 refine pc_intro (N := 24) Tryz.func77 rfl rfl nl fun w0 imm0 => sR <| y1 rfl (o_box (d := store_Store.Pv a0) (z := 3) (cl := true) rfl rfl rfl rfl rfl) rfl <| y0 rfl (o_assign (d := .lst true (List.map (PV.int .i64) [])) rfl) <| y_nil <| sR <| y0 rfl (o_assign (d := .lst true (List.map (PV.int .i64) [])) rfl) <| y_nil ?_
 obtain ⟨κ15, hκ12, h⟩ := jnE h
 refine pw_jn0 (κ := κ15) (r := r) (fun (j16 : List Int) => St.of [(5, .sl 910005)] [(910005, ⟨List.map (PV.int .i64) j16, (List.map (PV.int .i64) j16).length, true, 1, true⟩)]) (fun j16 h => ?_) ?_
 ·subst hκ12
  refine sR <| y0 rfl (o_move (d := .sl 910005) rfl) <| y0 rfl (o_assign (d := .sl 910005) rfl) <| y_nil <| pw_ret ?_
  obtain rfl := Option.some.inj h
  exact ⟨rfl, [_], ⟨rfl, trivial⟩, rfl, io⟩
 ·skip
  refine sR <| y0 rfl (o_loadA (cs := store_Store.Pc a0) rfl rfl rfl Ty.a26 Ty.s26 nl rfl) ?_
  obtain ⟨v17, hv13, h⟩ := bindE h
  refine yc rfl (o_callF (ls := []) (ds := [store_Store.Pv a0]) rfl Ty.k123 rfl (store_Live_ok hv13)) <| y0 rfl (o_lnL (f := (PV.int .i64)) rfl Ty.e28) <| y0 rfl (o_move (d := .int .i64 0) rfl) <| y_nil <| pw_block ?_
  obtain ⟨e18, hl14, hk15⟩ := bindE h
  refine pw_lp0 (fun (q : Int × (List Int)) => St.of [(1, .fn (.func 78) [.rptr [.abs (ImMap (List.map (ent (PV.int .i64) PV.bool) a1))]]), (5, .sl 910005), (9, .lst false (List.map (PV.int .i64) v17)), (10, .int .i64 (v17.length : Int)), (11, .int .i64 q.1)] [(910005, ⟨List.map (PV.int .i64) q.2, (List.map (PV.int .i64) q.2).length, true, 1, true⟩)]) hl14 (Wk.trans (wk_nil (t := 5) (l := 920005) (z := 1) rfl rfl) (wk_stP (fun l => if l = 910005 then 920005 else l) _ _ ⟨rfl, rfl, rfl, rfl, rfl, rfl, rfl, rfl, rfl, rfl, rfl, rfl, rfl, rfl, rfl, trivial⟩ ⟨rN, trivial⟩ rfl)) (fun q22 x21 h hx16 => ?_)
  obtain ⟨s19, s20⟩ := q22
  refine sR <| y0 rfl (o_cmp rfl rfl rfl) <| y_nil <| pw_seq ?_
  refine pw_cond (decide (s19 < (v17.length : Int))) rfl (fun hc => ?_) (fun hc => ?_)
  ·have h := ifT h hc
   refine pw_skip ?_
   obtain ⟨κ26, hκ20, h⟩ := jnE h
   refine pw_jn0 (κ := κ26) (r := x21) (fun (j27 : List Int) => St.of [(1, .fn (.func 78) [.rptr [.abs (ImMap (List.map (ent (PV.int .i64) PV.bool) a1))]]), (5, .sl 21), (9, .lst false (List.map (PV.int .i64) v17)), (10, .int .i64 (v17.length : Int)), (11, .int .i64 s19)] [(21, ⟨List.map (PV.int .i64) j27, (List.map (PV.int .i64) j27).length, true, 1, true⟩)]) (fun j27 h => ?_) ?_
   ·subst hκ20
    refine sr1 (by kernel_rfl) <| y0 rfl (o_ari rfl rfl rfl) <| y0 rfl (o_move (d := .int .i64 (w64 (s19 + 1))) rfl) <| y_nil ?_
    exact ⟨rfl, (w64 (s19 + 1), j27), (Option.some.inj h).symm, (Wk.trans (wk_frz _ [21]) (wk_stP (fun l => if l = 910005 then 21 else l) _ _ ⟨rfl, rfl, rfl, rfl, rfl, rfl, rfl, rfl, rfl, rfl, rfl, rfl, rfl, rfl, rfl, trivial⟩ ⟨rN, trivial⟩ rfl))⟩
   ·skip
    refine pw_block <| sR ?_
    obtain ⟨v28, hv21, h⟩ := bindE h
    refine y0 rfl (o_ixL (f := (PV.int .i64)) (cs := [.int .i64 v28]) hv21 rfl rfl Ty.e28 Ty.s3 rfl rfl) <| y0 rfl (o_loadRS rfl Ty.a3 rfl) <| y0 rfl (o_assign (d := .int .i64 v28) rfl) <| y_nil <| sR <| y0 rfl (o_move (d := .fn (.func 78) [.rptr [.abs (ImMap (List.map (ent (PV.int .i64) PV.bool) a1))]]) rfl) <| y0 rfl (o_move (d := .int .i64 v28) rfl) ?_
    obtain ⟨v29, hv22, h⟩ := bindE h
    refine y0 rfl (o_call (ds := [.int .i64 v28, .rptr [.abs (ImMap (List.map (ent (PV.int .i64) PV.bool) a1))]]) rfl Ty.k78 rfl (reach_From_1_ok hv22)) <| y_nil ?_
    refine pw_cond v29 rfl (fun hc => ?_) (fun hc => ?_)
    ·have h := ifT h hc
     refine sr1 (by kernel_rfl) <| y0 rfl (o_move (d := .sl 910005) rfl) <| y0 rfl (o_move (d := .int .i64 v28) rfl) <| y0 rfl (o_bI (f := (PV.int .i64)) (l := [v28]) rfl Ty.e28 Ty.s3 Ty.z3 rfl rfl nl rfl rfl) ?_
     obtain ⟨v30, hv23, h⟩ := bindE h
     refine y_app rfl (o_apR (f := (PV.int .i64)) hv23 rfl rfl rfl rfl rfl rfl (.inl ⟨_, rfl, rfl⟩) Ty.e28 Ty.s3 Ty.b3 Ty.z3 rfl (fun _ => rfl)) rfl rfl rfl <| y0 rfl (o_assign (d := .sl 21) rfl) <| y_nil ?_
     exact ⟨rfl, v30, h, (Wk.trans (wk_frz _ [21]) (wk_st _ _ ⟨rfl, rfl, rfl, rfl, rfl, rfl, rfl, rfl, rfl, rfl, rfl, rfl, rfl, rfl, rfl, trivial⟩ ⟨rS, trivial⟩))⟩
    ·have h := ifF h hc
     refine pw_skip ?_
     exact ⟨rfl, s20, h, (Wk.trans (wk_frz _ [910005]) (wk_stP (fun l => if l = 21 then 910005 else l) _ _ ⟨rfl, rfl, rfl, rfl, rfl, rfl, rfl, rfl, rfl, rfl, rfl, rfl, rfl, rfl, rfl, trivial⟩ ⟨rN, trivial⟩ rfl))⟩
  ·have h := ifF h hc
   refine pw_exit <| thenQ_exit <| thenQ_exit <| blockQ_exit ?_
   have he := hx16 _ (Option.some.inj h).symm
   have h := hk15
   rw [← he] at h
   exact ⟨rfl, s20, h, (Wk.trans (wk_frz _ [910005]) (wk_st _ _ ⟨rfl, rfl, rfl, trivial⟩ ⟨rS, trivial⟩))⟩

theorem reach_From_ok {a0 : store_Store} {a1 : List Int} {r : List Int} (h : reach_From a0 a1 = some r) : PCalls Tryz.prog 29 [store_Store.Pv a0, .lst false (List.map (PV.int .i64) a1)] (.lst false (List.map (PV.int .i64) r)) := by
 unfold reach_From at h
 refine pc_intro (N := 12) Tryz.func29 rfl rfl nl fun w0 imm0 => sR <| y1 rfl (o_box (d := store_Store.Pv a0) (z := 3) (cl := true) rfl rfl rfl rfl rfl) rfl <| y0 rfl (o_assign (d := .lst true (List.map (PV.int .i64) [])) rfl) <| y_nil <| sR <| y0 rfl (o_loadA (cs := store_Store.Pc a0) rfl rfl rfl Ty.a26 Ty.s26 nl rfl) <| y0 rfl (o_move (d := .lst false (List.map (PV.int .i64) a1)) rfl) ?_
 obtain ⟨v1, hv1, h⟩ := bindE h
 refine yc rfl (o_callF (ls := []) (ds := [store_Store.Pv a0, .lst false (List.map (PV.int .i64) a1)]) rfl Ty.k76 rfl (reach_spread_ok hv1)) <| y1 rfl (o_alloc (d := .abs NilMap) (z := 1) rfl Ty.z104 rfl rfl rfl) rfl <| y_sto (x' := .abs (ImMap (List.map (ent (PV.int .i64) PV.bool) v1))) (cl' := true) rfl rfl (.inl rfl) Ty.s104 <| y_nil <| sR <| y0 rfl (o_loadA (cs := store_Store.Pc a0) rfl rfl rfl Ty.a26 Ty.s26 nl rfl) <| y0 rfl (o_mkFunc rfl) ?_
 obtain ⟨v2, hv2, h⟩ := bindE h
 refine ycL rfl (o_callF (ls := [5]) (ds := [store_Store.Pv a0, .fn (.func 78) [.ptr 5 0 0]]) rfl Ty.k77 rfl (reach_live__reach_From_1_ok hv2)) rfl <| y0 rfl (o_assign (d := .lst false (List.map (PV.int .i64) v2)) rfl) <| y_nil <| pw_ret ?_
 obtain rfl := Option.some.inj h
 exact ⟨rfl, [_], ⟨rfl, trivial⟩, rfl, io⟩

theorem ephem_Pairs_1_ok {a0 : ephem_Pair} {r : Bool} (h : ephem_Pairs_1 a0 = some r) : PCalls Tryz.prog 81 [ephem_Pair.Pv a0] (.bool r) := by
 unfold ephem_Pairs_1 at h
 refine pc_intro (N := 3) Tryz.func81 rfl rfl nl fun w0 imm0 => sR <| y1 rfl (o_box (d := ephem_Pair.Pv a0) (z := 2) (cl := true) rfl rfl rfl rfl rfl) rfl <| y0 rfl (o_assign (d := .bool false) rfl) <| y_nil <| sR <| y0 rfl (o_assign (d := .bool true) rfl) <| y_nil ?_
 refine pw_ret ?_
 obtain rfl := Option.some.inj h
 exact ⟨rfl, [_], ⟨rfl, trivial⟩, rfl, io⟩

theorem ephem_gathered_ephem_Pair__ephem_pairs_1__ephem_Pairs_1_ok {a0 : List hash_Place} {r : List ephem_Pair} (h : ephem_gathered_ephem_Pair__ephem_pairs_1__ephem_Pairs_1 a0 = some r) : PCalls Tryz.prog 79 [.fn (.func 128) [.rptr [.lst false (List.map hash_Place.Pv a0)]], .fn (.func 81) []] (.lst false (List.map ephem_Pair.Pv r)) := by
 unfold ephem_gathered_ephem_Pair__ephem_pairs_1__ephem_Pairs_1 at h
 refine pc_intro (N := 17) Tryz.func79 rfl rfl nl fun w0 imm0 => sR <| y1 rfl (o_box (d := .fn (.func 81) []) (z := 1) (cl := true) rfl rfl rfl rfl rfl) rfl <| y0 rfl (o_assign (d := .lst true (List.map ephem_Pair.Pv [])) rfl) <| y_nil <| sR <| y1 rfl (o_alloc (d := .lst true (List.map ephem_Pair.Pv [])) (z := 1) rfl Ty.z49 rfl rfl rfl) rfl <| y_nil ?_
 obtain ⟨κ15, hκ19, h⟩ := jnE h
 refine pw_jn0 (κ := κ15) (r := r) (fun (j16 : List ephem_Pair) => St.of [(5, .ptr 2001 0 0)] [(2001, ⟨[.sl 912501], 0, false, 1, false⟩), (912501, ⟨List.map ephem_Pair.Pv j16, (List.map ephem_Pair.Pv j16).length, true, 2, true⟩)]) (fun j16 h => ?_) ?_
 ·subst hκ19
  refine sR <| y0 rfl (o_loadS rfl rfl rfl Ty.a49 rfl) <| y0 rfl (o_assign (d := .sl 912501) rfl) <| y_nil <| pw_ret ?_
  obtain rfl := Option.some.inj h
  exact ⟨rfl, [_], ⟨rfl, trivial⟩, rfl, io⟩
 ·skip
  refine sR <| y0 rfl (o_move (d := .fn (.func 128) [.rptr [.lst false (List.map hash_Place.Pv a0)]]) rfl) <| y_nil <| pw_block <| pw_wk (wk_stP (fun l => if l = 2012 then 5 else if l = 2013 then 3 else l) [(3, .ptr 2013 0 0), (5, .ptr 2012 0 0), (7, .fn (.func 128) [.rptr [.lst false (List.map hash_Place.Pv a0)]])] [(2012, ⟨[.lst true (List.map ephem_Pair.Pv [])], 0, false, 1, true⟩), (2013, ⟨[.fn (.func 81) []], 0, false, 1, true⟩)] ⟨rfl, rfl, rfl, rfl, rfl, rfl, rfl, rfl, rfl, trivial⟩ ⟨rN, rN, trivial⟩ rfl) ?_
  refine pw_range (fn := Tryz.f128) (N1 := 27) rfl Tryz.func128 rfl rfl nl rfl Ty.k128 rfl rfl (fun l20 e21 o22 hR23 => ?_)
  refine sR <| y0 rfl (o_loadRS rfl Ty.a27 rfl) ?_
  obtain ⟨v17, hv24, h⟩ := bindE h
  refine yc rfl (o_callF (ls := []) (ds := [.lst false (List.map hash_Place.Pv a0)]) rfl Ty.k129 rfl (hash_Keys_ok hv24)) <| y0 rfl (o_lnL (f := (PV.int .i64)) rfl Ty.e28) <| y0 rfl (o_move (d := .int .i64 0) rfl) <| y_nil <| pw_block ?_
  obtain ⟨e18, hl25, hk26⟩ := bindE h
  refine pw_lp0 (fun (q : Int × (List ephem_Pair)) => St.of [(1000003, .ptr 2013 0 0), (1000005, .ptr 2012 0 0), (1000007, .fn (.func 128) [.rptr [.lst false (List.map hash_Place.Pv a0)]]), (0, .fn (.yield l20) []), (1, .rptr [.lst false (List.map hash_Place.Pv a0)]), (8, .lst false (List.map (PV.int .i64) v17)), (9, .int .i64 (v17.length : Int)), (10, .int .i64 q.1)] [(2012, ⟨[.sl 912512], 0, false, 1, false⟩), (2013, ⟨[.fn (.func 81) []], 0, false, 1, true⟩), (912512, ⟨List.map ephem_Pair.Pv q.2, (List.map ephem_Pair.Pv q.2).length, true, 2, true⟩)]) hl25 (Wk.trans (wk_nilC (l0 := 2012) (j := 0) (l := 922512) (z := 2) rfl rfl rfl rfl rfl) (wk_stP (fun l => if l = 912512 then 922512 else l) _ _ ⟨rfl, rfl, rfl, rfl, rfl, rfl, rfl, rfl, rfl, rfl, rfl, rfl, rfl, rfl, rfl, rfl, rfl, rfl, rfl, rfl, rfl, rfl, rfl, rfl, trivial⟩ ⟨rowLe_open rfl rfl rfl (fun q => nomatch q) rfl rfl rfl rfl, rN, rN, trivial⟩ rfl)) (fun q22 x21 h hx27 => ?_)
  obtain ⟨s19, s20⟩ := q22
  refine sR <| y0 rfl (o_cmp rfl rfl rfl) <| y_nil <| pw_seq ?_
  refine pw_cond (decide (s19 < (v17.length : Int))) rfl (fun hc => ?_) (fun hc => ?_)
  ·have h := ifT h hc
   refine pw_skip <| pw_seq <| pw_block <| sR ?_
   obtain ⟨v23, hv28, h⟩ := bindE h
   refine y0 rfl (o_ixL (f := (PV.int .i64)) (cs := [.int .i64 v23]) hv28 rfl rfl Ty.e28 Ty.s3 rfl rfl) <| y0 rfl (o_loadRS rfl Ty.a3 rfl) <| y0 rfl (o_assign (d := .int .i64 v23) rfl) <| y_nil <| sR <| y0 rfl (o_loadRS rfl Ty.a27 rfl) <| y0 rfl (o_move (d := .int .i64 v23) rfl) ?_
   obtain ⟨v24, hv29, h⟩ := bindE h
   refine y0 rfl (o_call (ds := [.lst false (List.map hash_Place.Pv a0), .int .i64 v23]) rfl Ty.k82 rfl (hash_Get_ok hv29)) <| y0 rfl (o_move (d := .tup [.int .i64 v24.1, .int .i64 v24.2]) rfl) <| y0 rfl (o_extract rfl rfl) <| y0 rfl (o_extract rfl rfl) <| y0 rfl (o_assign (d := .int .i64 v24.1) rfl) <| y0 rfl (o_assign (d := .int .i64 v24.2) rfl) <| y_nil <| sR ?_
   refine y0 rfl (o_move (d := .fn (.yield l20) []) rfl) <| y0 rfl (o_move (d := .int .i64 v23) rfl) <| y0 rfl (o_move (d := .int .i64 v24.1) rfl) <| y0 rfl (o_build (cs := [.int .i64 v23, .int .i64 v24.1]) rfl Ty.p52 Ty.z52 rfl rfl rfl) <| y_wk (wk_stP (fun l => if l = 2021 then 912512 else l) [(1000003, .ptr 2013 0 0), (1000005, .ptr 2012 0 0), (1000007, .fn (.func 128) [.rptr [.lst false (List.map hash_Place.Pv a0)]]), (0, .fn (.yield l20) []), (1, .rptr [.lst false (List.map hash_Place.Pv a0)]), (8, .lst false (List.map (PV.int .i64) v17)), (9, .int .i64 (v17.length : Int)), (10, .int .i64 s19), (20, .fn (.yield l20) []), (23, .agg [.int .i64 v23, .int .i64 v24.1])] [(2012, ⟨[.sl 2021], 0, false, 1, false⟩), (2021, ⟨List.map ephem_Pair.Pv s20, (List.map ephem_Pair.Pv s20).length, true, 2, true⟩), (2013, ⟨[.fn (.func 81) []], 0, false, 1, true⟩)] ⟨rfl, rfl, rfl, rfl, rfl, rfl, rfl, rfl, rfl, rfl, rfl, rfl, rfl, rfl, rfl, rfl, rfl, rfl, rfl, rfl, rfl, rfl, rfl, rfl, rfl, rfl, rfl, rfl, rfl, rfl, trivial⟩ ⟨rowLe_open rfl rfl rfl (fun q => nomatch q) rfl rfl rfl rfl, rN, rN, trivial⟩ rfl) ?_
   refine y_yield hR23 rfl rfl rfl rfl rfl rfl (fun e30 o31 o32 => ?_)
   refine sr1 (by kernel_rfl) <| y1 rfl (o_alloc (d := .agg [.int .i64 0, .int .i64 0]) (z := 2) rfl Ty.z52 rfl rfl rfl) rfl <| y_sto (x' := .agg [.int .i64 v23, .int .i64 v24.1]) (cl' := true) rfl rfl (.inl rfl) Ty.s52 <| y_nil ?_
   refine ⟨rfl, ?_⟩
   obtain ⟨κ27, hκ35, h⟩ := jnE h
   refine pw_jnE (κ := κ27) (r := x21) (fun (j28 : List ephem_Pair) => St.of [(2000003, .ptr 2013 0 0), (2000005, .ptr 2012 0 0), (2000007, .fn (.func 128) [.rptr [.lst false (List.map hash_Place.Pv a0)]]), (1000000, .fn (.yield l20) []), (1000001, .rptr [.lst false (List.map hash_Place.Pv a0)]), (1000008, .lst false (List.map (PV.int .i64) v17)), (1000009, .int .i64 (v17.length : Int)), (1000010, .int .i64 s19), (1000020, .fn (.yield l20) []), (1000023, .agg [.int .i64 v23, .int .i64 v24.1])] [(2012, ⟨[.sl 15], 0, false, 1, false⟩), (15, ⟨List.map ephem_Pair.Pv j28, (List.map ephem_Pair.Pv j28).length, true, 2, true⟩), (2013, ⟨[.fn (.func 81) []], 0, false, 1, true⟩)]) (fun j28 h => ?_) ?_
   ·subst hκ35
    refine ⟨rfl, ?_⟩
    refine y_wk (wk_stP (fun l => if l = 2022 then 15 else l) [(1000003, .ptr 2013 0 0), (1000005, .ptr 2012 0 0), (1000007, .fn (.func 128) [.rptr [.lst false (List.map hash_Place.Pv a0)]]), (0, .fn (.yield l20) []), (1, .rptr [.lst false (List.map hash_Place.Pv a0)]), (8, .lst false (List.map (PV.int .i64) v17)), (9, .int .i64 (v17.length : Int)), (10, .int .i64 s19), (24, .bool true)] [(2012, ⟨[.sl 2022], 0, false, 1, false⟩), (2022, ⟨List.map ephem_Pair.Pv j28, (List.map ephem_Pair.Pv j28).length, true, 2, true⟩), (2013, ⟨[.fn (.func 81) []], 0, false, 1, true⟩)] ⟨rfl, rfl, rfl, rfl, rfl, rfl, rfl, rfl, rfl, rfl, rfl, rfl, rfl, rfl, rfl, rfl, rfl, rfl, rfl, rfl, rfl, rfl, rfl, rfl, rfl, rfl, rfl, trivial⟩ ⟨rowLe_open rfl rfl rfl (fun q => nomatch q) rfl rfl rfl rfl, rN, rN, trivial⟩ rfl) <| y0 rfl (o_not rfl rfl) <| y_nil ?_
    refine pw_cond false rfl (fun q => nomatch q) (fun _ => ?_)
    refine pw_skip <| sr1 (by kernel_rfl) <| y0 rfl (o_ari rfl rfl rfl) <| y0 rfl (o_move (d := .int .i64 (w64 (s19 + 1))) rfl) <| y_nil ?_
    exact ⟨rfl, (w64 (s19 + 1), j28), (Option.some.inj h).symm, (Wk.trans (wk_frz _ [2022]) (wk_stP (fun l => if l = 912512 then 2022 else l) _ _ ⟨rfl, rfl, rfl, rfl, rfl, rfl, rfl, rfl, rfl, rfl, rfl, rfl, rfl, rfl, rfl, rfl, rfl, rfl, rfl, rfl, rfl, rfl, rfl, rfl, trivial⟩ ⟨rowLe_open rfl rfl rfl (fun q => nomatch q) rfl rfl rfl rfl, rN, rN, trivial⟩ rfl))⟩
   ·skip
    refine pw_block <| sR <| y0 rfl (o_loadS rfl rfl rfl Ty.a111 rfl) <| y0 rfl (o_loadA (cs := [.int .i64 v23, .int .i64 v24.1]) rfl rfl rfl Ty.a52 Ty.s52 nl rfl) ?_
    obtain ⟨v29, hv36, h⟩ := bindE h
    refine y0 rfl (o_call (ds := [.agg [.int .i64 v23, .int .i64 v24.1]]) rfl Ty.k81 rfl (ephem_Pairs_1_ok hv36)) <| y_nil ?_
    refine pw_cond v29 rfl (fun hc => ?_) (fun hc => ?_)
    ·have h := ifT h hc
     refine sr1 (by kernel_rfl) <| y0 rfl (o_loadS rfl rfl rfl Ty.a49 rfl) <| y0 rfl (o_loadA (cs := [.int .i64 v23, .int .i64 v24.1]) rfl rfl rfl Ty.a52 Ty.s52 nl rfl) <| y0 rfl (o_bI (f := ephem_Pair.Pv) (l := [(⟨v23, v24.1⟩ : ephem_Pair)]) rfl Ty.e49 Ty.s52 Ty.z52 rfl rfl nl rfl rfl) ?_
     obtain ⟨v30, hv37, h⟩ := bindE h
     refine y_app rfl (o_apR (f := ephem_Pair.Pv) hv37 rfl rfl rfl rfl rfl rfl (.inl ⟨_, rfl, rfl⟩) Ty.e49 Ty.s52 Ty.b52 Ty.z52 rfl (fun _ => rfl)) rfl rfl rfl <| y_sto (x' := .sl 15) (cl' := false) rfl rfl (.inl rfl) Ty.s49 <| y_nil ?_
     exact ⟨rfl, v30, h, (Wk.trans (wk_frz _ [15]) (wk_st _ _ ⟨rfl, rfl, rfl, rfl, rfl, rfl, rfl, rfl, rfl, rfl, rfl, rfl, rfl, rfl, rfl, rfl, rfl, rfl, rfl, rfl, rfl, rfl, rfl, rfl, rfl, rfl, rfl, rfl, rfl, rfl, trivial⟩ ⟨rowLe_open rfl rfl rfl (fun q => nomatch q) rfl rfl rfl rfl, rS, rS, trivial⟩))⟩
    ·have h := ifF h hc
     refine pw_skip ?_
     exact ⟨rfl, s20, h, (Wk.trans (wk_frz _ [2021]) (wk_stP (fun l => if l = 15 then 2021 else l) _ _ ⟨rfl, rfl, rfl, rfl, rfl, rfl, rfl, rfl, rfl, rfl, rfl, rfl, rfl, rfl, rfl, rfl, rfl, rfl, rfl, rfl, rfl, rfl, rfl, rfl, rfl, rfl, rfl, rfl, rfl, rfl, trivial⟩ ⟨rowLe_open rfl rfl rfl (fun q => nomatch q) rfl rfl rfl rfl, rN, rN, trivial⟩ rfl))⟩
  ·have h := ifF h hc
   refine pw_exit <| thenQ_exit <| thenQ_exit <| blockQ_exit ?_
   refine .inl ⟨rfl, ?_⟩
   have he := hx27 _ (Option.some.inj h).symm
   have h := hk26
   rw [← he] at h
   exact ⟨rfl, s20, h, (Wk.trans (wk_frz _ [912512]) (wk_stP (fun l => if l = 2001 then 2012 else if l = 912501 then 912512 else l) _ _ ⟨rfl, rfl, rfl, trivial⟩ ⟨rowLe_open rfl rfl rfl (fun q => nomatch q) rfl rfl rfl rfl, rN, trivial⟩ rfl))⟩

theorem ephem_Pairs_ok {a0 : List hash_Place} {r : List ephem_Pair} (h : ephem_Pairs a0 = some r) : PCalls Tryz.prog 30 [.lst false (List.map hash_Place.Pv a0)] (.lst false (List.map ephem_Pair.Pv r)) := by
 unfold ephem_Pairs at h
 refine pc_intro (N := 6) Tryz.func30 rfl rfl nl fun w0 imm0 => sR <| y0 rfl (o_assign (d := .lst true (List.map ephem_Pair.Pv [])) rfl) <| y_nil <| sR <| y0 rfl (o_move (d := .lst false (List.map hash_Place.Pv a0)) rfl) ?_
 obtain ⟨v1, hv1, h⟩ := bindE h
 refine yc rfl (o_callF (ls := []) (ds := [.lst false (List.map hash_Place.Pv a0)]) rfl Ty.k80 rfl (ephem_pairs_ok hv1)) ?_
 obtain ⟨v2, hv2, h⟩ := bindE h
 refine yc rfl (o_callF (ls := []) (ds := [.fn (.func 128) [.rptr [.lst false (List.map hash_Place.Pv v1)]], .fn (.func 81) []]) rfl Ty.k79 rfl (ephem_gathered_ephem_Pair__ephem_pairs_1__ephem_Pairs_1_ok hv2)) <| y0 rfl (o_assign (d := .lst false (List.map ephem_Pair.Pv v2)) rfl) <| y_nil <| pw_ret ?_
 obtain rfl := Option.some.inj h
 exact ⟨rfl, [_], ⟨rfl, trivial⟩, rfl, io⟩

theorem slices_Index_int_int_ok {a0 : List Int} {a1 : Int} {r : Int} (h : slices_Index_int_int a0 a1 = some r) : PCalls Tryz.prog 114 [.lst false (List.map (PV.int .i64) a0), .int .i64 a1] (.int .i64 r) := by
 unfold slices_Index_int_int at h
 refine pc_intro (N := 19) Tryz.func114 rfl rfl nl fun w0 imm0 => sR <| y0 rfl (o_assign (d := .int .i64 0) rfl) <| y_nil ?_
 obtain ⟨κ5, hκ5, h⟩ := jnE h
 refine pw_jn0 (κ := κ5) (r := r) (fun (_ : Unit) => St.of [] []) (fun q6 h => ?_) ?_
 ·subst hκ5
  refine sR <| y0 rfl (o_assign (d := .int .i64 (-1)) rfl) <| y_nil <| pw_ret ?_
  obtain rfl := Option.some.inj h
  exact ⟨rfl, [_], ⟨rfl, trivial⟩, rfl, io⟩
 ·skip
  refine sR <| y0 rfl (o_move (d := .lst false (List.map (PV.int .i64) a0)) rfl) <| y0 rfl (o_lnL (f := (PV.int .i64)) rfl Ty.e28) <| y0 rfl (o_move (d := .int .i64 0) rfl) <| y_nil <| pw_block ?_
  obtain ⟨e7, hl6, hk7⟩ := bindE h
  refine pw_lp0 (fun (s8 : Int) => St.of [(0, .lst false (List.map (PV.int .i64) a0)), (1, .int .i64 a1), (7, .int .i64 (a0.length : Int)), (8, .int .i64 s8)] []) hl6 (wk_st _ _ ⟨rfl, rfl, rfl, rfl, rfl, rfl, rfl, rfl, rfl, rfl, rfl, rfl, trivial⟩ trivial) (fun s8 x9 h hx8 => ?_)
  refine sR <| y0 rfl (o_cmp rfl rfl rfl) <| y_nil <| pw_seq ?_
  refine pw_cond (decide (s8 < (a0.length : Int))) rfl (fun hc => ?_) (fun hc => ?_)
  ·have h := ifT h hc
   refine pw_skip <| pw_seq <| pw_block <| sR <| y0 rfl (o_move (d := .int .i64 s8) rfl) <| y0 rfl (o_assign (d := .int .i64 s8) rfl) <| y_nil <| sR ?_
   refine y0 rfl (o_move (d := .int .i64 a1) rfl) <| y0 rfl (o_move (d := .lst false (List.map (PV.int .i64) a0)) rfl) <| y0 rfl (o_move (d := .int .i64 s8) rfl) ?_
   obtain ⟨v10, hv9, h⟩ := bindE h
   refine y0 rfl (o_ixL (f := (PV.int .i64)) (cs := [.int .i64 v10]) hv9 rfl rfl Ty.e28 Ty.s3 rfl rfl) <| y0 rfl (o_loadRS rfl Ty.a3 rfl) <| y0 rfl (o_cmp rfl rfl rfl) <| y_nil ?_
   refine pw_cond (a1 == v10) rfl (fun hc => ?_) (fun hc => ?_)
   ·have h := ifT h hc
    refine sR <| y0 rfl (o_move (d := .int .i64 s8) rfl) <| y0 rfl (o_assign (d := .int .i64 s8) rfl) <| y_nil <| pw_ret ?_
    have he := hx8 _ (Option.some.inj h).symm
    have h := hk7
    rw [← he] at h
    obtain rfl := Option.some.inj h
    exact ⟨rfl, [_], ⟨rfl, trivial⟩, rfl, io⟩
   ·have h := ifF h hc
    refine pw_skip <| sr1 (by kernel_rfl) <| y0 rfl (o_ari rfl rfl rfl) <| y0 rfl (o_move (d := .int .i64 (w64 (s8 + 1))) rfl) <| y_nil ?_
    exact ⟨rfl, w64 (s8 + 1), (Option.some.inj h).symm, (wk_st _ _ ⟨rfl, rfl, rfl, rfl, rfl, rfl, rfl, rfl, rfl, rfl, rfl, rfl, trivial⟩ trivial)⟩
  ·have h := ifF h hc
   refine pw_exit <| thenQ_exit <| thenQ_exit <| blockQ_exit ?_
   have he := hx8 _ (Option.some.inj h).symm
   have h := hk7
   rw [← he] at h
   exact ⟨rfl, (), h, (wk_st _ _ trivial trivial)⟩

theorem slices_Contains_int_int_ok {a0 : List Int} {a1 : Int} {r : Bool} (h : slices_Contains_int_int a0 a1 = some r) : PCalls Tryz.prog 68 [.lst false (List.map (PV.int .i64) a0), .int .i64 a1] (.bool r) := by
 unfold slices_Contains_int_int at h
 refine pc_intro (N := 9) Tryz.func68 rfl rfl nl fun w0 imm0 => sR <| y0 rfl (o_assign (d := .bool false) rfl) <| y_nil <| sR <| y0 rfl (o_move (d := .lst false (List.map (PV.int .i64) a0)) rfl) <| y0 rfl (o_move (d := .int .i64 a1) rfl) ?_
 obtain ⟨v1, hv1, h⟩ := bindE h
 refine y0 rfl (o_call (ds := [.lst false (List.map (PV.int .i64) a0), .int .i64 a1]) rfl Ty.k114 rfl (slices_Index_int_int_ok hv1)) <| y0 rfl (o_cmp rfl rfl rfl) <| y0 rfl (o_assign (d := .bool (decide (v1 ≥ 0))) rfl) <| y_nil <| pw_ret ?_
 obtain rfl := Option.some.inj h
 exact ⟨rfl, [_], ⟨rfl, trivial⟩, rfl, io⟩

theorem fix_owed_1_ok {a0 : Int} {a1 : store_Store} {r : Bool} (h : fix_owed_1 a0 a1 = some r) : PCalls Tryz.prog 118 [.int .i64 a0, .rptr (store_Store.Pc a1)] (.bool r) := by
 unfold fix_owed_1 at h
 refine pc_intro (N := 14) Tryz.func118 rfl rfl nl fun w0 imm0 => sR <| y0 rfl (o_assign (d := .bool false) rfl) <| y_nil <| sR <| y0 rfl (o_loadRA (cs := store_Store.Pc a1) rfl Ty.a26 Ty.s26 nl rfl) <| y0 rfl (o_move (d := .int .i64 a0) rfl) ?_
 obtain ⟨v1, hv1, h⟩ := bindE h
 refine yc rfl (o_callF (ls := []) (ds := [store_Store.Pv a1, .int .i64 a0]) rfl Ty.k54 rfl (store_Get_ok hv1)) <| y0 rfl (o_move (d := .tup [store_Obj.Pv v1.1, .int .i64 v1.2]) rfl) <| y0 rfl (o_extract rfl rfl) <| y0 rfl (o_extract rfl rfl) <| y1 rfl (o_alloc (d := .agg [.int .i64 0, .int .i64 0, .int .i64 0, .int .i64 0, .bool false, .lst true (List.map (PV.int .i64) [])]) (z := 6) rfl Ty.z73 rfl rfl rfl) rfl <| y_sto (x' := store_Obj.Pv v1.1) (cl' := true) rfl rfl (.inr rfl) Ty.s73 <| y0 rfl (o_assign (d := .int .i64 v1.2) rfl) <| y_nil ?_
 refine sR <| y0 rfl (o_move (d := .int .i64 v1.2) rfl) <| y0 rfl (o_cmp rfl rfl rfl) <| y0 rfl (o_assign (d := .bool (v1.2 == 0)) rfl) <| y_nil <| pw_ret ?_
 obtain rfl := Option.some.inj h
 exact ⟨rfl, [_], ⟨rfl, trivial⟩, rfl, io⟩

theorem fix_owed_ok {a0 : store_Store} {a1 : List hash_Place} {a2 : List Int} {r : List Int} (h : fix_owed a0 a1 a2 = some r) : PCalls Tryz.prog 71 [store_Store.Pv a0, .lst false (List.map hash_Place.Pv a1), .lst false (List.map (PV.int .i64) a2)] (.lst false (List.map (PV.int .i64) r)) := by
 unfold fix_owed at h
 refine pc_intro (N := 42) Tryz.func71 rfl rfl nl fun w0 imm0 => sR <| y1 rfl (o_box (d := store_Store.Pv a0) (z := 3) (cl := true) rfl rfl rfl rfl rfl) rfl <| y0 rfl (o_assign (d := .lst true (List.map (PV.int .i64) [])) rfl) <| y_nil <| sR <| y0 rfl (o_mkFunc rfl) <| y0 rfl (o_assign (d := .fn (.func 118) [.ptr 3 0 0]) rfl) ?_
 refine y_nil <| sR <| y0 rfl (o_assign (d := .lst true (List.map (PV.int .i64) [])) rfl) <| y_nil ?_
 obtain ⟨κ19, hκ16, h⟩ := jnE h
 refine pw_jn0 (κ := κ19) (r := r) (fun (j20 : List Int) => St.of [(8, .sl 910008)] [(910008, ⟨List.map (PV.int .i64) j20, (List.map (PV.int .i64) j20).length, true, 1, true⟩)]) (fun j20 h => ?_) ?_
 ·subst hκ16
  refine sR <| y0 rfl (o_move (d := .sl 910008) rfl) <| y0 rfl (o_assign (d := .sl 910008) rfl) <| y_nil <| pw_ret ?_
  obtain rfl := Option.some.inj h
  exact ⟨rfl, [_], ⟨rfl, trivial⟩, rfl, io⟩
 ·skip
  refine sR <| y0 rfl (o_move (d := .lst false (List.map hash_Place.Pv a1)) rfl) ?_
  obtain ⟨v21, hv17, h⟩ := bindE h
  refine yc rfl (o_callF (ls := []) (ds := [.lst false (List.map hash_Place.Pv a1)]) rfl Ty.k30 rfl (ephem_Pairs_ok hv17)) <| y0 rfl (o_lnL (f := ephem_Pair.Pv) rfl Ty.e49) <| y0 rfl (o_move (d := .int .i64 0) rfl) <| y_nil <| pw_block ?_
  obtain ⟨e22, hl18, hk19⟩ := bindE h
  refine pw_lp0 (fun (q : Int × (List Int)) => St.of [(2, .lst false (List.map (PV.int .i64) a2)), (7, .fn (.func 118) [.ptr 3 0 0]), (8, .sl 910008), (13, .lst false (List.map ephem_Pair.Pv v21)), (14, .int .i64 (v21.length : Int)), (15, .int .i64 q.1)] [(3, ⟨[store_Store.Pv a0], 0, false, 3, true⟩), (910008, ⟨List.map (PV.int .i64) q.2, (List.map (PV.int .i64) q.2).length, true, 1, true⟩)]) hl18 (Wk.trans (wk_nil (t := 8) (l := 920008) (z := 1) rfl rfl) (wk_stP (fun l => if l = 910008 then 920008 else l) _ _ ⟨rfl, rfl, rfl, rfl, rfl, rfl, rfl, rfl, rfl, rfl, rfl, rfl, rfl, rfl, rfl, rfl, rfl, rfl, trivial⟩ ⟨rN, rN, trivial⟩ rfl)) (fun q26 x25 h hx20 => ?_)
  obtain ⟨s23, s24⟩ := q26
  refine sR <| y0 rfl (o_cmp rfl rfl rfl) <| y_nil <| pw_seq ?_
  refine pw_cond (decide (s23 < (v21.length : Int))) rfl (fun hc => ?_) (fun hc => ?_)
  ·have h := ifT h hc
   refine pw_skip ?_
   obtain ⟨κ32, hκ26, h⟩ := jnE h
   refine pw_jn0 (κ := κ32) (r := x25) (fun (j33 : List Int) => St.of [(2, .lst false (List.map (PV.int .i64) a2)), (7, .fn (.func 118) [.ptr 3 0 0]), (8, .sl 39), (13, .lst false (List.map ephem_Pair.Pv v21)), (14, .int .i64 (v21.length : Int)), (15, .int .i64 s23)] [(39, ⟨List.map (PV.int .i64) j33, (List.map (PV.int .i64) j33).length, true, 1, true⟩), (3, ⟨[store_Store.Pv a0], 0, false, 3, true⟩)]) (fun j33 h => ?_) ?_
   ·subst hκ26
    refine sr1 (by kernel_rfl) <| y0 rfl (o_ari rfl rfl rfl) <| y0 rfl (o_move (d := .int .i64 (w64 (s23 + 1))) rfl) <| y_nil ?_
    exact ⟨rfl, (w64 (s23 + 1), j33), (Option.some.inj h).symm, (Wk.trans (wk_frz _ [39]) (wk_stP (fun l => if l = 910008 then 39 else l) _ _ ⟨rfl, rfl, rfl, rfl, rfl, rfl, rfl, rfl, rfl, rfl, rfl, rfl, rfl, rfl, rfl, rfl, rfl, rfl, trivial⟩ ⟨rN, rN, trivial⟩ rfl))⟩
   ·skip
    refine pw_block <| sR ?_
    obtain ⟨v34, hv27, h⟩ := bindE h
    refine y0 rfl (o_ixL (f := ephem_Pair.Pv) (cs := ephem_Pair.Pc v34) hv27 rfl rfl Ty.e49 Ty.s52 rfl rfl) <| y0 rfl (o_loadRA (cs := ephem_Pair.Pc v34) rfl Ty.a52 Ty.s52 nl rfl) <| y1 rfl (o_alloc (d := .agg [.int .i64 0, .int .i64 0]) (z := 2) rfl Ty.z52 rfl rfl rfl) rfl <| y_sto (x' := ephem_Pair.Pv v34) (cl' := true) rfl rfl (.inl rfl) Ty.s52 <| y_nil <| sR <| y0 rfl (o_move (d := .lst false (List.map (PV.int .i64) a2)) rfl) <| y0 rfl (o_fieldAddrP (k := 0) rfl Ty.f52_0 rfl) ?_
    refine y0 rfl (o_loadS rfl rfl rfl Ty.a3 rfl) ?_
    obtain ⟨v35, hv28, h⟩ := bindE h
    refine y0 rfl (o_call (ds := [.lst false (List.map (PV.int .i64) a2), .int .i64 v34.Key]) rfl Ty.k68 rfl (slices_Contains_int_int_ok hv28)) <| y0 rfl (o_move (d := .bool v35) rfl) <| y_if (g := (v35 == true)) rfl (fun hg => o_move (d := .fn (.func 118) [.ptr 3 0 0]) rfl) <| y_if (g := (v35 == true)) rfl (fun hg => o_fieldAddrP (k := 0) rfl Ty.f52_0 rfl) <| y_if (g := (v35 == true)) rfl (fun hg => o_loadS (ct hg) rfl rfl Ty.a3 rfl) ?_
    obtain ⟨v36, hv29, h⟩ := bindE h
    refine y_if (g := (v35 == true)) rfl (fun hg => o_call (ds := [.int .i64 v34.Key, .ptr 3 0 0]) (ct hg) Ty.k118 (consE (ct hg) rfl) (fix_owed_1_ok (onlyE hv29 hg))) <| y0 rfl (pk_and rfl rfl rfl (fun q => eqT q)) <| y0 rfl (o_move (d := .bool (v35 && v36)) rfl) <| y_if (g := ((v35 && v36) == true)) rfl (fun hg => o_move (d := .fn (.func 118) [.ptr 3 0 0]) rfl) <| y_if (g := ((v35 && v36) == true)) rfl (fun hg => o_fieldAddrP (k := 1) rfl Ty.f52_1 rfl) <| y_if (g := ((v35 && v36) == true)) rfl (fun hg => o_loadS (ct hg) rfl rfl Ty.a3 rfl) ?_
    obtain ⟨v37, hv30, h⟩ := bindE h
    refine y_if (g := ((v35 && v36) == true)) rfl (fun hg => o_call (ds := [.int .i64 v34.Val, .ptr 3 0 0]) (ct hg) Ty.k118 (consE (ct hg) rfl) (fix_owed_1_ok (onlyE hv30 hg))) <| y0 rfl (pk_and rfl rfl rfl (fun q => eqT q)) <| y_nil ?_
    refine pw_cond ((v35 && v36) && v37) rfl (fun hc => ?_) (fun hc => ?_)
    ·have h := ifT h hc
     refine sr1 (by kernel_rfl) <| y0 rfl (o_move (d := .sl 910008) rfl) <| y0 rfl (o_fieldAddrP (k := 1) rfl Ty.f52_1 rfl) <| y0 rfl (o_loadS rfl rfl rfl Ty.a3 rfl) <| y0 rfl (o_bI (f := (PV.int .i64)) (l := [v34.Val]) rfl Ty.e28 Ty.s3 Ty.z3 rfl rfl nl rfl rfl) ?_
     obtain ⟨v38, hv31, h⟩ := bindE h
     refine y_app rfl (o_apR (f := (PV.int .i64)) hv31 rfl rfl rfl rfl rfl rfl (.inl ⟨_, rfl, rfl⟩) Ty.e28 Ty.s3 Ty.b3 Ty.z3 rfl (fun _ => rfl)) rfl rfl rfl <| y0 rfl (o_assign (d := .sl 39) rfl) <| y_nil ?_
     exact ⟨rfl, v38, h, (Wk.trans (wk_frz _ [39]) (wk_st _ _ ⟨rfl, rfl, rfl, rfl, rfl, rfl, rfl, rfl, rfl, rfl, rfl, rfl, rfl, rfl, rfl, rfl, rfl, rfl, trivial⟩ ⟨rS, rS, trivial⟩))⟩
    ·have h := ifF h hc
     refine pw_skip ?_
     exact ⟨rfl, s24, h, (Wk.trans (wk_frz _ [910008]) (wk_stP (fun l => if l = 39 then 910008 else l) _ _ ⟨rfl, rfl, rfl, rfl, rfl, rfl, rfl, rfl, rfl, rfl, rfl, rfl, rfl, rfl, rfl, rfl, rfl, rfl, trivial⟩ ⟨rN, rN, trivial⟩ rfl))⟩
  ·have h := ifF h hc
   refine pw_exit <| thenQ_exit <| thenQ_exit <| blockQ_exit ?_
   have he := hx20 _ (Option.some.inj h).symm
   have h := hk19
   rw [← he] at h
   exact ⟨rfl, s24, h, (Wk.trans (wk_frz _ [910008]) (wk_st _ _ ⟨rfl, rfl, rfl, trivial⟩ ⟨rS, trivial⟩))⟩

theorem fix_owed_okN {a0 : store_Store} {a1 : List hash_Place} {a2 : List Int} {r : List Int} (h : fix_owed a0 a1 a2 = some r) : PCallsN Tryz.prog 71 [store_Store.Pv a0, .lst false (List.map hash_Place.Pv a1), .lst false (List.map (PV.int .i64) a2)] ⟨List.map (PV.int .i64) r, (List.map (PV.int .i64) r).length, true, 1, true⟩ := by
 unfold fix_owed at h
 refine pc_introN (N := 42) Tryz.func71 rfl rfl nl fun w0 imm0 => sR <| y1 rfl (o_box (d := store_Store.Pv a0) (z := 3) (cl := true) rfl rfl rfl rfl rfl) rfl <| y0 rfl (o_assign (d := .lst true (List.map (PV.int .i64) [])) rfl) <| y_nil <| sR <| y0 rfl (o_mkFunc rfl) <| y0 rfl (o_assign (d := .fn (.func 118) [.ptr 3 0 0]) rfl) ?_
 refine y_nil <| sR <| y0 rfl (o_assign (d := .lst true (List.map (PV.int .i64) [])) rfl) <| y_nil ?_
 obtain ⟨κ19, hκ16, h⟩ := jnE h
 refine pw_jn0 (κ := κ19) (r := r) (fun (j20 : List Int) => St.of [(8, .sl 910008)] [(910008, ⟨List.map (PV.int .i64) j20, (List.map (PV.int .i64) j20).length, true, 1, true⟩)]) (fun j20 h => ?_) ?_
 ·subst hκ16
  refine sR <| y0 rfl (o_move (d := .sl 910008) rfl) <| y0 rfl (o_assign (d := .sl 910008) rfl) <| y_nil <| pw_wk (wk_frz _ [910008]) <| pw_ret ?_
  obtain rfl := Option.some.inj h
  exact ⟨rfl, _, _, rfl, rfl, rfl, rfl⟩
 ·skip
  refine sR <| y0 rfl (o_move (d := .lst false (List.map hash_Place.Pv a1)) rfl) ?_
  obtain ⟨v21, hv17, h⟩ := bindE h
  refine yc rfl (o_callF (ls := []) (ds := [.lst false (List.map hash_Place.Pv a1)]) rfl Ty.k30 rfl (ephem_Pairs_ok hv17)) <| y0 rfl (o_lnL (f := ephem_Pair.Pv) rfl Ty.e49) <| y0 rfl (o_move (d := .int .i64 0) rfl) <| y_nil <| pw_block ?_
  obtain ⟨e22, hl18, hk19⟩ := bindE h
  refine pw_lp0 (fun (q : Int × (List Int)) => St.of [(2, .lst false (List.map (PV.int .i64) a2)), (7, .fn (.func 118) [.ptr 3 0 0]), (8, .sl 910008), (13, .lst false (List.map ephem_Pair.Pv v21)), (14, .int .i64 (v21.length : Int)), (15, .int .i64 q.1)] [(3, ⟨[store_Store.Pv a0], 0, false, 3, true⟩), (910008, ⟨List.map (PV.int .i64) q.2, (List.map (PV.int .i64) q.2).length, true, 1, true⟩)]) hl18 (Wk.trans (wk_nil (t := 8) (l := 920008) (z := 1) rfl rfl) (wk_stP (fun l => if l = 910008 then 920008 else l) _ _ ⟨rfl, rfl, rfl, rfl, rfl, rfl, rfl, rfl, rfl, rfl, rfl, rfl, rfl, rfl, rfl, rfl, rfl, rfl, trivial⟩ ⟨rN, rN, trivial⟩ rfl)) (fun q26 x25 h hx20 => ?_)
  obtain ⟨s23, s24⟩ := q26
  refine sR <| y0 rfl (o_cmp rfl rfl rfl) <| y_nil <| pw_seq ?_
  refine pw_cond (decide (s23 < (v21.length : Int))) rfl (fun hc => ?_) (fun hc => ?_)
  ·have h := ifT h hc
   refine pw_skip ?_
   obtain ⟨κ32, hκ26, h⟩ := jnE h
   refine pw_jn0 (κ := κ32) (r := x25) (fun (j33 : List Int) => St.of [(2, .lst false (List.map (PV.int .i64) a2)), (7, .fn (.func 118) [.ptr 3 0 0]), (8, .sl 39), (13, .lst false (List.map ephem_Pair.Pv v21)), (14, .int .i64 (v21.length : Int)), (15, .int .i64 s23)] [(39, ⟨List.map (PV.int .i64) j33, (List.map (PV.int .i64) j33).length, true, 1, true⟩), (3, ⟨[store_Store.Pv a0], 0, false, 3, true⟩)]) (fun j33 h => ?_) ?_
   ·subst hκ26
    refine sr1 (by kernel_rfl) <| y0 rfl (o_ari rfl rfl rfl) <| y0 rfl (o_move (d := .int .i64 (w64 (s23 + 1))) rfl) <| y_nil ?_
    exact ⟨rfl, (w64 (s23 + 1), j33), (Option.some.inj h).symm, (Wk.trans (wk_frz _ [39]) (wk_stP (fun l => if l = 910008 then 39 else l) _ _ ⟨rfl, rfl, rfl, rfl, rfl, rfl, rfl, rfl, rfl, rfl, rfl, rfl, rfl, rfl, rfl, rfl, rfl, rfl, trivial⟩ ⟨rN, rN, trivial⟩ rfl))⟩
   ·skip
    refine pw_block <| sR ?_
    obtain ⟨v34, hv27, h⟩ := bindE h
    refine y0 rfl (o_ixL (f := ephem_Pair.Pv) (cs := ephem_Pair.Pc v34) hv27 rfl rfl Ty.e49 Ty.s52 rfl rfl) <| y0 rfl (o_loadRA (cs := ephem_Pair.Pc v34) rfl Ty.a52 Ty.s52 nl rfl) <| y1 rfl (o_alloc (d := .agg [.int .i64 0, .int .i64 0]) (z := 2) rfl Ty.z52 rfl rfl rfl) rfl <| y_sto (x' := ephem_Pair.Pv v34) (cl' := true) rfl rfl (.inl rfl) Ty.s52 <| y_nil <| sR <| y0 rfl (o_move (d := .lst false (List.map (PV.int .i64) a2)) rfl) <| y0 rfl (o_fieldAddrP (k := 0) rfl Ty.f52_0 rfl) ?_
    refine y0 rfl (o_loadS rfl rfl rfl Ty.a3 rfl) ?_
    obtain ⟨v35, hv28, h⟩ := bindE h
    refine y0 rfl (o_call (ds := [.lst false (List.map (PV.int .i64) a2), .int .i64 v34.Key]) rfl Ty.k68 rfl (slices_Contains_int_int_ok hv28)) <| y0 rfl (o_move (d := .bool v35) rfl) <| y_if (g := (v35 == true)) rfl (fun hg => o_move (d := .fn (.func 118) [.ptr 3 0 0]) rfl) <| y_if (g := (v35 == true)) rfl (fun hg => o_fieldAddrP (k := 0) rfl Ty.f52_0 rfl) <| y_if (g := (v35 == true)) rfl (fun hg => o_loadS (ct hg) rfl rfl Ty.a3 rfl) ?_
    obtain ⟨v36, hv29, h⟩ := bindE h
    refine y_if (g := (v35 == true)) rfl (fun hg => o_call (ds := [.int .i64 v34.Key, .ptr 3 0 0]) (ct hg) Ty.k118 (consE (ct hg) rfl) (fix_owed_1_ok (onlyE hv29 hg))) <| y0 rfl (pk_and rfl rfl rfl (fun q => eqT q)) <| y0 rfl (o_move (d := .bool (v35 && v36)) rfl) <| y_if (g := ((v35 && v36) == true)) rfl (fun hg => o_move (d := .fn (.func 118) [.ptr 3 0 0]) rfl) <| y_if (g := ((v35 && v36) == true)) rfl (fun hg => o_fieldAddrP (k := 1) rfl Ty.f52_1 rfl) <| y_if (g := ((v35 && v36) == true)) rfl (fun hg => o_loadS (ct hg) rfl rfl Ty.a3 rfl) ?_
    obtain ⟨v37, hv30, h⟩ := bindE h
    refine y_if (g := ((v35 && v36) == true)) rfl (fun hg => o_call (ds := [.int .i64 v34.Val, .ptr 3 0 0]) (ct hg) Ty.k118 (consE (ct hg) rfl) (fix_owed_1_ok (onlyE hv30 hg))) <| y0 rfl (pk_and rfl rfl rfl (fun q => eqT q)) <| y_nil ?_
    refine pw_cond ((v35 && v36) && v37) rfl (fun hc => ?_) (fun hc => ?_)
    ·have h := ifT h hc
     refine sr1 (by kernel_rfl) <| y0 rfl (o_move (d := .sl 910008) rfl) <| y0 rfl (o_fieldAddrP (k := 1) rfl Ty.f52_1 rfl) <| y0 rfl (o_loadS rfl rfl rfl Ty.a3 rfl) <| y0 rfl (o_bI (f := (PV.int .i64)) (l := [v34.Val]) rfl Ty.e28 Ty.s3 Ty.z3 rfl rfl nl rfl rfl) ?_
     obtain ⟨v38, hv31, h⟩ := bindE h
     refine y_app rfl (o_apR (f := (PV.int .i64)) hv31 rfl rfl rfl rfl rfl rfl (.inl ⟨_, rfl, rfl⟩) Ty.e28 Ty.s3 Ty.b3 Ty.z3 rfl (fun _ => rfl)) rfl rfl rfl <| y0 rfl (o_assign (d := .sl 39) rfl) <| y_nil ?_
     exact ⟨rfl, v38, h, (Wk.trans (wk_frz _ [39]) (wk_st _ _ ⟨rfl, rfl, rfl, rfl, rfl, rfl, rfl, rfl, rfl, rfl, rfl, rfl, rfl, rfl, rfl, rfl, rfl, rfl, trivial⟩ ⟨rS, rS, trivial⟩))⟩
    ·have h := ifF h hc
     refine pw_skip ?_
     exact ⟨rfl, s24, h, (Wk.trans (wk_frz _ [910008]) (wk_stP (fun l => if l = 39 then 910008 else l) _ _ ⟨rfl, rfl, rfl, rfl, rfl, rfl, rfl, rfl, rfl, rfl, rfl, rfl, rfl, rfl, rfl, rfl, rfl, rfl, trivial⟩ ⟨rN, rN, trivial⟩ rfl))⟩
  ·have h := ifF h hc
   refine pw_exit <| thenQ_exit <| thenQ_exit <| blockQ_exit ?_
   have he := hx20 _ (Option.some.inj h).symm
   have h := hk19
   rw [← he] at h
   exact ⟨rfl, s24, h, (Wk.trans (wk_frz _ [910008]) (wk_st _ _ ⟨rfl, rfl, rfl, trivial⟩ ⟨rS, trivial⟩))⟩

theorem fix_grown_ok {a0 : store_Store} {a1 : List hash_Place} {a2 : List Int} {r : (List Int) × Int} (h : fix_grown a0 a1 a2 = some r) : PCalls Tryz.prog 63 [store_Store.Pv a0, .lst false (List.map hash_Place.Pv a1), .lst false (List.map (PV.int .i64) a2)] (.tup [.lst false (List.map (PV.int .i64) r.1), .int .i64 r.2]) := by
 unfold fix_grown at h
 refine pc_intro (N := 38) Tryz.func63 rfl rfl nl fun w0 imm0 => sR <| y1 rfl (o_box (d := store_Store.Pv a0) (z := 3) (cl := true) rfl rfl rfl rfl rfl) rfl <| y0 rfl (o_assign (d := .lst true (List.map (PV.int .i64) [])) rfl) <| y0 rfl (o_assign (d := .int .i64 0) rfl) <| y_nil <| pw_scope <| sR ?_
 refine y0 rfl (o_loadA (cs := store_Store.Pc a0) rfl rfl rfl Ty.a26 Ty.s26 nl rfl) <| y0 rfl (o_move (d := .lst false (List.map (PV.int .i64) a2)) rfl) ?_
 obtain ⟨v1, hv1, h⟩ := bindE h
 refine yc rfl (o_callF (ls := []) (ds := [store_Store.Pv a0, .lst false (List.map (PV.int .i64) a2)]) rfl Ty.k29 rfl (reach_From_ok hv1)) <| y0 rfl (o_assign (d := .lst false (List.map (PV.int .i64) v1)) rfl) <| y_nil <| pw_seq <| pw_label <| pw_block ?_
 obtain ⟨e2, hl2, hk3⟩ := bindE h
 refine pw_lp0 (fun (q : (List Int) × Int) => St.of [(1, .lst false (List.map hash_Place.Pv a1)), (3, .ptr 3 0 0), (6, .lst false (List.map (PV.int .i64) q.1)), (7, .int .i64 q.2)] [(3, ⟨[store_Store.Pv a0], 0, false, 3, true⟩)]) hl2 (wk_st _ _ ⟨rfl, rfl, rfl, rfl, rfl, rfl, rfl, rfl, rfl, rfl, rfl, rfl, trivial⟩ ⟨rS, trivial⟩) (fun q6 x5 h hx4 => ?_)
 obtain ⟨s3, s4⟩ := q6
 refine pw_block <| sR <| y0 rfl (o_loadA (cs := store_Store.Pc a0) rfl rfl rfl Ty.a26 Ty.s26 nl rfl) <| y0 rfl (o_move (d := .lst false (List.map hash_Place.Pv a1)) rfl) <| y0 rfl (o_move (d := .lst false (List.map (PV.int .i64) s3)) rfl) ?_
 obtain ⟨v7, hv5, h⟩ := bindE h
 refine ycN rfl (o_callN (ls := []) (ds := [store_Store.Pv a0, .lst false (List.map hash_Place.Pv a1), .lst false (List.map (PV.int .i64) s3)]) rfl Ty.k71 rfl (fix_owed_okN hv5)) rfl rfl <| y0 rfl (o_assign (d := .sl 17) rfl) <| y_nil ?_
 obtain ⟨κ15, hκ13, h⟩ := jnE h
 refine pw_jn0 (κ := κ15) (r := x5) (fun (_ : Unit) => St.of [(6, .lst false (List.map (PV.int .i64) s3)), (7, .int .i64 s4)] []) (fun q16 h => ?_) ?_
 ·subst hκ13
  refine sR <| y0 rfl (o_move (d := .lst false (List.map (PV.int .i64) s3)) rfl) <| y0 rfl (o_move (d := .int .i64 s4) rfl) <| y0 rfl (o_assign (d := .lst false (List.map (PV.int .i64) s3)) rfl) <| y0 rfl (o_assign (d := .int .i64 s4) rfl) <| y_nil <| pw_ret ?_
  have he := hx4 _ (Option.some.inj h).symm
  have h := hk3
  rw [← he] at h
  obtain rfl := Option.some.inj h
  exact ⟨rfl, [_, _], ⟨rfl, ⟨rfl, trivial⟩⟩, rfl, io⟩
 ·skip
  refine sR <| y0 rfl (o_move (d := .sl 17) rfl) <| y0 rfl (o_lnR (f := (PV.int .i64)) rfl rfl rfl Ty.e28) <| y0 rfl (o_move (d := .int .i64 0) rfl) <| y_nil <| pw_block ?_
  obtain ⟨e17, hl14, hk15⟩ := bindE h
  refine pw_lp0 (fun (s18 : Int) => St.of [(1, .lst false (List.map hash_Place.Pv a1)), (3, .ptr 3 0 0), (6, .lst false (List.map (PV.int .i64) s3)), (7, .int .i64 s4), (8, .sl 17), (18, .sl 17), (19, .int .i64 (v7.length : Int)), (20, .int .i64 s18)] [(17, ⟨List.map (PV.int .i64) v7, (List.map (PV.int .i64) v7).length, true, 1, true⟩), (3, ⟨[store_Store.Pv a0], 0, false, 3, true⟩)]) hl14 (Wk.trans (wk_frz _ [17]) (wk_st _ _ ⟨rfl, rfl, rfl, rfl, rfl, rfl, rfl, rfl, rfl, rfl, rfl, rfl, rfl, rfl, rfl, rfl, rfl, rfl, rfl, rfl, rfl, rfl, rfl, rfl, trivial⟩ ⟨rS, rS, trivial⟩)) (fun s18 x19 h hx16 => ?_)
  refine sR <| y0 rfl (o_cmp rfl rfl rfl) <| y_nil <| pw_seq ?_
  refine pw_cond (decide (s18 < (v7.length : Int))) rfl (fun hc => ?_) (fun hc => ?_)
  ·have h := ifT h hc
   refine pw_skip <| pw_seq <| pw_block <| sR ?_
   obtain ⟨v20, hv17, h⟩ := bindE h
   refine y0 rfl (o_ixR (f := (PV.int .i64)) hv17 rfl rfl rfl rfl Ty.e28 Ty.s3 rfl) <| y0 rfl (o_ldS (f := (PV.int .i64)) hv17 rfl rfl rfl Ty.a3 rfl) <| y0 rfl (o_assign (d := .int .i64 v20) rfl) <| y_nil <| sR <| y0 rfl (o_move (d := .lst false (List.map (PV.int .i64) s3)) rfl) <| y0 rfl (o_move (d := .int .i64 v20) rfl) ?_
   obtain ⟨v21, hv18, h⟩ := bindE h
   refine y0 rfl (o_call (ds := [.lst false (List.map (PV.int .i64) s3), .int .i64 v20]) rfl Ty.k68 rfl (slices_Contains_int_int_ok hv18)) <| y0 rfl (o_not rfl rfl) <| y_nil ?_
   refine pw_cond (!v21) rfl (fun hc => ?_) (fun hc => ?_)
   ·have h := ifT h hc
    refine dr [4] Ty.mix (by kernel_rfl) (by kernel_rfl) <| d0 rfl (o_loadA (cs := store_Store.Pc a0) rfl rfl rfl Ty.a26 Ty.s26 nl rfl) rfl <| d7 rfl (fun _ hN => o_move (d := .sl 17) rfl) rfl <| d7 rfl (fun _ hN => o_move (d := .lst false (List.map (PV.int .i64) s3)) rfl) rfl ?_
    obtain ⟨v22, hv19, h⟩ := bindE h
    refine d3a rfl (o_apR (f := (PV.int .i64)) hv19 rfl rfl rfl rfl rfl rfl (.inl ⟨_, rfl, rfl⟩) Ty.e28 Ty.s3 Ty.b3 Ty.z3 rfl (fun _ => rfl)) rfl rfl rfl rfl rfl ?_
    obtain ⟨v23, hv20, h⟩ := bindE h
    refine d5f rfl (o_callF (ls := [31]) (ds := [store_Store.Pv a0, .sl 31]) rfl Ty.k29 rfl (reach_From_ok hv20)) rfl rfl <| d7 rfl (fun _ hN => o_assign (d := .lst false (List.map (PV.int .i64) v23)) rfl) rfl <| d_nil <| sR <| y0 rfl (o_move (d := .int .i64 s4) rfl) <| y0 rfl (o_ari rfl rfl rfl) <| y0 rfl (o_assign (d := .int .i64 (w64 (s4 + 1))) rfl) <| y_nil ?_
    refine pw_exit <| blockQ_other (by decide) <| thenQ_exit <| thenQ_exit <| blockQ_other (by decide) <| thenQ_exit <| blockQ_exit ?_
    have he := hx16 _ (Option.some.inj h).symm
    have h := hk15
    rw [← he] at h
    exact ⟨rfl, (v23, w64 (s4 + 1)), (Option.some.inj h).symm, (wk_st _ _ ⟨rfl, rfl, rfl, rfl, rfl, rfl, rfl, rfl, rfl, rfl, rfl, rfl, trivial⟩ ⟨rS, trivial⟩)⟩
   ·have h := ifF h hc
    refine pw_skip <| sr1 (by kernel_rfl) <| y0 rfl (o_ari rfl rfl rfl) <| y0 rfl (o_move (d := .int .i64 (w64 (s18 + 1))) rfl) <| y_nil ?_
    exact ⟨rfl, w64 (s18 + 1), (Option.some.inj h).symm, (Wk.trans (wk_frz _ [17]) (wk_st _ _ ⟨rfl, rfl, rfl, rfl, rfl, rfl, rfl, rfl, rfl, rfl, rfl, rfl, rfl, rfl, rfl, rfl, rfl, rfl, rfl, rfl, rfl, rfl, rfl, rfl, trivial⟩ ⟨rS, rS, trivial⟩))⟩
  ·have h := ifF h hc
   refine pw_exit <| thenQ_exit <| thenQ_exit <| blockQ_exit ?_
   have he := hx16 _ (Option.some.inj h).symm
   have h := hk15
   rw [← he] at h
   exact ⟨rfl, (), h, (wk_st _ _ ⟨rfl, rfl, rfl, rfl, rfl, rfl, trivial⟩ trivial)⟩

theorem fix_From_ok {a0 : store_Store} {a1 : List hash_Place} {a2 : List Int} {r : List Int} (h : fix_From a0 a1 a2 = some r) : PCalls Tryz.prog 19 [store_Store.Pv a0, .lst false (List.map hash_Place.Pv a1), .lst false (List.map (PV.int .i64) a2)] (.lst false (List.map (PV.int .i64) r)) := by
 unfold fix_From at h
 refine pc_intro (N := 17) Tryz.func19 rfl rfl nl fun w0 imm0 => sR <| y1 rfl (o_box (d := store_Store.Pv a0) (z := 3) (cl := true) rfl rfl rfl rfl rfl) rfl <| y0 rfl (o_assign (d := .lst true (List.map (PV.int .i64) [])) rfl) <| y_nil <| sR <| y0 rfl (o_loadA (cs := store_Store.Pc a0) rfl rfl rfl Ty.a26 Ty.s26 nl rfl) <| y0 rfl (o_move (d := .lst false (List.map hash_Place.Pv a1)) rfl) ?_
 refine y0 rfl (o_move (d := .lst false (List.map (PV.int .i64) a2)) rfl) ?_
 obtain ⟨v1, hv1, h⟩ := bindE h
 refine yc rfl (o_callF (ls := []) (ds := [store_Store.Pv a0, .lst false (List.map hash_Place.Pv a1), .lst false (List.map (PV.int .i64) a2)]) rfl Ty.k63 rfl (fix_grown_ok hv1)) <| y0 rfl (o_move (d := .tup [.lst false (List.map (PV.int .i64) v1.1), .int .i64 v1.2]) rfl) <| y0 rfl (o_extract rfl rfl) <| y0 rfl (o_extract rfl rfl) <| y0 rfl (o_assign (d := .lst false (List.map (PV.int .i64) v1.1)) rfl) <| y0 rfl (o_assign (d := .int .i64 v1.2) rfl) <| y_nil <| sR ?_
 refine y0 rfl (o_move (d := .lst false (List.map (PV.int .i64) v1.1)) rfl) <| y0 rfl (o_assign (d := .lst false (List.map (PV.int .i64) v1.1)) rfl) <| y_nil <| pw_ret ?_
 obtain rfl := Option.some.inj h
 exact ⟨rfl, [_], ⟨rfl, trivial⟩, rfl, io⟩

theorem reach_Lost_1_ok {a0 : Int} {a1 : List (Int × Bool)} {r : Bool} (h : reach_Lost_1 a0 a1 = some r) : PCalls Tryz.prog 113 [.int .i64 a0, .rptr [.abs (ImMap (List.map (ent (PV.int .i64) PV.bool) a1))]] (.bool r) := by
 unfold reach_Lost_1 at h
 refine pc_intro (N := 8) Tryz.func113 rfl rfl nl fun w0 imm0 => sR <| y0 rfl (o_assign (d := .bool false) rfl) <| y_nil <| sR <| y0 rfl (o_loadRS rfl Ty.a104 rfl) <| y0 rfl (o_move (d := .int .i64 a0) rfl) <| y0 rfl (o_lkI (es := a1) (k := a0) (E := PV.bool) (EK := (PV.int .i64)) (d := .bool ((mget a1 a0).getD (false : Bool))) rfl rfl Ty.mm104 (keyT_int Ty.u3) Ty.z4 rfl (lk1 _ _ _)) ?_
 refine y0 rfl (o_not rfl rfl) <| y0 rfl (o_assign (d := .bool (!((mget a1 a0).getD (false : Bool)))) rfl) <| y_nil <| pw_ret ?_
 obtain rfl := Option.some.inj h
 exact ⟨rfl, [_], ⟨rfl, trivial⟩, rfl, io⟩

theorem reach_live__reach_Lost_1_ok {a0 : store_Store} {a1 : List (Int × Bool)} {r : List Int} (h : reach_live__reach_Lost_1 a0 a1 = some r) : PCalls Tryz.prog 77 [store_Store.Pv a0, .fn (.func 113) [.rptr [.abs (ImMap (List.map (ent (PV.int .i64) PV.bool) a1))]]] (.lst false (List.map (PV.int .i64) r)) := by
 unfold reach_live__reach_Lost_1 at h
 refine pc_intro (N := 24) Tryz.func77 rfl rfl nl fun w0 imm0 => sR <| y1 rfl (o_box (d := store_Store.Pv a0) (z := 3) (cl := true) rfl rfl rfl rfl rfl) rfl <| y0 rfl (o_assign (d := .lst true (List.map (PV.int .i64) [])) rfl) <| y_nil <| sR <| y0 rfl (o_assign (d := .lst true (List.map (PV.int .i64) [])) rfl) <| y_nil ?_
 obtain ⟨κ15, hκ12, h⟩ := jnE h
 refine pw_jn0 (κ := κ15) (r := r) (fun (j16 : List Int) => St.of [(5, .sl 910005)] [(910005, ⟨List.map (PV.int .i64) j16, (List.map (PV.int .i64) j16).length, true, 1, true⟩)]) (fun j16 h => ?_) ?_
 ·subst hκ12
  refine sR <| y0 rfl (o_move (d := .sl 910005) rfl) <| y0 rfl (o_assign (d := .sl 910005) rfl) <| y_nil <| pw_ret ?_
  obtain rfl := Option.some.inj h
  exact ⟨rfl, [_], ⟨rfl, trivial⟩, rfl, io⟩
 ·skip
  refine sR <| y0 rfl (o_loadA (cs := store_Store.Pc a0) rfl rfl rfl Ty.a26 Ty.s26 nl rfl) ?_
  obtain ⟨v17, hv13, h⟩ := bindE h
  refine yc rfl (o_callF (ls := []) (ds := [store_Store.Pv a0]) rfl Ty.k123 rfl (store_Live_ok hv13)) <| y0 rfl (o_lnL (f := (PV.int .i64)) rfl Ty.e28) <| y0 rfl (o_move (d := .int .i64 0) rfl) <| y_nil <| pw_block ?_
  obtain ⟨e18, hl14, hk15⟩ := bindE h
  refine pw_lp0 (fun (q : Int × (List Int)) => St.of [(1, .fn (.func 113) [.rptr [.abs (ImMap (List.map (ent (PV.int .i64) PV.bool) a1))]]), (5, .sl 910005), (9, .lst false (List.map (PV.int .i64) v17)), (10, .int .i64 (v17.length : Int)), (11, .int .i64 q.1)] [(910005, ⟨List.map (PV.int .i64) q.2, (List.map (PV.int .i64) q.2).length, true, 1, true⟩)]) hl14 (Wk.trans (wk_nil (t := 5) (l := 920005) (z := 1) rfl rfl) (wk_stP (fun l => if l = 910005 then 920005 else l) _ _ ⟨rfl, rfl, rfl, rfl, rfl, rfl, rfl, rfl, rfl, rfl, rfl, rfl, rfl, rfl, rfl, trivial⟩ ⟨rN, trivial⟩ rfl)) (fun q22 x21 h hx16 => ?_)
  obtain ⟨s19, s20⟩ := q22
  refine sR <| y0 rfl (o_cmp rfl rfl rfl) <| y_nil <| pw_seq ?_
  refine pw_cond (decide (s19 < (v17.length : Int))) rfl (fun hc => ?_) (fun hc => ?_)
  ·have h := ifT h hc
   refine pw_skip ?_
   obtain ⟨κ26, hκ20, h⟩ := jnE h
   refine pw_jn0 (κ := κ26) (r := x21) (fun (j27 : List Int) => St.of [(1, .fn (.func 113) [.rptr [.abs (ImMap (List.map (ent (PV.int .i64) PV.bool) a1))]]), (5, .sl 21), (9, .lst false (List.map (PV.int .i64) v17)), (10, .int .i64 (v17.length : Int)), (11, .int .i64 s19)] [(21, ⟨List.map (PV.int .i64) j27, (List.map (PV.int .i64) j27).length, true, 1, true⟩)]) (fun j27 h => ?_) ?_
   ·subst hκ20
    refine sr1 (by kernel_rfl) <| y0 rfl (o_ari rfl rfl rfl) <| y0 rfl (o_move (d := .int .i64 (w64 (s19 + 1))) rfl) <| y_nil ?_
    exact ⟨rfl, (w64 (s19 + 1), j27), (Option.some.inj h).symm, (Wk.trans (wk_frz _ [21]) (wk_stP (fun l => if l = 910005 then 21 else l) _ _ ⟨rfl, rfl, rfl, rfl, rfl, rfl, rfl, rfl, rfl, rfl, rfl, rfl, rfl, rfl, rfl, trivial⟩ ⟨rN, trivial⟩ rfl))⟩
   ·skip
    refine pw_block <| sR ?_
    obtain ⟨v28, hv21, h⟩ := bindE h
    refine y0 rfl (o_ixL (f := (PV.int .i64)) (cs := [.int .i64 v28]) hv21 rfl rfl Ty.e28 Ty.s3 rfl rfl) <| y0 rfl (o_loadRS rfl Ty.a3 rfl) <| y0 rfl (o_assign (d := .int .i64 v28) rfl) <| y_nil <| sR <| y0 rfl (o_move (d := .fn (.func 113) [.rptr [.abs (ImMap (List.map (ent (PV.int .i64) PV.bool) a1))]]) rfl) <| y0 rfl (o_move (d := .int .i64 v28) rfl) ?_
    obtain ⟨v29, hv22, h⟩ := bindE h
    refine y0 rfl (o_call (ds := [.int .i64 v28, .rptr [.abs (ImMap (List.map (ent (PV.int .i64) PV.bool) a1))]]) rfl Ty.k113 rfl (reach_Lost_1_ok hv22)) <| y_nil ?_
    refine pw_cond v29 rfl (fun hc => ?_) (fun hc => ?_)
    ·have h := ifT h hc
     refine sr1 (by kernel_rfl) <| y0 rfl (o_move (d := .sl 910005) rfl) <| y0 rfl (o_move (d := .int .i64 v28) rfl) <| y0 rfl (o_bI (f := (PV.int .i64)) (l := [v28]) rfl Ty.e28 Ty.s3 Ty.z3 rfl rfl nl rfl rfl) ?_
     obtain ⟨v30, hv23, h⟩ := bindE h
     refine y_app rfl (o_apR (f := (PV.int .i64)) hv23 rfl rfl rfl rfl rfl rfl (.inl ⟨_, rfl, rfl⟩) Ty.e28 Ty.s3 Ty.b3 Ty.z3 rfl (fun _ => rfl)) rfl rfl rfl <| y0 rfl (o_assign (d := .sl 21) rfl) <| y_nil ?_
     exact ⟨rfl, v30, h, (Wk.trans (wk_frz _ [21]) (wk_st _ _ ⟨rfl, rfl, rfl, rfl, rfl, rfl, rfl, rfl, rfl, rfl, rfl, rfl, rfl, rfl, rfl, trivial⟩ ⟨rS, trivial⟩))⟩
    ·have h := ifF h hc
     refine pw_skip ?_
     exact ⟨rfl, s20, h, (Wk.trans (wk_frz _ [910005]) (wk_stP (fun l => if l = 21 then 910005 else l) _ _ ⟨rfl, rfl, rfl, rfl, rfl, rfl, rfl, rfl, rfl, rfl, rfl, rfl, rfl, rfl, rfl, trivial⟩ ⟨rN, trivial⟩ rfl))⟩
  ·have h := ifF h hc
   refine pw_exit <| thenQ_exit <| thenQ_exit <| blockQ_exit ?_
   have he := hx16 _ (Option.some.inj h).symm
   have h := hk15
   rw [← he] at h
   exact ⟨rfl, s20, h, (Wk.trans (wk_frz _ [910005]) (wk_st _ _ ⟨rfl, rfl, rfl, trivial⟩ ⟨rS, trivial⟩))⟩

theorem reach_Lost_ok {a0 : store_Store} {a1 : List Int} {r : List Int} (h : reach_Lost a0 a1 = some r) : PCalls Tryz.prog 65 [store_Store.Pv a0, .lst false (List.map (PV.int .i64) a1)] (.lst false (List.map (PV.int .i64) r)) := by
 unfold reach_Lost at h
 refine pc_intro (N := 12) Tryz.func65 rfl rfl nl fun w0 imm0 => sR <| y1 rfl (o_box (d := store_Store.Pv a0) (z := 3) (cl := true) rfl rfl rfl rfl rfl) rfl <| y0 rfl (o_assign (d := .lst true (List.map (PV.int .i64) [])) rfl) <| y_nil <| sR <| y0 rfl (o_loadA (cs := store_Store.Pc a0) rfl rfl rfl Ty.a26 Ty.s26 nl rfl) <| y0 rfl (o_move (d := .lst false (List.map (PV.int .i64) a1)) rfl) ?_
 obtain ⟨v1, hv1, h⟩ := bindE h
 refine yc rfl (o_callF (ls := []) (ds := [store_Store.Pv a0, .lst false (List.map (PV.int .i64) a1)]) rfl Ty.k76 rfl (reach_spread_ok hv1)) <| y1 rfl (o_alloc (d := .abs NilMap) (z := 1) rfl Ty.z104 rfl rfl rfl) rfl <| y_sto (x' := .abs (ImMap (List.map (ent (PV.int .i64) PV.bool) v1))) (cl' := true) rfl rfl (.inl rfl) Ty.s104 <| y_nil <| sR <| y0 rfl (o_loadA (cs := store_Store.Pc a0) rfl rfl rfl Ty.a26 Ty.s26 nl rfl) <| y0 rfl (o_mkFunc rfl) ?_
 obtain ⟨v2, hv2, h⟩ := bindE h
 refine ycL rfl (o_callF (ls := [5]) (ds := [store_Store.Pv a0, .fn (.func 113) [.ptr 5 0 0]]) rfl Ty.k77 rfl (reach_live__reach_Lost_1_ok hv2)) rfl <| y0 rfl (o_assign (d := .lst false (List.map (PV.int .i64) v2)) rfl) <| y_nil <| pw_ret ?_
 obtain rfl := Option.some.inj h
 exact ⟨rfl, [_], ⟨rfl, trivial⟩, rfl, io⟩

theorem fix_Lost_ok {a0 : store_Store} {a1 : List hash_Place} {a2 : List Int} {r : List Int} (h : fix_Lost a0 a1 a2 = some r) : PCalls Tryz.prog 21 [store_Store.Pv a0, .lst false (List.map hash_Place.Pv a1), .lst false (List.map (PV.int .i64) a2)] (.lst false (List.map (PV.int .i64) r)) := by
 unfold fix_Lost at h
 refine pc_intro (N := 13) Tryz.func21 rfl rfl nl fun w0 imm0 => sR <| y1 rfl (o_box (d := store_Store.Pv a0) (z := 3) (cl := true) rfl rfl rfl rfl rfl) rfl <| y0 rfl (o_assign (d := .lst true (List.map (PV.int .i64) [])) rfl) <| y_nil <| dr [] Ty.mix (by kernel_rfl) (by kernel_rfl) <| d0 rfl (o_loadA (cs := store_Store.Pc a0) rfl rfl rfl Ty.a26 Ty.s26 nl rfl) rfl <| d0 rfl (o_loadA (cs := store_Store.Pc a0) rfl rfl rfl Ty.a26 Ty.s26 nl rfl) rfl ?_
 refine d7 rfl (fun _ hN => o_move (d := .lst false (List.map hash_Place.Pv a1)) rfl) rfl <| d7 rfl (fun _ hN => o_move (d := .lst false (List.map (PV.int .i64) a2)) rfl) rfl ?_
 obtain ⟨v1, hv1, h⟩ := bindE h
 refine d2f rfl (o_callF (ls := []) (ds := [store_Store.Pv a0, .lst false (List.map hash_Place.Pv a1), .lst false (List.map (PV.int .i64) a2)]) rfl Ty.k19 rfl (fix_From_ok hv1)) rfl ?_
 obtain ⟨v2, hv2, h⟩ := bindE h
 refine d2f rfl (o_callF (ls := []) (ds := [store_Store.Pv a0, .lst false (List.map (PV.int .i64) v1)]) rfl Ty.k65 rfl (reach_Lost_ok hv2)) rfl <| d7 rfl (fun _ hN => o_assign (d := .lst false (List.map (PV.int .i64) v2)) rfl) rfl <| d_nil <| pw_ret ?_
 obtain rfl := Option.some.inj h
 exact ⟨rfl, [_], ⟨rfl, trivial⟩, rfl, io⟩

theorem trial_Garbage_ok {a0 : store_Store} {a1 : List hash_Place} {r : List Int} (h : trial_Garbage a0 a1 = some r) : PCalls Tryz.prog 45 [store_Store.Pv a0, .lst false (List.map hash_Place.Pv a1)] (.lst false (List.map (PV.int .i64) r)) := by
 unfold trial_Garbage at h
 refine pc_intro (N := 11) Tryz.func45 rfl rfl nl fun w0 imm0 => sR <| y1 rfl (o_box (d := store_Store.Pv a0) (z := 3) (cl := true) rfl rfl rfl rfl rfl) rfl <| y0 rfl (o_assign (d := .lst true (List.map (PV.int .i64) [])) rfl) <| y_nil <| dr [] Ty.mix (by kernel_rfl) (by kernel_rfl) <| d0 rfl (o_loadA (cs := store_Store.Pc a0) rfl rfl rfl Ty.a26 Ty.s26 nl rfl) rfl <| d7 rfl (fun _ hN => o_move (d := .lst false (List.map hash_Place.Pv a1)) rfl) rfl ?_
 refine d0 rfl (o_loadA (cs := store_Store.Pc a0) rfl rfl rfl Ty.a26 Ty.s26 nl rfl) rfl <| d7 rfl (fun _ hN => o_move (d := .lst false (List.map hash_Place.Pv a1)) rfl) rfl ?_
 obtain ⟨v1, hv1, h⟩ := bindE h
 refine d2f rfl (o_callF (ls := []) (ds := [store_Store.Pv a0, .lst false (List.map hash_Place.Pv a1)]) rfl Ty.k43 rfl (trial_Held_ok hv1)) rfl ?_
 obtain ⟨v2, hv2, h⟩ := bindE h
 refine d2f rfl (o_callF (ls := []) (ds := [store_Store.Pv a0, .lst false (List.map hash_Place.Pv a1), .lst false (List.map (PV.int .i64) v1)]) rfl Ty.k21 rfl (fix_Lost_ok hv2)) rfl <| d7 rfl (fun _ hN => o_assign (d := .lst false (List.map (PV.int .i64) v2)) rfl) rfl <| d_nil <| pw_ret ?_
 obtain rfl := Option.some.inj h
 exact ⟨rfl, [_], ⟨rfl, trivial⟩, rfl, io⟩

theorem vec_Count_ok {a0 : List Int} {a1 : Int} {r : Int} (h : vec_Count a0 a1 = some r) : PCalls Tryz.prog 137 [.lst false (List.map (PV.int .i64) a0), .int .i64 a1] (.int .i64 r) := by
 unfold vec_Count at h
 refine pc_intro (N := 16) Tryz.func137 rfl rfl nl fun w0 imm0 => sR <| y1 rfl (o_box (d := .int .i64 a1) (z := 1) (cl := true) rfl rfl rfl rfl rfl) rfl <| y0 rfl (o_assign (d := .int .i64 0) rfl) <| y_nil <| sR <| y1 rfl (o_alloc (d := .int .i64 0) (z := 1) rfl Ty.z3 rfl rfl rfl) rfl <| y_sto (x' := .int .i64 0) (cl' := true) rfl rfl (.inl rfl) Ty.s3 ?_
 refine y_nil ?_
 obtain ⟨κ10, hκ15, h⟩ := jnE h
 refine pw_jn0 (κ := κ10) (r := r) (fun (j11 : Int) => St.of [(5, .ptr 2001 0 0)] [(2001, ⟨[.int .i64 j11], 0, false, 1, true⟩)]) (fun j11 h => ?_) ?_
 ·subst hκ15
  refine sR <| y0 rfl (o_loadS rfl rfl rfl Ty.a3 rfl) <| y0 rfl (o_assign (d := .int .i64 j11) rfl) <| y_nil <| pw_ret ?_
  obtain rfl := Option.some.inj h
  exact ⟨rfl, [_], ⟨rfl, trivial⟩, rfl, io⟩
 ·skip
  refine sR <| y0 rfl (o_move (d := .lst false (List.map (PV.int .i64) a0)) rfl) ?_
  obtain ⟨v12, hv16, h⟩ := bindE h
  refine yc rfl (o_callF (ls := []) (ds := [.lst false (List.map (PV.int .i64) a0)]) rfl Ty.k155 rfl (vec_named_ok hv16)) <| y_nil <| pw_block <| pw_wk (wk_stP (fun l => if l = 2003 then 5 else if l = 2004 then 3 else l) [(3, .ptr 2004 0 0), (5, .ptr 2003 0 0), (8, .fn (.func 164) [.rptr [.lst false (List.map (PV.int .i64) v12)]])] [(2003, ⟨[.int .i64 0], 0, false, 1, true⟩), (2004, ⟨[.int .i64 a1], 0, false, 1, true⟩)] ⟨rfl, rfl, rfl, rfl, rfl, rfl, rfl, rfl, rfl, trivial⟩ ⟨rN, rN, trivial⟩ rfl) ?_
  refine pw_range (fn := Tryz.f164) (N1 := 20) rfl Tryz.func164 rfl rfl nl rfl Ty.k164 rfl rfl (fun l17 e18 o19 hR20 => ?_)
  refine sR <| y0 rfl (o_loadRS rfl Ty.a28 rfl) <| y0 rfl (o_lnL (f := (PV.int .i64)) rfl Ty.e28) <| y0 rfl (o_move (d := .int .i64 0) rfl) <| y_nil <| pw_block ?_
  obtain ⟨e13, hl21, hk22⟩ := bindE h
  refine pw_lp0 (fun (q : Int × Int) => St.of [(1000003, .ptr 2004 0 0), (1000005, .ptr 2003 0 0), (1000008, .fn (.func 164) [.rptr [.lst false (List.map (PV.int .i64) v12)]]), (0, .fn (.yield l17) []), (5, .lst false (List.map (PV.int .i64) v12)), (6, .int .i64 (v12.length : Int)), (7, .int .i64 q.1)] [(2003, ⟨[.int .i64 q.2], 0, false, 1, true⟩), (2004, ⟨[.int .i64 a1], 0, false, 1, true⟩)]) hl21 (wk_st _ _ ⟨rfl, rfl, rfl, rfl, rfl, rfl, rfl, rfl, rfl, rfl, rfl, rfl, rfl, rfl, rfl, rfl, rfl, rfl, rfl, rfl, rfl, trivial⟩ ⟨rS, rS, trivial⟩) (fun q17 x16 h hx23 => ?_)
  obtain ⟨s14, s15⟩ := q17
  refine sR <| y0 rfl (o_cmp rfl rfl rfl) <| y_nil <| pw_seq ?_
  refine pw_cond (decide (s14 < (v12.length : Int))) rfl (fun hc => ?_) (fun hc => ?_)
  ·have h := ifT h hc
   refine pw_skip <| pw_seq <| pw_block <| sR ?_
   obtain ⟨v18, hv24, h⟩ := bindE h
   refine y0 rfl (o_ixL (f := (PV.int .i64)) (cs := [.int .i64 v18]) hv24 rfl rfl Ty.e28 Ty.s3 rfl rfl) <| y0 rfl (o_loadRS rfl Ty.a3 rfl) <| y0 rfl (o_assign (d := .int .i64 v18) rfl) <| y_nil <| sR <| y0 rfl (o_move (d := .int .i64 v18) rfl) <| y0 rfl (o_cmp rfl rfl rfl) <| y0 rfl (o_move (d := .bool (v18 != 0)) rfl) ?_
   refine y_if (g := ((v18 != 0) == true)) rfl (fun hg => o_move (d := .fn (.yield l17) []) rfl) <| y_if (g := ((v18 != 0) == true)) rfl (fun hg => o_move (d := .int .i64 v18) rfl) ?_
   rcases Bool.eq_false_or_eq_true ((v18 != 0) == true) with hg25 | hg25
   ·have h := ifT h hg25
    refine y_wk (wk_st [(1000003, .ptr 2004 0 0), (1000005, .ptr 2003 0 0), (1000008, .fn (.func 164) [.rptr [.lst false (List.map (PV.int .i64) v12)]]), (0, .fn (.yield l17) []), (5, .lst false (List.map (PV.int .i64) v12)), (6, .int .i64 (v12.length : Int)), (7, .int .i64 s14), (13, .bool (v18 != 0)), (14, .fn (.yield l17) []), (15, .int .i64 v18)] [(2003, ⟨[.int .i64 s15], 0, false, 1, true⟩), (2004, ⟨[.int .i64 a1], 0, false, 1, true⟩)] ⟨rfl, rfl, rfl, rfl, rfl, rfl, rfl, rfl, rfl, rfl, rfl, rfl, rfl, rfl, rfl, rfl, rfl, rfl, rfl, rfl, rfl, rfl, rfl, rfl, (ct hg25), rfl, rfl, (ct hg25), rfl, rfl, trivial⟩ ⟨rS, rS, trivial⟩) ?_
    refine y_yield hR20 (congrArg some hg25) rfl rfl rfl rfl rfl (fun e26 o27 o28 => ?_)
    refine sr1 (by kernel_rfl) <| y0 rfl (o_assign (d := .int .i64 v18) rfl) <| y_nil ?_
    refine ⟨rfl, ?_⟩
    obtain ⟨κ19, hκ29, h⟩ := jnE h
    refine pw_jnE (κ := κ19) (r := x16) (fun (j20 : Int) => St.of [(2000003, .ptr 2004 0 0), (2000005, .ptr 2003 0 0), (2000008, .fn (.func 164) [.rptr [.lst false (List.map (PV.int .i64) v12)]]), (1000000, .fn (.yield l17) []), (1000005, .lst false (List.map (PV.int .i64) v12)), (1000006, .int .i64 (v12.length : Int)), (1000007, .int .i64 s14), (1000013, .bool (v18 != 0)), (1000014, .fn (.yield l17) []), (1000015, .int .i64 v18)] [(2003, ⟨[.int .i64 j20], 0, false, 1, true⟩), (2004, ⟨[.int .i64 a1], 0, false, 1, true⟩)]) (fun j20 h => ?_) ?_
    ·subst hκ29
     refine ⟨rfl, ?_⟩
     refine y_wk (wk_st [(1000003, .ptr 2004 0 0), (1000005, .ptr 2003 0 0), (1000008, .fn (.func 164) [.rptr [.lst false (List.map (PV.int .i64) v12)]]), (0, .fn (.yield l17) []), (5, .lst false (List.map (PV.int .i64) v12)), (6, .int .i64 (v12.length : Int)), (7, .int .i64 s14), (13, .bool (v18 != 0)), (16, .bool true)] [(2003, ⟨[.int .i64 j20], 0, false, 1, true⟩), (2004, ⟨[.int .i64 a1], 0, false, 1, true⟩)] ⟨rfl, rfl, rfl, rfl, rfl, rfl, rfl, rfl, rfl, rfl, rfl, rfl, rfl, rfl, rfl, rfl, rfl, rfl, rfl, rfl, rfl, rfl, rfl, rfl, rfl, rfl, rfl, trivial⟩ ⟨rS, rS, trivial⟩) <| y_if (g := ((v18 != 0) == true)) rfl (fun hg => o_not rfl rfl) <| y0 rfl (pk_and rfl rfl rfl (fun q => eqT q)) <| y_nil ?_
     refine pw_cond ((v18 != 0) && false) rfl (fun hc => ?_) (fun hc => ?_)
     ·have h := ifT h hc
      refine pw_ret ?_
      refine .inl ⟨rfl, ?_⟩
      have he := hx23 _ (Option.some.inj h).symm
      have h := hk22
      rw [← he] at h
      exact ⟨rfl, j20, h, (wk_stP (fun l => if l = 2001 then 2003 else l) _ _ ⟨rfl, rfl, rfl, trivial⟩ ⟨rN, trivial⟩ rfl)⟩
     ·have h := ifF h hc
      refine pw_skip <| sr1 (by kernel_rfl) <| y0 rfl (o_ari rfl rfl rfl) <| y0 rfl (o_move (d := .int .i64 (w64 (s14 + 1))) rfl) <| y_nil ?_
      exact ⟨rfl, (w64 (s14 + 1), j20), (Option.some.inj h).symm, (wk_st _ _ ⟨rfl, rfl, rfl, rfl, rfl, rfl, rfl, rfl, rfl, rfl, rfl, rfl, rfl, rfl, rfl, rfl, rfl, rfl, rfl, rfl, rfl, trivial⟩ ⟨rS, rS, trivial⟩)⟩
    ·skip
     refine pw_block <| sR <| y0 rfl (o_move (d := .int .i64 v18) rfl) <| y0 rfl (o_loadS rfl rfl rfl Ty.a3 rfl) <| y0 rfl (o_cmp rfl rfl rfl) <| y_nil ?_
     refine pw_cond (v18 == a1) rfl (fun hc => ?_) (fun hc => ?_)
     ·have h := ifT h hc
      refine sr1 (by kernel_rfl) <| y0 rfl (o_loadS rfl rfl rfl Ty.a3 rfl) <| y0 rfl (o_ari rfl rfl rfl) <| y_sto (x' := .int .i64 (w64 (s15 + 1))) (cl' := true) rfl rfl (.inl rfl) Ty.s3 <| y_nil ?_
      exact ⟨rfl, w64 (s15 + 1), h, (wk_st _ _ ⟨rfl, rfl, rfl, rfl, rfl, rfl, rfl, rfl, rfl, rfl, rfl, rfl, rfl, rfl, rfl, rfl, rfl, rfl, rfl, rfl, rfl, rfl, rfl, rfl, rfl, rfl, rfl, rfl, rfl, rfl, trivial⟩ ⟨rS, rS, trivial⟩)⟩
     ·have h := ifF h hc
      refine pw_skip ?_
      exact ⟨rfl, s15, h, (wk_st _ _ ⟨rfl, rfl, rfl, rfl, rfl, rfl, rfl, rfl, rfl, rfl, rfl, rfl, rfl, rfl, rfl, rfl, rfl, rfl, rfl, rfl, rfl, rfl, rfl, rfl, rfl, rfl, rfl, rfl, rfl, rfl, trivial⟩ ⟨rS, rS, trivial⟩)⟩
   ·have h := ifF h hg25
    refine y_skip (congrArg some hg25) <| y_skip (congrArg some hg25) <| y0 rfl (pk_andF rfl rfl hg25) <| y_nil ?_
    refine pw_cond false rfl (fun q => nomatch q) (fun _ => ?_)
    refine pw_skip <| sr1 (by kernel_rfl) <| y0 rfl (o_ari rfl rfl rfl) <| y0 rfl (o_move (d := .int .i64 (w64 (s14 + 1))) rfl) <| y_nil ?_
    exact ⟨rfl, (w64 (s14 + 1), s15), (Option.some.inj h).symm, (wk_st _ _ ⟨rfl, rfl, rfl, rfl, rfl, rfl, rfl, rfl, rfl, rfl, rfl, rfl, rfl, rfl, rfl, rfl, rfl, rfl, rfl, rfl, rfl, trivial⟩ ⟨rS, rS, trivial⟩)⟩
  ·have h := ifF h hc
   refine pw_exit <| thenQ_exit <| thenQ_exit <| blockQ_exit ?_
   refine .inl ⟨rfl, ?_⟩
   have he := hx23 _ (Option.some.inj h).symm
   have h := hk22
   rw [← he] at h
   exact ⟨rfl, s15, h, (wk_stP (fun l => if l = 2001 then 2003 else l) _ _ ⟨rfl, rfl, rfl, trivial⟩ ⟨rN, trivial⟩ rfl)⟩

theorem refs_Times_ok {a0 : List Int} {a1 : Int} {r : Int} (h : refs_Times a0 a1 = some r) : PCalls Tryz.prog 96 [.lst false (List.map (PV.int .i64) a0), .int .i64 a1] (.int .i64 r) := by
 unfold refs_Times at h
 refine pc_intro (N := 8) Tryz.func96 rfl rfl nl fun w0 imm0 => sR <| y0 rfl (o_assign (d := .int .i64 0) rfl) <| y_nil <| sR <| y0 rfl (o_move (d := .lst false (List.map (PV.int .i64) a0)) rfl) <| y0 rfl (o_move (d := .int .i64 a1) rfl) ?_
 obtain ⟨v1, hv1, h⟩ := bindE h
 refine y0 rfl (o_call (ds := [.lst false (List.map (PV.int .i64) a0), .int .i64 a1]) rfl Ty.k137 rfl (vec_Count_ok hv1)) <| y0 rfl (o_assign (d := .int .i64 v1) rfl) <| y_nil <| pw_ret ?_
 obtain rfl := Option.some.inj h
 exact ⟨rfl, [_], ⟨rfl, trivial⟩, rfl, io⟩

theorem trial_Fair_1_ok {a0 : Int} {a1 : store_Obj} {a2 : store_Store} {a3 : List hash_Place} {a4 : List Int} {r : Bool} (h : trial_Fair_1 a0 a1 a2 a3 a4 = some r) : PCalls Tryz.prog 95 [.int .i64 a0, store_Obj.Pv a1, .rptr (store_Store.Pc a2), .rptr [.lst false (List.map hash_Place.Pv a3)], .rptr [.lst false (List.map (PV.int .i64) a4)]] (.bool r) := by
 unfold trial_Fair_1 at h
 refine pc_intro (N := 22) Tryz.func95 rfl rfl nl fun w0 imm0 => sR <| y1 rfl (o_box (d := store_Obj.Pv a1) (z := 6) (cl := true) rfl rfl rfl rfl rfl) rfl <| y0 rfl (o_assign (d := .bool false) rfl) <| y_nil <| dr [] Ty.mix (by kernel_rfl) (by kernel_rfl) <| d7 rfl (fun _ hN => o_fieldAddrP (k := 1) rfl Ty.f73_1 rfl) rfl <| d0 rfl (o_loadS rfl rfl rfl Ty.a3 rfl) rfl ?_
 obtain ⟨v1, hv1, h⟩ := bindE h
 refine d2 rfl (o_call (ds := [.int .i64 a1.Strong]) rfl Ty.k92 rfl (count_Stuck_ok hv1)) rfl <| d7 rfl (fun _ hN => o_not rfl rfl) rfl <| d7 rfl (fun _ hN => o_move (d := .bool (!v1)) rfl) rfl <| d_if0 (g := ((!v1) == true)) rfl (fun hg => o_loadRA (cs := store_Store.Pc a2) rfl Ty.a26 Ty.s26 nl rfl) rfl <| d_if0 (g := ((!v1) == true)) rfl (fun hg => o_loadRS rfl Ty.a27 rfl) rfl <| d_if7 (g := ((!v1) == true)) rfl (fun hg _ hN => o_move (d := .int .i64 a0) rfl) rfl ?_
 obtain ⟨v2, hv2, h⟩ := bindE h
 refine d_if2 (g := ((!v1) == true)) rfl (fun hg => o_call (ds := [store_Store.Pv a2, .lst false (List.map hash_Place.Pv a3), .int .i64 a0]) rfl Ty.k41 (consE (ct hg) (consE (ct hg) (consE (ct hg) rfl))) (trial_Rest_ok (onlyE hv2 hg))) rfl <| d_if0 (g := ((!v1) == true)) rfl (fun hg => o_loadRS rfl Ty.a28 rfl) rfl <| d_if7 (g := ((!v1) == true)) rfl (fun hg _ hN => o_move (d := .int .i64 a0) rfl) rfl ?_
 obtain ⟨v3, hv3, h⟩ := bindE h
 refine d_if2 (g := ((!v1) == true)) rfl (fun hg => o_call (ds := [.lst false (List.map (PV.int .i64) a4), .int .i64 a0]) rfl Ty.k96 (consE (ct hg) (consE (ct hg) rfl)) (refs_Times_ok (onlyE hv3 hg))) rfl <| d_if7 (g := ((!v1) == true)) rfl (fun hg _ hN => o_cmp (ct hg) (ct hg) rfl) rfl <| d7 rfl (fun _ hN => pk_and rfl rfl rfl (fun q => eqT q)) rfl <| d7 rfl (fun _ hN => o_assign (d := .bool ((!v1) && (v2 != v3))) rfl) rfl <| d_nil <| pw_ret ?_
 obtain rfl := Option.some.inj h
 exact ⟨rfl, [_], ⟨rfl, trivial⟩, rfl, io⟩

theorem trial_Fair_ok {a0 : store_Store} {a1 : List hash_Place} {a2 : List Int} {r : Bool} (h : trial_Fair a0 a1 a2 = some r) : PCalls Tryz.prog 47 [store_Store.Pv a0, .lst false (List.map hash_Place.Pv a1), .lst false (List.map (PV.int .i64) a2)] (.bool r) := by
 unfold trial_Fair at h
 refine pc_intro (N := 15) Tryz.func47 rfl rfl nl fun w0 imm0 => sR <| y1 rfl (o_box (d := store_Store.Pv a0) (z := 3) (cl := true) rfl rfl rfl rfl rfl) rfl <| y1 rfl (o_box (d := .lst false (List.map hash_Place.Pv a1)) (z := 1) (cl := true) rfl rfl rfl rfl rfl) rfl <| y1 rfl (o_box (d := .lst false (List.map (PV.int .i64) a2)) (z := 1) (cl := true) rfl rfl rfl rfl rfl) rfl <| y0 rfl (o_assign (d := .bool false) rfl) <| y_nil <| sR ?_
 refine y0 rfl (o_mkFunc rfl) <| y0 rfl (o_build (cs := [.fn (.func 95) [.ptr 3 0 0, .ptr 4 0 0, .ptr 5 0 0]]) rfl Ty.p122 Ty.z122 rfl rfl rfl) <| y_wk (wk_fv 9 (d' := .agg [.fn (.func 95) [.ptr 3 0 0, .ptr 4 0 0, .ptr 5 0 0]]) rfl) <| y1 rfl (o_alloc (d := .agg [.nilfn]) (z := 1) rfl Ty.z122 rfl rfl rfl) rfl <| y_sto (x' := .agg [.fn (.func 95) [.ptr 3 0 0, .ptr 4 0 0, .ptr 5 0 0]]) (cl' := false) rfl rfl (.inl rfl) Ty.s122 <| y_nil <| sR <| y0 rfl (o_loadA (cs := [.fn (.func 95) [.ptr 3 0 0, .ptr 4 0 0, .ptr 5 0 0]]) rfl rfl rfl Ty.a122 Ty.s122 nl rfl) ?_
 refine y0 rfl (o_loadA (cs := store_Store.Pc a0) rfl rfl rfl Ty.a26 Ty.s26 nl rfl) <| y_wk (wk_stP (fun l => if l = 2001 then 5 else if l = 2002 then 4 else if l = 2003 then 3 else l) [(10, .agg [.fn (.func 95) [.ptr 2003 0 0, .ptr 2002 0 0, .ptr 2001 0 0]]), (11, store_Store.Pv a0)] [(2001, ⟨[.lst false (List.map (PV.int .i64) a2)], 0, false, 1, true⟩), (2002, ⟨[.lst false (List.map hash_Place.Pv a1)], 0, false, 1, true⟩), (2003, ⟨[store_Store.Pv a0], 0, false, 3, true⟩)] ⟨rfl, rfl, rfl, rfl, rfl, rfl, trivial⟩ ⟨rN, rN, rN, trivial⟩ rfl) ?_
 refine y_inl (fn := Tryz.f93) (N1 := 34) rfl rfl Tryz.func93 rfl Ty.k93 rfl rfl nl (fun e1 o2 => ?_)
 obtain ⟨κ35, hκ30, h⟩ := jnE h
 refine pw_jnR (κ := κ35) (r := r) (fun (j36 : List Int) => St.of [(1000010, .agg [.fn (.func 95) [.ptr 2003 0 0, .ptr 2002 0 0, .ptr 2001 0 0]]), (1000011, store_Store.Pv a0), (4, .sl 910005)] [(910005, ⟨List.map (PV.int .i64) j36, (List.map (PV.int .i64) j36).length, true, 1, true⟩), (2001, ⟨[.lst false (List.map (PV.int .i64) a2)], 0, false, 1, true⟩), (2002, ⟨[.lst false (List.map hash_Place.Pv a1)], 0, false, 1, true⟩), (2003, ⟨[store_Store.Pv a0], 0, false, 3, true⟩)]) (fun j36 h => dup ?_) ?_
 ·subst hκ30
  refine ⟨rfl, [.sl 910005], ⟨rfl, trivial⟩, ?_⟩
  refine y_wk (wk_stP (fun l => if l = 2004 then 910005 else l) [(12, .sl 2004)] [(2004, ⟨List.map (PV.int .i64) j36, (List.map (PV.int .i64) j36).length, true, 1, true⟩)] ⟨rfl, rfl, rfl, trivial⟩ ⟨rN, trivial⟩ rfl) <| y0 rfl (o_lnR (f := (PV.int .i64)) rfl rfl rfl Ty.e28) <| y0 rfl (o_cmp rfl rfl rfl) <| y0 rfl (o_assign (d := .bool ((j36.length : Int) == 0)) rfl) <| y_nil <| pw_ret ?_
  obtain rfl := Option.some.inj h
  exact ⟨rfl, [_], ⟨rfl, trivial⟩, rfl, io⟩
 ·skip
  refine sR <| y1 rfl (o_box (d := .agg [.fn (.func 95) [.ptr 2003 0 0, .ptr 2002 0 0, .ptr 2001 0 0]]) (z := 1) (cl := false) rfl rfl rfl rfl rfl) rfl <| y1 rfl (o_box (d := store_Store.Pv a0) (z := 3) (cl := true) rfl rfl rfl rfl rfl) rfl <| y0 rfl (o_assign (d := .lst true (List.map (PV.int .i64) [])) rfl) <| y_nil <| sR <| y0 rfl (o_assign (d := .lst true (List.map (PV.int .i64) [])) rfl) <| y_nil ?_
  obtain ⟨κ53, hκ44, h⟩ := jnE h
  refine pw_jn0 (κ := κ53) (r := r) (fun (j54 : List Int) => St.of [(1000010, .agg [.fn (.func 95) [.ptr 2003 0 0, .ptr 2002 0 0, .ptr 2001 0 0]]), (1000011, store_Store.Pv a0), (5, .sl 910005)] [(910005, ⟨List.map (PV.int .i64) j54, (List.map (PV.int .i64) j54).length, true, 1, true⟩), (2001, ⟨[.lst false (List.map (PV.int .i64) a2)], 0, false, 1, true⟩), (2002, ⟨[.lst false (List.map hash_Place.Pv a1)], 0, false, 1, true⟩), (2003, ⟨[store_Store.Pv a0], 0, false, 3, true⟩)]) (fun j54 h => ?_) ?_
  ·subst hκ44
   refine sR <| y0 rfl (o_move (d := .sl 910005) rfl) <| y0 rfl (o_assign (d := .sl 910005) rfl) <| y_nil <| pw_ret ?_
   exact ⟨rfl, j54, h, (Wk.trans (wk_frz _ [910005]) (wk_st _ _ ⟨rfl, rfl, rfl, rfl, rfl, rfl, rfl, rfl, rfl, trivial⟩ ⟨rS, rS, rS, rS, trivial⟩))⟩
  ·skip
   refine sR <| y0 rfl (o_loadA (cs := store_Store.Pc a0) rfl rfl rfl Ty.a26 Ty.s26 nl rfl) ?_
   obtain ⟨v55, hv45, h⟩ := bindE h
   refine yc rfl (o_callF (ls := []) (ds := [store_Store.Pv a0]) rfl Ty.k123 rfl (store_Live_ok hv45)) <| y0 rfl (o_lnL (f := (PV.int .i64)) rfl Ty.e28) <| y0 rfl (o_move (d := .int .i64 0) rfl) <| y_nil <| pw_block ?_
   obtain ⟨e56, hl46, hk47⟩ := bindE h
   refine pw_lp0 (fun (q : Int × (List Int)) => St.of [(1000010, .agg [.fn (.func 95) [.ptr 2003 0 0, .ptr 2002 0 0, .ptr 2001 0 0]]), (1000011, store_Store.Pv a0), (2, .ptr 2 0 0), (3, .ptr 3 0 0), (5, .sl 910005), (11, .lst false (List.map (PV.int .i64) v55)), (12, .int .i64 (v55.length : Int)), (13, .int .i64 q.1)] [(3, ⟨[store_Store.Pv a0], 0, false, 3, true⟩), (2, ⟨[.agg [.fn (.func 95) [.ptr 2003 0 0, .ptr 2002 0 0, .ptr 2001 0 0]]], 0, false, 1, false⟩), (2001, ⟨[.lst false (List.map (PV.int .i64) a2)], 0, false, 1, true⟩), (2002, ⟨[.lst false (List.map hash_Place.Pv a1)], 0, false, 1, true⟩), (2003, ⟨[store_Store.Pv a0], 0, false, 3, true⟩), (910005, ⟨List.map (PV.int .i64) q.2, (List.map (PV.int .i64) q.2).length, true, 1, true⟩)]) hl46 (Wk.trans (wk_nil (t := 5) (l := 920005) (z := 1) rfl rfl) (wk_stP (fun l => if l = 910005 then 920005 else l) _ _ ⟨rfl, rfl, rfl, rfl, rfl, rfl, rfl, rfl, rfl, rfl, rfl, rfl, rfl, rfl, rfl, rfl, rfl, rfl, rfl, rfl, rfl, rfl, rfl, rfl, trivial⟩ ⟨rN, rowLe_open rfl rfl rfl (fun q => nomatch q) rfl rfl rfl rfl, rN, rN, rN, rN, trivial⟩ rfl)) (fun q60 x59 h hx48 => ?_)
   obtain ⟨s57, s58⟩ := q60
   refine sR <| y0 rfl (o_cmp rfl rfl rfl) <| y_nil <| pw_seq ?_
   refine pw_cond (decide (s57 < (v55.length : Int))) rfl (fun hc => ?_) (fun hc => ?_)
   ·have h := ifT h hc
    refine pw_skip ?_
    obtain ⟨κ65, hκ53, h⟩ := jnE h
    refine pw_jn0 (κ := κ65) (r := x59) (fun (j66 : List Int) => St.of [(1000010, .agg [.fn (.func 95) [.ptr 2003 0 0, .ptr 2002 0 0, .ptr 2001 0 0]]), (1000011, store_Store.Pv a0), (2, .ptr 2 0 0), (3, .ptr 3 0 0), (5, .sl 31), (11, .lst false (List.map (PV.int .i64) v55)), (12, .int .i64 (v55.length : Int)), (13, .int .i64 s57)] [(31, ⟨List.map (PV.int .i64) j66, (List.map (PV.int .i64) j66).length, true, 1, true⟩), (3, ⟨[store_Store.Pv a0], 0, false, 3, true⟩), (2, ⟨[.agg [.fn (.func 95) [.ptr 2003 0 0, .ptr 2002 0 0, .ptr 2001 0 0]]], 0, false, 1, false⟩), (2001, ⟨[.lst false (List.map (PV.int .i64) a2)], 0, false, 1, true⟩), (2002, ⟨[.lst false (List.map hash_Place.Pv a1)], 0, false, 1, true⟩), (2003, ⟨[store_Store.Pv a0], 0, false, 3, true⟩)]) (fun j66 h => ?_) ?_
    ·subst hκ53
     refine sr1 (by kernel_rfl) <| y0 rfl (o_ari rfl rfl rfl) <| y0 rfl (o_move (d := .int .i64 (w64 (s57 + 1))) rfl) <| y_nil ?_
     exact ⟨rfl, (w64 (s57 + 1), j66), (Option.some.inj h).symm, (Wk.trans (wk_frz _ [31]) (wk_stP (fun l => if l = 910005 then 31 else l) _ _ ⟨rfl, rfl, rfl, rfl, rfl, rfl, rfl, rfl, rfl, rfl, rfl, rfl, rfl, rfl, rfl, rfl, rfl, rfl, rfl, rfl, rfl, rfl, rfl, rfl, trivial⟩ ⟨rN, rowLe_open rfl rfl rfl (fun q => nomatch q) rfl rfl rfl rfl, rN, rN, rN, rN, trivial⟩ rfl))⟩
    ·skip
     refine pw_block <| sR ?_
     obtain ⟨v67, hv54, h⟩ := bindE h
     refine y0 rfl (o_ixL (f := (PV.int .i64)) (cs := [.int .i64 v67]) hv54 rfl rfl Ty.e28 Ty.s3 rfl rfl) <| y0 rfl (o_loadRS rfl Ty.a3 rfl) <| y0 rfl (o_assign (d := .int .i64 v67) rfl) <| y_nil <| sR <| y0 rfl (o_loadA (cs := store_Store.Pc a0) rfl rfl rfl Ty.a26 Ty.s26 nl rfl) <| y0 rfl (o_move (d := .int .i64 v67) rfl) ?_
     obtain ⟨v68, hv55, h⟩ := bindE h
     refine yc rfl (o_callF (ls := []) (ds := [store_Store.Pv a0, .int .i64 v67]) rfl Ty.k54 rfl (store_Get_ok hv55)) <| y0 rfl (o_move (d := .tup [store_Obj.Pv v68.1, .int .i64 v68.2]) rfl) <| y0 rfl (o_extract rfl rfl) <| y0 rfl (o_extract rfl rfl) <| y1 rfl (o_alloc (d := .agg [.int .i64 0, .int .i64 0, .int .i64 0, .int .i64 0, .bool false, .lst true (List.map (PV.int .i64) [])]) (z := 6) rfl Ty.z73 rfl rfl rfl) rfl <| y_sto (x' := store_Obj.Pv v68.1) (cl' := true) rfl rfl (.inr rfl) Ty.s73 <| y0 rfl (o_assign (d := .int .i64 v68.2) rfl) <| y_nil ?_
     refine sR <| y0 rfl (o_fieldAddrP (k := 0) rfl Ty.f122_0 rfl) <| y0 rfl (o_loadS rfl rfl rfl Ty.a120 rfl) <| y0 rfl (o_move (d := .int .i64 v67) rfl) <| y0 rfl (o_loadA (cs := store_Obj.Pc v68.1) rfl rfl rfl Ty.a73 Ty.s73 nl rfl) ?_
     obtain ⟨v69, hv56, h⟩ := bindE h
     refine y0 rfl (o_call (ds := [.int .i64 v67, store_Obj.Pv v68.1, .ptr 2003 0 0, .ptr 2002 0 0, .ptr 2001 0 0]) rfl Ty.k95 rfl (trial_Fair_1_ok hv56)) <| y_nil ?_
     refine pw_cond v69 rfl (fun hc => ?_) (fun hc => ?_)
     ·have h := ifT h hc
      refine sr1 (by kernel_rfl) <| y0 rfl (o_move (d := .sl 910005) rfl) <| y0 rfl (o_move (d := .int .i64 v67) rfl) <| y0 rfl (o_bI (f := (PV.int .i64)) (l := [v67]) rfl Ty.e28 Ty.s3 Ty.z3 rfl rfl nl rfl rfl) ?_
      obtain ⟨v70, hv57, h⟩ := bindE h
      refine y_app rfl (o_apR (f := (PV.int .i64)) hv57 rfl rfl rfl rfl rfl rfl (.inl ⟨_, rfl, rfl⟩) Ty.e28 Ty.s3 Ty.b3 Ty.z3 rfl (fun _ => rfl)) rfl rfl rfl <| y0 rfl (o_assign (d := .sl 31) rfl) <| y_nil ?_
      exact ⟨rfl, v70, h, (Wk.trans (wk_frz _ [31]) (wk_st _ _ ⟨rfl, rfl, rfl, rfl, rfl, rfl, rfl, rfl, rfl, rfl, rfl, rfl, rfl, rfl, rfl, rfl, rfl, rfl, rfl, rfl, rfl, rfl, rfl, rfl, trivial⟩ ⟨rS, rS, rowLe_open rfl rfl rfl (fun q => nomatch q) rfl rfl rfl rfl, rS, rS, rS, trivial⟩))⟩
     ·have h := ifF h hc
      refine pw_skip ?_
      exact ⟨rfl, s58, h, (Wk.trans (wk_frz _ [910005]) (wk_stP (fun l => if l = 31 then 910005 else l) _ _ ⟨rfl, rfl, rfl, rfl, rfl, rfl, rfl, rfl, rfl, rfl, rfl, rfl, rfl, rfl, rfl, rfl, rfl, rfl, rfl, rfl, rfl, rfl, rfl, rfl, trivial⟩ ⟨rN, rN, rowLe_open rfl rfl rfl (fun q => nomatch q) rfl rfl rfl rfl, rN, rN, rN, trivial⟩ rfl))⟩
   ·have h := ifF h hc
    refine pw_exit <| thenQ_exit <| thenQ_exit <| blockQ_exit ?_
    have he := hx48 _ (Option.some.inj h).symm
    have h := hk47
    rw [← he] at h
    exact ⟨rfl, s58, h, (Wk.trans (wk_frz _ [910005]) (wk_st _ _ ⟨rfl, rfl, rfl, rfl, rfl, rfl, rfl, rfl, rfl, trivial⟩ ⟨rS, rS, rS, rS, trivial⟩))⟩

theorem w13_shown_ok  {r : Bool} (h : w13_shown = some r) : PCalls Tryz.prog 36 [] (.bool r) := by
 unfold w13_shown at h
 refine pc_intro (N := 146) Tryz.func36 rfl rfl nl fun w0 imm0 => sR <| y0 rfl (o_assign (d := .bool false) rfl) <| y_nil <| sR ?_
 obtain ⟨v1, hv1, h⟩ := bindE h
 refine yc rfl (o_callF (ls := []) (ds := [.int .i64 4, .int .i64 3]) rfl Ty.k60 rfl (store_New_ok hv1)) ?_
 obtain ⟨v2, hv2, h⟩ := bindE h
 refine yc rfl (o_callF (ls := []) (ds := [store_Store.Pv v1, .int .i64 1, .int .i64 (-1)]) rfl Ty.k61 rfl (store_Make_ok hv2)) <| y0 rfl (o_move (d := .tup [store_Store.Pv v2.1, .int .i64 v2.2.1, .int .i64 v2.2.2]) rfl) <| y0 rfl (o_extract rfl rfl) <| y0 rfl (o_extract rfl rfl) <| y0 rfl (o_extract rfl rfl) <| y1 rfl (o_alloc (d := .agg [.lst true (List.map slab_Cell_store_Obj.Pv []), .int .i64 0, .int .i64 0]) (z := 3) rfl Ty.z26 rfl rfl rfl) rfl <| y_sto (x' := store_Store.Pv v2.1) (cl' := true) rfl rfl (.inr rfl) Ty.s26 <| y0 rfl (o_assign (d := .int .i64 v2.2.1) rfl) ?_
 refine y0 rfl (o_assign (d := .int .i64 v2.2.2) rfl) <| y_nil <| sR <| y0 rfl (o_loadA (cs := store_Store.Pc v2.1) rfl rfl rfl Ty.a26 Ty.s26 nl rfl) ?_
 obtain ⟨v3, hv3, h⟩ := bindE h
 refine yc rfl (o_callF (ls := []) (ds := [store_Store.Pv v2.1, .int .i64 1, .int .i64 (-1)]) rfl Ty.k61 rfl (store_Make_ok hv3)) <| y0 rfl (o_move (d := .tup [store_Store.Pv v3.1, .int .i64 v3.2.1, .int .i64 v3.2.2]) rfl) <| y0 rfl (o_extract rfl rfl) <| y0 rfl (o_extract rfl rfl) <| y0 rfl (o_extract rfl rfl) <| y_sto (x' := store_Store.Pv v3.1) (cl' := true) rfl rfl (.inr rfl) Ty.s26 <| y0 rfl (o_assign (d := .int .i64 v3.2.1) rfl) <| y0 rfl (o_assign (d := .int .i64 v3.2.2) rfl) ?_
 refine y_nil <| sR <| y0 rfl (o_loadA (cs := store_Store.Pc v3.1) rfl rfl rfl Ty.a26 Ty.s26 nl rfl) <| y0 rfl (o_move (d := .int .i64 v2.2.1) rfl) <| y0 rfl (o_move (d := .int .i64 v3.2.1) rfl) ?_
 obtain ⟨v4, hv4, h⟩ := bindE h
 refine yc rfl (o_callF (ls := []) (ds := [store_Store.Pv v3.1, .int .i64 v2.2.1, .int .i64 0, .int .i64 v3.2.1]) rfl Ty.k85 rfl (store_Put_ok hv4)) <| y0 rfl (o_move (d := .tup [store_Store.Pv v4.1, .int .i64 v4.2]) rfl) <| y0 rfl (o_extract rfl rfl) <| y0 rfl (o_extract rfl rfl) <| y_sto (x' := store_Store.Pv v4.1) (cl' := true) rfl rfl (.inr rfl) Ty.s26 <| y_nil <| sR <| y0 rfl (o_loadA (cs := store_Store.Pc v4.1) rfl rfl rfl Ty.a26 Ty.s26 nl rfl) ?_
 refine y0 rfl (o_move (d := .int .i64 v3.2.1) rfl) <| y0 rfl (o_move (d := .int .i64 v2.2.1) rfl) ?_
 obtain ⟨v5, hv5, h⟩ := bindE h
 refine yc rfl (o_callF (ls := []) (ds := [store_Store.Pv v4.1, .int .i64 v3.2.1, .int .i64 0, .int .i64 v2.2.1]) rfl Ty.k85 rfl (store_Put_ok hv5)) <| y0 rfl (o_move (d := .tup [store_Store.Pv v5.1, .int .i64 v5.2]) rfl) <| y0 rfl (o_extract rfl rfl) <| y0 rfl (o_extract rfl rfl) <| y_sto (x' := store_Store.Pv v5.1) (cl' := true) rfl rfl (.inr rfl) Ty.s26 <| y_nil ?_
 obtain ⟨κ14, hκ12, h⟩ := jnE h
 refine pw_jn0 (κ := κ14) (r := r) (fun (j15 : store_Store) => St.of [(1, .ptr 1 0 0), (2, .int .i64 v2.2.1), (4, .int .i64 v3.2.1)] [(1, ⟨[store_Store.Pv j15], 0, false, 3, true⟩)]) (fun j15 h => ?_) ?_
 ·subst hκ12
  refine sR ?_
  obtain ⟨v16, hv13, h⟩ := bindE h
  refine yc rfl (o_callF (ls := []) (ds := [.int .i64 8]) rfl Ty.k31 rfl (hash_New_ok hv13)) <| y0 rfl (o_assign (d := .lst false (List.map hash_Place.Pv v16)) rfl) <| y_nil <| sR <| y0 rfl (o_loadA (cs := store_Store.Pc j15) rfl rfl rfl Ty.a26 Ty.s26 nl rfl) <| y0 rfl (o_move (d := .lst false (List.map hash_Place.Pv v16)) rfl) ?_
  obtain ⟨v17, hv14, h⟩ := bindE h
  refine yc rfl (o_callF (ls := []) (ds := [store_Store.Pv j15, .lst false (List.map hash_Place.Pv v16)]) rfl Ty.k45 rfl (trial_Garbage_ok hv14)) <| y0 rfl (o_assign (d := .lst false (List.map (PV.int .i64) v17)) rfl) <| y_nil <| sR <| y0 rfl (o_loadA (cs := store_Store.Pc j15) rfl rfl rfl Ty.a26 Ty.s26 nl rfl) <| y0 rfl (o_move (d := .int .i64 v3.2.1) rfl) ?_
  obtain ⟨v18, hv15, h⟩ := bindE h
  refine yc rfl (o_callF (ls := []) (ds := [store_Store.Pv j15, .int .i64 v3.2.1]) rfl Ty.k54 rfl (store_Get_ok hv15)) <| y0 rfl (o_move (d := .tup [store_Obj.Pv v18.1, .int .i64 v18.2]) rfl) <| y0 rfl (o_extract rfl rfl) <| y0 rfl (o_extract rfl rfl) <| y1 rfl (o_alloc (d := .agg [.int .i64 0, .int .i64 0, .int .i64 0, .int .i64 0, .bool false, .lst true (List.map (PV.int .i64) [])]) (z := 6) rfl Ty.z73 rfl rfl rfl) rfl <| y_sto (x' := store_Obj.Pv v18.1) (cl' := true) rfl rfl (.inr rfl) Ty.s73 <| y0 rfl (o_assign (d := .int .i64 v18.2) rfl) <| y_nil ?_
  refine sR <| y0 rfl (o_fieldAddrP (k := 1) rfl Ty.f73_1 rfl) <| y_sto (x' := .agg [.int .i64 v18.1.Serial, .int .i64 2, .int .i64 v18.1.Weak, .int .i64 v18.1.Prog, .bool v18.1.Started, .lst false (List.map (PV.int .i64) v18.1.Fields)]) (cl' := true) rfl rfl (.inl rfl) Ty.s3 <| y_nil <| sR <| y0 rfl (o_loadA (cs := store_Store.Pc j15) rfl rfl rfl Ty.a26 Ty.s26 nl rfl) <| y0 rfl (o_move (d := .int .i64 v3.2.1) rfl) <| y0 rfl (o_loadA (cs := [.int .i64 v18.1.Serial, .int .i64 2, .int .i64 v18.1.Weak, .int .i64 v18.1.Prog, .bool v18.1.Started, .lst false (List.map (PV.int .i64) v18.1.Fields)]) rfl rfl rfl Ty.a73 Ty.s73 nl rfl) ?_
  obtain ⟨v19, hv16, h⟩ := bindE h
  refine yc rfl (o_callF (ls := []) (ds := [store_Store.Pv j15, .int .i64 v3.2.1, .agg [.int .i64 v18.1.Serial, .int .i64 2, .int .i64 v18.1.Weak, .int .i64 v18.1.Prog, .bool v18.1.Started, .lst false (List.map (PV.int .i64) v18.1.Fields)]]) rfl Ty.k55 rfl (store_Set_ok hv16)) <| y0 rfl (o_move (d := .tup [store_Store.Pv v19.1, .int .i64 v19.2]) rfl) <| y0 rfl (o_extract rfl rfl) <| y0 rfl (o_extract rfl rfl) <| y1 rfl (o_alloc (d := .agg [.lst true (List.map slab_Cell_store_Obj.Pv []), .int .i64 0, .int .i64 0]) (z := 3) rfl Ty.z26 rfl rfl rfl) rfl <| y_sto (x' := store_Store.Pv v19.1) (cl' := true) rfl rfl (.inr rfl) Ty.s26 <| y0 rfl (o_assign (d := .int .i64 v19.2) rfl) <| y_nil ?_
  refine sR <| y0 rfl (o_move (d := .lst false (List.map (PV.int .i64) v17)) rfl) <| y0 rfl (o_lnL (f := (PV.int .i64)) rfl Ty.e28) <| y0 rfl (o_cmp rfl rfl rfl) <| y0 rfl (o_move (d := .bool ((v17.length : Int) == 2)) rfl) <| y_if (g := (((v17.length : Int) == 2) == true)) rfl (fun hg => o_move (d := .lst false (List.map (PV.int .i64) v17)) rfl) ?_
  obtain ⟨v20, hv17, h⟩ := bindE h
  refine y_if (g := (((v17.length : Int) == 2) == true)) rfl (fun hg => o_ixL (f := (PV.int .i64)) (cs := [.int .i64 v20]) (onlyE hv17 hg) (ct hg) rfl Ty.e28 Ty.s3 rfl rfl) <| y_if (g := (((v17.length : Int) == 2) == true)) rfl (fun hg => o_loadRS (ct hg) Ty.a3 rfl) <| y_if (g := (((v17.length : Int) == 2) == true)) rfl (fun hg => o_move (d := .int .i64 v2.2.1) rfl) <| y_if (g := (((v17.length : Int) == 2) == true)) rfl (fun hg => o_cmp (ct hg) (ct hg) rfl) <| y0 rfl (pk_and rfl rfl rfl (fun q => eqT q)) <| y0 rfl (o_move (d := .bool (((v17.length : Int) == 2) && (v20 == v2.2.1))) rfl) <| y_if (g := ((((v17.length : Int) == 2) && (v20 == v2.2.1)) == true)) rfl (fun hg => o_loadA (cs := store_Store.Pc j15) rfl rfl rfl Ty.a26 Ty.s26 nl rfl) <| y_if (g := ((((v17.length : Int) == 2) && (v20 == v2.2.1)) == true)) rfl (fun hg => o_move (d := .lst false (List.map hash_Place.Pv v16)) rfl) ?_
  obtain ⟨v21, hv18, h⟩ := bindE h
  refine y_ifc (g := ((((v17.length : Int) == 2) && (v20 == v2.2.1)) == true)) rfl (fun hg => o_callF (ls := []) (ds := [store_Store.Pv j15, .lst false (List.map hash_Place.Pv v16)]) rfl Ty.k43 (consE (ct hg) (consE (ct hg) rfl)) (trial_Held_ok (onlyE hv18 hg))) <| y_if (g := ((((v17.length : Int) == 2) && (v20 == v2.2.1)) == true)) rfl (fun hg => o_lnL (f := (PV.int .i64)) (ct hg) Ty.e28) <| y_if (g := ((((v17.length : Int) == 2) && (v20 == v2.2.1)) == true)) rfl (fun hg => o_cmp (ct hg) rfl rfl) <| y0 rfl (pk_and rfl rfl rfl (fun q => eqT q)) <| y0 rfl (o_move (d := .bool ((((v17.length : Int) == 2) && (v20 == v2.2.1)) && ((v21.length : Int) == 0))) rfl) <| y_if (g := (((((v17.length : Int) == 2) && (v20 == v2.2.1)) && ((v21.length : Int) == 0)) == true)) rfl (fun hg => o_loadA (cs := store_Store.Pc v19.1) rfl rfl rfl Ty.a26 Ty.s26 nl rfl) <| y_if (g := (((((v17.length : Int) == 2) && (v20 == v2.2.1)) && ((v21.length : Int) == 0)) == true)) rfl (fun hg => o_move (d := .lst false (List.map hash_Place.Pv v16)) rfl) <| y_if (g := (((((v17.length : Int) == 2) && (v20 == v2.2.1)) && ((v21.length : Int) == 0)) == true)) rfl (fun hg => o_move (d := .int .i64 v3.2.1) rfl) ?_
  obtain ⟨v22, hv19, h⟩ := bindE h
  refine y_if (g := (((((v17.length : Int) == 2) && (v20 == v2.2.1)) && ((v21.length : Int) == 0)) == true)) rfl (fun hg => o_call (ds := [store_Store.Pv v19.1, .lst false (List.map hash_Place.Pv v16), .int .i64 v3.2.1]) rfl Ty.k41 (consE (ct hg) (consE (ct hg) (consE (ct hg) rfl))) (trial_Rest_ok (onlyE hv19 hg))) <| y_if (g := (((((v17.length : Int) == 2) && (v20 == v2.2.1)) && ((v21.length : Int) == 0)) == true)) rfl (fun hg => o_cmp (ct hg) rfl rfl) <| y0 rfl (pk_and rfl rfl rfl (fun q => eqT q)) <| y0 rfl (o_move (d := .bool (((((v17.length : Int) == 2) && (v20 == v2.2.1)) && ((v21.length : Int) == 0)) && (v22 == 1))) rfl) <| y_if (g := ((((((v17.length : Int) == 2) && (v20 == v2.2.1)) && ((v21.length : Int) == 0)) && (v22 == 1)) == true)) rfl (fun hg => o_loadA (cs := store_Store.Pc v19.1) rfl rfl rfl Ty.a26 Ty.s26 nl rfl) <| y_if (g := ((((((v17.length : Int) == 2) && (v20 == v2.2.1)) && ((v21.length : Int) == 0)) && (v22 == 1)) == true)) rfl (fun hg => o_move (d := .lst false (List.map hash_Place.Pv v16)) rfl) ?_
  obtain ⟨v23, hv20, h⟩ := bindE h
  refine y_ifc (g := ((((((v17.length : Int) == 2) && (v20 == v2.2.1)) && ((v21.length : Int) == 0)) && (v22 == 1)) == true)) rfl (fun hg => o_callF (ls := []) (ds := [store_Store.Pv v19.1, .lst false (List.map hash_Place.Pv v16)]) rfl Ty.k43 (consE (ct hg) (consE (ct hg) rfl)) (trial_Held_ok (onlyE hv20 hg))) <| y_if (g := ((((((v17.length : Int) == 2) && (v20 == v2.2.1)) && ((v21.length : Int) == 0)) && (v22 == 1)) == true)) rfl (fun hg => o_lnL (f := (PV.int .i64)) (ct hg) Ty.e28) <| y_if (g := ((((((v17.length : Int) == 2) && (v20 == v2.2.1)) && ((v21.length : Int) == 0)) && (v22 == 1)) == true)) rfl (fun hg => o_cmp (ct hg) rfl rfl) <| y0 rfl (pk_and rfl rfl rfl (fun q => eqT q)) <| y0 rfl (o_move (d := .bool ((((((v17.length : Int) == 2) && (v20 == v2.2.1)) && ((v21.length : Int) == 0)) && (v22 == 1)) && ((v23.length : Int) == 1))) rfl) <| y_if (g := (((((((v17.length : Int) == 2) && (v20 == v2.2.1)) && ((v21.length : Int) == 0)) && (v22 == 1)) && ((v23.length : Int) == 1)) == true)) rfl (fun hg => o_loadA (cs := store_Store.Pc v19.1) rfl rfl rfl Ty.a26 Ty.s26 nl rfl) <| y_if (g := (((((((v17.length : Int) == 2) && (v20 == v2.2.1)) && ((v21.length : Int) == 0)) && (v22 == 1)) && ((v23.length : Int) == 1)) == true)) rfl (fun hg => o_move (d := .lst false (List.map hash_Place.Pv v16)) rfl) ?_
  obtain ⟨v24, hv21, h⟩ := bindE h
  refine y_ifc (g := (((((((v17.length : Int) == 2) && (v20 == v2.2.1)) && ((v21.length : Int) == 0)) && (v22 == 1)) && ((v23.length : Int) == 1)) == true)) rfl (fun hg => o_callF (ls := []) (ds := [store_Store.Pv v19.1, .lst false (List.map hash_Place.Pv v16)]) rfl Ty.k45 (consE (ct hg) (consE (ct hg) rfl)) (trial_Garbage_ok (onlyE hv21 hg))) <| y_if (g := (((((((v17.length : Int) == 2) && (v20 == v2.2.1)) && ((v21.length : Int) == 0)) && (v22 == 1)) && ((v23.length : Int) == 1)) == true)) rfl (fun hg => o_lnL (f := (PV.int .i64)) (ct hg) Ty.e28) <| y_if (g := (((((((v17.length : Int) == 2) && (v20 == v2.2.1)) && ((v21.length : Int) == 0)) && (v22 == 1)) && ((v23.length : Int) == 1)) == true)) rfl (fun hg => o_cmp (ct hg) rfl rfl) <| y0 rfl (pk_and rfl rfl rfl (fun q => eqT q)) <| y0 rfl (o_move (d := .bool (((((((v17.length : Int) == 2) && (v20 == v2.2.1)) && ((v21.length : Int) == 0)) && (v22 == 1)) && ((v23.length : Int) == 1)) && ((v24.length : Int) == 0))) rfl) <| y_if (g := ((((((((v17.length : Int) == 2) && (v20 == v2.2.1)) && ((v21.length : Int) == 0)) && (v22 == 1)) && ((v23.length : Int) == 1)) && ((v24.length : Int) == 0)) == true)) rfl (fun hg => o_loadA (cs := store_Store.Pc v19.1) rfl rfl rfl Ty.a26 Ty.s26 nl rfl) <| y_if (g := ((((((((v17.length : Int) == 2) && (v20 == v2.2.1)) && ((v21.length : Int) == 0)) && (v22 == 1)) && ((v23.length : Int) == 1)) && ((v24.length : Int) == 0)) == true)) rfl (fun hg => o_move (d := .lst false (List.map hash_Place.Pv v16)) rfl) <| y_if (g := ((((((((v17.length : Int) == 2) && (v20 == v2.2.1)) && ((v21.length : Int) == 0)) && (v22 == 1)) && ((v23.length : Int) == 1)) && ((v24.length : Int) == 0)) == true)) rfl (fun hg => o_move (d := .int .i64 v2.2.1) rfl) ?_
  obtain ⟨v25, hv22, h⟩ := bindE h
  refine y_if (g := ((((((((v17.length : Int) == 2) && (v20 == v2.2.1)) && ((v21.length : Int) == 0)) && (v22 == 1)) && ((v23.length : Int) == 1)) && ((v24.length : Int) == 0)) == true)) rfl (fun hg => o_call (ds := [store_Store.Pv v19.1, .lst false (List.map hash_Place.Pv v16), .int .i64 v2.2.1]) rfl Ty.k39 (consE (ct hg) (consE (ct hg) (consE (ct hg) rfl))) (trial_Inner_ok (onlyE hv22 hg))) <| y_if (g := ((((((((v17.length : Int) == 2) && (v20 == v2.2.1)) && ((v21.length : Int) == 0)) && (v22 == 1)) && ((v23.length : Int) == 1)) && ((v24.length : Int) == 0)) == true)) rfl (fun hg => o_cmp (ct hg) rfl rfl) <| y0 rfl (pk_and rfl rfl rfl (fun q => eqT q)) <| y0 rfl (o_move (d := .bool ((((((((v17.length : Int) == 2) && (v20 == v2.2.1)) && ((v21.length : Int) == 0)) && (v22 == 1)) && ((v23.length : Int) == 1)) && ((v24.length : Int) == 0)) && (v25 == 1))) rfl) <| y_if (g := (((((((((v17.length : Int) == 2) && (v20 == v2.2.1)) && ((v21.length : Int) == 0)) && (v22 == 1)) && ((v23.length : Int) == 1)) && ((v24.length : Int) == 0)) && (v25 == 1)) == true)) rfl (fun hg => o_loadA (cs := store_Store.Pc j15) rfl rfl rfl Ty.a26 Ty.s26 nl rfl) <| y_if (g := (((((((((v17.length : Int) == 2) && (v20 == v2.2.1)) && ((v21.length : Int) == 0)) && (v22 == 1)) && ((v23.length : Int) == 1)) && ((v24.length : Int) == 0)) && (v25 == 1)) == true)) rfl (fun hg => o_move (d := .lst false (List.map hash_Place.Pv v16)) rfl) ?_
  obtain ⟨v26, hv23, h⟩ := bindE h
  refine y_if (g := (((((((((v17.length : Int) == 2) && (v20 == v2.2.1)) && ((v21.length : Int) == 0)) && (v22 == 1)) && ((v23.length : Int) == 1)) && ((v24.length : Int) == 0)) && (v25 == 1)) == true)) rfl (fun hg => o_call (ds := [store_Store.Pv j15, .lst false (List.map hash_Place.Pv v16), .lst true (List.map (PV.int .i64) [])]) rfl Ty.k47 (consE (ct hg) (consE (ct hg) (consE rfl rfl))) (trial_Fair_ok (onlyE hv23 hg))) <| y0 rfl (pk_and rfl rfl rfl (fun q => eqT q)) <| y0 rfl (o_move (d := .bool (((((((((v17.length : Int) == 2) && (v20 == v2.2.1)) && ((v21.length : Int) == 0)) && (v22 == 1)) && ((v23.length : Int) == 1)) && ((v24.length : Int) == 0)) && (v25 == 1)) && v26)) rfl) <| y_if (g := ((((((((((v17.length : Int) == 2) && (v20 == v2.2.1)) && ((v21.length : Int) == 0)) && (v22 == 1)) && ((v23.length : Int) == 1)) && ((v24.length : Int) == 0)) && (v25 == 1)) && v26) == true)) rfl (fun hg => o_loadA (cs := store_Store.Pc v19.1) rfl rfl rfl Ty.a26 Ty.s26 nl rfl) <| y_if (g := ((((((((((v17.length : Int) == 2) && (v20 == v2.2.1)) && ((v21.length : Int) == 0)) && (v22 == 1)) && ((v23.length : Int) == 1)) && ((v24.length : Int) == 0)) && (v25 == 1)) && v26) == true)) rfl (fun hg => o_move (d := .lst false (List.map hash_Place.Pv v16)) rfl) <| y_if (g := ((((((((((v17.length : Int) == 2) && (v20 == v2.2.1)) && ((v21.length : Int) == 0)) && (v22 == 1)) && ((v23.length : Int) == 1)) && ((v24.length : Int) == 0)) && (v25 == 1)) && v26) == true)) rfl (fun hg => o_move (d := .int .i64 v3.2.1) rfl) <| y_if (g := ((((((((((v17.length : Int) == 2) && (v20 == v2.2.1)) && ((v21.length : Int) == 0)) && (v22 == 1)) && ((v23.length : Int) == 1)) && ((v24.length : Int) == 0)) && (v25 == 1)) && v26) == true)) rfl (fun hg => o_bI (f := (PV.int .i64)) (l := [v3.2.1]) (consE (partE (ct hg)) rfl) Ty.e28 Ty.s3 Ty.z3 rfl rfl nl rfl rfl) ?_
  obtain ⟨v27, hv24, h⟩ := bindE h
  refine y_if (g := ((((((((((v17.length : Int) == 2) && (v20 == v2.2.1)) && ((v21.length : Int) == 0)) && (v22 == 1)) && ((v23.length : Int) == 1)) && ((v24.length : Int) == 0)) && (v25 == 1)) && v26) == true)) rfl (fun hg => o_call (ds := [store_Store.Pv v19.1, .lst false (List.map hash_Place.Pv v16), .lst true (List.map (PV.int .i64) [v3.2.1])]) rfl Ty.k47 (consE (ct hg) (consE (ct hg) (consE (ct hg) rfl))) (trial_Fair_ok (onlyE hv24 hg))) <| y0 rfl (pk_and rfl rfl rfl (fun q => eqT q)) <| y0 rfl (o_move (d := .bool ((((((((((v17.length : Int) == 2) && (v20 == v2.2.1)) && ((v21.length : Int) == 0)) && (v22 == 1)) && ((v23.length : Int) == 1)) && ((v24.length : Int) == 0)) && (v25 == 1)) && v26) && v27)) rfl) <| y_if (g := (((((((((((v17.length : Int) == 2) && (v20 == v2.2.1)) && ((v21.length : Int) == 0)) && (v22 == 1)) && ((v23.length : Int) == 1)) && ((v24.length : Int) == 0)) && (v25 == 1)) && v26) && v27) == true)) rfl (fun hg => o_loadA (cs := store_Store.Pc v19.1) rfl rfl rfl Ty.a26 Ty.s26 nl rfl) <| y_if (g := (((((((((((v17.length : Int) == 2) && (v20 == v2.2.1)) && ((v21.length : Int) == 0)) && (v22 == 1)) && ((v23.length : Int) == 1)) && ((v24.length : Int) == 0)) && (v25 == 1)) && v26) && v27) == true)) rfl (fun hg => o_move (d := .lst false (List.map hash_Place.Pv v16)) rfl) ?_
  obtain ⟨v28, hv25, h⟩ := bindE h
  refine y_if (g := (((((((((((v17.length : Int) == 2) && (v20 == v2.2.1)) && ((v21.length : Int) == 0)) && (v22 == 1)) && ((v23.length : Int) == 1)) && ((v24.length : Int) == 0)) && (v25 == 1)) && v26) && v27) == true)) rfl (fun hg => o_call (ds := [store_Store.Pv v19.1, .lst false (List.map hash_Place.Pv v16), .lst true (List.map (PV.int .i64) [])]) rfl Ty.k47 (consE (ct hg) (consE (ct hg) (consE rfl rfl))) (trial_Fair_ok (onlyE hv25 hg))) <| y_if (g := (((((((((((v17.length : Int) == 2) && (v20 == v2.2.1)) && ((v21.length : Int) == 0)) && (v22 == 1)) && ((v23.length : Int) == 1)) && ((v24.length : Int) == 0)) && (v25 == 1)) && v26) && v27) == true)) rfl (fun hg => o_not (ct hg) rfl) <| y0 rfl (pk_and rfl rfl rfl (fun q => eqT q)) <| y0 rfl (o_assign (d := .bool (((((((((((v17.length : Int) == 2) && (v20 == v2.2.1)) && ((v21.length : Int) == 0)) && (v22 == 1)) && ((v23.length : Int) == 1)) && ((v24.length : Int) == 0)) && (v25 == 1)) && v26) && v27) && (!v28))) rfl) <| y_nil <| pw_ret ?_
  obtain rfl := Option.some.inj h
  exact ⟨rfl, [_], ⟨rfl, trivial⟩, rfl, io⟩
 ·skip
  refine sR <| y0 rfl (o_move (d := .int .i64 v2.2.1) rfl) <| y0 rfl (o_move (d := .int .i64 v3.2.1) rfl) <| y0 rfl (o_bI (f := (PV.int .i64)) (l := [v2.2.1, v3.2.1]) rfl Ty.e28 Ty.s3 Ty.z3 rfl rfl nl rfl rfl) <| y0 rfl (o_lnL (f := (PV.int .i64)) rfl Ty.e28) <| y0 rfl (o_move (d := .int .i64 0) rfl) <| y_nil <| pw_block ?_
  obtain ⟨e29, hl26, hk27⟩ := bindE h
  refine pw_lp0 (fun (q : Int × store_Store) => St.of [(1, .ptr 1 0 0), (2, .int .i64 v2.2.1), (4, .int .i64 v3.2.1), (44, .lst true (List.map (PV.int .i64) [v2.2.1, v3.2.1])), (45, .int .i64 ([v2.2.1, v3.2.1].length : Int)), (46, .int .i64 q.1)] [(1, ⟨[store_Store.Pv q.2], 0, false, 3, true⟩)]) hl26 (wk_st _ _ ⟨rfl, rfl, rfl, rfl, rfl, rfl, rfl, rfl, rfl, rfl, rfl, rfl, rfl, rfl, rfl, rfl, rfl, rfl, trivial⟩ ⟨rS, trivial⟩) (fun q33 x32 h hx28 => ?_)
  obtain ⟨s30, s31⟩ := q33
  refine sR <| y0 rfl (o_cmp rfl rfl rfl) <| y_nil <| pw_seq ?_
  refine pw_cond (decide (s30 < ([v2.2.1, v3.2.1].length : Int))) rfl (fun hc => ?_) (fun hc => ?_)
  ·have h := ifT h hc
   refine pw_skip <| pw_seq <| pw_block <| sR ?_
   obtain ⟨v34, hv29, h⟩ := bindE h
   refine y0 rfl (o_ixL (f := (PV.int .i64)) (cs := [.int .i64 v34]) hv29 rfl rfl Ty.e28 Ty.s3 rfl rfl) <| y0 rfl (o_loadRS rfl Ty.a3 rfl) <| y0 rfl (o_assign (d := .int .i64 v34) rfl) <| y_nil <| sR <| y0 rfl (o_loadA (cs := store_Store.Pc s31) rfl rfl rfl Ty.a26 Ty.s26 nl rfl) <| y0 rfl (o_move (d := .int .i64 v34) rfl) ?_
   obtain ⟨v35, hv30, h⟩ := bindE h
   refine yc rfl (o_callF (ls := []) (ds := [store_Store.Pv s31, .int .i64 v34]) rfl Ty.k54 rfl (store_Get_ok hv30)) <| y0 rfl (o_move (d := .tup [store_Obj.Pv v35.1, .int .i64 v35.2]) rfl) <| y0 rfl (o_extract rfl rfl) <| y0 rfl (o_extract rfl rfl) <| y1 rfl (o_alloc (d := .agg [.int .i64 0, .int .i64 0, .int .i64 0, .int .i64 0, .bool false, .lst true (List.map (PV.int .i64) [])]) (z := 6) rfl Ty.z73 rfl rfl rfl) rfl <| y_sto (x' := store_Obj.Pv v35.1) (cl' := true) rfl rfl (.inr rfl) Ty.s73 <| y0 rfl (o_assign (d := .int .i64 v35.2) rfl) <| y_nil ?_
   refine sR <| y0 rfl (o_fieldAddrP (k := 1) rfl Ty.f73_1 rfl) <| y_sto (x' := .agg [.int .i64 v35.1.Serial, .int .i64 1, .int .i64 v35.1.Weak, .int .i64 v35.1.Prog, .bool v35.1.Started, .lst false (List.map (PV.int .i64) v35.1.Fields)]) (cl' := true) rfl rfl (.inl rfl) Ty.s3 <| y_nil <| sr1 (by kernel_rfl) <| y0 rfl (o_loadA (cs := store_Store.Pc s31) rfl rfl rfl Ty.a26 Ty.s26 nl rfl) <| y0 rfl (o_move (d := .int .i64 v34) rfl) <| y0 rfl (o_loadA (cs := [.int .i64 v35.1.Serial, .int .i64 1, .int .i64 v35.1.Weak, .int .i64 v35.1.Prog, .bool v35.1.Started, .lst false (List.map (PV.int .i64) v35.1.Fields)]) rfl rfl rfl Ty.a73 Ty.s73 nl rfl) ?_
   obtain ⟨v36, hv31, h⟩ := bindE h
   refine yc rfl (o_callF (ls := []) (ds := [store_Store.Pv s31, .int .i64 v34, .agg [.int .i64 v35.1.Serial, .int .i64 1, .int .i64 v35.1.Weak, .int .i64 v35.1.Prog, .bool v35.1.Started, .lst false (List.map (PV.int .i64) v35.1.Fields)]]) rfl Ty.k55 rfl (store_Set_ok hv31)) <| y0 rfl (o_move (d := .tup [store_Store.Pv v36.1, .int .i64 v36.2]) rfl) <| y0 rfl (o_extract rfl rfl) <| y0 rfl (o_extract rfl rfl) <| y_sto (x' := store_Store.Pv v36.1) (cl' := true) rfl rfl (.inr rfl) Ty.s26 <| y_nil <| sr1 (by kernel_rfl) <| y0 rfl (o_ari rfl rfl rfl) ?_
   refine y0 rfl (o_move (d := .int .i64 (w64 (s30 + 1))) rfl) <| y_nil ?_
   exact ⟨rfl, (w64 (s30 + 1), v36.1), (Option.some.inj h).symm, (wk_st _ _ ⟨rfl, rfl, rfl, rfl, rfl, rfl, rfl, rfl, rfl, rfl, rfl, rfl, rfl, rfl, rfl, rfl, rfl, rfl, trivial⟩ ⟨rS, trivial⟩)⟩
  ·have h := ifF h hc
   refine pw_exit <| thenQ_exit <| thenQ_exit <| blockQ_exit ?_
   have he := hx28 _ (Option.some.inj h).symm
   have h := hk27
   rw [← he] at h
   exact ⟨rfl, s31, h, (wk_st _ _ ⟨rfl, rfl, rfl, rfl, rfl, rfl, rfl, rfl, rfl, trivial⟩ ⟨rS, trivial⟩)⟩

theorem r01_Pack_ok {a0 : Int} {a1 : Int} {r : Int} (h : r01_Pack a0 a1 = some r) : PCalls Tryz.prog 74 [.int .i64 a0, .int .i64 a1] (.int .i64 r) := by
 unfold r01_Pack at h
 refine pc_intro (N := 24) Tryz.func74 rfl rfl nl fun w0 imm0 => sR <| y0 rfl (o_assign (d := .int .i64 0) rfl) <| y_nil <| pw_seq <| sR <| y0 rfl (o_move (d := .int .i64 a0) rfl) <| y0 rfl (o_cmp rfl rfl rfl) ?_
 refine y0 rfl (o_move (d := .bool (decide (a0 < 0))) rfl) <| y_if (g := ((decide (a0 < 0)) == false)) rfl (fun hg => o_move (d := .int .i64 a0) rfl) <| y_if (g := ((decide (a0 < 0)) == false)) rfl (fun hg => o_cmp (ct hg) rfl rfl) <| y0 rfl (pk_or rfl rfl rfl (fun q => eqF q)) <| y0 rfl (o_move (d := .bool ((decide (a0 < 0)) || (decide (a0 > 23)))) rfl) <| y_if (g := (((decide (a0 < 0)) || (decide (a0 > 23))) == false)) rfl (fun hg => o_move (d := .int .i64 a1) rfl) <| y_if (g := (((decide (a0 < 0)) || (decide (a0 > 23))) == false)) rfl (fun hg => o_cmp (ct hg) rfl rfl) <| y0 rfl (pk_or rfl rfl rfl (fun q => eqF q)) ?_
 refine y0 rfl (o_move (d := .bool (((decide (a0 < 0)) || (decide (a0 > 23))) || (decide (a1 < 0)))) rfl) <| y_if (g := ((((decide (a0 < 0)) || (decide (a0 > 23))) || (decide (a1 < 0))) == false)) rfl (fun hg => o_move (d := .int .i64 a1) rfl) <| y_if (g := ((((decide (a0 < 0)) || (decide (a0 > 23))) || (decide (a1 < 0))) == false)) rfl (fun hg => o_cmp (ct hg) rfl rfl) <| y0 rfl (pk_or rfl rfl rfl (fun q => eqF q)) <| y_nil ?_
 refine pw_cond ((((decide (a0 < 0)) || (decide (a0 > 23))) || (decide (a1 < 0))) || (decide (a1 > 9))) rfl (fun hc => ?_) (fun hc => ?_)
 ·have h := ifT h hc
  refine sR <| y0 rfl (o_assign (d := .int .i64 0) rfl) <| y_nil <| pw_ret ?_
  obtain rfl := Option.some.inj h
  exact ⟨rfl, [_], ⟨rfl, trivial⟩, rfl, io⟩
 ·have h := ifF h hc
  refine pw_skip <| sR <| y0 rfl (o_move (d := .int .i64 a0) rfl) <| y0 rfl (o_ari rfl rfl rfl) <| y0 rfl (o_move (d := .int .i64 a1) rfl) <| y0 rfl (o_ari rfl rfl rfl) <| y0 rfl (o_ari rfl rfl rfl) <| y0 rfl (o_assign (d := .int .i64 (w64 ((w64 (1 + a0)) + (w64 (32 * a1))))) rfl) ?_
  refine y_nil <| pw_ret ?_
  obtain rfl := Option.some.inj h
  exact ⟨rfl, [_], ⟨rfl, trivial⟩, rfl, io⟩

theorem r01_Valid_ok {a0 : Int} {r : Bool} (h : r01_Valid a0 = some r) : PCalls Tryz.prog 160 [.int .i64 a0] (.bool r) := by
 unfold r01_Valid at h
 refine pc_intro (N := 18) Tryz.func160 rfl rfl nl fun w0 imm0 => sR <| y0 rfl (o_assign (d := .bool false) rfl) <| y_nil <| pw_seq <| sR <| y0 rfl (o_move (d := .int .i64 a0) rfl) <| y0 rfl (o_cmp rfl rfl rfl) ?_
 refine y0 rfl (o_move (d := .bool (decide (a0 < 1))) rfl) <| y_if (g := ((decide (a0 < 1)) == false)) rfl (fun hg => o_move (d := .int .i64 a0) rfl) <| y_if (g := ((decide (a0 < 1)) == false)) rfl (fun hg => o_cmp (ct hg) rfl rfl) <| y0 rfl (pk_or rfl rfl rfl (fun q => eqF q)) <| y_nil ?_
 refine pw_cond ((decide (a0 < 1)) || (decide (a0 > 400))) rfl (fun hc => ?_) (fun hc => ?_)
 ·have h := ifT h hc
  refine sR <| y0 rfl (o_assign (d := .bool false) rfl) <| y_nil <| pw_ret ?_
  obtain rfl := Option.some.inj h
  exact ⟨rfl, [_], ⟨rfl, trivial⟩, rfl, io⟩
 ·have h := ifF h hc
  refine pw_skip <| sR <| y0 rfl (o_move (d := .int .i64 a0) rfl) <| y0 rfl (o_ari rfl rfl rfl) ?_
  obtain ⟨v1, hv1, h⟩ := bindE h
  refine y0 rfl (o_ari rfl rfl hv1) <| y0 rfl (o_move (d := .int .i64 a0) rfl) <| y0 rfl (o_ari rfl rfl rfl) ?_
  obtain ⟨v2, hv2, h⟩ := bindE h
  refine y0 rfl (o_ari rfl rfl hv2) ?_
  obtain ⟨v3, hv3, h⟩ := bindE h
  refine y0 rfl (o_call (ds := [.int .i64 v1, .int .i64 v2]) rfl Ty.k74 rfl (r01_Pack_ok hv3)) <| y0 rfl (o_move (d := .int .i64 a0) rfl) <| y0 rfl (o_cmp rfl rfl rfl) <| y0 rfl (o_assign (d := .bool (v3 == a0)) rfl) <| y_nil <| pw_ret ?_
  obtain rfl := Option.some.inj h
  exact ⟨rfl, [_], ⟨rfl, trivial⟩, rfl, io⟩

theorem r01_Slot_ok {a0 : Int} {r : Int} (h : r01_Slot a0 = some r) : PCalls Tryz.prog 143 [.int .i64 a0] (.int .i64 r) := by
 unfold r01_Slot at h
 refine pc_intro (N := 9) Tryz.func143 rfl rfl nl fun w0 imm0 => sR <| y0 rfl (o_assign (d := .int .i64 0) rfl) <| y_nil <| pw_seq <| sR <| y0 rfl (o_move (d := .int .i64 a0) rfl) ?_
 obtain ⟨v1, hv1, h⟩ := bindE h
 refine y0 rfl (o_call (ds := [.int .i64 a0]) rfl Ty.k160 rfl (r01_Valid_ok hv1)) <| y0 rfl (o_not rfl rfl) <| y_nil ?_
 refine pw_cond (!v1) rfl (fun hc => ?_) (fun hc => ?_)
 ·have h := ifT h hc
  refine sR <| y0 rfl (o_assign (d := .int .i64 (-1)) rfl) <| y_nil <| pw_ret ?_
  obtain rfl := Option.some.inj h
  exact ⟨rfl, [_], ⟨rfl, trivial⟩, rfl, io⟩
 ·have h := ifF h hc
  refine pw_skip <| sR <| y0 rfl (o_move (d := .int .i64 a0) rfl) <| y0 rfl (o_ari rfl rfl rfl) ?_
  obtain ⟨v2, hv2, h⟩ := bindE h
  refine y0 rfl (o_ari rfl rfl hv2) <| y0 rfl (o_assign (d := .int .i64 v2) rfl) <| y_nil <| pw_ret ?_
  obtain rfl := Option.some.inj h
  exact ⟨rfl, [_], ⟨rfl, trivial⟩, rfl, io⟩

theorem r01_Gen_ok {a0 : Int} {r : Int} (h : r01_Gen a0 = some r) : PCalls Tryz.prog 144 [.int .i64 a0] (.int .i64 r) := by
 unfold r01_Gen at h
 refine pc_intro (N := 9) Tryz.func144 rfl rfl nl fun w0 imm0 => sR <| y0 rfl (o_assign (d := .int .i64 0) rfl) <| y_nil <| pw_seq <| sR <| y0 rfl (o_move (d := .int .i64 a0) rfl) ?_
 obtain ⟨v1, hv1, h⟩ := bindE h
 refine y0 rfl (o_call (ds := [.int .i64 a0]) rfl Ty.k160 rfl (r01_Valid_ok hv1)) <| y0 rfl (o_not rfl rfl) <| y_nil ?_
 refine pw_cond (!v1) rfl (fun hc => ?_) (fun hc => ?_)
 ·have h := ifT h hc
  refine sR <| y0 rfl (o_assign (d := .int .i64 (-1)) rfl) <| y_nil <| pw_ret ?_
  obtain rfl := Option.some.inj h
  exact ⟨rfl, [_], ⟨rfl, trivial⟩, rfl, io⟩
 ·have h := ifF h hc
  refine pw_skip <| sR <| y0 rfl (o_move (d := .int .i64 a0) rfl) <| y0 rfl (o_ari rfl rfl rfl) ?_
  obtain ⟨v2, hv2, h⟩ := bindE h
  refine y0 rfl (o_ari rfl rfl hv2) <| y0 rfl (o_assign (d := .int .i64 v2) rfl) <| y_nil <| pw_ret ?_
  obtain rfl := Option.some.inj h
  exact ⟨rfl, [_], ⟨rfl, trivial⟩, rfl, io⟩

theorem r03_Find_ok {a0 : r03_Slab} {a1 : Int} {r : Int × Int} (h : r03_Find a0 a1 = some r) : PCalls Tryz.prog 121 [r03_Slab.Pv a0, .int .i64 a1] (.tup [.int .i64 r.1, .int .i64 r.2]) := by
 unfold r03_Find at h
 refine pc_intro (N := 42) Tryz.func121 rfl rfl nl fun w0 imm0 => sR <| y1 rfl (o_box (d := r03_Slab.Pv a0) (z := 2) (cl := true) rfl rfl rfl rfl rfl) rfl <| y0 rfl (o_assign (d := .int .i64 0) rfl) <| y0 rfl (o_assign (d := .int .i64 0) rfl) <| y_nil <| pw_seq <| sR ?_
 refine y0 rfl (o_move (d := .int .i64 a1) rfl) <| y0 rfl (o_cmp rfl rfl rfl) <| y_nil ?_
 refine pw_cond (a1 == 0) rfl (fun hc => ?_) (fun hc => ?_)
 ·have h := ifT h hc
  refine sR <| y0 rfl (o_assign (d := .int .i64 (-1)) rfl) <| y0 rfl (o_assign (d := .int .i64 2) rfl) <| y_nil <| pw_ret ?_
  obtain rfl := Option.some.inj h
  exact ⟨rfl, [_, _], ⟨rfl, ⟨rfl, trivial⟩⟩, rfl, io⟩
 ·have h := ifF h hc
  refine pw_skip <| sR <| y0 rfl (o_move (d := .int .i64 a1) rfl) ?_
  obtain ⟨v1, hv1, h⟩ := bindE h
  refine y0 rfl (o_call (ds := [.int .i64 a1]) rfl Ty.k143 rfl (r01_Slot_ok hv1)) <| y0 rfl (o_assign (d := .int .i64 v1) rfl) <| y_nil <| pw_seq <| sR <| y0 rfl (o_move (d := .int .i64 v1) rfl) <| y0 rfl (o_cmp rfl rfl rfl) <| y0 rfl (o_move (d := .bool (decide (v1 < 0))) rfl) ?_
  refine y_if (g := ((decide (v1 < 0)) == false)) rfl (fun hg => o_move (d := .int .i64 v1) rfl) <| y_if (g := ((decide (v1 < 0)) == false)) rfl (fun hg => o_fieldAddrP (k := 0) rfl Ty.f128_0 rfl) <| y_if (g := ((decide (v1 < 0)) == false)) rfl (fun hg => o_loadS (ct hg) rfl rfl Ty.a126 rfl) <| y_if (g := ((decide (v1 < 0)) == false)) rfl (fun hg => o_lnL (f := r03_Cell.Pv) (ct hg) Ty.e126) <| y_if (g := ((decide (v1 < 0)) == false)) rfl (fun hg => o_cmp (ct hg) (ct hg) rfl) <| y0 rfl (pk_or rfl rfl rfl (fun q => eqF q)) <| y_nil ?_
  refine pw_cond ((decide (v1 < 0)) || (decide (v1 ≥ (a0.Cells.length : Int)))) rfl (fun hc => ?_) (fun hc => ?_)
  ·have h := ifT h hc
   refine sR <| y0 rfl (o_assign (d := .int .i64 (-1)) rfl) <| y0 rfl (o_assign (d := .int .i64 3) rfl) <| y_nil <| pw_ret ?_
   obtain rfl := Option.some.inj h
   exact ⟨rfl, [_, _], ⟨rfl, ⟨rfl, trivial⟩⟩, rfl, io⟩
  ·have h := ifF h hc
   refine pw_skip <| sR <| y0 rfl (o_fieldAddrP (k := 0) rfl Ty.f128_0 rfl) <| y0 rfl (o_loadS rfl rfl rfl Ty.a126 rfl) <| y0 rfl (o_move (d := .int .i64 v1) rfl) ?_
   obtain ⟨v2, hv2, h⟩ := bindE h
   refine y0 rfl (o_ixL (f := r03_Cell.Pv) (cs := r03_Cell.Pc v2) hv2 rfl rfl Ty.e126 Ty.s167 rfl rfl) <| y0 rfl (o_loadRA (cs := r03_Cell.Pc v2) rfl Ty.a167 Ty.s167 nl rfl) <| y1 rfl (o_alloc (d := .agg [.int .i64 0, .int .i64 0, .int .i64 0]) (z := 3) rfl Ty.z167 rfl rfl rfl) rfl <| y_sto (x' := r03_Cell.Pv v2) (cl' := true) rfl rfl (.inl rfl) Ty.s167 <| y_nil <| pw_seq <| dr [] Ty.mix (by kernel_rfl) (by kernel_rfl) <| d7 rfl (fun _ hN => o_fieldAddrP (k := 1) rfl Ty.f167_1 rfl) rfl ?_
   refine d0 rfl (o_loadS rfl rfl rfl Ty.a3 rfl) rfl <| d7 rfl (fun _ hN => o_move (d := .int .i64 a1) rfl) rfl ?_
   obtain ⟨v3, hv3, h⟩ := bindE h
   refine d2 rfl (o_call (ds := [.int .i64 a1]) rfl Ty.k144 rfl (r01_Gen_ok hv3)) rfl <| d7 rfl (fun _ hN => o_cmp rfl rfl rfl) rfl <| d7 rfl (fun _ hN => o_move (d := .bool (v2.Gen != v3)) rfl) rfl <| d_if7 (g := ((v2.Gen != v3) == false)) rfl (fun hg _ hN => o_fieldAddrP (k := 0) rfl Ty.f167_0 rfl) rfl <| d_if0 (g := ((v2.Gen != v3) == false)) rfl (fun hg => o_loadS (ct hg) rfl rfl Ty.a3 rfl) rfl <| d_if7 (g := ((v2.Gen != v3) == false)) rfl (fun hg _ hN => o_cmp (ct hg) rfl rfl) rfl <| d_if7 (g := ((v2.Gen != v3) == false)) rfl (fun hg _ hN => o_move (d := .bool (v2.State != 1)) (ct hg)) rfl <| d_if7 (g := (((v2.Gen != v3) == false) && ((v2.State != 1) == true))) (want2 rfl rfl rfl) (fun hg _ hN => o_fieldAddrP (k := 0) rfl Ty.f167_0 rfl) rfl ?_
   refine d_if0 (g := (((v2.Gen != v3) == false) && ((v2.State != 1) == true))) (want2 rfl rfl rfl) (fun hg => o_loadS (ct hg) rfl rfl Ty.a3 rfl) rfl <| d_if7 (g := (((v2.Gen != v3) == false) && ((v2.State != 1) == true))) (want2 rfl rfl rfl) (fun hg _ hN => o_cmp (ct hg) rfl rfl) rfl <| d_if7 (g := ((v2.Gen != v3) == false)) rfl (fun hg _ hN => pk_and (ct hg) rfl rfl (fun q => andI hg (eqT q))) rfl <| d7 rfl (fun _ hN => pk_or rfl rfl rfl (fun q => eqF q)) rfl <| d_nil ?_
   refine pw_cond ((v2.Gen != v3) || ((v2.State != 1) && (v2.State != 2))) rfl (fun hc => ?_) (fun hc => ?_)
   ·have h := ifT h hc
    refine sR <| y0 rfl (o_assign (d := .int .i64 (-1)) rfl) <| y0 rfl (o_assign (d := .int .i64 3) rfl) <| y_nil <| pw_ret ?_
    obtain rfl := Option.some.inj h
    exact ⟨rfl, [_, _], ⟨rfl, ⟨rfl, trivial⟩⟩, rfl, io⟩
   ·have h := ifF h hc
    refine pw_skip <| sR <| y0 rfl (o_move (d := .int .i64 v1) rfl) <| y0 rfl (o_assign (d := .int .i64 v1) rfl) <| y0 rfl (o_assign (d := .int .i64 0) rfl) <| y_nil <| pw_ret ?_
    obtain rfl := Option.some.inj h
    exact ⟨rfl, [_, _], ⟨rfl, ⟨rfl, trivial⟩⟩, rfl, io⟩

theorem r06_Sorted_ok {a0 : r06_Store} {a1 : List Int} {r : List Int} (h : r06_Sorted a0 a1 = some r) : PCalls Tryz.prog 75 [r06_Store.Pv a0, .lst false (List.map (PV.int .i64) a1)] (.lst false (List.map (PV.int .i64) r)) := by
 unfold r06_Sorted at h
 refine pc_intro (N := 89) Tryz.func75 rfl rfl nl fun w0 imm0 => sR <| y1 rfl (o_box (d := r06_Store.Pv a0) (z := 3) (cl := true) rfl rfl rfl rfl rfl) rfl <| y0 rfl (o_assign (d := .lst true (List.map (PV.int .i64) [])) rfl) <| y_nil <| sR <| y0 rfl (o_nslice rfl Ty.e28 Ty.s3) <| y0 rfl (o_move (d := .lst false (List.map (PV.int .i64) a1)) rfl) ?_
 obtain ⟨v1, hv1, h⟩ := bindE h
 refine y1 rfl (o_apT (f := (PV.int .i64)) hv1 rfl rfl (.inl ⟨_, rfl, rfl⟩) Ty.e28 Ty.s3 Ty.b3 Ty.z3 rfl (fun _ => rfl)) rfl <| y0 rfl (o_assign (d := .sl 15) rfl) <| y_nil ?_
 obtain ⟨κ35, hκ28, h⟩ := jnE h
 refine pw_jn0 (κ := κ35) (r := r) (fun (j36 : List Int) => St.of [(5, .sl 15)] [(15, ⟨List.map (PV.int .i64) j36, 0, true, 1, true⟩)]) (fun j36 h => ?_) ?_
 ·subst hκ28
  refine sR <| y0 rfl (o_move (d := .sl 15) rfl) <| y0 rfl (o_assign (d := .sl 15) rfl) <| y_nil <| pw_ret ?_
  obtain rfl := Option.some.inj h
  exact ⟨rfl, [_], ⟨rfl, trivial⟩, rfl, io⟩
 ·skip
  refine sR <| y0 rfl (o_assign (d := .int .i64 1) rfl) <| y_nil <| pw_block ?_
  obtain ⟨e37, hl29, hk30⟩ := bindE h
  refine pw_lp0 (fun (q : Int × (List Int)) => St.of [(2, .ptr 2 0 0), (5, .sl 15), (6, .int .i64 q.1)] [(15, ⟨List.map (PV.int .i64) q.2, 0, true, 1, true⟩), (2, ⟨[r06_Store.Pv a0], 0, false, 3, true⟩)]) hl29 (wk_st _ _ ⟨rfl, rfl, rfl, rfl, rfl, rfl, rfl, rfl, rfl, trivial⟩ ⟨rS, rS, trivial⟩) (fun q41 x40 h hx31 => ?_)
  obtain ⟨s38, s39⟩ := q41
  refine pw_seq <| sR <| y0 rfl (o_move (d := .int .i64 s38) rfl) <| y0 rfl (o_move (d := .sl 15) rfl) <| y0 rfl (o_lnR (f := (PV.int .i64)) rfl rfl rfl Ty.e28) <| y0 rfl (o_cmp rfl rfl rfl) <| y_nil ?_
  refine pw_cond (decide (s38 < (s39.length : Int))) rfl (fun hc => ?_) (fun hc => ?_)
  ·have h := ifT h hc
   refine pw_skip ?_
   obtain ⟨κ55, hκ43, h⟩ := jnE h
   refine pw_jn0 (κ := κ55) (r := x40) (fun (j56 : List Int) => St.of [(2, .ptr 2 0 0), (5, .sl 15), (6, .int .i64 s38)] [(15, ⟨List.map (PV.int .i64) j56, 0, true, 1, true⟩), (2, ⟨[r06_Store.Pv a0], 0, false, 3, true⟩)]) (fun j56 h => ?_) ?_
   ·subst hκ43
    refine sr1 (by kernel_rfl) <| y0 rfl (o_move (d := .int .i64 s38) rfl) <| y0 rfl (o_ari rfl rfl rfl) <| y0 rfl (o_assign (d := .int .i64 (w64 (s38 + 1))) rfl) <| y_nil ?_
    exact ⟨rfl, (w64 (s38 + 1), j56), (Option.some.inj h).symm, (wk_st _ _ ⟨rfl, rfl, rfl, rfl, rfl, rfl, rfl, rfl, rfl, trivial⟩ ⟨rS, rS, trivial⟩)⟩
   ·skip
    refine pw_block <| sR <| y0 rfl (o_move (d := .int .i64 s38) rfl) <| y0 rfl (o_assign (d := .int .i64 s38) rfl) <| y_nil <| pw_block ?_
    obtain ⟨e57, hl44, hk45⟩ := bindE h
    refine pw_lp0 (fun (q : Int × (List Int)) => St.of [(2, .ptr 2 0 0), (5, .sl 15), (6, .int .i64 s38), (7, .int .i64 q.1)] [(15, ⟨List.map (PV.int .i64) q.2, 0, true, 1, true⟩), (2, ⟨[r06_Store.Pv a0], 0, false, 3, true⟩)]) hl44 (wk_st _ _ ⟨rfl, rfl, rfl, rfl, rfl, rfl, rfl, rfl, rfl, rfl, rfl, rfl, trivial⟩ ⟨rS, rS, trivial⟩) (fun q61 x60 h hx46 => ?_)
    obtain ⟨s58, s59⟩ := q61
    refine pw_seq <| sR <| y0 rfl (o_move (d := .int .i64 s58) rfl) <| y0 rfl (o_cmp rfl rfl rfl) <| y_nil ?_
    refine pw_cond (decide (s58 > 0)) rfl (fun hc => ?_) (fun hc => ?_)
    ·have h := ifT h hc
     refine pw_skip <| pw_seq <| pw_block <| dr [] Ty.mix (by kernel_rfl) (by kernel_rfl) <| d0 rfl (o_loadA (cs := r06_Store.Pc a0) rfl rfl rfl Ty.a34 Ty.s34 nl rfl) rfl ?_
     obtain ⟨v62, hv47, h⟩ := bindE h
     refine d2f rfl (o_callF (ls := []) (ds := [r06_Store.Pv a0]) rfl Ty.k98 rfl (r06_Plain_ok hv47)) rfl <| d7 rfl (fun _ hN => o_move (d := .sl 15) rfl) rfl <| d7 rfl (fun _ hN => o_move (d := .int .i64 s58) rfl) rfl <| d7 rfl (fun _ hN => o_ari rfl rfl rfl) rfl ?_
     obtain ⟨v63, hv48, h⟩ := bindE h
     refine d0 rfl (o_ixR (f := (PV.int .i64)) hv48 rfl rfl rfl rfl Ty.e28 Ty.s3 rfl) rfl <| d0 rfl (o_ldS (f := (PV.int .i64)) hv48 rfl rfl rfl Ty.a3 rfl) rfl ?_
     obtain ⟨v64, hv49, h⟩ := bindE h
     refine d2 rfl (o_call (ds := [r03_Slab.Pv v62, .int .i64 v63]) rfl Ty.k121 rfl (r03_Find_ok hv49)) rfl <| d7 rfl (fun _ hN => o_move (d := .tup [.int .i64 v64.1, .int .i64 v64.2]) rfl) rfl <| d7 rfl (fun _ hN => o_extract rfl rfl) rfl <| d7 rfl (fun _ hN => o_extract rfl rfl) rfl <| d7 rfl (fun _ hN => o_assign (d := .int .i64 v64.1) rfl) rfl <| d7 rfl (fun _ hN => o_assign (d := .int .i64 v64.2) rfl) rfl <| d_nil <| dr [] Ty.mix (by kernel_rfl) (by kernel_rfl) ?_
     refine d0 rfl (o_loadA (cs := r06_Store.Pc a0) rfl rfl rfl Ty.a34 Ty.s34 nl rfl) rfl <| d2f rfl (o_callF (ls := []) (ds := [r06_Store.Pv a0]) rfl Ty.k98 rfl (r06_Plain_ok hv47)) rfl <| d7 rfl (fun _ hN => o_move (d := .sl 15) rfl) rfl <| d7 rfl (fun _ hN => o_move (d := .int .i64 s58) rfl) rfl ?_
     obtain ⟨v65, hv50, h⟩ := bindE h
     refine d0 rfl (o_ixR (f := (PV.int .i64)) hv50 rfl rfl rfl rfl Ty.e28 Ty.s3 rfl) rfl <| d0 rfl (o_ldS (f := (PV.int .i64)) hv50 rfl rfl rfl Ty.a3 rfl) rfl ?_
     obtain ⟨v66, hv51, h⟩ := bindE h
     refine d2 rfl (o_call (ds := [r03_Slab.Pv v62, .int .i64 v65]) rfl Ty.k121 rfl (r03_Find_ok hv51)) rfl <| d7 rfl (fun _ hN => o_move (d := .tup [.int .i64 v66.1, .int .i64 v66.2]) rfl) rfl <| d7 rfl (fun _ hN => o_extract rfl rfl) rfl <| d7 rfl (fun _ hN => o_extract rfl rfl) rfl <| d7 rfl (fun _ hN => o_assign (d := .int .i64 v66.1) rfl) rfl <| d7 rfl (fun _ hN => o_assign (d := .int .i64 v66.2) rfl) rfl <| d_nil <| pw_seq ?_
     refine dr [] Ty.mix (by kernel_rfl) (by kernel_rfl) <| d7 rfl (fun _ hN => o_move (d := .int .i64 v64.1) rfl) rfl <| d7 rfl (fun _ hN => o_cmp rfl rfl rfl) rfl <| d7 rfl (fun _ hN => o_move (d := .bool (decide (v64.1 < 0))) rfl) rfl <| d_if7 (g := ((decide (v64.1 < 0)) == false)) rfl (fun hg _ hN => o_move (d := .int .i64 v66.1) rfl) rfl <| d_if7 (g := ((decide (v64.1 < 0)) == false)) rfl (fun hg _ hN => o_cmp (ct hg) rfl rfl) rfl <| d7 rfl (fun _ hN => pk_or rfl rfl rfl (fun q => eqF q)) rfl <| d7 rfl (fun _ hN => o_move (d := .bool ((decide (v64.1 < 0)) || (decide (v66.1 < 0)))) rfl) rfl ?_
     refine d_if7 (g := (((decide (v64.1 < 0)) || (decide (v66.1 < 0))) == false)) rfl (fun hg _ hN => o_fieldAddrP (k := 0) rfl Ty.f34_0 rfl) rfl <| d_if0 (g := (((decide (v64.1 < 0)) || (decide (v66.1 < 0))) == false)) rfl (fun hg => o_loadS (ct hg) rfl rfl Ty.a32 rfl) rfl <| d_if7 (g := (((decide (v64.1 < 0)) || (decide (v66.1 < 0))) == false)) rfl (fun hg _ hN => o_move (d := .int .i64 v64.1) rfl) rfl ?_
     obtain ⟨v67, hv52, h⟩ := bindE h
     refine d_if0 (g := (((decide (v64.1 < 0)) || (decide (v66.1 < 0))) == false)) rfl (fun hg => o_ixL (f := r06_Cell.Pv) (cs := r06_Cell.Pc v67) (onlyE hv52 hg) (ct hg) (ct hg) Ty.e32 Ty.s91 rfl rfl) rfl <| d_if7 (g := (((decide (v64.1 < 0)) || (decide (v66.1 < 0))) == false)) rfl (fun hg _ hN => o_fieldAddrR (ct hg) Ty.f91_2 rfl) rfl <| d_if7 (g := (((decide (v64.1 < 0)) || (decide (v66.1 < 0))) == false)) rfl (fun hg _ hN => o_fieldAddrR (ct hg) Ty.f67_0 rfl) rfl <| d_if0 (g := (((decide (v64.1 < 0)) || (decide (v66.1 < 0))) == false)) rfl (fun hg => o_loadRS (ct hg) Ty.a3 rfl) rfl <| d_if7 (g := (((decide (v64.1 < 0)) || (decide (v66.1 < 0))) == false)) rfl (fun hg _ hN => o_fieldAddrP (k := 0) rfl Ty.f34_0 rfl) rfl <| d_if0 (g := (((decide (v64.1 < 0)) || (decide (v66.1 < 0))) == false)) rfl (fun hg => o_loadS (ct hg) rfl rfl Ty.a32 rfl) rfl <| d_if7 (g := (((decide (v64.1 < 0)) || (decide (v66.1 < 0))) == false)) rfl (fun hg _ hN => o_move (d := .int .i64 v66.1) rfl) rfl ?_
     obtain ⟨v68, hv53, h⟩ := bindE h
     refine d_if0 (g := (((decide (v64.1 < 0)) || (decide (v66.1 < 0))) == false)) rfl (fun hg => o_ixL (f := r06_Cell.Pv) (cs := r06_Cell.Pc v68) (onlyE hv53 hg) (ct hg) (ct hg) Ty.e32 Ty.s91 rfl rfl) rfl <| d_if7 (g := (((decide (v64.1 < 0)) || (decide (v66.1 < 0))) == false)) rfl (fun hg _ hN => o_fieldAddrR (ct hg) Ty.f91_2 rfl) rfl <| d_if7 (g := (((decide (v64.1 < 0)) || (decide (v66.1 < 0))) == false)) rfl (fun hg _ hN => o_fieldAddrR (ct hg) Ty.f67_0 rfl) rfl <| d_if0 (g := (((decide (v64.1 < 0)) || (decide (v66.1 < 0))) == false)) rfl (fun hg => o_loadRS (ct hg) Ty.a3 rfl) rfl <| d_if7 (g := (((decide (v64.1 < 0)) || (decide (v66.1 < 0))) == false)) rfl (fun hg _ hN => o_cmp (ct hg) (ct hg) rfl) rfl <| d7 rfl (fun _ hN => pk_or rfl rfl rfl (fun q => eqF q)) rfl <| d_nil ?_
     refine pw_cond (((decide (v64.1 < 0)) || (decide (v66.1 < 0))) || (decide (v67.Val.Serial ≤ v68.Val.Serial))) rfl (fun hc => ?_) (fun hc => ?_)
     ·have h := ifT h hc
      refine pw_exit <| thenQ_exit <| blockQ_other (by decide) <| thenQ_exit <| thenQ_exit <| blockQ_exit ?_
      have he := hx46 _ (Option.some.inj h).symm
      have h := hk45
      rw [← he] at h
      exact ⟨rfl, s59, h, (wk_st _ _ ⟨rfl, rfl, rfl, rfl, rfl, rfl, rfl, rfl, rfl, trivial⟩ ⟨rS, rS, trivial⟩)⟩
     ·have h := ifF h hc
      refine pw_skip <| sR <| y0 rfl (o_move (d := .sl 15) rfl) <| y0 rfl (o_move (d := .int .i64 s58) rfl) <| y0 rfl (o_ixR (f := (PV.int .i64)) hv50 rfl rfl rfl rfl Ty.e28 Ty.s3 rfl) <| y0 rfl (o_ldS (f := (PV.int .i64)) hv50 rfl rfl rfl Ty.a3 rfl) <| y0 rfl (o_assign (d := .int .i64 v65) rfl) <| y_nil ?_
      refine sR <| y0 rfl (o_move (d := .sl 15) rfl) <| y0 rfl (o_move (d := .int .i64 s58) rfl) <| y0 rfl (o_move (d := .sl 15) rfl) <| y0 rfl (o_move (d := .int .i64 s58) rfl) <| y0 rfl (o_ari rfl rfl rfl) <| y0 rfl (o_ixR (f := (PV.int .i64)) hv48 rfl rfl rfl rfl Ty.e28 Ty.s3 rfl) <| y0 rfl (o_ldS (f := (PV.int .i64)) hv48 rfl rfl rfl Ty.a3 rfl) ?_
      refine y0 rfl (o_ixR (f := (PV.int .i64)) hv50 rfl rfl rfl rfl Ty.e28 Ty.s3 rfl) <| y_stE (f := (PV.int .i64)) (v := v63) hv50 rfl rfl (.inl rfl) Ty.s3 <| y_nil <| sr1 (by kernel_rfl) <| y0 rfl (o_move (d := .sl 15) rfl) <| y0 rfl (o_move (d := .int .i64 s58) rfl) <| y0 rfl (o_ari rfl rfl rfl) <| y0 rfl (o_move (d := .int .i64 v65) rfl) ?_
      obtain ⟨v69, hv54, h⟩ := bindE h
      refine y0 rfl (o_ixR (f := (PV.int .i64)) hv54 rfl rfl rfl rfl Ty.e28 Ty.s3 rfl) <| y_stE (f := (PV.int .i64)) (v := v65) hv54 rfl rfl (.inl rfl) Ty.s3 <| y_nil <| sr1 (by kernel_rfl) <| y0 rfl (o_move (d := .int .i64 s58) rfl) <| y0 rfl (o_ari rfl rfl rfl) <| y0 rfl (o_assign (d := .int .i64 (w64 (s58 - 1))) rfl) <| y_nil ?_
      exact ⟨rfl, (w64 (s58 - 1), ((s59.set (s58).toNat v63).set (w64 (s58 - 1)).toNat v65)), (Option.some.inj h).symm, (wk_st _ _ ⟨rfl, rfl, rfl, rfl, rfl, rfl, rfl, rfl, rfl, rfl, rfl, rfl, trivial⟩ ⟨rS, rS, trivial⟩)⟩
    ·have h := ifF h hc
     refine pw_exit <| thenQ_exit <| thenQ_exit <| blockQ_exit ?_
     have he := hx46 _ (Option.some.inj h).symm
     have h := hk45
     rw [← he] at h
     exact ⟨rfl, s59, h, (wk_st _ _ ⟨rfl, rfl, rfl, rfl, rfl, rfl, rfl, rfl, rfl, trivial⟩ ⟨rS, rS, trivial⟩)⟩
  ·have h := ifF h hc
   refine pw_exit <| thenQ_exit <| thenQ_exit <| blockQ_exit ?_
   have he := hx31 _ (Option.some.inj h).symm
   have h := hk30
   rw [← he] at h
   exact ⟨rfl, s39, h, (wk_st _ _ ⟨rfl, rfl, rfl, trivial⟩ ⟨rS, trivial⟩)⟩

theorem r06_Live_ok {a0 : r06_Store} {r : List Int} (h : r06_Live a0 = some r) : PCalls Tryz.prog 27 [r06_Store.Pv a0] (.lst false (List.map (PV.int .i64) r)) := by
 unfold r06_Live at h
 refine pc_intro (N := 34) Tryz.func27 rfl rfl nl fun w0 imm0 => sR <| y1 rfl (o_box (d := r06_Store.Pv a0) (z := 3) (cl := true) rfl rfl rfl rfl rfl) rfl <| y0 rfl (o_assign (d := .lst true (List.map (PV.int .i64) [])) rfl) <| y_nil <| sR <| y0 rfl (o_nslice rfl Ty.e28 Ty.s3) <| y0 rfl (o_assign (d := .lst true (List.map (PV.int .i64) [])) rfl) ?_
 refine y_nil ?_
 obtain ⟨κ14, hκ11, h⟩ := jnE h
 refine pw_jn0 (κ := κ14) (r := r) (fun (j15 : List Int) => St.of [(1, .ptr 1 0 0), (3, .sl 910003)] [(910003, ⟨List.map (PV.int .i64) j15, (List.map (PV.int .i64) j15).length, true, 1, true⟩), (1, ⟨[r06_Store.Pv a0], 0, false, 3, true⟩)]) (fun j15 h => ?_) ?_
 ·subst hκ11
  refine sR <| y0 rfl (o_loadA (cs := r06_Store.Pc a0) rfl rfl rfl Ty.a34 Ty.s34 nl rfl) <| y0 rfl (o_move (d := .sl 910003) rfl) ?_
  obtain ⟨v16, hv12, h⟩ := bindE h
  refine ycL rfl (o_callF (ls := [910003]) (ds := [r06_Store.Pv a0, .sl 910003]) rfl Ty.k75 rfl (r06_Sorted_ok hv12)) rfl <| y0 rfl (o_assign (d := .lst false (List.map (PV.int .i64) v16)) rfl) <| y_nil <| pw_ret ?_
  obtain rfl := Option.some.inj h
  exact ⟨rfl, [_], ⟨rfl, trivial⟩, rfl, io⟩
 ·skip
  refine sR <| y0 rfl (o_assign (d := .int .i64 0) rfl) <| y_nil <| pw_block ?_
  obtain ⟨e17, hl13, hk14⟩ := bindE h
  refine pw_lp0 (fun (q : Int × (List Int)) => St.of [(1, .ptr 1 0 0), (3, .sl 910003), (4, .int .i64 q.1)] [(1, ⟨[r06_Store.Pv a0], 0, false, 3, true⟩), (910003, ⟨List.map (PV.int .i64) q.2, (List.map (PV.int .i64) q.2).length, true, 1, true⟩)]) hl13 (Wk.trans (wk_nil (t := 3) (l := 920003) (z := 1) rfl rfl) (wk_stP (fun l => if l = 910003 then 920003 else l) _ _ ⟨rfl, rfl, rfl, rfl, rfl, rfl, rfl, rfl, rfl, trivial⟩ ⟨rN, rN, trivial⟩ rfl)) (fun q21 x20 h hx15 => ?_)
  obtain ⟨s18, s19⟩ := q21
  refine pw_seq <| sR <| y0 rfl (o_move (d := .int .i64 s18) rfl) <| y0 rfl (o_fieldAddrP (k := 0) rfl Ty.f34_0 rfl) <| y0 rfl (o_loadS rfl rfl rfl Ty.a32 rfl) <| y0 rfl (o_lnL (f := r06_Cell.Pv) rfl Ty.e32) <| y0 rfl (o_cmp rfl rfl rfl) <| y_nil ?_
  refine pw_cond (decide (s18 < (a0.Cells.length : Int))) rfl (fun hc => ?_) (fun hc => ?_)
  ·have h := ifT h hc
   refine pw_skip ?_
   obtain ⟨κ25, hκ19, h⟩ := jnE h
   refine pw_jn0 (κ := κ25) (r := x20) (fun (j26 : List Int) => St.of [(1, .ptr 1 0 0), (3, .sl 30), (4, .int .i64 s18)] [(30, ⟨List.map (PV.int .i64) j26, (List.map (PV.int .i64) j26).length, true, 1, true⟩), (1, ⟨[r06_Store.Pv a0], 0, false, 3, true⟩)]) (fun j26 h => ?_) ?_
   ·subst hκ19
    refine sr1 (by kernel_rfl) <| y0 rfl (o_move (d := .int .i64 s18) rfl) <| y0 rfl (o_ari rfl rfl rfl) <| y0 rfl (o_assign (d := .int .i64 (w64 (s18 + 1))) rfl) <| y_nil ?_
    exact ⟨rfl, (w64 (s18 + 1), j26), (Option.some.inj h).symm, (Wk.trans (wk_frz _ [30]) (wk_stP (fun l => if l = 910003 then 30 else l) _ _ ⟨rfl, rfl, rfl, rfl, rfl, rfl, rfl, rfl, rfl, trivial⟩ ⟨rN, rN, trivial⟩ rfl))⟩
   ·skip
    refine pw_block <| sR <| y0 rfl (o_fieldAddrP (k := 0) rfl Ty.f34_0 rfl) <| y0 rfl (o_loadS rfl rfl rfl Ty.a32 rfl) <| y0 rfl (o_move (d := .int .i64 s18) rfl) ?_
    obtain ⟨v27, hv20, h⟩ := bindE h
    refine y0 rfl (o_ixL (f := r06_Cell.Pv) (cs := r06_Cell.Pc v27) hv20 rfl rfl Ty.e32 Ty.s91 rfl rfl) <| y0 rfl (o_fieldAddrR rfl Ty.f91_0 rfl) <| y0 rfl (o_loadRS rfl Ty.a3 rfl) <| y0 rfl (o_cmp rfl rfl rfl) <| y_nil ?_
    refine pw_cond (v27.State == 1) rfl (fun hc => ?_) (fun hc => ?_)
    ·have h := ifT h hc
     refine sr1 (by kernel_rfl) <| y0 rfl (o_move (d := .sl 910003) rfl) <| y0 rfl (o_move (d := .int .i64 s18) rfl) <| y0 rfl (o_fieldAddrP (k := 0) rfl Ty.f34_0 rfl) <| y0 rfl (o_loadS rfl rfl rfl Ty.a32 rfl) <| y0 rfl (o_move (d := .int .i64 s18) rfl) <| y0 rfl (o_ixL (f := r06_Cell.Pv) (cs := r06_Cell.Pc v27) hv20 rfl rfl Ty.e32 Ty.s91 rfl rfl) <| y0 rfl (o_fieldAddrR rfl Ty.f91_1 rfl) ?_
     refine y0 rfl (o_loadRS rfl Ty.a3 rfl) ?_
     obtain ⟨v28, hv21, h⟩ := bindE h
     refine y0 rfl (o_call (ds := [.int .i64 s18, .int .i64 v27.Gen]) rfl Ty.k74 rfl (r01_Pack_ok hv21)) <| y0 rfl (o_bI (f := (PV.int .i64)) (l := [v28]) rfl Ty.e28 Ty.s3 Ty.z3 rfl rfl nl rfl rfl) ?_
     obtain ⟨v29, hv22, h⟩ := bindE h
     refine y_app rfl (o_apR (f := (PV.int .i64)) hv22 rfl rfl rfl rfl rfl rfl (.inl ⟨_, rfl, rfl⟩) Ty.e28 Ty.s3 Ty.b3 Ty.z3 rfl (fun _ => rfl)) rfl rfl rfl <| y0 rfl (o_assign (d := .sl 30) rfl) <| y_nil ?_
     exact ⟨rfl, v29, h, (Wk.trans (wk_frz _ [30]) (wk_st _ _ ⟨rfl, rfl, rfl, rfl, rfl, rfl, rfl, rfl, rfl, trivial⟩ ⟨rS, rS, trivial⟩))⟩
    ·have h := ifF h hc
     refine pw_skip ?_
     exact ⟨rfl, s19, h, (Wk.trans (wk_frz _ [910003]) (wk_stP (fun l => if l = 30 then 910003 else l) _ _ ⟨rfl, rfl, rfl, rfl, rfl, rfl, rfl, rfl, rfl, trivial⟩ ⟨rN, rN, trivial⟩ rfl))⟩
  ·have h := ifF h hc
   refine pw_exit <| thenQ_exit <| thenQ_exit <| blockQ_exit ?_
   have he := hx15 _ (Option.some.inj h).symm
   have h := hk14
   rw [← he] at h
   exact ⟨rfl, s19, h, (Wk.trans (wk_frz _ [910003]) (wk_st _ _ ⟨rfl, rfl, rfl, rfl, rfl, rfl, trivial⟩ ⟨rS, rS, trivial⟩))⟩

theorem r03_Get_ok {a0 : r03_Slab} {a1 : Int} {r : Int × Int} (h : r03_Get a0 a1 = some r) : PCalls Tryz.prog 97 [r03_Slab.Pv a0, .int .i64 a1] (.tup [.int .i64 r.1, .int .i64 r.2]) := by
 unfold r03_Get at h
 refine pc_intro (N := 30) Tryz.func97 rfl rfl nl fun w0 imm0 => sR <| y1 rfl (o_box (d := r03_Slab.Pv a0) (z := 2) (cl := true) rfl rfl rfl rfl rfl) rfl <| y0 rfl (o_assign (d := .int .i64 0) rfl) <| y0 rfl (o_assign (d := .int .i64 0) rfl) <| y_nil <| sR <| y0 rfl (o_loadA (cs := r03_Slab.Pc a0) rfl rfl rfl Ty.a128 Ty.s128 nl rfl) ?_
 refine y0 rfl (o_move (d := .int .i64 a1) rfl) ?_
 obtain ⟨v1, hv1, h⟩ := bindE h
 refine y0 rfl (o_call (ds := [r03_Slab.Pv a0, .int .i64 a1]) rfl Ty.k121 rfl (r03_Find_ok hv1)) <| y0 rfl (o_move (d := .tup [.int .i64 v1.1, .int .i64 v1.2]) rfl) <| y0 rfl (o_extract rfl rfl) <| y0 rfl (o_extract rfl rfl) <| y0 rfl (o_assign (d := .int .i64 v1.1) rfl) <| y0 rfl (o_assign (d := .int .i64 v1.2) rfl) <| y_nil <| pw_seq ?_
 refine sR <| y0 rfl (o_move (d := .int .i64 v1.2) rfl) <| y0 rfl (o_cmp rfl rfl rfl) <| y_nil ?_
 refine pw_cond (v1.2 != 0) rfl (fun hc => ?_) (fun hc => ?_)
 ·have h := ifT h hc
  refine sR <| y0 rfl (o_move (d := .int .i64 v1.2) rfl) <| y0 rfl (o_assign (d := .int .i64 0) rfl) <| y0 rfl (o_assign (d := .int .i64 v1.2) rfl) <| y_nil <| pw_ret ?_
  obtain rfl := Option.some.inj h
  exact ⟨rfl, [_, _], ⟨rfl, ⟨rfl, trivial⟩⟩, rfl, io⟩
 ·have h := ifF h hc
  refine pw_skip <| pw_seq <| sR <| y0 rfl (o_fieldAddrP (k := 0) rfl Ty.f128_0 rfl) <| y0 rfl (o_loadS rfl rfl rfl Ty.a126 rfl) <| y0 rfl (o_move (d := .int .i64 v1.1) rfl) ?_
  obtain ⟨v2, hv2, h⟩ := bindE h
  refine y0 rfl (o_ixL (f := r03_Cell.Pv) (cs := r03_Cell.Pc v2) hv2 rfl rfl Ty.e126 Ty.s167 rfl rfl) <| y0 rfl (o_fieldAddrR rfl Ty.f167_0 rfl) <| y0 rfl (o_loadRS rfl Ty.a3 rfl) <| y0 rfl (o_cmp rfl rfl rfl) <| y_nil ?_
  refine pw_cond (v2.State == 2) rfl (fun hc => ?_) (fun hc => ?_)
  ·have h := ifT h hc
   refine sR <| y0 rfl (o_assign (d := .int .i64 0) rfl) <| y0 rfl (o_assign (d := .int .i64 3) rfl) <| y_nil <| pw_ret ?_
   obtain rfl := Option.some.inj h
   exact ⟨rfl, [_, _], ⟨rfl, ⟨rfl, trivial⟩⟩, rfl, io⟩
  ·have h := ifF h hc
   refine pw_skip <| sR <| y0 rfl (o_fieldAddrP (k := 0) rfl Ty.f128_0 rfl) <| y0 rfl (o_loadS rfl rfl rfl Ty.a126 rfl) <| y0 rfl (o_move (d := .int .i64 v1.1) rfl) <| y0 rfl (o_ixL (f := r03_Cell.Pv) (cs := r03_Cell.Pc v2) hv2 rfl rfl Ty.e126 Ty.s167 rfl rfl) <| y0 rfl (o_fieldAddrR rfl Ty.f167_2 rfl) <| y0 rfl (o_loadRS rfl Ty.a3 rfl) ?_
   refine y0 rfl (o_assign (d := .int .i64 v2.Val) rfl) <| y0 rfl (o_assign (d := .int .i64 0) rfl) <| y_nil <| pw_ret ?_
   obtain rfl := Option.some.inj h
   exact ⟨rfl, [_, _], ⟨rfl, ⟨rfl, trivial⟩⟩, rfl, io⟩

theorem r06_Get_ok {a0 : r06_Store} {a1 : Int} {r : r06_Obj × Int} (h : r06_Get a0 a1 = some r) : PCalls Tryz.prog 51 [r06_Store.Pv a0, .int .i64 a1] (.tup [r06_Obj.Pv r.1, .int .i64 r.2]) := by
 unfold r06_Get at h
 refine pc_intro (N := 25) Tryz.func51 rfl rfl nl fun w0 imm0 => sR <| y1 rfl (o_box (d := r06_Store.Pv a0) (z := 3) (cl := true) rfl rfl rfl rfl rfl) rfl <| y1 rfl (o_alloc (d := .agg [.int .i64 0, .int .i64 0, .int .i64 0, .int .i64 0, .bool false, .lst true (List.map (PV.int .i64) [])]) (z := 6) rfl Ty.z67 rfl rfl rfl) rfl <| y0 rfl (o_assign (d := .int .i64 0) rfl) <| y_nil <| sR <| y0 rfl (o_loadA (cs := r06_Store.Pc a0) rfl rfl rfl Ty.a34 Ty.s34 nl rfl) ?_
 obtain ⟨v1, hv1, h⟩ := bindE h
 refine yc rfl (o_callF (ls := []) (ds := [r06_Store.Pv a0]) rfl Ty.k98 rfl (r06_Plain_ok hv1)) <| y0 rfl (o_move (d := .int .i64 a1) rfl) ?_
 obtain ⟨v2, hv2, h⟩ := bindE h
 refine y0 rfl (o_call (ds := [r03_Slab.Pv v1, .int .i64 a1]) rfl Ty.k97 rfl (r03_Get_ok hv2)) <| y0 rfl (o_move (d := .tup [.int .i64 v2.1, .int .i64 v2.2]) rfl) <| y0 rfl (o_extract rfl rfl) <| y0 rfl (o_extract rfl rfl) <| y0 rfl (o_assign (d := .int .i64 v2.1) rfl) <| y0 rfl (o_assign (d := .int .i64 v2.2) rfl) <| y_nil <| pw_seq ?_
 refine sR <| y0 rfl (o_move (d := .int .i64 v2.2) rfl) <| y0 rfl (o_cmp rfl rfl rfl) <| y_nil ?_
 refine pw_cond (v2.2 != 0) rfl (fun hc => ?_) (fun hc => ?_)
 ·have h := ifT h hc
  refine sR <| y0 rfl (o_build (cs := [.int .i64 0, .int .i64 0, .int .i64 0, .int .i64 0, .bool false, .lst true (List.map (PV.int .i64) [])]) rfl Ty.p67 Ty.z67 rfl rfl rfl) <| y0 rfl (o_move (d := .int .i64 v2.2) rfl) <| y_sto (x' := .agg [.int .i64 0, .int .i64 0, .int .i64 0, .int .i64 0, .bool false, .lst true (List.map (PV.int .i64) [])]) (cl' := true) rfl rfl (.inl rfl) Ty.s67 <| y0 rfl (o_assign (d := .int .i64 v2.2) rfl) <| y_nil <| pw_ret ?_
  obtain rfl := Option.some.inj h
  exact ⟨rfl, [_, _], ⟨o_loadA rfl rfl rfl Ty.a67 Ty.s67 nl rfl, ⟨rfl, trivial⟩⟩, rfl, io⟩
 ·have h := ifF h hc
  refine pw_skip <| sR <| y0 rfl (o_fieldAddrP (k := 0) rfl Ty.f34_0 rfl) <| y0 rfl (o_loadS rfl rfl rfl Ty.a32 rfl) <| y0 rfl (o_move (d := .int .i64 v2.1) rfl) ?_
  obtain ⟨v3, hv3, h⟩ := bindE h
  refine y0 rfl (o_ixL (f := r06_Cell.Pv) (cs := r06_Cell.Pc v3) hv3 rfl rfl Ty.e32 Ty.s91 rfl rfl) <| y0 rfl (o_fieldAddrR rfl Ty.f91_2 rfl) <| y0 rfl (o_loadRA (cs := r06_Obj.Pc v3.Val) rfl Ty.a67 Ty.s67 nl rfl) <| y_sto (x' := r06_Obj.Pv v3.Val) (cl' := true) rfl rfl (.inr rfl) Ty.s67 <| y0 rfl (o_assign (d := .int .i64 0) rfl) <| y_nil <| pw_ret ?_
  obtain rfl := Option.some.inj h
  exact ⟨rfl, [_, _], ⟨o_loadA rfl rfl rfl Ty.a67 Ty.s67 nl rfl, ⟨rfl, trivial⟩⟩, rfl, io⟩

theorem r05_Names_ok {a0 : List Int} {r : List Int} (h : r05_Names a0 = some r) : PCalls Tryz.prog 99 [.lst false (List.map (PV.int .i64) a0)] (.lst false (List.map (PV.int .i64) r)) := by
 unfold r05_Names at h
 refine pc_intro (N := 25) Tryz.func99 rfl rfl nl fun w0 imm0 => sR <| y0 rfl (o_assign (d := .lst true (List.map (PV.int .i64) [])) rfl) <| y_nil <| sR <| y0 rfl (o_nslice rfl Ty.e28 Ty.s3) <| y0 rfl (o_assign (d := .lst true (List.map (PV.int .i64) [])) rfl) <| y_nil ?_
 obtain ⟨κ12, hκ9, h⟩ := jnE h
 refine pw_jn0 (κ := κ12) (r := r) (fun (j13 : List Int) => St.of [(3, .sl 910003)] [(910003, ⟨List.map (PV.int .i64) j13, (List.map (PV.int .i64) j13).length, true, 1, true⟩)]) (fun j13 h => ?_) ?_
 ·subst hκ9
  refine sR <| y0 rfl (o_move (d := .sl 910003) rfl) <| y0 rfl (o_assign (d := .sl 910003) rfl) <| y_nil <| pw_ret ?_
  obtain rfl := Option.some.inj h
  exact ⟨rfl, [_], ⟨rfl, trivial⟩, rfl, io⟩
 ·skip
  refine sR <| y0 rfl (o_assign (d := .int .i64 0) rfl) <| y_nil <| pw_block ?_
  obtain ⟨e14, hl10, hk11⟩ := bindE h
  refine pw_lp0 (fun (q : Int × (List Int)) => St.of [(0, .lst false (List.map (PV.int .i64) a0)), (3, .sl 910003), (4, .int .i64 q.1)] [(910003, ⟨List.map (PV.int .i64) q.2, (List.map (PV.int .i64) q.2).length, true, 1, true⟩)]) hl10 (Wk.trans (wk_nil (t := 3) (l := 920003) (z := 1) rfl rfl) (wk_stP (fun l => if l = 910003 then 920003 else l) _ _ ⟨rfl, rfl, rfl, rfl, rfl, rfl, rfl, rfl, rfl, trivial⟩ ⟨rN, trivial⟩ rfl)) (fun q18 x17 h hx12 => ?_)
  obtain ⟨s15, s16⟩ := q18
  refine pw_seq <| sR <| y0 rfl (o_move (d := .int .i64 s15) rfl) <| y0 rfl (o_move (d := .lst false (List.map (PV.int .i64) a0)) rfl) <| y0 rfl (o_lnL (f := (PV.int .i64)) rfl Ty.e28) <| y0 rfl (o_cmp rfl rfl rfl) <| y_nil ?_
  refine pw_cond (decide (s15 < (a0.length : Int))) rfl (fun hc => ?_) (fun hc => ?_)
  ·have h := ifT h hc
   refine pw_skip ?_
   obtain ⟨κ21, hκ15, h⟩ := jnE h
   refine pw_jn0 (κ := κ21) (r := x17) (fun (j22 : List Int) => St.of [(0, .lst false (List.map (PV.int .i64) a0)), (3, .sl 23), (4, .int .i64 s15)] [(23, ⟨List.map (PV.int .i64) j22, (List.map (PV.int .i64) j22).length, true, 1, true⟩)]) (fun j22 h => ?_) ?_
   ·subst hκ15
    refine sr1 (by kernel_rfl) <| y0 rfl (o_move (d := .int .i64 s15) rfl) <| y0 rfl (o_ari rfl rfl rfl) <| y0 rfl (o_assign (d := .int .i64 (w64 (s15 + 1))) rfl) <| y_nil ?_
    exact ⟨rfl, (w64 (s15 + 1), j22), (Option.some.inj h).symm, (Wk.trans (wk_frz _ [23]) (wk_stP (fun l => if l = 910003 then 23 else l) _ _ ⟨rfl, rfl, rfl, rfl, rfl, rfl, rfl, rfl, rfl, trivial⟩ ⟨rN, trivial⟩ rfl))⟩
   ·skip
    refine pw_block <| sR <| y0 rfl (o_move (d := .lst false (List.map (PV.int .i64) a0)) rfl) <| y0 rfl (o_move (d := .int .i64 s15) rfl) ?_
    obtain ⟨v23, hv16, h⟩ := bindE h
    refine y0 rfl (o_ixL (f := (PV.int .i64)) (cs := [.int .i64 v23]) hv16 rfl rfl Ty.e28 Ty.s3 rfl rfl) <| y0 rfl (o_loadRS rfl Ty.a3 rfl) <| y0 rfl (o_cmp rfl rfl rfl) <| y_nil ?_
    refine pw_cond (v23 != 0) rfl (fun hc => ?_) (fun hc => ?_)
    ·have h := ifT h hc
     refine sr1 (by kernel_rfl) <| y0 rfl (o_move (d := .sl 910003) rfl) <| y0 rfl (o_move (d := .lst false (List.map (PV.int .i64) a0)) rfl) <| y0 rfl (o_move (d := .int .i64 s15) rfl) <| y0 rfl (o_ixL (f := (PV.int .i64)) (cs := [.int .i64 v23]) hv16 rfl rfl Ty.e28 Ty.s3 rfl rfl) <| y0 rfl (o_loadRS rfl Ty.a3 rfl) <| y0 rfl (o_bI (f := (PV.int .i64)) (l := [v23]) rfl Ty.e28 Ty.s3 Ty.z3 rfl rfl nl rfl rfl) ?_
     obtain ⟨v24, hv17, h⟩ := bindE h
     refine y_app rfl (o_apR (f := (PV.int .i64)) hv17 rfl rfl rfl rfl rfl rfl (.inl ⟨_, rfl, rfl⟩) Ty.e28 Ty.s3 Ty.b3 Ty.z3 rfl (fun _ => rfl)) rfl rfl rfl <| y0 rfl (o_assign (d := .sl 23) rfl) <| y_nil ?_
     exact ⟨rfl, v24, h, (Wk.trans (wk_frz _ [23]) (wk_st _ _ ⟨rfl, rfl, rfl, rfl, rfl, rfl, rfl, rfl, rfl, trivial⟩ ⟨rS, trivial⟩))⟩
    ·have h := ifF h hc
     refine pw_skip ?_
     exact ⟨rfl, s16, h, (Wk.trans (wk_frz _ [910003]) (wk_stP (fun l => if l = 23 then 910003 else l) _ _ ⟨rfl, rfl, rfl, rfl, rfl, rfl, rfl, rfl, rfl, trivial⟩ ⟨rN, trivial⟩ rfl))⟩
  ·have h := ifF h hc
   refine pw_exit <| thenQ_exit <| thenQ_exit <| blockQ_exit ?_
   have he := hx12 _ (Option.some.inj h).symm
   have h := hk11
   rw [← he] at h
   exact ⟨rfl, s16, h, (Wk.trans (wk_frz _ [910003]) (wk_st _ _ ⟨rfl, rfl, rfl, trivial⟩ ⟨rS, trivial⟩))⟩

theorem r07_Out_ok {a0 : r06_Store} {a1 : Int} {r : List Int} (h : r07_Out a0 a1 = some r) : PCalls Tryz.prog 53 [r06_Store.Pv a0, .int .i64 a1] (.lst false (List.map (PV.int .i64) r)) := by
 unfold r07_Out at h
 refine pc_intro (N := 18) Tryz.func53 rfl rfl nl fun w0 imm0 => sR <| y1 rfl (o_box (d := r06_Store.Pv a0) (z := 3) (cl := true) rfl rfl rfl rfl rfl) rfl <| y0 rfl (o_assign (d := .lst true (List.map (PV.int .i64) [])) rfl) <| y_nil <| sR <| y0 rfl (o_loadA (cs := r06_Store.Pc a0) rfl rfl rfl Ty.a34 Ty.s34 nl rfl) <| y0 rfl (o_move (d := .int .i64 a1) rfl) ?_
 obtain ⟨v1, hv1, h⟩ := bindE h
 refine yc rfl (o_callF (ls := []) (ds := [r06_Store.Pv a0, .int .i64 a1]) rfl Ty.k51 rfl (r06_Get_ok hv1)) <| y0 rfl (o_move (d := .tup [r06_Obj.Pv v1.1, .int .i64 v1.2]) rfl) <| y0 rfl (o_extract rfl rfl) <| y0 rfl (o_extract rfl rfl) <| y1 rfl (o_alloc (d := .agg [.int .i64 0, .int .i64 0, .int .i64 0, .int .i64 0, .bool false, .lst true (List.map (PV.int .i64) [])]) (z := 6) rfl Ty.z67 rfl rfl rfl) rfl <| y_sto (x' := r06_Obj.Pv v1.1) (cl' := true) rfl rfl (.inr rfl) Ty.s67 <| y0 rfl (o_assign (d := .int .i64 v1.2) rfl) <| y_nil ?_
 refine pw_seq <| sR <| y0 rfl (o_move (d := .int .i64 v1.2) rfl) <| y0 rfl (o_cmp rfl rfl rfl) <| y_nil ?_
 refine pw_cond (v1.2 != 0) rfl (fun hc => ?_) (fun hc => ?_)
 ·have h := ifT h hc
  refine sR <| y0 rfl (o_assign (d := .lst true (List.map (PV.int .i64) [])) rfl) <| y_nil <| pw_ret ?_
  obtain rfl := Option.some.inj h
  exact ⟨rfl, [_], ⟨rfl, trivial⟩, rfl, io⟩
 ·have h := ifF h hc
  refine pw_skip <| sR <| y0 rfl (o_fieldAddrP (k := 5) rfl Ty.f67_5 rfl) <| y0 rfl (o_loadS rfl rfl rfl Ty.a28 rfl) ?_
  obtain ⟨v2, hv2, h⟩ := bindE h
  refine yc rfl (o_callF (ls := []) (ds := [.lst false (List.map (PV.int .i64) v1.1.Fields)]) rfl Ty.k99 rfl (r05_Names_ok hv2)) <| y0 rfl (o_assign (d := .lst false (List.map (PV.int .i64) v2)) rfl) <| y_nil <| pw_ret ?_
  obtain rfl := Option.some.inj h
  exact ⟨rfl, [_], ⟨rfl, trivial⟩, rfl, io⟩

theorem r07_Times_ok {a0 : List Int} {a1 : Int} {r : Int} (h : r07_Times a0 a1 = some r) : PCalls Tryz.prog 28 [.lst false (List.map (PV.int .i64) a0), .int .i64 a1] (.int .i64 r) := by
 unfold r07_Times at h
 refine pc_intro (N := 26) Tryz.func28 rfl rfl nl fun w0 imm0 => sR <| y0 rfl (o_assign (d := .int .i64 0) rfl) <| y_nil <| sR <| y0 rfl (o_assign (d := .int .i64 0) rfl) <| y_nil ?_
 obtain ⟨κ10, hκ7, h⟩ := jnE h
 refine pw_jn0 (κ := κ10) (r := r) (fun (j11 : Int) => St.of [(5, .int .i64 j11)] []) (fun j11 h => ?_) ?_
 ·subst hκ7
  refine sR <| y0 rfl (o_move (d := .int .i64 j11) rfl) <| y0 rfl (o_assign (d := .int .i64 j11) rfl) <| y_nil <| pw_ret ?_
  obtain rfl := Option.some.inj h
  exact ⟨rfl, [_], ⟨rfl, trivial⟩, rfl, io⟩
 ·skip
  refine sR <| y0 rfl (o_assign (d := .int .i64 0) rfl) <| y_nil <| pw_block ?_
  obtain ⟨e12, hl8, hk9⟩ := bindE h
  refine pw_lp0 (fun (q : Int × Int) => St.of [(0, .lst false (List.map (PV.int .i64) a0)), (1, .int .i64 a1), (5, .int .i64 q.1), (6, .int .i64 q.2)] []) hl8 (wk_st _ _ ⟨rfl, rfl, rfl, rfl, rfl, rfl, rfl, rfl, rfl, rfl, rfl, rfl, trivial⟩ trivial) (fun q16 x15 h hx10 => ?_)
  obtain ⟨s13, s14⟩ := q16
  refine pw_seq <| sR <| y0 rfl (o_move (d := .int .i64 s14) rfl) <| y0 rfl (o_move (d := .lst false (List.map (PV.int .i64) a0)) rfl) <| y0 rfl (o_lnL (f := (PV.int .i64)) rfl Ty.e28) <| y0 rfl (o_cmp rfl rfl rfl) <| y_nil ?_
  refine pw_cond (decide (s14 < (a0.length : Int))) rfl (fun hc => ?_) (fun hc => ?_)
  ·have h := ifT h hc
   refine pw_skip ?_
   obtain ⟨κ18, hκ12, h⟩ := jnE h
   refine pw_jn0 (κ := κ18) (r := x15) (fun (j19 : Int) => St.of [(0, .lst false (List.map (PV.int .i64) a0)), (1, .int .i64 a1), (5, .int .i64 j19), (6, .int .i64 s14)] []) (fun j19 h => ?_) ?_
   ·subst hκ12
    refine sr1 (by kernel_rfl) <| y0 rfl (o_move (d := .int .i64 s14) rfl) <| y0 rfl (o_ari rfl rfl rfl) <| y0 rfl (o_assign (d := .int .i64 (w64 (s14 + 1))) rfl) <| y_nil ?_
    exact ⟨rfl, (j19, w64 (s14 + 1)), (Option.some.inj h).symm, (wk_st _ _ ⟨rfl, rfl, rfl, rfl, rfl, rfl, rfl, rfl, rfl, rfl, rfl, rfl, trivial⟩ trivial)⟩
   ·skip
    refine pw_block <| sR <| y0 rfl (o_move (d := .lst false (List.map (PV.int .i64) a0)) rfl) <| y0 rfl (o_move (d := .int .i64 s14) rfl) ?_
    obtain ⟨v20, hv13, h⟩ := bindE h
    refine y0 rfl (o_ixL (f := (PV.int .i64)) (cs := [.int .i64 v20]) hv13 rfl rfl Ty.e28 Ty.s3 rfl rfl) <| y0 rfl (o_loadRS rfl Ty.a3 rfl) <| y0 rfl (o_move (d := .int .i64 a1) rfl) <| y0 rfl (o_cmp rfl rfl rfl) <| y0 rfl (o_move (d := .bool (v20 == a1)) rfl) <| y_if (g := ((v20 == a1) == true)) rfl (fun hg => o_move (d := .int .i64 a1) rfl) <| y_if (g := ((v20 == a1) == true)) rfl (fun hg => o_cmp (ct hg) rfl rfl) <| y0 rfl (pk_and rfl rfl rfl (fun q => eqT q)) ?_
    refine y_nil ?_
    refine pw_cond ((v20 == a1) && (a1 != 0)) rfl (fun hc => ?_) (fun hc => ?_)
    ·have h := ifT h hc
     refine sr1 (by kernel_rfl) <| y0 rfl (o_move (d := .int .i64 s13) rfl) <| y0 rfl (o_ari rfl rfl rfl) <| y0 rfl (o_assign (d := .int .i64 (w64 (s13 + 1))) rfl) <| y_nil ?_
     exact ⟨rfl, w64 (s13 + 1), h, (wk_st _ _ ⟨rfl, rfl, rfl, rfl, rfl, rfl, rfl, rfl, rfl, rfl, rfl, rfl, trivial⟩ trivial)⟩
    ·have h := ifF h hc
     refine pw_skip ?_
     exact ⟨rfl, s13, h, (wk_st _ _ ⟨rfl, rfl, rfl, rfl, rfl, rfl, rfl, rfl, rfl, rfl, rfl, rfl, trivial⟩ trivial)⟩
  ·have h := ifF h hc
   refine pw_exit <| thenQ_exit <| thenQ_exit <| blockQ_exit ?_
   have he := hx10 _ (Option.some.inj h).symm
   have h := hk9
   rw [← he] at h
   exact ⟨rfl, s13, h, (wk_st _ _ ⟨rfl, rfl, rfl, trivial⟩ trivial)⟩

theorem r07_In_ok {a0 : r06_Store} {a1 : Int} {r : Int} (h : r07_In a0 a1 = some r) : PCalls Tryz.prog 89 [r06_Store.Pv a0, .int .i64 a1] (.int .i64 r) := by
 unfold r07_In at h
 refine pc_intro (N := 27) Tryz.func89 rfl rfl nl fun w0 imm0 => sR <| y1 rfl (o_box (d := r06_Store.Pv a0) (z := 3) (cl := true) rfl rfl rfl rfl rfl) rfl <| y0 rfl (o_assign (d := .int .i64 0) rfl) <| y_nil <| sR <| y0 rfl (o_assign (d := .int .i64 0) rfl) <| y_nil ?_
 refine sR <| y0 rfl (o_loadA (cs := r06_Store.Pc a0) rfl rfl rfl Ty.a34 Ty.s34 nl rfl) ?_
 obtain ⟨v1, hv1, h⟩ := bindE h
 refine yc rfl (o_callF (ls := []) (ds := [r06_Store.Pv a0]) rfl Ty.k27 rfl (r06_Live_ok hv1)) <| y0 rfl (o_assign (d := .lst false (List.map (PV.int .i64) v1)) rfl) <| y_nil ?_
 obtain ⟨κ10, hκ8, h⟩ := jnE h
 refine pw_jn0 (κ := κ10) (r := r) (fun (j11 : Int) => St.of [(5, .int .i64 j11)] []) (fun j11 h => ?_) ?_
 ·subst hκ8
  refine sR <| y0 rfl (o_move (d := .int .i64 j11) rfl) <| y0 rfl (o_assign (d := .int .i64 j11) rfl) <| y_nil <| pw_ret ?_
  obtain rfl := Option.some.inj h
  exact ⟨rfl, [_], ⟨rfl, trivial⟩, rfl, io⟩
 ·skip
  refine sR <| y0 rfl (o_assign (d := .int .i64 0) rfl) <| y_nil <| pw_block ?_
  obtain ⟨e12, hl9, hk10⟩ := bindE h
  refine pw_lp0 (fun (q : Int × Int) => St.of [(1, .int .i64 a1), (2, .ptr 2 0 0), (5, .int .i64 q.1), (6, .lst false (List.map (PV.int .i64) v1)), (7, .int .i64 q.2)] [(2, ⟨[r06_Store.Pv a0], 0, false, 3, true⟩)]) hl9 (wk_st _ _ ⟨rfl, rfl, rfl, rfl, rfl, rfl, rfl, rfl, rfl, rfl, rfl, rfl, rfl, rfl, rfl, trivial⟩ ⟨rS, trivial⟩) (fun q16 x15 h hx11 => ?_)
  obtain ⟨s13, s14⟩ := q16
  refine pw_seq <| sR <| y0 rfl (o_move (d := .int .i64 s14) rfl) <| y0 rfl (o_move (d := .lst false (List.map (PV.int .i64) v1)) rfl) <| y0 rfl (o_lnL (f := (PV.int .i64)) rfl Ty.e28) <| y0 rfl (o_cmp rfl rfl rfl) <| y_nil ?_
  refine pw_cond (decide (s14 < (v1.length : Int))) rfl (fun hc => ?_) (fun hc => ?_)
  ·have h := ifT h hc
   refine pw_skip <| pw_seq <| pw_block <| pw_drw [] Ty.mix (by kernel_rfl) (by kernel_rfl) <| d7 rfl (fun _ hN => o_move (d := .int .i64 s13) rfl) rfl <| d0 rfl (o_loadA (cs := r06_Store.Pc a0) rfl rfl rfl Ty.a34 Ty.s34 nl rfl) rfl <| d7 rfl (fun _ hN => o_move (d := .lst false (List.map (PV.int .i64) v1)) rfl) rfl <| d7 rfl (fun _ hN => o_move (d := .int .i64 s14) rfl) rfl ?_
   obtain ⟨v17, hv12, h⟩ := bindE h
   refine d0 rfl (o_ixL (f := (PV.int .i64)) (cs := [.int .i64 v17]) hv12 rfl rfl Ty.e28 Ty.s3 rfl rfl) rfl <| d0 rfl (o_loadRS rfl Ty.a3 rfl) rfl ?_
   obtain ⟨v18, hv13, h⟩ := bindE h
   refine d2f rfl (o_callF (ls := []) (ds := [r06_Store.Pv a0, .int .i64 v17]) rfl Ty.k53 rfl (r07_Out_ok hv13)) rfl <| d7 rfl (fun _ hN => o_move (d := .int .i64 a1) rfl) rfl ?_
   obtain ⟨v19, hv14, h⟩ := bindE h
   refine d2 rfl (o_call (ds := [.lst false (List.map (PV.int .i64) v18), .int .i64 a1]) rfl Ty.k28 rfl (r07_Times_ok hv14)) rfl <| d7 rfl (fun _ hN => o_ari rfl rfl rfl) rfl <| d7 rfl (fun _ hN => o_assign (d := .int .i64 (w64 (s13 + v19))) rfl) rfl <| d_nil <| sr1 (by kernel_rfl) <| y0 rfl (o_move (d := .int .i64 s14) rfl) <| y0 rfl (o_ari rfl rfl rfl) <| y0 rfl (o_assign (d := .int .i64 (w64 (s14 + 1))) rfl) ?_
   refine y_nil ?_
   exact ⟨rfl, (w64 (s13 + v19), w64 (s14 + 1)), (Option.some.inj h).symm, (wk_st _ _ ⟨rfl, rfl, rfl, rfl, rfl, rfl, rfl, rfl, rfl, rfl, rfl, rfl, rfl, rfl, rfl, trivial⟩ ⟨rS, trivial⟩)⟩
  ·have h := ifF h hc
   refine pw_exit <| thenQ_exit <| thenQ_exit <| blockQ_exit ?_
   have he := hx11 _ (Option.some.inj h).symm
   have h := hk10
   rw [← he] at h
   exact ⟨rfl, s13, h, (wk_st _ _ ⟨rfl, rfl, rfl, trivial⟩ trivial)⟩

theorem r10_Keys_ok {a0 : List r10_Place} {r : List Int} (h : r10_Keys a0 = some r) : PCalls Tryz.prog 102 [.lst false (List.map r10_Place.Pv a0)] (.lst false (List.map (PV.int .i64) r)) := by
 unfold r10_Keys at h
 refine pc_intro (N := 27) Tryz.func102 rfl rfl nl fun w0 imm0 => sR <| y0 rfl (o_assign (d := .lst true (List.map (PV.int .i64) [])) rfl) <| y_nil <| sR <| y0 rfl (o_nslice rfl Ty.e28 Ty.s3) <| y0 rfl (o_assign (d := .lst true (List.map (PV.int .i64) [])) rfl) <| y_nil ?_
 obtain ⟨κ12, hκ9, h⟩ := jnE h
 refine pw_jn0 (κ := κ12) (r := r) (fun (j13 : List Int) => St.of [(3, .sl 910003)] [(910003, ⟨List.map (PV.int .i64) j13, (List.map (PV.int .i64) j13).length, true, 1, true⟩)]) (fun j13 h => ?_) ?_
 ·subst hκ9
  refine sR <| y0 rfl (o_move (d := .sl 910003) rfl) <| y0 rfl (o_assign (d := .sl 910003) rfl) <| y_nil <| pw_ret ?_
  obtain rfl := Option.some.inj h
  exact ⟨rfl, [_], ⟨rfl, trivial⟩, rfl, io⟩
 ·skip
  refine sR <| y0 rfl (o_assign (d := .int .i64 0) rfl) <| y_nil <| pw_block ?_
  obtain ⟨e14, hl10, hk11⟩ := bindE h
  refine pw_lp0 (fun (q : Int × (List Int)) => St.of [(0, .lst false (List.map r10_Place.Pv a0)), (3, .sl 910003), (4, .int .i64 q.1)] [(910003, ⟨List.map (PV.int .i64) q.2, (List.map (PV.int .i64) q.2).length, true, 1, true⟩)]) hl10 (Wk.trans (wk_nil (t := 3) (l := 920003) (z := 1) rfl rfl) (wk_stP (fun l => if l = 910003 then 920003 else l) _ _ ⟨rfl, rfl, rfl, rfl, rfl, rfl, rfl, rfl, rfl, trivial⟩ ⟨rN, trivial⟩ rfl)) (fun q18 x17 h hx12 => ?_)
  obtain ⟨s15, s16⟩ := q18
  refine pw_seq <| sR <| y0 rfl (o_move (d := .int .i64 s15) rfl) <| y0 rfl (o_move (d := .lst false (List.map r10_Place.Pv a0)) rfl) <| y0 rfl (o_lnL (f := r10_Place.Pv) rfl Ty.e36) <| y0 rfl (o_cmp rfl rfl rfl) <| y_nil ?_
  refine pw_cond (decide (s15 < (a0.length : Int))) rfl (fun hc => ?_) (fun hc => ?_)
  ·have h := ifT h hc
   refine pw_skip ?_
   obtain ⟨κ21, hκ15, h⟩ := jnE h
   refine pw_jn0 (κ := κ21) (r := x17) (fun (j22 : List Int) => St.of [(0, .lst false (List.map r10_Place.Pv a0)), (3, .sl 25), (4, .int .i64 s15)] [(25, ⟨List.map (PV.int .i64) j22, (List.map (PV.int .i64) j22).length, true, 1, true⟩)]) (fun j22 h => ?_) ?_
   ·subst hκ15
    refine sr1 (by kernel_rfl) <| y0 rfl (o_move (d := .int .i64 s15) rfl) <| y0 rfl (o_ari rfl rfl rfl) <| y0 rfl (o_assign (d := .int .i64 (w64 (s15 + 1))) rfl) <| y_nil ?_
    exact ⟨rfl, (w64 (s15 + 1), j22), (Option.some.inj h).symm, (Wk.trans (wk_frz _ [25]) (wk_stP (fun l => if l = 910003 then 25 else l) _ _ ⟨rfl, rfl, rfl, rfl, rfl, rfl, rfl, rfl, rfl, trivial⟩ ⟨rN, trivial⟩ rfl))⟩
   ·skip
    refine pw_block <| sR <| y0 rfl (o_move (d := .lst false (List.map r10_Place.Pv a0)) rfl) <| y0 rfl (o_move (d := .int .i64 s15) rfl) ?_
    obtain ⟨v23, hv16, h⟩ := bindE h
    refine y0 rfl (o_ixL (f := r10_Place.Pv) (cs := r10_Place.Pc v23) hv16 rfl rfl Ty.e36 Ty.s93 rfl rfl) <| y0 rfl (o_fieldAddrR rfl Ty.f93_0 rfl) <| y0 rfl (o_loadRS rfl Ty.a3 rfl) <| y0 rfl (o_cmp rfl rfl rfl) <| y_nil ?_
    refine pw_cond (v23.State == 1) rfl (fun hc => ?_) (fun hc => ?_)
    ·have h := ifT h hc
     refine sr1 (by kernel_rfl) <| y0 rfl (o_move (d := .sl 910003) rfl) <| y0 rfl (o_move (d := .lst false (List.map r10_Place.Pv a0)) rfl) <| y0 rfl (o_move (d := .int .i64 s15) rfl) <| y0 rfl (o_ixL (f := r10_Place.Pv) (cs := r10_Place.Pc v23) hv16 rfl rfl Ty.e36 Ty.s93 rfl rfl) <| y0 rfl (o_fieldAddrR rfl Ty.f93_1 rfl) <| y0 rfl (o_loadRS rfl Ty.a3 rfl) <| y0 rfl (o_bI (f := (PV.int .i64)) (l := [v23.Key]) rfl Ty.e28 Ty.s3 Ty.z3 rfl rfl nl rfl rfl) ?_
     obtain ⟨v24, hv17, h⟩ := bindE h
     refine y_app rfl (o_apR (f := (PV.int .i64)) hv17 rfl rfl rfl rfl rfl rfl (.inl ⟨_, rfl, rfl⟩) Ty.e28 Ty.s3 Ty.b3 Ty.z3 rfl (fun _ => rfl)) rfl rfl rfl <| y0 rfl (o_assign (d := .sl 25) rfl) <| y_nil ?_
     exact ⟨rfl, v24, h, (Wk.trans (wk_frz _ [25]) (wk_st _ _ ⟨rfl, rfl, rfl, rfl, rfl, rfl, rfl, rfl, rfl, trivial⟩ ⟨rS, trivial⟩))⟩
    ·have h := ifF h hc
     refine pw_skip ?_
     exact ⟨rfl, s16, h, (Wk.trans (wk_frz _ [910003]) (wk_stP (fun l => if l = 25 then 910003 else l) _ _ ⟨rfl, rfl, rfl, rfl, rfl, rfl, rfl, rfl, rfl, trivial⟩ ⟨rN, trivial⟩ rfl))⟩
  ·have h := ifF h hc
   refine pw_exit <| thenQ_exit <| thenQ_exit <| blockQ_exit ?_
   have he := hx12 _ (Option.some.inj h).symm
   have h := hk11
   rw [← he] at h
   exact ⟨rfl, s16, h, (Wk.trans (wk_frz _ [910003]) (wk_st _ _ ⟨rfl, rfl, rfl, trivial⟩ ⟨rS, trivial⟩))⟩

theorem r10_Get_ok {a0 : List r10_Place} {a1 : Int} {r : Int × Int} (h : r10_Get a0 a1 = some r) : PCalls Tryz.prog 103 [.lst false (List.map r10_Place.Pv a0), .int .i64 a1] (.tup [.int .i64 r.1, .int .i64 r.2]) := by
 unfold r10_Get at h
 refine pc_intro (N := 17) Tryz.func103 rfl rfl nl fun w0 imm0 => sR <| y0 rfl (o_assign (d := .int .i64 0) rfl) <| y0 rfl (o_assign (d := .int .i64 0) rfl) <| y_nil <| sR <| y0 rfl (o_move (d := .lst false (List.map r10_Place.Pv a0)) rfl) <| y0 rfl (o_move (d := .int .i64 a1) rfl) ?_
 obtain ⟨v1, hv1, h⟩ := bindE h
 refine y0 rfl (o_call (ds := [.lst false (List.map r10_Place.Pv a0), .int .i64 a1]) rfl Ty.k106 rfl (r10_Find_ok hv1)) <| y0 rfl (o_assign (d := .int .i64 v1) rfl) <| y_nil <| pw_seq <| sR <| y0 rfl (o_move (d := .int .i64 v1) rfl) <| y0 rfl (o_cmp rfl rfl rfl) <| y_nil ?_
 refine pw_cond (decide (v1 < 0)) rfl (fun hc => ?_) (fun hc => ?_)
 ·have h := ifT h hc
  refine sR <| y0 rfl (o_assign (d := .int .i64 0) rfl) <| y0 rfl (o_assign (d := .int .i64 9) rfl) <| y_nil <| pw_ret ?_
  obtain rfl := Option.some.inj h
  exact ⟨rfl, [_, _], ⟨rfl, ⟨rfl, trivial⟩⟩, rfl, io⟩
 ·have h := ifF h hc
  refine pw_skip <| sR <| y0 rfl (o_move (d := .lst false (List.map r10_Place.Pv a0)) rfl) <| y0 rfl (o_move (d := .int .i64 v1) rfl) ?_
  obtain ⟨v2, hv2, h⟩ := bindE h
  refine y0 rfl (o_ixL (f := r10_Place.Pv) (cs := r10_Place.Pc v2) hv2 rfl rfl Ty.e36 Ty.s93 rfl rfl) <| y0 rfl (o_fieldAddrR rfl Ty.f93_2 rfl) <| y0 rfl (o_loadRS rfl Ty.a3 rfl) <| y0 rfl (o_assign (d := .int .i64 v2.Val) rfl) <| y0 rfl (o_assign (d := .int .i64 0) rfl) <| y_nil <| pw_ret ?_
  obtain rfl := Option.some.inj h
  exact ⟨rfl, [_, _], ⟨rfl, ⟨rfl, trivial⟩⟩, rfl, io⟩

theorem r11_Pairs_ok {a0 : List r10_Place} {r : List r11_Pair} (h : r11_Pairs a0 = some r) : PCalls Tryz.prog 56 [.lst false (List.map r10_Place.Pv a0)] (.lst false (List.map r11_Pair.Pv r)) := by
 unfold r11_Pairs at h
 refine pc_intro (N := 36) Tryz.func56 rfl rfl nl fun w0 imm0 => sR <| y0 rfl (o_assign (d := .lst true (List.map r11_Pair.Pv [])) rfl) <| y_nil <| sR <| y0 rfl (o_nslice rfl Ty.e78 Ty.s80) <| y0 rfl (o_assign (d := .lst true (List.map r11_Pair.Pv [])) rfl) <| y_nil ?_
 refine sR <| y0 rfl (o_move (d := .lst false (List.map r10_Place.Pv a0)) rfl) ?_
 obtain ⟨v1, hv1, h⟩ := bindE h
 refine yc rfl (o_callF (ls := []) (ds := [.lst false (List.map r10_Place.Pv a0)]) rfl Ty.k102 rfl (r10_Keys_ok hv1)) <| y0 rfl (o_assign (d := .lst false (List.map (PV.int .i64) v1)) rfl) <| y_nil ?_
 obtain ⟨κ10, hκ8, h⟩ := jnE h
 refine pw_jn0 (κ := κ10) (r := r) (fun (j11 : List r11_Pair) => St.of [(3, .sl 910003)] [(910003, ⟨List.map r11_Pair.Pv j11, (List.map r11_Pair.Pv j11).length, true, 2, true⟩)]) (fun j11 h => ?_) ?_
 ·subst hκ8
  refine sR <| y0 rfl (o_move (d := .sl 910003) rfl) <| y0 rfl (o_assign (d := .sl 910003) rfl) <| y_nil <| pw_ret ?_
  obtain rfl := Option.some.inj h
  exact ⟨rfl, [_], ⟨rfl, trivial⟩, rfl, io⟩
 ·skip
  refine sR <| y0 rfl (o_assign (d := .int .i64 0) rfl) <| y_nil <| pw_block ?_
  obtain ⟨e12, hl9, hk10⟩ := bindE h
  refine pw_lp0 (fun (q : Int × (List r11_Pair)) => St.of [(0, .lst false (List.map r10_Place.Pv a0)), (3, .sl 910003), (4, .lst false (List.map (PV.int .i64) v1)), (5, .int .i64 q.1)] [(910003, ⟨List.map r11_Pair.Pv q.2, (List.map r11_Pair.Pv q.2).length, true, 2, true⟩)]) hl9 (Wk.trans (wk_nil (t := 3) (l := 920003) (z := 2) rfl rfl) (wk_stP (fun l => if l = 910003 then 920003 else l) _ _ ⟨rfl, rfl, rfl, rfl, rfl, rfl, rfl, rfl, rfl, rfl, rfl, rfl, trivial⟩ ⟨rN, trivial⟩ rfl)) (fun q16 x15 h hx11 => ?_)
  obtain ⟨s13, s14⟩ := q16
  refine pw_seq <| sR <| y0 rfl (o_move (d := .int .i64 s13) rfl) <| y0 rfl (o_move (d := .lst false (List.map (PV.int .i64) v1)) rfl) <| y0 rfl (o_lnL (f := (PV.int .i64)) rfl Ty.e28) <| y0 rfl (o_cmp rfl rfl rfl) <| y_nil ?_
  refine pw_cond (decide (s13 < (v1.length : Int))) rfl (fun hc => ?_) (fun hc => ?_)
  ·have h := ifT h hc
   refine pw_skip <| pw_seq <| pw_block <| sR <| y0 rfl (o_move (d := .lst false (List.map r10_Place.Pv a0)) rfl) <| y0 rfl (o_move (d := .lst false (List.map (PV.int .i64) v1)) rfl) <| y0 rfl (o_move (d := .int .i64 s13) rfl) ?_
   obtain ⟨v17, hv12, h⟩ := bindE h
   refine y0 rfl (o_ixL (f := (PV.int .i64)) (cs := [.int .i64 v17]) hv12 rfl rfl Ty.e28 Ty.s3 rfl rfl) <| y0 rfl (o_loadRS rfl Ty.a3 rfl) ?_
   obtain ⟨v18, hv13, h⟩ := bindE h
   refine y0 rfl (o_call (ds := [.lst false (List.map r10_Place.Pv a0), .int .i64 v17]) rfl Ty.k103 rfl (r10_Get_ok hv13)) <| y0 rfl (o_move (d := .tup [.int .i64 v18.1, .int .i64 v18.2]) rfl) <| y0 rfl (o_extract rfl rfl) <| y0 rfl (o_extract rfl rfl) <| y0 rfl (o_assign (d := .int .i64 v18.1) rfl) <| y0 rfl (o_assign (d := .int .i64 v18.2) rfl) <| y_nil <| sr1 (by kernel_rfl) ?_
   refine y0 rfl (o_move (d := .sl 910003) rfl) <| y0 rfl (o_move (d := .lst false (List.map (PV.int .i64) v1)) rfl) <| y0 rfl (o_move (d := .int .i64 s13) rfl) <| y0 rfl (o_ixL (f := (PV.int .i64)) (cs := [.int .i64 v17]) hv12 rfl rfl Ty.e28 Ty.s3 rfl rfl) <| y0 rfl (o_loadRS rfl Ty.a3 rfl) <| y0 rfl (o_move (d := .int .i64 v18.1) rfl) <| y0 rfl (o_build (cs := [.int .i64 v17, .int .i64 v18.1]) rfl Ty.p80 Ty.z80 rfl rfl rfl) <| y0 rfl (o_bI (f := r11_Pair.Pv) (l := [(⟨v17, v18.1⟩ : r11_Pair)]) rfl Ty.e78 Ty.s80 Ty.z80 rfl rfl nl rfl rfl) ?_
   obtain ⟨v19, hv14, h⟩ := bindE h
   refine y_app rfl (o_apR (f := r11_Pair.Pv) hv14 rfl rfl rfl rfl rfl rfl (.inl ⟨_, rfl, rfl⟩) Ty.e78 Ty.s80 Ty.b80 Ty.z80 rfl (fun _ => rfl)) rfl rfl rfl <| y0 rfl (o_assign (d := .sl 34) rfl) <| y_nil <| sr1 (by kernel_rfl) <| y0 rfl (o_move (d := .int .i64 s13) rfl) <| y0 rfl (o_ari rfl rfl rfl) <| y0 rfl (o_assign (d := .int .i64 (w64 (s13 + 1))) rfl) <| y_nil ?_
   exact ⟨rfl, (w64 (s13 + 1), v19), (Option.some.inj h).symm, (Wk.trans (wk_frz _ [34]) (wk_stP (fun l => if l = 910003 then 34 else l) _ _ ⟨rfl, rfl, rfl, rfl, rfl, rfl, rfl, rfl, rfl, rfl, rfl, rfl, trivial⟩ ⟨rN, trivial⟩ rfl))⟩
  ·have h := ifF h hc
   refine pw_exit <| thenQ_exit <| thenQ_exit <| blockQ_exit ?_
   have he := hx11 _ (Option.some.inj h).symm
   have h := hk10
   rw [← he] at h
   exact ⟨rfl, s14, h, (Wk.trans (wk_frz _ [910003]) (wk_st _ _ ⟨rfl, rfl, rfl, trivial⟩ ⟨rS, trivial⟩))⟩

theorem r11_Owned_ok {a0 : List r10_Place} {a1 : Int} {r : Int} (h : r11_Owned a0 a1 = some r) : PCalls Tryz.prog 90 [.lst false (List.map r10_Place.Pv a0), .int .i64 a1] (.int .i64 r) := by
 unfold r11_Owned at h
 refine pc_intro (N := 30) Tryz.func90 rfl rfl nl fun w0 imm0 => sR <| y0 rfl (o_assign (d := .int .i64 0) rfl) <| y_nil <| sR <| y0 rfl (o_assign (d := .int .i64 0) rfl) <| y_nil <| sR ?_
 refine y0 rfl (o_move (d := .lst false (List.map r10_Place.Pv a0)) rfl) ?_
 obtain ⟨v1, hv1, h⟩ := bindE h
 refine yc rfl (o_callF (ls := []) (ds := [.lst false (List.map r10_Place.Pv a0)]) rfl Ty.k56 rfl (r11_Pairs_ok hv1)) <| y0 rfl (o_assign (d := .lst false (List.map r11_Pair.Pv v1)) rfl) <| y_nil ?_
 obtain ⟨κ11, hκ8, h⟩ := jnE h
 refine pw_jn0 (κ := κ11) (r := r) (fun (j12 : Int) => St.of [(5, .int .i64 j12)] []) (fun j12 h => ?_) ?_
 ·subst hκ8
  refine sR <| y0 rfl (o_move (d := .int .i64 j12) rfl) <| y0 rfl (o_assign (d := .int .i64 j12) rfl) <| y_nil <| pw_ret ?_
  obtain rfl := Option.some.inj h
  exact ⟨rfl, [_], ⟨rfl, trivial⟩, rfl, io⟩
 ·skip
  refine sR <| y0 rfl (o_assign (d := .int .i64 0) rfl) <| y_nil <| pw_block ?_
  obtain ⟨e13, hl9, hk10⟩ := bindE h
  refine pw_lp0 (fun (q : Int × Int) => St.of [(1, .int .i64 a1), (5, .int .i64 q.1), (6, .lst false (List.map r11_Pair.Pv v1)), (7, .int .i64 q.2)] []) hl9 (wk_st _ _ ⟨rfl, rfl, rfl, rfl, rfl, rfl, rfl, rfl, rfl, rfl, rfl, rfl, trivial⟩ trivial) (fun q17 x16 h hx11 => ?_)
  obtain ⟨s14, s15⟩ := q17
  refine pw_seq <| sR <| y0 rfl (o_move (d := .int .i64 s15) rfl) <| y0 rfl (o_move (d := .lst false (List.map r11_Pair.Pv v1)) rfl) <| y0 rfl (o_lnL (f := r11_Pair.Pv) rfl Ty.e78) <| y0 rfl (o_cmp rfl rfl rfl) <| y_nil ?_
  refine pw_cond (decide (s15 < (v1.length : Int))) rfl (fun hc => ?_) (fun hc => ?_)
  ·have h := ifT h hc
   refine pw_skip ?_
   obtain ⟨κ19, hκ13, h⟩ := jnE h
   refine pw_jn0 (κ := κ19) (r := x16) (fun (j20 : Int) => St.of [(1, .int .i64 a1), (5, .int .i64 j20), (6, .lst false (List.map r11_Pair.Pv v1)), (7, .int .i64 s15)] []) (fun j20 h => ?_) ?_
   ·subst hκ13
    refine sr1 (by kernel_rfl) <| y0 rfl (o_move (d := .int .i64 s15) rfl) <| y0 rfl (o_ari rfl rfl rfl) <| y0 rfl (o_assign (d := .int .i64 (w64 (s15 + 1))) rfl) <| y_nil ?_
    exact ⟨rfl, (j20, w64 (s15 + 1)), (Option.some.inj h).symm, (wk_st _ _ ⟨rfl, rfl, rfl, rfl, rfl, rfl, rfl, rfl, rfl, rfl, rfl, rfl, trivial⟩ trivial)⟩
   ·skip
    refine pw_block <| sR <| y0 rfl (o_move (d := .lst false (List.map r11_Pair.Pv v1)) rfl) <| y0 rfl (o_move (d := .int .i64 s15) rfl) ?_
    obtain ⟨v21, hv14, h⟩ := bindE h
    refine y0 rfl (o_ixL (f := r11_Pair.Pv) (cs := r11_Pair.Pc v21) hv14 rfl rfl Ty.e78 Ty.s80 rfl rfl) <| y0 rfl (o_fieldAddrR rfl Ty.f80_1 rfl) <| y0 rfl (o_loadRS rfl Ty.a3 rfl) <| y0 rfl (o_move (d := .int .i64 a1) rfl) <| y0 rfl (o_cmp rfl rfl rfl) <| y0 rfl (o_move (d := .bool (v21.Val == a1)) rfl) <| y_if (g := ((v21.Val == a1) == true)) rfl (fun hg => o_move (d := .int .i64 a1) rfl) <| y_if (g := ((v21.Val == a1) == true)) rfl (fun hg => o_cmp (ct hg) rfl rfl) ?_
    refine y0 rfl (pk_and rfl rfl rfl (fun q => eqT q)) <| y_nil ?_
    refine pw_cond ((v21.Val == a1) && (a1 != 0)) rfl (fun hc => ?_) (fun hc => ?_)
    ·have h := ifT h hc
     refine sr1 (by kernel_rfl) <| y0 rfl (o_move (d := .int .i64 s14) rfl) <| y0 rfl (o_ari rfl rfl rfl) <| y0 rfl (o_assign (d := .int .i64 (w64 (s14 + 1))) rfl) <| y_nil ?_
     exact ⟨rfl, w64 (s14 + 1), h, (wk_st _ _ ⟨rfl, rfl, rfl, rfl, rfl, rfl, rfl, rfl, rfl, rfl, rfl, rfl, trivial⟩ trivial)⟩
    ·have h := ifF h hc
     refine pw_skip ?_
     exact ⟨rfl, s14, h, (wk_st _ _ ⟨rfl, rfl, rfl, rfl, rfl, rfl, rfl, rfl, rfl, rfl, rfl, rfl, trivial⟩ trivial)⟩
  ·have h := ifF h hc
   refine pw_exit <| thenQ_exit <| thenQ_exit <| blockQ_exit ?_
   have he := hx11 _ (Option.some.inj h).symm
   have h := hk10
   rw [← he] at h
   exact ⟨rfl, s14, h, (wk_st _ _ ⟨rfl, rfl, rfl, trivial⟩ trivial)⟩

theorem r13_Inner_ok {a0 : r06_Store} {a1 : List r10_Place} {a2 : Int} {r : Int} (h : r13_Inner a0 a1 a2 = some r) : PCalls Tryz.prog 40 [r06_Store.Pv a0, .lst false (List.map r10_Place.Pv a1), .int .i64 a2] (.int .i64 r) := by
 unfold r13_Inner at h
 refine pc_intro (N := 14) Tryz.func40 rfl rfl nl fun w0 imm0 => sR <| y1 rfl (o_box (d := r06_Store.Pv a0) (z := 3) (cl := true) rfl rfl rfl rfl rfl) rfl <| y0 rfl (o_assign (d := .int .i64 0) rfl) <| y_nil <| sR <| y0 rfl (o_loadA (cs := r06_Store.Pc a0) rfl rfl rfl Ty.a34 Ty.s34 nl rfl) <| y0 rfl (o_move (d := .int .i64 a2) rfl) ?_
 obtain ⟨v1, hv1, h⟩ := bindE h
 refine y0 rfl (o_call (ds := [r06_Store.Pv a0, .int .i64 a2]) rfl Ty.k89 rfl (r07_In_ok hv1)) <| y0 rfl (o_move (d := .lst false (List.map r10_Place.Pv a1)) rfl) <| y0 rfl (o_move (d := .int .i64 a2) rfl) ?_
 obtain ⟨v2, hv2, h⟩ := bindE h
 refine y0 rfl (o_call (ds := [.lst false (List.map r10_Place.Pv a1), .int .i64 a2]) rfl Ty.k90 rfl (r11_Owned_ok hv2)) <| y0 rfl (o_ari rfl rfl rfl) <| y0 rfl (o_assign (d := .int .i64 (w64 (v1 + v2))) rfl) <| y_nil <| pw_ret ?_
 obtain rfl := Option.some.inj h
 exact ⟨rfl, [_], ⟨rfl, trivial⟩, rfl, io⟩

theorem r13_Rest_ok {a0 : r06_Store} {a1 : List r10_Place} {a2 : Int} {r : Int} (h : r13_Rest a0 a1 a2 = some r) : PCalls Tryz.prog 42 [r06_Store.Pv a0, .lst false (List.map r10_Place.Pv a1), .int .i64 a2] (.int .i64 r) := by
 unfold r13_Rest at h
 refine pc_intro (N := 24) Tryz.func42 rfl rfl nl fun w0 imm0 => sR <| y1 rfl (o_box (d := r06_Store.Pv a0) (z := 3) (cl := true) rfl rfl rfl rfl rfl) rfl <| y0 rfl (o_assign (d := .int .i64 0) rfl) <| y_nil <| sR <| y0 rfl (o_loadA (cs := r06_Store.Pc a0) rfl rfl rfl Ty.a34 Ty.s34 nl rfl) <| y0 rfl (o_move (d := .int .i64 a2) rfl) ?_
 obtain ⟨v1, hv1, h⟩ := bindE h
 refine yc rfl (o_callF (ls := []) (ds := [r06_Store.Pv a0, .int .i64 a2]) rfl Ty.k51 rfl (r06_Get_ok hv1)) <| y0 rfl (o_move (d := .tup [r06_Obj.Pv v1.1, .int .i64 v1.2]) rfl) <| y0 rfl (o_extract rfl rfl) <| y0 rfl (o_extract rfl rfl) <| y1 rfl (o_alloc (d := .agg [.int .i64 0, .int .i64 0, .int .i64 0, .int .i64 0, .bool false, .lst true (List.map (PV.int .i64) [])]) (z := 6) rfl Ty.z67 rfl rfl rfl) rfl <| y_sto (x' := r06_Obj.Pv v1.1) (cl' := true) rfl rfl (.inr rfl) Ty.s67 <| y0 rfl (o_assign (d := .int .i64 v1.2) rfl) <| y_nil ?_
 refine pw_seq <| sR <| y0 rfl (o_move (d := .int .i64 v1.2) rfl) <| y0 rfl (o_cmp rfl rfl rfl) <| y_nil ?_
 refine pw_cond (v1.2 != 0) rfl (fun hc => ?_) (fun hc => ?_)
 ·have h := ifT h hc
  refine sR <| y0 rfl (o_assign (d := .int .i64 0) rfl) <| y_nil <| pw_ret ?_
  obtain rfl := Option.some.inj h
  exact ⟨rfl, [_], ⟨rfl, trivial⟩, rfl, io⟩
 ·have h := ifF h hc
  refine pw_skip <| dr [] Ty.mix (by kernel_rfl) (by kernel_rfl) <| d7 rfl (fun _ hN => o_fieldAddrP (k := 1) rfl Ty.f67_1 rfl) rfl <| d0 rfl (o_loadS rfl rfl rfl Ty.a3 rfl) rfl <| d0 rfl (o_loadA (cs := r06_Store.Pc a0) rfl rfl rfl Ty.a34 Ty.s34 nl rfl) rfl <| d7 rfl (fun _ hN => o_move (d := .lst false (List.map r10_Place.Pv a1)) rfl) rfl <| d7 rfl (fun _ hN => o_move (d := .int .i64 a2) rfl) rfl ?_
  obtain ⟨v2, hv2, h⟩ := bindE h
  refine d2 rfl (o_call (ds := [r06_Store.Pv a0, .lst false (List.map r10_Place.Pv a1), .int .i64 a2]) rfl Ty.k40 rfl (r13_Inner_ok hv2)) rfl <| d7 rfl (fun _ hN => o_ari rfl rfl rfl) rfl <| d7 rfl (fun _ hN => o_assign (d := .int .i64 (w64 (v1.1.Strong - v2))) rfl) rfl <| d_nil <| pw_ret ?_
  obtain rfl := Option.some.inj h
  exact ⟨rfl, [_], ⟨rfl, trivial⟩, rfl, io⟩

theorem r04_Stuck_ok {a0 : Int} {r : Bool} (h : r04_Stuck a0 = some r) : PCalls Tryz.prog 52 [.int .i64 a0] (.bool r) := by
 unfold r04_Stuck at h
 refine pc_intro (N := 5) Tryz.func52 rfl rfl nl fun w0 imm0 => sR <| y0 rfl (o_assign (d := .bool false) rfl) <| y_nil <| sR <| y0 rfl (o_move (d := .int .i64 a0) rfl) <| y0 rfl (o_cmp rfl rfl rfl) <| y0 rfl (o_assign (d := .bool (decide (a0 ≥ 12))) rfl) ?_
 refine y_nil <| pw_ret ?_
 obtain rfl := Option.some.inj h
 exact ⟨rfl, [_], ⟨rfl, trivial⟩, rfl, io⟩

theorem r13_stuck_ok {a0 : r06_Store} {a1 : Int} {r : Bool} (h : r13_stuck a0 a1 = some r) : PCalls Tryz.prog 94 [r06_Store.Pv a0, .int .i64 a1] (.bool r) := by
 unfold r13_stuck at h
 refine pc_intro (N := 16) Tryz.func94 rfl rfl nl fun w0 imm0 => sR <| y1 rfl (o_box (d := r06_Store.Pv a0) (z := 3) (cl := true) rfl rfl rfl rfl rfl) rfl <| y0 rfl (o_assign (d := .bool false) rfl) <| y_nil <| sR <| y0 rfl (o_loadA (cs := r06_Store.Pc a0) rfl rfl rfl Ty.a34 Ty.s34 nl rfl) <| y0 rfl (o_move (d := .int .i64 a1) rfl) ?_
 obtain ⟨v1, hv1, h⟩ := bindE h
 refine yc rfl (o_callF (ls := []) (ds := [r06_Store.Pv a0, .int .i64 a1]) rfl Ty.k51 rfl (r06_Get_ok hv1)) <| y0 rfl (o_move (d := .tup [r06_Obj.Pv v1.1, .int .i64 v1.2]) rfl) <| y0 rfl (o_extract rfl rfl) <| y0 rfl (o_extract rfl rfl) <| y1 rfl (o_alloc (d := .agg [.int .i64 0, .int .i64 0, .int .i64 0, .int .i64 0, .bool false, .lst true (List.map (PV.int .i64) [])]) (z := 6) rfl Ty.z67 rfl rfl rfl) rfl <| y_sto (x' := r06_Obj.Pv v1.1) (cl' := true) rfl rfl (.inr rfl) Ty.s67 <| y0 rfl (o_assign (d := .int .i64 v1.2) rfl) <| y_nil ?_
 refine sR <| y0 rfl (o_fieldAddrP (k := 1) rfl Ty.f67_1 rfl) <| y0 rfl (o_loadS rfl rfl rfl Ty.a3 rfl) ?_
 obtain ⟨v2, hv2, h⟩ := bindE h
 refine y0 rfl (o_call (ds := [.int .i64 v1.1.Strong]) rfl Ty.k52 rfl (r04_Stuck_ok hv2)) <| y0 rfl (o_assign (d := .bool v2) rfl) <| y_nil <| pw_ret ?_
 obtain rfl := Option.some.inj h
 exact ⟨rfl, [_], ⟨rfl, trivial⟩, rfl, io⟩

theorem r13_Held_ok {a0 : r06_Store} {a1 : List r10_Place} {r : List Int} (h : r13_Held a0 a1 = some r) : PCalls Tryz.prog 44 [r06_Store.Pv a0, .lst false (List.map r10_Place.Pv a1)] (.lst false (List.map (PV.int .i64) r)) := by
 unfold r13_Held at h
 refine pc_intro (N := 41) Tryz.func44 rfl rfl nl fun w0 imm0 => sR <| y1 rfl (o_box (d := r06_Store.Pv a0) (z := 3) (cl := true) rfl rfl rfl rfl rfl) rfl <| y0 rfl (o_assign (d := .lst true (List.map (PV.int .i64) [])) rfl) <| y_nil <| sR <| y0 rfl (o_nslice rfl Ty.e28 Ty.s3) <| y0 rfl (o_assign (d := .lst true (List.map (PV.int .i64) [])) rfl) ?_
 refine y_nil <| sR <| y0 rfl (o_loadA (cs := r06_Store.Pc a0) rfl rfl rfl Ty.a34 Ty.s34 nl rfl) ?_
 obtain ⟨v1, hv1, h⟩ := bindE h
 refine yc rfl (o_callF (ls := []) (ds := [r06_Store.Pv a0]) rfl Ty.k27 rfl (r06_Live_ok hv1)) <| y0 rfl (o_assign (d := .lst false (List.map (PV.int .i64) v1)) rfl) <| y_nil ?_
 obtain ⟨κ17, hκ14, h⟩ := jnE h
 refine pw_jn0 (κ := κ17) (r := r) (fun (j18 : List Int) => St.of [(5, .sl 910005)] [(910005, ⟨List.map (PV.int .i64) j18, (List.map (PV.int .i64) j18).length, true, 1, true⟩)]) (fun j18 h => ?_) ?_
 ·subst hκ14
  refine sR <| y0 rfl (o_move (d := .sl 910005) rfl) <| y0 rfl (o_assign (d := .sl 910005) rfl) <| y_nil <| pw_ret ?_
  obtain rfl := Option.some.inj h
  exact ⟨rfl, [_], ⟨rfl, trivial⟩, rfl, io⟩
 ·skip
  refine sR <| y0 rfl (o_assign (d := .int .i64 0) rfl) <| y_nil <| pw_block ?_
  obtain ⟨e19, hl15, hk16⟩ := bindE h
  refine pw_lp0 (fun (q : Int × (List Int)) => St.of [(1, .lst false (List.map r10_Place.Pv a1)), (2, .ptr 2 0 0), (5, .sl 910005), (6, .lst false (List.map (PV.int .i64) v1)), (7, .int .i64 q.1)] [(2, ⟨[r06_Store.Pv a0], 0, false, 3, true⟩), (910005, ⟨List.map (PV.int .i64) q.2, (List.map (PV.int .i64) q.2).length, true, 1, true⟩)]) hl15 (Wk.trans (wk_nil (t := 5) (l := 920005) (z := 1) rfl rfl) (wk_stP (fun l => if l = 910005 then 920005 else l) _ _ ⟨rfl, rfl, rfl, rfl, rfl, rfl, rfl, rfl, rfl, rfl, rfl, rfl, rfl, rfl, rfl, trivial⟩ ⟨rN, rN, trivial⟩ rfl)) (fun q23 x22 h hx17 => ?_)
  obtain ⟨s20, s21⟩ := q23
  refine pw_seq <| sR <| y0 rfl (o_move (d := .int .i64 s20) rfl) <| y0 rfl (o_move (d := .lst false (List.map (PV.int .i64) v1)) rfl) <| y0 rfl (o_lnL (f := (PV.int .i64)) rfl Ty.e28) <| y0 rfl (o_cmp rfl rfl rfl) <| y_nil ?_
  refine pw_cond (decide (s20 < (v1.length : Int))) rfl (fun hc => ?_) (fun hc => ?_)
  ·have h := ifT h hc
   refine pw_skip ?_
   obtain ⟨κ28, hκ22, h⟩ := jnE h
   refine pw_jn0 (κ := κ28) (r := x22) (fun (j29 : List Int) => St.of [(1, .lst false (List.map r10_Place.Pv a1)), (2, .ptr 2 0 0), (5, .sl 39), (6, .lst false (List.map (PV.int .i64) v1)), (7, .int .i64 s20)] [(39, ⟨List.map (PV.int .i64) j29, (List.map (PV.int .i64) j29).length, true, 1, true⟩), (2, ⟨[r06_Store.Pv a0], 0, false, 3, true⟩)]) (fun j29 h => ?_) ?_
   ·subst hκ22
    refine sr1 (by kernel_rfl) <| y0 rfl (o_move (d := .int .i64 s20) rfl) <| y0 rfl (o_ari rfl rfl rfl) <| y0 rfl (o_assign (d := .int .i64 (w64 (s20 + 1))) rfl) <| y_nil ?_
    exact ⟨rfl, (w64 (s20 + 1), j29), (Option.some.inj h).symm, (Wk.trans (wk_frz _ [39]) (wk_stP (fun l => if l = 910005 then 39 else l) _ _ ⟨rfl, rfl, rfl, rfl, rfl, rfl, rfl, rfl, rfl, rfl, rfl, rfl, rfl, rfl, rfl, trivial⟩ ⟨rN, rN, trivial⟩ rfl))⟩
   ·skip
    refine pw_block <| dr [] Ty.mix (by kernel_rfl) (by kernel_rfl) <| d0 rfl (o_loadA (cs := r06_Store.Pc a0) rfl rfl rfl Ty.a34 Ty.s34 nl rfl) rfl <| d7 rfl (fun _ hN => o_move (d := .lst false (List.map r10_Place.Pv a1)) rfl) rfl <| d7 rfl (fun _ hN => o_move (d := .lst false (List.map (PV.int .i64) v1)) rfl) rfl <| d7 rfl (fun _ hN => o_move (d := .int .i64 s20) rfl) rfl ?_
    obtain ⟨v30, hv23, h⟩ := bindE h
    refine d0 rfl (o_ixL (f := (PV.int .i64)) (cs := [.int .i64 v30]) hv23 rfl rfl Ty.e28 Ty.s3 rfl rfl) rfl <| d0 rfl (o_loadRS rfl Ty.a3 rfl) rfl ?_
    obtain ⟨v31, hv24, h⟩ := bindE h
    refine d2 rfl (o_call (ds := [r06_Store.Pv a0, .lst false (List.map r10_Place.Pv a1), .int .i64 v30]) rfl Ty.k42 rfl (r13_Rest_ok hv24)) rfl <| d7 rfl (fun _ hN => o_cmp rfl rfl rfl) rfl <| d7 rfl (fun _ hN => o_move (d := .bool (decide (v31 > 0))) rfl) rfl <| d_if0 (g := ((decide (v31 > 0)) == false)) rfl (fun hg => o_loadA (cs := r06_Store.Pc a0) rfl rfl rfl Ty.a34 Ty.s34 nl rfl) rfl <| d_if7 (g := ((decide (v31 > 0)) == false)) rfl (fun hg _ hN => o_move (d := .lst false (List.map (PV.int .i64) v1)) rfl) rfl <| d_if7 (g := ((decide (v31 > 0)) == false)) rfl (fun hg _ hN => o_move (d := .int .i64 s20) rfl) rfl <| d_if0 (g := ((decide (v31 > 0)) == false)) rfl (fun hg => o_ixL (f := (PV.int .i64)) (cs := [.int .i64 v30]) hv23 (ct hg) (ct hg) Ty.e28 Ty.s3 rfl rfl) rfl <| d_if0 (g := ((decide (v31 > 0)) == false)) rfl (fun hg => o_loadRS (ct hg) Ty.a3 rfl) rfl ?_
    obtain ⟨v32, hv25, h⟩ := bindE h
    refine d_if2 (g := ((decide (v31 > 0)) == false)) rfl (fun hg => o_call (ds := [r06_Store.Pv a0, .int .i64 v30]) rfl Ty.k94 (consE (ct hg) (consE (ct hg) rfl)) (r13_stuck_ok (onlyE hv25 hg))) rfl <| d7 rfl (fun _ hN => pk_or rfl rfl rfl (fun q => eqF q)) rfl <| d_nil ?_
    refine pw_cond ((decide (v31 > 0)) || v32) rfl (fun hc => ?_) (fun hc => ?_)
    ·have h := ifT h hc
     refine sr1 (by kernel_rfl) <| y0 rfl (o_move (d := .sl 910005) rfl) <| y0 rfl (o_move (d := .lst false (List.map (PV.int .i64) v1)) rfl) <| y0 rfl (o_move (d := .int .i64 s20) rfl) <| y0 rfl (o_ixL (f := (PV.int .i64)) (cs := [.int .i64 v30]) hv23 rfl rfl Ty.e28 Ty.s3 rfl rfl) <| y0 rfl (o_loadRS rfl Ty.a3 rfl) <| y0 rfl (o_bI (f := (PV.int .i64)) (l := [v30]) rfl Ty.e28 Ty.s3 Ty.z3 rfl rfl nl rfl rfl) ?_
     obtain ⟨v33, hv26, h⟩ := bindE h
     refine y_app rfl (o_apR (f := (PV.int .i64)) hv26 rfl rfl rfl rfl rfl rfl (.inl ⟨_, rfl, rfl⟩) Ty.e28 Ty.s3 Ty.b3 Ty.z3 rfl (fun _ => rfl)) rfl rfl rfl <| y0 rfl (o_assign (d := .sl 39) rfl) <| y_nil ?_
     exact ⟨rfl, v33, h, (Wk.trans (wk_frz _ [39]) (wk_st _ _ ⟨rfl, rfl, rfl, rfl, rfl, rfl, rfl, rfl, rfl, rfl, rfl, rfl, rfl, rfl, rfl, trivial⟩ ⟨rS, rS, trivial⟩))⟩
    ·have h := ifF h hc
     refine pw_skip ?_
     exact ⟨rfl, s21, h, (Wk.trans (wk_frz _ [910005]) (wk_stP (fun l => if l = 39 then 910005 else l) _ _ ⟨rfl, rfl, rfl, rfl, rfl, rfl, rfl, rfl, rfl, rfl, rfl, rfl, rfl, rfl, rfl, trivial⟩ ⟨rN, rN, trivial⟩ rfl))⟩
  ·have h := ifF h hc
   refine pw_exit <| thenQ_exit <| thenQ_exit <| blockQ_exit ?_
   have he := hx17 _ (Option.some.inj h).symm
   have h := hk16
   rw [← he] at h
   exact ⟨rfl, s21, h, (Wk.trans (wk_frz _ [910005]) (wk_st _ _ ⟨rfl, rfl, rfl, trivial⟩ ⟨rS, trivial⟩))⟩

theorem r02_Ints_ok {a0 : List Int} {a1 : List Int} {r : Bool} (h : r02_Ints a0 a1 = some r) : PCalls Tryz.prog 18 [.lst false (List.map (PV.int .i64) a0), .lst false (List.map (PV.int .i64) a1)] (.bool r) := by
 unfold r02_Ints at h
 refine pc_intro (N := 26) Tryz.func18 rfl rfl nl fun w0 imm0 => sR <| y0 rfl (o_assign (d := .bool false) rfl) <| y_nil <| pw_seq <| sR <| y0 rfl (o_move (d := .lst false (List.map (PV.int .i64) a0)) rfl) <| y0 rfl (o_lnL (f := (PV.int .i64)) rfl Ty.e28) ?_
 refine y0 rfl (o_move (d := .lst false (List.map (PV.int .i64) a1)) rfl) <| y0 rfl (o_lnL (f := (PV.int .i64)) rfl Ty.e28) <| y0 rfl (o_cmp rfl rfl rfl) <| y_nil ?_
 refine pw_cond ((a0.length : Int) != (a1.length : Int)) rfl (fun hc => ?_) (fun hc => ?_)
 ·have h := ifT h hc
  refine sR <| y0 rfl (o_assign (d := .bool false) rfl) <| y_nil <| pw_ret ?_
  obtain rfl := Option.some.inj h
  exact ⟨rfl, [_], ⟨rfl, trivial⟩, rfl, io⟩
 ·have h := ifF h hc
  refine pw_skip ?_
  obtain ⟨κ6, hκ6, h⟩ := jnE h
  refine pw_jn0 (κ := κ6) (r := r) (fun (_ : Unit) => St.of [] []) (fun q7 h => ?_) ?_
  ·subst hκ6
   refine sR <| y0 rfl (o_assign (d := .bool true) rfl) <| y_nil <| pw_ret ?_
   obtain rfl := Option.some.inj h
   exact ⟨rfl, [_], ⟨rfl, trivial⟩, rfl, io⟩
  ·skip
   refine sR <| y0 rfl (o_assign (d := .int .i64 0) rfl) <| y_nil <| pw_block ?_
   obtain ⟨e8, hl7, hk8⟩ := bindE h
   refine pw_lp0 (fun (s9 : Int) => St.of [(0, .lst false (List.map (PV.int .i64) a0)), (1, .lst false (List.map (PV.int .i64) a1)), (5, .int .i64 s9)] []) hl7 (wk_st _ _ ⟨rfl, rfl, rfl, rfl, rfl, rfl, rfl, rfl, rfl, trivial⟩ trivial) (fun s9 x10 h hx9 => ?_)
   refine pw_seq <| sR <| y0 rfl (o_move (d := .int .i64 s9) rfl) <| y0 rfl (o_move (d := .lst false (List.map (PV.int .i64) a0)) rfl) <| y0 rfl (o_lnL (f := (PV.int .i64)) rfl Ty.e28) <| y0 rfl (o_cmp rfl rfl rfl) <| y_nil ?_
   refine pw_cond (decide (s9 < (a0.length : Int))) rfl (fun hc => ?_) (fun hc => ?_)
   ·have h := ifT h hc
    refine pw_skip <| pw_seq <| pw_block <| dr [] Ty.mix (by kernel_rfl) (by kernel_rfl) <| d7 rfl (fun _ hN => o_move (d := .lst false (List.map (PV.int .i64) a0)) rfl) rfl <| d7 rfl (fun _ hN => o_move (d := .int .i64 s9) rfl) rfl ?_
    obtain ⟨v11, hv10, h⟩ := bindE h
    refine d0 rfl (o_ixL (f := (PV.int .i64)) (cs := [.int .i64 v11]) hv10 rfl rfl Ty.e28 Ty.s3 rfl rfl) rfl <| d0 rfl (o_loadRS rfl Ty.a3 rfl) rfl <| d7 rfl (fun _ hN => o_move (d := .lst false (List.map (PV.int .i64) a1)) rfl) rfl <| d7 rfl (fun _ hN => o_move (d := .int .i64 s9) rfl) rfl ?_
    obtain ⟨v12, hv11, h⟩ := bindE h
    refine d0 rfl (o_ixL (f := (PV.int .i64)) (cs := [.int .i64 v12]) hv11 rfl rfl Ty.e28 Ty.s3 rfl rfl) rfl <| d0 rfl (o_loadRS rfl Ty.a3 rfl) rfl <| d7 rfl (fun _ hN => o_cmp rfl rfl rfl) rfl <| d_nil ?_
    refine pw_cond (v11 != v12) rfl (fun hc => ?_) (fun hc => ?_)
    ·have h := ifT h hc
     refine sR <| y0 rfl (o_assign (d := .bool false) rfl) <| y_nil <| pw_ret ?_
     have he := hx9 _ (Option.some.inj h).symm
     have h := hk8
     rw [← he] at h
     obtain rfl := Option.some.inj h
     exact ⟨rfl, [_], ⟨rfl, trivial⟩, rfl, io⟩
    ·have h := ifF h hc
     refine pw_skip <| sr1 (by kernel_rfl) <| y0 rfl (o_move (d := .int .i64 s9) rfl) <| y0 rfl (o_ari rfl rfl rfl) <| y0 rfl (o_assign (d := .int .i64 (w64 (s9 + 1))) rfl) <| y_nil ?_
     exact ⟨rfl, w64 (s9 + 1), (Option.some.inj h).symm, (wk_st _ _ ⟨rfl, rfl, rfl, rfl, rfl, rfl, rfl, rfl, rfl, trivial⟩ trivial)⟩
   ·have h := ifF h hc
    refine pw_exit <| thenQ_exit <| thenQ_exit <| blockQ_exit ?_
    have he := hx9 _ (Option.some.inj h).symm
    have h := hk8
    rw [← he] at h
    exact ⟨rfl, (), h, (wk_st _ _ trivial trivial)⟩

theorem r08_Has_ok {a0 : List Int} {a1 : Int} {r : Bool} (h : r08_Has a0 a1 = some r) : PCalls Tryz.prog 66 [.lst false (List.map (PV.int .i64) a0), .int .i64 a1] (.bool r) := by
 unfold r08_Has at h
 refine pc_intro (N := 9) Tryz.func66 rfl rfl nl fun w0 imm0 => sR <| y0 rfl (o_assign (d := .bool false) rfl) <| y_nil <| sR <| y0 rfl (o_move (d := .lst false (List.map (PV.int .i64) a0)) rfl) <| y0 rfl (o_move (d := .int .i64 a1) rfl) ?_
 obtain ⟨v1, hv1, h⟩ := bindE h
 refine y0 rfl (o_call (ds := [.lst false (List.map (PV.int .i64) a0), .int .i64 a1]) rfl Ty.k28 rfl (r07_Times_ok hv1)) <| y0 rfl (o_cmp rfl rfl rfl) <| y0 rfl (o_assign (d := .bool (decide (v1 > 0))) rfl) <| y_nil <| pw_ret ?_
 obtain rfl := Option.some.inj h
 exact ⟨rfl, [_], ⟨rfl, trivial⟩, rfl, io⟩

theorem r08_those_ok {a0 : List Int} {a1 : List Int} {a2 : Bool} {r : List Int} (h : r08_those a0 a1 a2 = some r) : PCalls Tryz.prog 120 [.lst false (List.map (PV.int .i64) a0), .lst false (List.map (PV.int .i64) a1), .bool a2] (.lst false (List.map (PV.int .i64) r)) := by
 unfold r08_those at h
 refine pc_intro (N := 32) Tryz.func120 rfl rfl nl fun w0 imm0 => sR <| y0 rfl (o_assign (d := .lst true (List.map (PV.int .i64) [])) rfl) <| y_nil <| sR <| y0 rfl (o_nslice rfl Ty.e28 Ty.s3) <| y0 rfl (o_assign (d := .lst true (List.map (PV.int .i64) [])) rfl) <| y_nil ?_
 obtain ⟨κ14, hκ11, h⟩ := jnE h
 refine pw_jn0 (κ := κ14) (r := r) (fun (j15 : List Int) => St.of [(7, .sl 910007)] [(910007, ⟨List.map (PV.int .i64) j15, (List.map (PV.int .i64) j15).length, true, 1, true⟩)]) (fun j15 h => ?_) ?_
 ·subst hκ11
  refine sR <| y0 rfl (o_move (d := .sl 910007) rfl) <| y0 rfl (o_assign (d := .sl 910007) rfl) <| y_nil <| pw_ret ?_
  obtain rfl := Option.some.inj h
  exact ⟨rfl, [_], ⟨rfl, trivial⟩, rfl, io⟩
 ·skip
  refine sR <| y0 rfl (o_assign (d := .int .i64 0) rfl) <| y_nil <| pw_block ?_
  obtain ⟨e16, hl12, hk13⟩ := bindE h
  refine pw_lp0 (fun (q : Int × (List Int)) => St.of [(0, .lst false (List.map (PV.int .i64) a0)), (1, .lst false (List.map (PV.int .i64) a1)), (2, .bool a2), (7, .sl 910007), (8, .int .i64 q.1)] [(910007, ⟨List.map (PV.int .i64) q.2, (List.map (PV.int .i64) q.2).length, true, 1, true⟩)]) hl12 (Wk.trans (wk_nil (t := 7) (l := 920007) (z := 1) rfl rfl) (wk_stP (fun l => if l = 910007 then 920007 else l) _ _ ⟨rfl, rfl, rfl, rfl, rfl, rfl, rfl, rfl, rfl, rfl, rfl, rfl, rfl, rfl, rfl, trivial⟩ ⟨rN, trivial⟩ rfl)) (fun q20 x19 h hx14 => ?_)
  obtain ⟨s17, s18⟩ := q20
  refine pw_seq <| sR <| y0 rfl (o_move (d := .int .i64 s17) rfl) <| y0 rfl (o_move (d := .lst false (List.map (PV.int .i64) a0)) rfl) <| y0 rfl (o_lnL (f := (PV.int .i64)) rfl Ty.e28) <| y0 rfl (o_cmp rfl rfl rfl) <| y_nil ?_
  refine pw_cond (decide (s17 < (a0.length : Int))) rfl (fun hc => ?_) (fun hc => ?_)
  ·have h := ifT h hc
   refine pw_skip ?_
   obtain ⟨κ24, hκ18, h⟩ := jnE h
   refine pw_jn0 (κ := κ24) (r := x19) (fun (j25 : List Int) => St.of [(0, .lst false (List.map (PV.int .i64) a0)), (1, .lst false (List.map (PV.int .i64) a1)), (2, .bool a2), (7, .sl 30), (8, .int .i64 s17)] [(30, ⟨List.map (PV.int .i64) j25, (List.map (PV.int .i64) j25).length, true, 1, true⟩)]) (fun j25 h => ?_) ?_
   ·subst hκ18
    refine sr1 (by kernel_rfl) <| y0 rfl (o_move (d := .int .i64 s17) rfl) <| y0 rfl (o_ari rfl rfl rfl) <| y0 rfl (o_assign (d := .int .i64 (w64 (s17 + 1))) rfl) <| y_nil ?_
    exact ⟨rfl, (w64 (s17 + 1), j25), (Option.some.inj h).symm, (Wk.trans (wk_frz _ [30]) (wk_stP (fun l => if l = 910007 then 30 else l) _ _ ⟨rfl, rfl, rfl, rfl, rfl, rfl, rfl, rfl, rfl, rfl, rfl, rfl, rfl, rfl, rfl, trivial⟩ ⟨rN, trivial⟩ rfl))⟩
   ·skip
    refine pw_block <| sR <| y0 rfl (o_move (d := .lst false (List.map (PV.int .i64) a1)) rfl) <| y0 rfl (o_move (d := .lst false (List.map (PV.int .i64) a0)) rfl) <| y0 rfl (o_move (d := .int .i64 s17) rfl) ?_
    obtain ⟨v26, hv19, h⟩ := bindE h
    refine y0 rfl (o_ixL (f := (PV.int .i64)) (cs := [.int .i64 v26]) hv19 rfl rfl Ty.e28 Ty.s3 rfl rfl) <| y0 rfl (o_loadRS rfl Ty.a3 rfl) ?_
    obtain ⟨v27, hv20, h⟩ := bindE h
    refine y0 rfl (o_call (ds := [.lst false (List.map (PV.int .i64) a1), .int .i64 v26]) rfl Ty.k66 rfl (r08_Has_ok hv20)) <| y0 rfl (o_move (d := .bool a2) rfl) <| y0 rfl (o_eqB rfl rfl Ty.u4 rfl) <| y_nil ?_
    refine pw_cond (v27 == a2) rfl (fun hc => ?_) (fun hc => ?_)
    ·have h := ifT h hc
     refine sr1 (by kernel_rfl) <| y0 rfl (o_move (d := .sl 910007) rfl) <| y0 rfl (o_move (d := .lst false (List.map (PV.int .i64) a0)) rfl) <| y0 rfl (o_move (d := .int .i64 s17) rfl) <| y0 rfl (o_ixL (f := (PV.int .i64)) (cs := [.int .i64 v26]) hv19 rfl rfl Ty.e28 Ty.s3 rfl rfl) <| y0 rfl (o_loadRS rfl Ty.a3 rfl) <| y0 rfl (o_bI (f := (PV.int .i64)) (l := [v26]) rfl Ty.e28 Ty.s3 Ty.z3 rfl rfl nl rfl rfl) ?_
     obtain ⟨v28, hv21, h⟩ := bindE h
     refine y_app rfl (o_apR (f := (PV.int .i64)) hv21 rfl rfl rfl rfl rfl rfl (.inl ⟨_, rfl, rfl⟩) Ty.e28 Ty.s3 Ty.b3 Ty.z3 rfl (fun _ => rfl)) rfl rfl rfl <| y0 rfl (o_assign (d := .sl 30) rfl) <| y_nil ?_
     exact ⟨rfl, v28, h, (Wk.trans (wk_frz _ [30]) (wk_st _ _ ⟨rfl, rfl, rfl, rfl, rfl, rfl, rfl, rfl, rfl, rfl, rfl, rfl, rfl, rfl, rfl, trivial⟩ ⟨rS, trivial⟩))⟩
    ·have h := ifF h hc
     refine pw_skip ?_
     exact ⟨rfl, s18, h, (Wk.trans (wk_frz _ [910007]) (wk_stP (fun l => if l = 30 then 910007 else l) _ _ ⟨rfl, rfl, rfl, rfl, rfl, rfl, rfl, rfl, rfl, rfl, rfl, rfl, rfl, rfl, rfl, trivial⟩ ⟨rN, trivial⟩ rfl))⟩
  ·have h := ifF h hc
   refine pw_exit <| thenQ_exit <| thenQ_exit <| blockQ_exit ?_
   have he := hx14 _ (Option.some.inj h).symm
   have h := hk13
   rw [← he] at h
   exact ⟨rfl, s18, h, (Wk.trans (wk_frz _ [910007]) (wk_st _ _ ⟨rfl, rfl, rfl, trivial⟩ ⟨rS, trivial⟩))⟩

theorem r08_From_ok {a0 : r06_Store} {a1 : List Int} {r : List Int} (h : r08_From a0 a1 = some r) : PCalls Tryz.prog 112 [r06_Store.Pv a0, .lst false (List.map (PV.int .i64) a1)] (.lst false (List.map (PV.int .i64) r)) := by
 unfold r08_From at h
 refine pc_intro (N := 42) Tryz.func112 rfl rfl nl fun w0 imm0 => sR <| y1 rfl (o_box (d := r06_Store.Pv a0) (z := 3) (cl := true) rfl rfl rfl rfl rfl) rfl <| y0 rfl (o_assign (d := .lst true (List.map (PV.int .i64) [])) rfl) <| y_nil <| sR <| y0 rfl (o_loadA (cs := r06_Store.Pc a0) rfl rfl rfl Ty.a34 Ty.s34 nl rfl) ?_
 obtain ⟨v1, hv1, h⟩ := bindE h
 refine yc rfl (o_callF (ls := []) (ds := [r06_Store.Pv a0]) rfl Ty.k27 rfl (r06_Live_ok hv1)) <| y0 rfl (o_assign (d := .lst false (List.map (PV.int .i64) v1)) rfl) <| y_nil <| sR <| y0 rfl (o_move (d := .lst false (List.map (PV.int .i64) v1)) rfl) <| y0 rfl (o_move (d := .lst false (List.map (PV.int .i64) a1)) rfl) ?_
 obtain ⟨v2, hv2, h⟩ := bindE h
 refine yc rfl (o_callF (ls := []) (ds := [.lst false (List.map (PV.int .i64) v1), .lst false (List.map (PV.int .i64) a1), .bool true]) rfl Ty.k120 rfl (r08_those_ok hv2)) <| y0 rfl (o_assign (d := .lst false (List.map (PV.int .i64) v2)) rfl) <| y_nil ?_
 obtain ⟨κ50, hκ37, h⟩ := jnE h
 refine pw_jn0 (κ := κ50) (r := r) (fun (j51 : List Int) => St.of [(6, .lst false (List.map (PV.int .i64) j51))] []) (fun j51 h => ?_) ?_
 ·subst hκ37
  refine sR <| y0 rfl (o_move (d := .lst false (List.map (PV.int .i64) j51)) rfl) <| y0 rfl (o_assign (d := .lst false (List.map (PV.int .i64) j51)) rfl) <| y_nil <| pw_ret ?_
  obtain rfl := Option.some.inj h
  exact ⟨rfl, [_], ⟨rfl, trivial⟩, rfl, io⟩
 ·skip
  refine sR <| y0 rfl (o_assign (d := .int .i64 0) rfl) <| y_nil <| pw_block ?_
  obtain ⟨e52, hl38, hk39⟩ := bindE h
  refine pw_lp0 (fun (q : (List Int) × Int) => St.of [(2, .ptr 2 0 0), (5, .lst false (List.map (PV.int .i64) v1)), (6, .lst false (List.map (PV.int .i64) q.1)), (7, .int .i64 q.2)] [(2, ⟨[r06_Store.Pv a0], 0, false, 3, true⟩)]) hl38 (wk_st _ _ ⟨rfl, rfl, rfl, rfl, rfl, rfl, rfl, rfl, rfl, rfl, rfl, rfl, trivial⟩ ⟨rS, trivial⟩) (fun q56 x55 h hx40 => ?_)
  obtain ⟨s53, s54⟩ := q56
  refine pw_seq <| sR <| y0 rfl (o_move (d := .int .i64 s54) rfl) <| y0 rfl (o_move (d := .lst false (List.map (PV.int .i64) v1)) rfl) <| y0 rfl (o_lnL (f := (PV.int .i64)) rfl Ty.e28) <| y0 rfl (o_cmp rfl rfl rfl) <| y_nil ?_
  refine pw_cond (decide (s54 < (v1.length : Int))) rfl (fun hc => ?_) (fun hc => ?_)
  ·have h := ifT h hc
   refine pw_skip ?_
   obtain ⟨κ77, hκ56, h⟩ := jnE h
   refine pw_jn0 (κ := κ77) (r := x55) (fun (j78 : List Int) => St.of [(2, .ptr 2 0 0), (5, .lst false (List.map (PV.int .i64) v1)), (6, .lst false (List.map (PV.int .i64) j78)), (7, .int .i64 s54)] [(2, ⟨[r06_Store.Pv a0], 0, false, 3, true⟩)]) (fun j78 h => ?_) ?_
   ·subst hκ56
    refine sr1 (by kernel_rfl) <| y0 rfl (o_move (d := .int .i64 s54) rfl) <| y0 rfl (o_ari rfl rfl rfl) <| y0 rfl (o_assign (d := .int .i64 (w64 (s54 + 1))) rfl) <| y_nil ?_
    exact ⟨rfl, (j78, w64 (s54 + 1)), (Option.some.inj h).symm, (wk_st _ _ ⟨rfl, rfl, rfl, rfl, rfl, rfl, rfl, rfl, rfl, rfl, rfl, rfl, trivial⟩ ⟨rS, trivial⟩)⟩
   ·skip
    refine pw_block <| sR <| y0 rfl (o_nslice rfl Ty.e28 Ty.s3) <| y0 rfl (o_move (d := .lst false (List.map (PV.int .i64) s53)) rfl) ?_
    obtain ⟨v79, hv57, h⟩ := bindE h
    refine y1 rfl (o_apT (f := (PV.int .i64)) hv57 rfl rfl (.inl ⟨_, rfl, rfl⟩) Ty.e28 Ty.s3 Ty.b3 Ty.z3 rfl (fun _ => rfl)) rfl <| y0 rfl (o_assign (d := .sl 23) rfl) <| y_nil ?_
    obtain ⟨κ88, hκ64, h⟩ := jnE h
    refine pw_jn0 (κ := κ88) (r := x55) (fun (j89 : List Int) => St.of [(2, .ptr 2 0 0), (5, .lst false (List.map (PV.int .i64) v1)), (7, .int .i64 s54), (8, .sl 23)] [(23, ⟨List.map (PV.int .i64) j89, (List.map (PV.int .i64) j89).length, true, 1, true⟩), (2, ⟨[r06_Store.Pv a0], 0, false, 3, true⟩)]) (fun j89 h => ?_) ?_
    ·subst hκ64
     refine sr1 (by kernel_rfl) <| y0 rfl (o_move (d := .lst false (List.map (PV.int .i64) v1)) rfl) <| y0 rfl (o_move (d := .sl 23) rfl) ?_
     obtain ⟨v90, hv65, h⟩ := bindE h
     refine ycL rfl (o_callF (ls := [23]) (ds := [.lst false (List.map (PV.int .i64) v1), .sl 23, .bool true]) rfl Ty.k120 rfl (r08_those_ok hv65)) rfl <| y0 rfl (o_assign (d := .lst false (List.map (PV.int .i64) v90)) rfl) <| y_nil ?_
     exact ⟨rfl, v90, h, (wk_st _ _ ⟨rfl, rfl, rfl, rfl, rfl, rfl, rfl, rfl, rfl, rfl, rfl, rfl, trivial⟩ ⟨rS, trivial⟩)⟩
    ·skip
     refine sR <| y0 rfl (o_assign (d := .int .i64 0) rfl) <| y_nil <| pw_block ?_
     obtain ⟨e91, hl66, hk67⟩ := bindE h
     refine pw_lp0 (fun (q : Int × (List Int)) => St.of [(2, .ptr 2 0 0), (5, .lst false (List.map (PV.int .i64) v1)), (6, .lst false (List.map (PV.int .i64) s53)), (7, .int .i64 s54), (8, .sl 23), (9, .int .i64 q.1)] [(23, ⟨List.map (PV.int .i64) q.2, (List.map (PV.int .i64) q.2).length, true, 1, true⟩), (2, ⟨[r06_Store.Pv a0], 0, false, 3, true⟩)]) hl66 (Wk.trans (wk_frz _ [23]) (wk_st _ _ ⟨rfl, rfl, rfl, rfl, rfl, rfl, rfl, rfl, rfl, rfl, rfl, rfl, rfl, rfl, rfl, rfl, rfl, rfl, trivial⟩ ⟨rS, rS, trivial⟩)) (fun q95 x94 h hx68 => ?_)
     obtain ⟨s92, s93⟩ := q95
     refine pw_seq <| sR <| y0 rfl (o_move (d := .int .i64 s92) rfl) <| y0 rfl (o_move (d := .lst false (List.map (PV.int .i64) s53)) rfl) <| y0 rfl (o_lnL (f := (PV.int .i64)) rfl Ty.e28) <| y0 rfl (o_cmp rfl rfl rfl) <| y_nil ?_
     refine pw_cond (decide (s92 < (s53.length : Int))) rfl (fun hc => ?_) (fun hc => ?_)
     ·have h := ifT h hc
      refine pw_skip <| pw_seq <| pw_block <| pw_drw [] Ty.mix (by kernel_rfl) (by kernel_rfl) <| d7 rfl (fun _ hN => o_move (d := .sl 23) rfl) rfl <| d0 rfl (o_loadA (cs := r06_Store.Pc a0) rfl rfl rfl Ty.a34 Ty.s34 nl rfl) rfl <| d7 rfl (fun _ hN => o_move (d := .lst false (List.map (PV.int .i64) s53)) rfl) rfl <| d7 rfl (fun _ hN => o_move (d := .int .i64 s92) rfl) rfl ?_
      obtain ⟨v96, hv69, h⟩ := bindE h
      refine d0 rfl (o_ixL (f := (PV.int .i64)) (cs := [.int .i64 v96]) hv69 rfl rfl Ty.e28 Ty.s3 rfl rfl) rfl <| d0 rfl (o_loadRS rfl Ty.a3 rfl) rfl ?_
      obtain ⟨v97, hv70, h⟩ := bindE h
      refine d2f rfl (o_callF (ls := []) (ds := [r06_Store.Pv a0, .int .i64 v96]) rfl Ty.k53 rfl (r07_Out_ok hv70)) rfl ?_
      obtain ⟨v98, hv71, h⟩ := bindE h
      refine d3a rfl (o_apR (f := (PV.int .i64)) hv71 rfl rfl rfl rfl rfl rfl (.inl ⟨_, rfl, rfl⟩) Ty.e28 Ty.s3 Ty.b3 Ty.z3 rfl (fun _ => rfl)) rfl rfl rfl rfl rfl <| d7 rfl (fun _ hN => o_assign (d := .sl 37) rfl) rfl <| d_nil <| sr1 (by kernel_rfl) <| y0 rfl (o_move (d := .int .i64 s92) rfl) <| y0 rfl (o_ari rfl rfl rfl) <| y0 rfl (o_assign (d := .int .i64 (w64 (s92 + 1))) rfl) <| y_nil ?_
      exact ⟨rfl, (w64 (s92 + 1), v98), (Option.some.inj h).symm, (Wk.trans (wk_frz _ [37]) (wk_stP (fun l => if l = 23 then 37 else l) _ _ ⟨rfl, rfl, rfl, rfl, rfl, rfl, rfl, rfl, rfl, rfl, rfl, rfl, rfl, rfl, rfl, rfl, rfl, rfl, trivial⟩ ⟨rN, rN, trivial⟩ rfl))⟩
     ·have h := ifF h hc
      refine pw_exit <| thenQ_exit <| thenQ_exit <| blockQ_exit ?_
      have he := hx68 _ (Option.some.inj h).symm
      have h := hk67
      rw [← he] at h
      exact ⟨rfl, s93, h, (Wk.trans (wk_frz _ [23]) (wk_st _ _ ⟨rfl, rfl, rfl, rfl, rfl, rfl, rfl, rfl, rfl, rfl, rfl, rfl, trivial⟩ ⟨rS, rS, trivial⟩))⟩
  ·have h := ifF h hc
   refine pw_exit <| thenQ_exit <| thenQ_exit <| blockQ_exit ?_
   have he := hx40 _ (Option.some.inj h).symm
   have h := hk39
   rw [← he] at h
   exact ⟨rfl, s53, h, (wk_st _ _ ⟨rfl, rfl, rfl, trivial⟩ trivial)⟩

theorem r12_lives_ok {a0 : r06_Store} {a1 : Int} {r : Bool} (h : r12_lives a0 a1 = some r) : PCalls Tryz.prog 119 [r06_Store.Pv a0, .int .i64 a1] (.bool r) := by
 unfold r12_lives at h
 refine pc_intro (N := 15) Tryz.func119 rfl rfl nl fun w0 imm0 => sR <| y1 rfl (o_box (d := r06_Store.Pv a0) (z := 3) (cl := true) rfl rfl rfl rfl rfl) rfl <| y0 rfl (o_assign (d := .bool false) rfl) <| y_nil <| sR <| y0 rfl (o_loadA (cs := r06_Store.Pc a0) rfl rfl rfl Ty.a34 Ty.s34 nl rfl) <| y0 rfl (o_move (d := .int .i64 a1) rfl) ?_
 obtain ⟨v1, hv1, h⟩ := bindE h
 refine yc rfl (o_callF (ls := []) (ds := [r06_Store.Pv a0, .int .i64 a1]) rfl Ty.k51 rfl (r06_Get_ok hv1)) <| y0 rfl (o_move (d := .tup [r06_Obj.Pv v1.1, .int .i64 v1.2]) rfl) <| y0 rfl (o_extract rfl rfl) <| y0 rfl (o_extract rfl rfl) <| y1 rfl (o_alloc (d := .agg [.int .i64 0, .int .i64 0, .int .i64 0, .int .i64 0, .bool false, .lst true (List.map (PV.int .i64) [])]) (z := 6) rfl Ty.z67 rfl rfl rfl) rfl <| y_sto (x' := r06_Obj.Pv v1.1) (cl' := true) rfl rfl (.inr rfl) Ty.s67 <| y0 rfl (o_assign (d := .int .i64 v1.2) rfl) <| y_nil ?_
 refine sR <| y0 rfl (o_move (d := .int .i64 v1.2) rfl) <| y0 rfl (o_cmp rfl rfl rfl) <| y0 rfl (o_assign (d := .bool (v1.2 == 0)) rfl) <| y_nil <| pw_ret ?_
 obtain rfl := Option.some.inj h
 exact ⟨rfl, [_], ⟨rfl, trivial⟩, rfl, io⟩

theorem r12_held_ok {a0 : r06_Store} {a1 : List r10_Place} {a2 : List Int} {r : List Int} (h : r12_held a0 a1 a2 = some r) : PCalls Tryz.prog 72 [r06_Store.Pv a0, .lst false (List.map r10_Place.Pv a1), .lst false (List.map (PV.int .i64) a2)] (.lst false (List.map (PV.int .i64) r)) := by
 unfold r12_held at h
 refine pc_intro (N := 53) Tryz.func72 rfl rfl nl fun w0 imm0 => sR <| y1 rfl (o_box (d := r06_Store.Pv a0) (z := 3) (cl := true) rfl rfl rfl rfl rfl) rfl <| y0 rfl (o_assign (d := .lst true (List.map (PV.int .i64) [])) rfl) <| y_nil <| sR <| y0 rfl (o_nslice rfl Ty.e28 Ty.s3) <| y0 rfl (o_assign (d := .lst true (List.map (PV.int .i64) [])) rfl) ?_
 refine y_nil <| sR <| y0 rfl (o_move (d := .lst false (List.map r10_Place.Pv a1)) rfl) ?_
 obtain ⟨v1, hv1, h⟩ := bindE h
 refine yc rfl (o_callF (ls := []) (ds := [.lst false (List.map r10_Place.Pv a1)]) rfl Ty.k56 rfl (r11_Pairs_ok hv1)) <| y0 rfl (o_assign (d := .lst false (List.map r11_Pair.Pv v1)) rfl) <| y_nil ?_
 obtain ⟨κ19, hκ16, h⟩ := jnE h
 refine pw_jn0 (κ := κ19) (r := r) (fun (j20 : List Int) => St.of [(7, .sl 910007)] [(910007, ⟨List.map (PV.int .i64) j20, (List.map (PV.int .i64) j20).length, true, 1, true⟩)]) (fun j20 h => ?_) ?_
 ·subst hκ16
  refine sR <| y0 rfl (o_move (d := .sl 910007) rfl) <| y0 rfl (o_assign (d := .sl 910007) rfl) <| y_nil <| pw_ret ?_
  obtain rfl := Option.some.inj h
  exact ⟨rfl, [_], ⟨rfl, trivial⟩, rfl, io⟩
 ·skip
  refine sR <| y0 rfl (o_assign (d := .int .i64 0) rfl) <| y_nil <| pw_block ?_
  obtain ⟨e21, hl17, hk18⟩ := bindE h
  refine pw_lp0 (fun (q : Int × (List Int)) => St.of [(2, .lst false (List.map (PV.int .i64) a2)), (3, .ptr 3 0 0), (7, .sl 910007), (8, .lst false (List.map r11_Pair.Pv v1)), (9, .int .i64 q.1)] [(3, ⟨[r06_Store.Pv a0], 0, false, 3, true⟩), (910007, ⟨List.map (PV.int .i64) q.2, (List.map (PV.int .i64) q.2).length, true, 1, true⟩)]) hl17 (Wk.trans (wk_nil (t := 7) (l := 920007) (z := 1) rfl rfl) (wk_stP (fun l => if l = 910007 then 920007 else l) _ _ ⟨rfl, rfl, rfl, rfl, rfl, rfl, rfl, rfl, rfl, rfl, rfl, rfl, rfl, rfl, rfl, trivial⟩ ⟨rN, rN, trivial⟩ rfl)) (fun q25 x24 h hx19 => ?_)
  obtain ⟨s22, s23⟩ := q25
  refine pw_seq <| sR <| y0 rfl (o_move (d := .int .i64 s22) rfl) <| y0 rfl (o_move (d := .lst false (List.map r11_Pair.Pv v1)) rfl) <| y0 rfl (o_lnL (f := r11_Pair.Pv) rfl Ty.e78) <| y0 rfl (o_cmp rfl rfl rfl) <| y_nil ?_
  refine pw_cond (decide (s22 < (v1.length : Int))) rfl (fun hc => ?_) (fun hc => ?_)
  ·have h := ifT h hc
   refine pw_skip ?_
   obtain ⟨κ31, hκ25, h⟩ := jnE h
   refine pw_jn0 (κ := κ31) (r := x24) (fun (j32 : List Int) => St.of [(2, .lst false (List.map (PV.int .i64) a2)), (3, .ptr 3 0 0), (7, .sl 51), (8, .lst false (List.map r11_Pair.Pv v1)), (9, .int .i64 s22)] [(51, ⟨List.map (PV.int .i64) j32, (List.map (PV.int .i64) j32).length, true, 1, true⟩), (3, ⟨[r06_Store.Pv a0], 0, false, 3, true⟩)]) (fun j32 h => ?_) ?_
   ·subst hκ25
    refine sr1 (by kernel_rfl) <| y0 rfl (o_move (d := .int .i64 s22) rfl) <| y0 rfl (o_ari rfl rfl rfl) <| y0 rfl (o_assign (d := .int .i64 (w64 (s22 + 1))) rfl) <| y_nil ?_
    exact ⟨rfl, (w64 (s22 + 1), j32), (Option.some.inj h).symm, (Wk.trans (wk_frz _ [51]) (wk_stP (fun l => if l = 910007 then 51 else l) _ _ ⟨rfl, rfl, rfl, rfl, rfl, rfl, rfl, rfl, rfl, rfl, rfl, rfl, rfl, rfl, rfl, trivial⟩ ⟨rN, rN, trivial⟩ rfl))⟩
   ·skip
    refine pw_block <| dr [] Ty.mix (by kernel_rfl) (by kernel_rfl) <| d0 rfl (o_loadA (cs := r06_Store.Pc a0) rfl rfl rfl Ty.a34 Ty.s34 nl rfl) rfl <| d7 rfl (fun _ hN => o_move (d := .lst false (List.map r11_Pair.Pv v1)) rfl) rfl <| d7 rfl (fun _ hN => o_move (d := .int .i64 s22) rfl) rfl ?_
    obtain ⟨v33, hv26, h⟩ := bindE h
    refine d0 rfl (o_ixL (f := r11_Pair.Pv) (cs := r11_Pair.Pc v33) hv26 rfl rfl Ty.e78 Ty.s80 rfl rfl) rfl <| d7 rfl (fun _ hN => o_fieldAddrR rfl Ty.f80_0 rfl) rfl <| d0 rfl (o_loadRS rfl Ty.a3 rfl) rfl ?_
    obtain ⟨v34, hv27, h⟩ := bindE h
    refine d2 rfl (o_call (ds := [r06_Store.Pv a0, .int .i64 v33.Key]) rfl Ty.k119 rfl (r12_lives_ok hv27)) rfl <| d7 rfl (fun _ hN => o_move (d := .bool v34) rfl) rfl <| d_if7 (g := (v34 == true)) rfl (fun hg _ hN => o_move (d := .lst false (List.map (PV.int .i64) a2)) rfl) rfl <| d_if7 (g := (v34 == true)) rfl (fun hg _ hN => o_move (d := .lst false (List.map r11_Pair.Pv v1)) rfl) rfl <| d_if7 (g := (v34 == true)) rfl (fun hg _ hN => o_move (d := .int .i64 s22) rfl) rfl <| d_if0 (g := (v34 == true)) rfl (fun hg => o_ixL (f := r11_Pair.Pv) (cs := r11_Pair.Pc v33) hv26 (ct hg) (ct hg) Ty.e78 Ty.s80 rfl rfl) rfl <| d_if7 (g := (v34 == true)) rfl (fun hg _ hN => o_fieldAddrR (ct hg) Ty.f80_0 rfl) rfl <| d_if0 (g := (v34 == true)) rfl (fun hg => o_loadRS (ct hg) Ty.a3 rfl) rfl ?_
    obtain ⟨v35, hv28, h⟩ := bindE h
    refine d_if2 (g := (v34 == true)) rfl (fun hg => o_call (ds := [.lst false (List.map (PV.int .i64) a2), .int .i64 v33.Key]) rfl Ty.k66 (consE (ct hg) (consE (ct hg) rfl)) (r08_Has_ok (onlyE hv28 hg))) rfl <| d7 rfl (fun _ hN => pk_and rfl rfl rfl (fun q => eqT q)) rfl <| d7 rfl (fun _ hN => o_move (d := .bool (v34 && v35)) rfl) rfl <| d_if0 (g := ((v34 && v35) == true)) rfl (fun hg => o_loadA (cs := r06_Store.Pc a0) rfl rfl rfl Ty.a34 Ty.s34 nl rfl) rfl <| d_if7 (g := ((v34 && v35) == true)) rfl (fun hg _ hN => o_move (d := .lst false (List.map r11_Pair.Pv v1)) rfl) rfl <| d_if7 (g := ((v34 && v35) == true)) rfl (fun hg _ hN => o_move (d := .int .i64 s22) rfl) rfl <| d_if0 (g := ((v34 && v35) == true)) rfl (fun hg => o_ixL (f := r11_Pair.Pv) (cs := r11_Pair.Pc v33) hv26 (ct hg) (ct hg) Ty.e78 Ty.s80 rfl rfl) rfl <| d_if7 (g := ((v34 && v35) == true)) rfl (fun hg _ hN => o_fieldAddrR (ct hg) Ty.f80_1 rfl) rfl ?_
    refine d_if0 (g := ((v34 && v35) == true)) rfl (fun hg => o_loadRS (ct hg) Ty.a3 rfl) rfl ?_
    obtain ⟨v36, hv29, h⟩ := bindE h
    refine d_if2 (g := ((v34 && v35) == true)) rfl (fun hg => o_call (ds := [r06_Store.Pv a0, .int .i64 v33.Val]) rfl Ty.k119 (consE (ct hg) (consE (ct hg) rfl)) (r12_lives_ok (onlyE hv29 hg))) rfl <| d7 rfl (fun _ hN => pk_and rfl rfl rfl (fun q => eqT q)) rfl <| d_nil ?_
    refine pw_cond ((v34 && v35) && v36) rfl (fun hc => ?_) (fun hc => ?_)
    ·have h := ifT h hc
     refine sr1 (by kernel_rfl) <| y0 rfl (o_move (d := .sl 910007) rfl) <| y0 rfl (o_move (d := .lst false (List.map r11_Pair.Pv v1)) rfl) <| y0 rfl (o_move (d := .int .i64 s22) rfl) <| y0 rfl (o_ixL (f := r11_Pair.Pv) (cs := r11_Pair.Pc v33) hv26 rfl rfl Ty.e78 Ty.s80 rfl rfl) <| y0 rfl (o_fieldAddrR rfl Ty.f80_1 rfl) <| y0 rfl (o_loadRS rfl Ty.a3 rfl) <| y0 rfl (o_bI (f := (PV.int .i64)) (l := [v33.Val]) rfl Ty.e28 Ty.s3 Ty.z3 rfl rfl nl rfl rfl) ?_
     obtain ⟨v37, hv30, h⟩ := bindE h
     refine y_app rfl (o_apR (f := (PV.int .i64)) hv30 rfl rfl rfl rfl rfl rfl (.inl ⟨_, rfl, rfl⟩) Ty.e28 Ty.s3 Ty.b3 Ty.z3 rfl (fun _ => rfl)) rfl rfl rfl <| y0 rfl (o_assign (d := .sl 51) rfl) <| y_nil ?_
     exact ⟨rfl, v37, h, (Wk.trans (wk_frz _ [51]) (wk_st _ _ ⟨rfl, rfl, rfl, rfl, rfl, rfl, rfl, rfl, rfl, rfl, rfl, rfl, rfl, rfl, rfl, trivial⟩ ⟨rS, rS, trivial⟩))⟩
    ·have h := ifF h hc
     refine pw_skip ?_
     exact ⟨rfl, s23, h, (Wk.trans (wk_frz _ [910007]) (wk_stP (fun l => if l = 51 then 910007 else l) _ _ ⟨rfl, rfl, rfl, rfl, rfl, rfl, rfl, rfl, rfl, rfl, rfl, rfl, rfl, rfl, rfl, trivial⟩ ⟨rN, rN, trivial⟩ rfl))⟩
  ·have h := ifF h hc
   refine pw_exit <| thenQ_exit <| thenQ_exit <| blockQ_exit ?_
   have he := hx19 _ (Option.some.inj h).symm
   have h := hk18
   rw [← he] at h
   exact ⟨rfl, s23, h, (Wk.trans (wk_frz _ [910007]) (wk_st _ _ ⟨rfl, rfl, rfl, trivial⟩ ⟨rS, trivial⟩))⟩

end Go.Proofs.YtkjilddlbaibfaaGreat.Ok
