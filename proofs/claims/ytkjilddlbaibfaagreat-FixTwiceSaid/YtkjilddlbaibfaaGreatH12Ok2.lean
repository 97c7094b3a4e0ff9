/-
 The functions of the program do as the plain functions do.
-/
import Derived.Test.YtkjilddlbaibfaaGreatH12Ok1
namespace Go.Proofs.YtkjilddlbaibfaaGreat.Ok
open Go Go.Pw Go.Sh Go.Proofs
set_option linter.unusedVariables false
set_option maxRecDepth 100000
set_option maxHeartbeats 4000000
theorem ephem_gathered_ephem_Pair__ephem_pairs_1__ephem_Pairs_1_ok {a0 : List hash_Place} {r : List ephem_Pair} (h : ephem_gathered_ephem_Pair__ephem_pairs_1__ephem_Pairs_1 a0 = some r) : PCalls Tryz.prog 79 [.fn (.func 128) [.rptr [.lst false (List.map hash_Place.Pv a0)]], .fn (.func 81) []] (.lst false (List.map ephem_Pair.Pv r)) := by
 unfold ephem_gathered_ephem_Pair__ephem_pairs_1__ephem_Pairs_1 at h
 refine pc_intro (N := 17) Tryz.func79 rfl rfl nl fun w0 imm0 => sR <| y1 rfl (o_box (d := .fn (.func 81) []) (z := 1) (cl := true) rfl rfl rfl rfl rfl) rfl <| y0 rfl (o_assign (d := .lst true (List.map ephem_Pair.Pv [])) rfl) <| y_nil <| sR <| y1 rfl (o_alloc (d := .lst true (List.map ephem_Pair.Pv [])) (z := 1) rfl Ty.z49 rfl rfl rfl) rfl <| y_nil ?_
 obtain ⟨κ15, hκ19, h⟩ := jnE h
 refine pw_jn0 (κ := κ15) (r := r) (fun (j16 : List ephem_Pair) => St.of [(5, .ptr 2001 0 0)] [(2001, ⟨[.sl 912501], 0, false, 1, false⟩), (912501, ⟨List.map ephem_Pair.Pv j16, (List.map ephem_Pair.Pv j16).length, true, 2, true⟩)]) (fun j16 h => ?_) ?_
 ·subst hκ19
  refine sR <| y0 rfl (o_loadS rfl rfl rfl Ty.a49 rfl) <| y0 rfl (o_assign (d := .sl 912501) rfl) <| y_nil <| pw_ret ?_
  obtain rfl := Option.some.inj h
  exact ⟨rfl, [_], ⟨rfl, trivial⟩, rfl, io⟩
 ·skip
  refine sR <| y0 rfl (o_move (d := .fn (.func 128) [.rptr [.lst false (List.map hash_Place.Pv a0)]]) rfl) <| y_nil <| pw_block <| pw_wk (wk_stP (fun l => if l = 2012 then 5 else if l = 2013 then 3 else l) [(3, .ptr 2013 0 0), (5, .ptr 2012 0 0), (7, .fn (.func 128) [.rptr [.lst false (List.map hash_Place.Pv a0)]])] [(2012, ⟨[.lst true (List.map ephem_Pair.Pv [])], 0, false, 1, true⟩), (2013, ⟨[.fn (.func 81) []], 0, false, 1, true⟩)] ⟨rfl, rfl, rfl, rfl, rfl, rfl, rfl, rfl, rfl, trivial⟩ ⟨rN, rN, trivial⟩ rfl) ?_
  refine pw_range (fn := Tryz.f128) (N1 := 27) rfl Tryz.func128 rfl rfl nl rfl Ty.k128 rfl rfl (fun l20 e21 o22 hR23 => ?_)
  refine sR <| y0 rfl (o_loadRS rfl Ty.a27 rfl) ?_
  obtain ⟨v17, hv24, h⟩ := bindE h
  refine yc rfl (o_callF (ls := []) (ds := [.lst false (List.map hash_Place.Pv a0)]) rfl Ty.k129 rfl (hash_Keys_ok hv24)) <| y0 rfl (o_lnL (f := (PV.int .i64)) rfl Ty.e28) <| y0 rfl (o_move (d := .int .i64 0) rfl) <| y_nil <| pw_block ?_
  obtain ⟨e18, hl25, hk26⟩ := bindE h
  refine pw_lp0 (fun (q : Int × (List ephem_Pair)) => St.of [(1000003, .ptr 2013 0 0), (1000005, .ptr 2012 0 0), (1000007, .fn (.func 128) [.rptr [.lst false (List.map hash_Place.Pv a0)]]), (0, .fn (.yield l20) []), (1, .rptr [.lst false (List.map hash_Place.Pv a0)]), (8, .lst false (List.map (PV.int .i64) v17)), (9, .int .i64 (v17.length : Int)), (10, .int .i64 q.1)] [(2012, ⟨[.sl 912512], 0, false, 1, false⟩), (2013, ⟨[.fn (.func 81) []], 0, false, 1, true⟩), (912512, ⟨List.map ephem_Pair.Pv q.2, (List.map ephem_Pair.Pv q.2).length, true, 2, true⟩)]) hl25 (Wk.trans (wk_nilC (l0 := 2012) (j := 0) (l := 922512) (z := 2) rfl rfl rfl rfl rfl) (wk_stP (fun l => if l = 912512 then 922512 else l) _ _ ⟨rfl, rfl, rfl, rfl, rfl, rfl, rfl, rfl, rfl, rfl, rfl, rfl, rfl, rfl, rfl, rfl, rfl, rfl, rfl, rfl, rfl, rfl, rfl, rfl, trivial⟩ ⟨rowLe_open rfl rfl rfl (fun q => nomatch q) rfl rfl rfl rfl, rN, rN, trivial⟩ rfl)) (fun q22 x21 h hx27 => ?_)
  obtain ⟨s19, s20⟩ := q22
  refine sR <| y0 rfl (o_cmp rfl rfl rfl) <| y_nil <| pw_seq ?_
  refine pw_cond (decide (s19 < (v17.length : Int))) rfl (fun hc => ?_) (fun hc => ?_)
  ·have h := ifT h hc
   refine pw_skip <| pw_seq <| pw_block <| sR ?_
   obtain ⟨v23, hv28, h⟩ := bindE h
   refine y0 rfl (o_ixL (f := (PV.int .i64)) (cs := [.int .i64 v23]) hv28 rfl rfl Ty.e28 Ty.s3 rfl rfl) <| y0 rfl (o_loadRS rfl Ty.a3 rfl) <| y0 rfl (o_assign (d := .int .i64 v23) rfl) <| y_nil <| sR <| y0 rfl (o_loadRS rfl Ty.a27 rfl) <| y0 rfl (o_move (d := .int .i64 v23) rfl) ?_
   obtain ⟨v24, hv29, h⟩ := bindE h
   refine y0 rfl (o_call (ds := [.lst false (List.map hash_Place.Pv a0), .int .i64 v23]) rfl Ty.k82 rfl (hash_Get_ok hv29)) <| y0 rfl (o_move (d := .tup [.int .i64 v24.1, .int .i64 v24.2]) rfl) <| y0 rfl (o_extract rfl rfl) <| y0 rfl (o_extract rfl rfl) <| y0 rfl (o_assign (d := .int .i64 v24.1) rfl) <| y0 rfl (o_assign (d := .int .i64 v24.2) rfl) <| y_nil <| sR ?_
   refine y0 rfl (o_move (d := .fn (.yield l20) []) rfl) <| y0 rfl (o_move (d := .int .i64 v23) rfl) <| y0 rfl (o_move (d := .int .i64 v24.1) rfl) <| y0 rfl (o_build (cs := [.int .i64 v23, .int .i64 v24.1]) rfl Ty.p52 Ty.z52 rfl rfl rfl) <| y_wk (wk_stP (fun l => if l = 2021 then 912512 else l) [(1000003, .ptr 2013 0 0), (1000005, .ptr 2012 0 0), (1000007, .fn (.func 128) [.rptr [.lst false (List.map hash_Place.Pv a0)]]), (0, .fn (.yield l20) []), (1, .rptr [.lst false (List.map hash_Place.Pv a0)]), (8, .lst false (List.map (PV.int .i64) v17)), (9, .int .i64 (v17.length : Int)), (10, .int .i64 s19), (20, .fn (.yield l20) []), (23, .agg [.int .i64 v23, .int .i64 v24.1])] [(2012, ⟨[.sl 2021], 0, false, 1, false⟩), (2021, ⟨List.map ephem_Pair.Pv s20, (List.map ephem_Pair.Pv s20).length, true, 2, true⟩), (2013, ⟨[.fn (.func 81) []], 0, false, 1, true⟩)] ⟨rfl, rfl, rfl, rfl, rfl, rfl, rfl, rfl, rfl, rfl, rfl, rfl, rfl, rfl, rfl, rfl, rfl, rfl, rfl, rfl, rfl, rfl, rfl, rfl, rfl, rfl, rfl, rfl, rfl, rfl, trivial⟩ ⟨rowLe_open rfl rfl rfl (fun q => nomatch q) rfl rfl rfl rfl, rN, rN, trivial⟩ rfl) ?_
   refine y_yield hR23 rfl rfl rfl rfl rfl rfl (fun e30 o31 o32 => ?_)
   refine sr1 (by kernel_rfl) <| y1 rfl (o_alloc (d := .agg [.int .i64 0, .int .i64 0]) (z := 2) rfl Ty.z52 rfl rfl rfl) rfl <| y_sto (x' := .agg [.int .i64 v23, .int .i64 v24.1]) (cl' := true) rfl rfl (.inl rfl) Ty.s52 <| y_nil ?_
   refine ⟨rfl, ?_⟩
   obtain ⟨κ27, hκ35, h⟩ := jnE h
   refine pw_jnE (κ := κ27) (r := x21) (fun (j28 : List ephem_Pair) => St.of [(2000003, .ptr 2013 0 0), (2000005, .ptr 2012 0 0), (2000007, .fn (.func 128) [.rptr [.lst false (List.map hash_Place.Pv a0)]]), (1000000, .fn (.yield l20) []), (1000001, .rptr [.lst false (List.map hash_Place.Pv a0)]), (1000008, .lst false (List.map (PV.int .i64) v17)), (1000009, .int .i64 (v17.length : Int)), (1000010, .int .i64 s19), (1000020, .fn (.yield l20) []), (1000023, .agg [.int .i64 v23, .int .i64 v24.1])] [(2012, ⟨[.sl 15], 0, false, 1, false⟩), (15, ⟨List.map ephem_Pair.Pv j28, (List.map ephem_Pair.Pv j28).length, true, 2, true⟩), (2013, ⟨[.fn (.func 81) []], 0, false, 1, true⟩)]) (fun j28 h => ?_) ?_
   ·subst hκ35
    refine ⟨rfl, ?_⟩
    refine y_wk (wk_stP (fun l => if l = 2022 then 15 else l) [(1000003, .ptr 2013 0 0), (1000005, .ptr 2012 0 0), (1000007, .fn (.func 128) [.rptr [.lst false (List.map hash_Place.Pv a0)]]), (0, .fn (.yield l20) []), (1, .rptr [.lst false (List.map hash_Place.Pv a0)]), (8, .lst false (List.map (PV.int .i64) v17)), (9, .int .i64 (v17.length : Int)), (10, .int .i64 s19), (24, .bool true)] [(2012, ⟨[.sl 2022], 0, false, 1, false⟩), (2022, ⟨List.map ephem_Pair.Pv j28, (List.map ephem_Pair.Pv j28).length, true, 2, true⟩), (2013, ⟨[.fn (.func 81) []], 0, false, 1, true⟩)] ⟨rfl, rfl, rfl, rfl, rfl, rfl, rfl, rfl, rfl, rfl, rfl, rfl, rfl, rfl, rfl, rfl, rfl, rfl, rfl, rfl, rfl, rfl, rfl, rfl, rfl, rfl, rfl, trivial⟩ ⟨rowLe_open rfl rfl rfl (fun q => nomatch q) rfl rfl rfl rfl, rN, rN, trivial⟩ rfl) <| y0 rfl (o_not rfl rfl) <| y_nil ?_
    refine pw_cond false rfl (fun q => nomatch q) (fun _ => ?_)
    refine pw_skip <| sr1 (by kernel_rfl) <| y0 rfl (o_ari rfl rfl rfl) <| y0 rfl (o_move (d := .int .i64 (w64 (s19 + 1))) rfl) <| y_nil ?_
    exact ⟨rfl, (w64 (s19 + 1), j28), (Option.some.inj h).symm, (Wk.trans (wk_frz _ [2022]) (wk_stP (fun l => if l = 912512 then 2022 else l) _ _ ⟨rfl, rfl, rfl, rfl, rfl, rfl, rfl, rfl, rfl, rfl, rfl, rfl, rfl, rfl, rfl, rfl, rfl, rfl, rfl, rfl, rfl, rfl, rfl, rfl, trivial⟩ ⟨rowLe_open rfl rfl rfl (fun q => nomatch q) rfl rfl rfl rfl, rN, rN, trivial⟩ rfl))⟩
   ·skip
    refine pw_block <| sR <| y0 rfl (o_loadS rfl rfl rfl Ty.a111 rfl) <| y0 rfl (o_loadA (cs := [.int .i64 v23, .int .i64 v24.1]) rfl rfl rfl Ty.a52 Ty.s52 nl rfl) ?_
    obtain ⟨v29, hv36, h⟩ := bindE h
    refine y0 rfl (o_call (ds := [.agg [.int .i64 v23, .int .i64 v24.1]]) rfl Ty.k81 rfl (ephem_Pairs_1_ok hv36)) <| y_nil ?_
    refine pw_cond v29 rfl (fun hc => ?_) (fun hc => ?_)
    ·have h := ifT h hc
     refine sr1 (by kernel_rfl) <| y0 rfl (o_loadS rfl rfl rfl Ty.a49 rfl) <| y0 rfl (o_loadA (cs := [.int .i64 v23, .int .i64 v24.1]) rfl rfl rfl Ty.a52 Ty.s52 nl rfl) <| y0 rfl (o_bI (f := ephem_Pair.Pv) (l := [(⟨v23, v24.1⟩ : ephem_Pair)]) rfl Ty.e49 Ty.s52 Ty.z52 rfl rfl nl rfl rfl) ?_
     obtain ⟨v30, hv37, h⟩ := bindE h
     refine y_app rfl (o_apR (f := ephem_Pair.Pv) hv37 rfl rfl rfl rfl rfl rfl (.inl ⟨_, rfl, rfl⟩) Ty.e49 Ty.s52 Ty.b52 Ty.z52 rfl (fun _ => rfl)) rfl rfl rfl <| y_sto (x' := .sl 15) (cl' := false) rfl rfl (.inl rfl) Ty.s49 <| y_nil ?_
     exact ⟨rfl, v30, h, (Wk.trans (wk_frz _ [15]) (wk_st _ _ ⟨rfl, rfl, rfl, rfl, rfl, rfl, rfl, rfl, rfl, rfl, rfl, rfl, rfl, rfl, rfl, rfl, rfl, rfl, rfl, rfl, rfl, rfl, rfl, rfl, rfl, rfl, rfl, rfl, rfl, rfl, trivial⟩ ⟨rowLe_open rfl rfl rfl (fun q => nomatch q) rfl rfl rfl rfl, rS, rS, trivial⟩))⟩
    ·have h := ifF h hc
     refine pw_skip ?_
     exact ⟨rfl, s20, h, (Wk.trans (wk_frz _ [2021]) (wk_stP (fun l => if l = 15 then 2021 else l) _ _ ⟨rfl, rfl, rfl, rfl, rfl, rfl, rfl, rfl, rfl, rfl, rfl, rfl, rfl, rfl, rfl, rfl, rfl, rfl, rfl, rfl, rfl, rfl, rfl, rfl, rfl, rfl, rfl, rfl, rfl, rfl, trivial⟩ ⟨rowLe_open rfl rfl rfl (fun q => nomatch q) rfl rfl rfl rfl, rN, rN, trivial⟩ rfl))⟩
  ·have h := ifF h hc
   refine pw_exit <| thenQ_exit <| thenQ_exit <| blockQ_exit ?_
   refine .inl ⟨rfl, ?_⟩
   have he := hx27 _ (Option.some.inj h).symm
   have h := hk26
   rw [← he] at h
   exact ⟨rfl, s20, h, (Wk.trans (wk_frz _ [912512]) (wk_stP (fun l => if l = 2001 then 2012 else if l = 912501 then 912512 else l) _ _ ⟨rfl, rfl, rfl, trivial⟩ ⟨rowLe_open rfl rfl rfl (fun q => nomatch q) rfl rfl rfl rfl, rN, trivial⟩ rfl))⟩

theorem ephem_Pairs_ok {a0 : List hash_Place} {r : List ephem_Pair} (h : ephem_Pairs a0 = some r) : PCalls Tryz.prog 30 [.lst false (List.map hash_Place.Pv a0)] (.lst false (List.map ephem_Pair.Pv r)) := by
 unfold ephem_Pairs at h
 refine pc_intro (N := 6) Tryz.func30 rfl rfl nl fun w0 imm0 => sR <| y0 rfl (o_assign (d := .lst true (List.map ephem_Pair.Pv [])) rfl) <| y_nil <| sR <| y0 rfl (o_move (d := .lst false (List.map hash_Place.Pv a0)) rfl) ?_
 obtain ⟨v1, hv1, h⟩ := bindE h
 refine yc rfl (o_callF (ls := []) (ds := [.lst false (List.map hash_Place.Pv a0)]) rfl Ty.k80 rfl (ephem_pairs_ok hv1)) ?_
 obtain ⟨v2, hv2, h⟩ := bindE h
 refine yc rfl (o_callF (ls := []) (ds := [.fn (.func 128) [.rptr [.lst false (List.map hash_Place.Pv v1)]], .fn (.func 81) []]) rfl Ty.k79 rfl (ephem_gathered_ephem_Pair__ephem_pairs_1__ephem_Pairs_1_ok hv2)) <| y0 rfl (o_assign (d := .lst false (List.map ephem_Pair.Pv v2)) rfl) <| y_nil <| pw_ret ?_
 obtain rfl := Option.some.inj h
 exact ⟨rfl, [_], ⟨rfl, trivial⟩, rfl, io⟩

theorem slices_Index_int_int_ok {a0 : List Int} {a1 : Int} {r : Int} (h : slices_Index_int_int a0 a1 = some r) : PCalls Tryz.prog 114 [.lst false (List.map (PV.int .i64) a0), .int .i64 a1] (.int .i64 r) := by
 unfold slices_Index_int_int at h
 refine pc_intro (N := 19) Tryz.func114 rfl rfl nl fun w0 imm0 => sR <| y0 rfl (o_assign (d := .int .i64 0) rfl) <| y_nil ?_
 obtain ⟨κ5, hκ5, h⟩ := jnE h
 refine pw_jn0 (κ := κ5) (r := r) (fun (_ : Unit) => St.of [] []) (fun q6 h => ?_) ?_
 ·subst hκ5
  refine sR <| y0 rfl (o_assign (d := .int .i64 (-1)) rfl) <| y_nil <| pw_ret ?_
  obtain rfl := Option.some.inj h
  exact ⟨rfl, [_], ⟨rfl, trivial⟩, rfl, io⟩
 ·skip
  refine sR <| y0 rfl (o_move (d := .lst false (List.map (PV.int .i64) a0)) rfl) <| y0 rfl (o_lnL (f := (PV.int .i64)) rfl Ty.e28) <| y0 rfl (o_move (d := .int .i64 0) rfl) <| y_nil <| pw_block ?_
  obtain ⟨e7, hl6, hk7⟩ := bindE h
  refine pw_lp0 (fun (s8 : Int) => St.of [(0, .lst false (List.map (PV.int .i64) a0)), (1, .int .i64 a1), (7, .int .i64 (a0.length : Int)), (8, .int .i64 s8)] []) hl6 (wk_st _ _ ⟨rfl, rfl, rfl, rfl, rfl, rfl, rfl, rfl, rfl, rfl, rfl, rfl, trivial⟩ trivial) (fun s8 x9 h hx8 => ?_)
  refine sR <| y0 rfl (o_cmp rfl rfl rfl) <| y_nil <| pw_seq ?_
  refine pw_cond (decide (s8 < (a0.length : Int))) rfl (fun hc => ?_) (fun hc => ?_)
  ·have h := ifT h hc
   refine pw_skip <| pw_seq <| pw_block <| sR <| y0 rfl (o_move (d := .int .i64 s8) rfl) <| y0 rfl (o_assign (d := .int .i64 s8) rfl) <| y_nil <| sR ?_
   refine y0 rfl (o_move (d := .int .i64 a1) rfl) <| y0 rfl (o_move (d := .lst false (List.map (PV.int .i64) a0)) rfl) <| y0 rfl (o_move (d := .int .i64 s8) rfl) ?_
   obtain ⟨v10, hv9, h⟩ := bindE h
   refine y0 rfl (o_ixL (f := (PV.int .i64)) (cs := [.int .i64 v10]) hv9 rfl rfl Ty.e28 Ty.s3 rfl rfl) <| y0 rfl (o_loadRS rfl Ty.a3 rfl) <| y0 rfl (o_cmp rfl rfl rfl) <| y_nil ?_
   refine pw_cond (a1 == v10) rfl (fun hc => ?_) (fun hc => ?_)
   ·have h := ifT h hc
    refine sR <| y0 rfl (o_move (d := .int .i64 s8) rfl) <| y0 rfl (o_assign (d := .int .i64 s8) rfl) <| y_nil <| pw_ret ?_
    have he := hx8 _ (Option.some.inj h).symm
    have h := hk7
    rw [← he] at h
    obtain rfl := Option.some.inj h
    exact ⟨rfl, [_], ⟨rfl, trivial⟩, rfl, io⟩
   ·have h := ifF h hc
    refine pw_skip <| sr1 (by kernel_rfl) <| y0 rfl (o_ari rfl rfl rfl) <| y0 rfl (o_move (d := .int .i64 (w64 (s8 + 1))) rfl) <| y_nil ?_
    exact ⟨rfl, w64 (s8 + 1), (Option.some.inj h).symm, (wk_st _ _ ⟨rfl, rfl, rfl, rfl, rfl, rfl, rfl, rfl, rfl, rfl, rfl, rfl, trivial⟩ trivial)⟩
  ·have h := ifF h hc
   refine pw_exit <| thenQ_exit <| thenQ_exit <| blockQ_exit ?_
   have he := hx8 _ (Option.some.inj h).symm
   have h := hk7
   rw [← he] at h
   exact ⟨rfl, (), h, (wk_st _ _ trivial trivial)⟩

theorem slices_Contains_int_int_ok {a0 : List Int} {a1 : Int} {r : Bool} (h : slices_Contains_int_int a0 a1 = some r) : PCalls Tryz.prog 68 [.lst false (List.map (PV.int .i64) a0), .int .i64 a1] (.bool r) := by
 unfold slices_Contains_int_int at h
 refine pc_intro (N := 9) Tryz.func68 rfl rfl nl fun w0 imm0 => sR <| y0 rfl (o_assign (d := .bool false) rfl) <| y_nil <| sR <| y0 rfl (o_move (d := .lst false (List.map (PV.int .i64) a0)) rfl) <| y0 rfl (o_move (d := .int .i64 a1) rfl) ?_
 obtain ⟨v1, hv1, h⟩ := bindE h
 refine y0 rfl (o_call (ds := [.lst false (List.map (PV.int .i64) a0), .int .i64 a1]) rfl Ty.k114 rfl (slices_Index_int_int_ok hv1)) <| y0 rfl (o_cmp rfl rfl rfl) <| y0 rfl (o_assign (d := .bool (decide (v1 ≥ 0))) rfl) <| y_nil <| pw_ret ?_
 obtain rfl := Option.some.inj h
 exact ⟨rfl, [_], ⟨rfl, trivial⟩, rfl, io⟩

theorem fix_owed_1_ok {a0 : Int} {a1 : store_Store} {r : Bool} (h : fix_owed_1 a0 a1 = some r) : PCalls Tryz.prog 118 [.int .i64 a0, .rptr (store_Store.Pc a1)] (.bool r) := by
 unfold fix_owed_1 at h
 refine pc_intro (N := 14) Tryz.func118 rfl rfl nl fun w0 imm0 => sR <| y0 rfl (o_assign (d := .bool false) rfl) <| y_nil <| sR <| y0 rfl (o_loadRA (cs := store_Store.Pc a1) rfl Ty.a26 Ty.s26 nl rfl) <| y0 rfl (o_move (d := .int .i64 a0) rfl) ?_
 obtain ⟨v1, hv1, h⟩ := bindE h
 refine yc rfl (o_callF (ls := []) (ds := [store_Store.Pv a1, .int .i64 a0]) rfl Ty.k54 rfl (store_Get_ok hv1)) <| y0 rfl (o_move (d := .tup [store_Obj.Pv v1.1, .int .i64 v1.2]) rfl) <| y0 rfl (o_extract rfl rfl) <| y0 rfl (o_extract rfl rfl) <| y1 rfl (o_alloc (d := .agg [.int .i64 0, .int .i64 0, .int .i64 0, .int .i64 0, .bool false, .lst true (List.map (PV.int .i64) [])]) (z := 6) rfl Ty.z73 rfl rfl rfl) rfl <| y_sto (x' := store_Obj.Pv v1.1) (cl' := true) rfl rfl (.inr rfl) Ty.s73 <| y0 rfl (o_assign (d := .int .i64 v1.2) rfl) <| y_nil ?_
 refine sR <| y0 rfl (o_move (d := .int .i64 v1.2) rfl) <| y0 rfl (o_cmp rfl rfl rfl) <| y0 rfl (o_assign (d := .bool (v1.2 == 0)) rfl) <| y_nil <| pw_ret ?_
 obtain rfl := Option.some.inj h
 exact ⟨rfl, [_], ⟨rfl, trivial⟩, rfl, io⟩

theorem fix_owed_ok {a0 : store_Store} {a1 : List hash_Place} {a2 : List Int} {r : List Int} (h : fix_owed a0 a1 a2 = some r) : PCalls Tryz.prog 71 [store_Store.Pv a0, .lst false (List.map hash_Place.Pv a1), .lst false (List.map (PV.int .i64) a2)] (.lst false (List.map (PV.int .i64) r)) := by
 unfold fix_owed at h
 refine pc_intro (N := 42) Tryz.func71 rfl rfl nl fun w0 imm0 => sR <| y1 rfl (o_box (d := store_Store.Pv a0) (z := 3) (cl := true) rfl rfl rfl rfl rfl) rfl <| y0 rfl (o_assign (d := .lst true (List.map (PV.int .i64) [])) rfl) <| y_nil <| sR <| y0 rfl (o_mkFunc rfl) <| y0 rfl (o_assign (d := .fn (.func 118) [.ptr 3 0 0]) rfl) ?_
 refine y_nil <| sR <| y0 rfl (o_assign (d := .lst true (List.map (PV.int .i64) [])) rfl) <| y_nil ?_
 obtain ⟨κ19, hκ16, h⟩ := jnE h
 refine pw_jn0 (κ := κ19) (r := r) (fun (j20 : List Int) => St.of [(8, .sl 910008)] [(910008, ⟨List.map (PV.int .i64) j20, (List.map (PV.int .i64) j20).length, true, 1, true⟩)]) (fun j20 h => ?_) ?_
 ·subst hκ16
  refine sR <| y0 rfl (o_move (d := .sl 910008) rfl) <| y0 rfl (o_assign (d := .sl 910008) rfl) <| y_nil <| pw_ret ?_
  obtain rfl := Option.some.inj h
  exact ⟨rfl, [_], ⟨rfl, trivial⟩, rfl, io⟩
 ·skip
  refine sR <| y0 rfl (o_move (d := .lst false (List.map hash_Place.Pv a1)) rfl) ?_
  obtain ⟨v21, hv17, h⟩ := bindE h
  refine yc rfl (o_callF (ls := []) (ds := [.lst false (List.map hash_Place.Pv a1)]) rfl Ty.k30 rfl (ephem_Pairs_ok hv17)) <| y0 rfl (o_lnL (f := ephem_Pair.Pv) rfl Ty.e49) <| y0 rfl (o_move (d := .int .i64 0) rfl) <| y_nil <| pw_block ?_
  obtain ⟨e22, hl18, hk19⟩ := bindE h
  refine pw_lp0 (fun (q : Int × (List Int)) => St.of [(2, .lst false (List.map (PV.int .i64) a2)), (7, .fn (.func 118) [.ptr 3 0 0]), (8, .sl 910008), (13, .lst false (List.map ephem_Pair.Pv v21)), (14, .int .i64 (v21.length : Int)), (15, .int .i64 q.1)] [(3, ⟨[store_Store.Pv a0], 0, false, 3, true⟩), (910008, ⟨List.map (PV.int .i64) q.2, (List.map (PV.int .i64) q.2).length, true, 1, true⟩)]) hl18 (Wk.trans (wk_nil (t := 8) (l := 920008) (z := 1) rfl rfl) (wk_stP (fun l => if l = 910008 then 920008 else l) _ _ ⟨rfl, rfl, rfl, rfl, rfl, rfl, rfl, rfl, rfl, rfl, rfl, rfl, rfl, rfl, rfl, rfl, rfl, rfl, trivial⟩ ⟨rN, rN, trivial⟩ rfl)) (fun q26 x25 h hx20 => ?_)
  obtain ⟨s23, s24⟩ := q26
  refine sR <| y0 rfl (o_cmp rfl rfl rfl) <| y_nil <| pw_seq ?_
  refine pw_cond (decide (s23 < (v21.length : Int))) rfl (fun hc => ?_) (fun hc => ?_)
  ·have h := ifT h hc
   refine pw_skip ?_
   obtain ⟨κ32, hκ26, h⟩ := jnE h
   refine pw_jn0 (κ := κ32) (r := x25) (fun (j33 : List Int) => St.of [(2, .lst false (List.map (PV.int .i64) a2)), (7, .fn (.func 118) [.ptr 3 0 0]), (8, .sl 39), (13, .lst false (List.map ephem_Pair.Pv v21)), (14, .int .i64 (v21.length : Int)), (15, .int .i64 s23)] [(39, ⟨List.map (PV.int .i64) j33, (List.map (PV.int .i64) j33).length, true, 1, true⟩), (3, ⟨[store_Store.Pv a0], 0, false, 3, true⟩)]) (fun j33 h => ?_) ?_
   ·subst hκ26
    refine sr1 (by kernel_rfl) <| y0 rfl (o_ari rfl rfl rfl) <| y0 rfl (o_move (d := .int .i64 (w64 (s23 + 1))) rfl) <| y_nil ?_
    exact ⟨rfl, (w64 (s23 + 1), j33), (Option.some.inj h).symm, (Wk.trans (wk_frz _ [39]) (wk_stP (fun l => if l = 910008 then 39 else l) _ _ ⟨rfl, rfl, rfl, rfl, rfl, rfl, rfl, rfl, rfl, rfl, rfl, rfl, rfl, rfl, rfl, rfl, rfl, rfl, trivial⟩ ⟨rN, rN, trivial⟩ rfl))⟩
   ·skip
    refine pw_block <| sR ?_
    obtain ⟨v34, hv27, h⟩ := bindE h
    refine y0 rfl (o_ixL (f := ephem_Pair.Pv) (cs := ephem_Pair.Pc v34) hv27 rfl rfl Ty.e49 Ty.s52 rfl rfl) <| y0 rfl (o_loadRA (cs := ephem_Pair.Pc v34) rfl Ty.a52 Ty.s52 nl rfl) <| y1 rfl (o_alloc (d := .agg [.int .i64 0, .int .i64 0]) (z := 2) rfl Ty.z52 rfl rfl rfl) rfl <| y_sto (x' := ephem_Pair.Pv v34) (cl' := true) rfl rfl (.inl rfl) Ty.s52 <| y_nil <| sR <| y0 rfl (o_move (d := .lst false (List.map (PV.int .i64) a2)) rfl) <| y0 rfl (o_fieldAddrP (k := 0) rfl Ty.f52_0 rfl) ?_
    refine y0 rfl (o_loadS rfl rfl rfl Ty.a3 rfl) ?_
    obtain ⟨v35, hv28, h⟩ := bindE h
    refine y0 rfl (o_call (ds := [.lst false (List.map (PV.int .i64) a2), .int .i64 v34.Key]) rfl Ty.k68 rfl (slices_Contains_int_int_ok hv28)) <| y0 rfl (o_move (d := .bool v35) rfl) <| y_if (g := (v35 == true)) rfl (fun hg => o_move (d := .fn (.func 118) [.ptr 3 0 0]) rfl) <| y_if (g := (v35 == true)) rfl (fun hg => o_fieldAddrP (k := 0) rfl Ty.f52_0 rfl) <| y_if (g := (v35 == true)) rfl (fun hg => o_loadS (ct hg) rfl rfl Ty.a3 rfl) ?_
    obtain ⟨v36, hv29, h⟩ := bindE h
    refine y_if (g := (v35 == true)) rfl (fun hg => o_call (ds := [.int .i64 v34.Key, .ptr 3 0 0]) (ct hg) Ty.k118 (consE (ct hg) rfl) (fix_owed_1_ok (onlyE hv29 hg))) <| y0 rfl (pk_and rfl rfl rfl (fun q => eqT q)) <| y0 rfl (o_move (d := .bool (v35 && v36)) rfl) <| y_if (g := ((v35 && v36) == true)) rfl (fun hg => o_move (d := .fn (.func 118) [.ptr 3 0 0]) rfl) <| y_if (g := ((v35 && v36) == true)) rfl (fun hg => o_fieldAddrP (k := 1) rfl Ty.f52_1 rfl) <| y_if (g := ((v35 && v36) == true)) rfl (fun hg => o_loadS (ct hg) rfl rfl Ty.a3 rfl) ?_
    obtain ⟨v37, hv30, h⟩ := bindE h
    refine y_if (g := ((v35 && v36) == true)) rfl (fun hg => o_call (ds := [.int .i64 v34.Val, .ptr 3 0 0]) (ct hg) Ty.k118 (consE (ct hg) rfl) (fix_owed_1_ok (onlyE hv30 hg))) <| y0 rfl (pk_and rfl rfl rfl (fun q => eqT q)) <| y_nil ?_
    refine pw_cond ((v35 && v36) && v37) rfl (fun hc => ?_) (fun hc => ?_)
    ·have h := ifT h hc
     refine sr1 (by kernel_rfl) <| y0 rfl (o_move (d := .sl 910008) rfl) <| y0 rfl (o_fieldAddrP (k := 1) rfl Ty.f52_1 rfl) <| y0 rfl (o_loadS rfl rfl rfl Ty.a3 rfl) <| y0 rfl (o_bI (f := (PV.int .i64)) (l := [v34.Val]) rfl Ty.e28 Ty.s3 Ty.z3 rfl rfl nl rfl rfl) ?_
     obtain ⟨v38, hv31, h⟩ := bindE h
     refine y_app rfl (o_apR (f := (PV.int .i64)) hv31 rfl rfl rfl rfl rfl rfl (.inl ⟨_, rfl, rfl⟩) Ty.e28 Ty.s3 Ty.b3 Ty.z3 rfl (fun _ => rfl)) rfl rfl rfl <| y0 rfl (o_assign (d := .sl 39) rfl) <| y_nil ?_
     exact ⟨rfl, v38, h, (Wk.trans (wk_frz _ [39]) (wk_st _ _ ⟨rfl, rfl, rfl, rfl, rfl, rfl, rfl, rfl, rfl, rfl, rfl, rfl, rfl, rfl, rfl, rfl, rfl, rfl, trivial⟩ ⟨rS, rS, trivial⟩))⟩
    ·have h := ifF h hc
     refine pw_skip ?_
     exact ⟨rfl, s24, h, (Wk.trans (wk_frz _ [910008]) (wk_stP (fun l => if l = 39 then 910008 else l) _ _ ⟨rfl, rfl, rfl, rfl, rfl, rfl, rfl, rfl, rfl, rfl, rfl, rfl, rfl, rfl, rfl, rfl, rfl, rfl, trivial⟩ ⟨rN, rN, trivial⟩ rfl))⟩
  ·have h := ifF h hc
   refine pw_exit <| thenQ_exit <| thenQ_exit <| blockQ_exit ?_
   have he := hx20 _ (Option.some.inj h).symm
   have h := hk19
   rw [← he] at h
   exact ⟨rfl, s24, h, (Wk.trans (wk_frz _ [910008]) (wk_st _ _ ⟨rfl, rfl, rfl, trivial⟩ ⟨rS, trivial⟩))⟩

theorem fix_owed_okN {a0 : store_Store} {a1 : List hash_Place} {a2 : List Int} {r : List Int} (h : fix_owed a0 a1 a2 = some r) : PCallsN Tryz.prog 71 [store_Store.Pv a0, .lst false (List.map hash_Place.Pv a1), .lst false (List.map (PV.int .i64) a2)] ⟨List.map (PV.int .i64) r, (List.map (PV.int .i64) r).length, true, 1, true⟩ := by
 unfold fix_owed at h
 refine pc_introN (N := 42) Tryz.func71 rfl rfl nl fun w0 imm0 => sR <| y1 rfl (o_box (d := store_Store.Pv a0) (z := 3) (cl := true) rfl rfl rfl rfl rfl) rfl <| y0 rfl (o_assign (d := .lst true (List.map (PV.int .i64) [])) rfl) <| y_nil <| sR <| y0 rfl (o_mkFunc rfl) <| y0 rfl (o_assign (d := .fn (.func 118) [.ptr 3 0 0]) rfl) ?_
 refine y_nil <| sR <| y0 rfl (o_assign (d := .lst true (List.map (PV.int .i64) [])) rfl) <| y_nil ?_
 obtain ⟨κ19, hκ16, h⟩ := jnE h
 refine pw_jn0 (κ := κ19) (r := r) (fun (j20 : List Int) => St.of [(8, .sl 910008)] [(910008, ⟨List.map (PV.int .i64) j20, (List.map (PV.int .i64) j20).length, true, 1, true⟩)]) (fun j20 h => ?_) ?_
 ·subst hκ16
  refine sR <| y0 rfl (o_move (d := .sl 910008) rfl) <| y0 rfl (o_assign (d := .sl 910008) rfl) <| y_nil <| pw_wk (wk_frz _ [910008]) <| pw_ret ?_
  obtain rfl := Option.some.inj h
  exact ⟨rfl, _, _, rfl, rfl, rfl, rfl⟩
 ·skip
  refine sR <| y0 rfl (o_move (d := .lst false (List.map hash_Place.Pv a1)) rfl) ?_
  obtain ⟨v21, hv17, h⟩ := bindE h
  refine yc rfl (o_callF (ls := []) (ds := [.lst false (List.map hash_Place.Pv a1)]) rfl Ty.k30 rfl (ephem_Pairs_ok hv17)) <| y0 rfl (o_lnL (f := ephem_Pair.Pv) rfl Ty.e49) <| y0 rfl (o_move (d := .int .i64 0) rfl) <| y_nil <| pw_block ?_
  obtain ⟨e22, hl18, hk19⟩ := bindE h
  refine pw_lp0 (fun (q : Int × (List Int)) => St.of [(2, .lst false (List.map (PV.int .i64) a2)), (7, .fn (.func 118) [.ptr 3 0 0]), (8, .sl 910008), (13, .lst false (List.map ephem_Pair.Pv v21)), (14, .int .i64 (v21.length : Int)), (15, .int .i64 q.1)] [(3, ⟨[store_Store.Pv a0], 0, false, 3, true⟩), (910008, ⟨List.map (PV.int .i64) q.2, (List.map (PV.int .i64) q.2).length, true, 1, true⟩)]) hl18 (Wk.trans (wk_nil (t := 8) (l := 920008) (z := 1) rfl rfl) (wk_stP (fun l => if l = 910008 then 920008 else l) _ _ ⟨rfl, rfl, rfl, rfl, rfl, rfl, rfl, rfl, rfl, rfl, rfl, rfl, rfl, rfl, rfl, rfl, rfl, rfl, trivial⟩ ⟨rN, rN, trivial⟩ rfl)) (fun q26 x25 h hx20 => ?_)
  obtain ⟨s23, s24⟩ := q26
  refine sR <| y0 rfl (o_cmp rfl rfl rfl) <| y_nil <| pw_seq ?_
  refine pw_cond (decide (s23 < (v21.length : Int))) rfl (fun hc => ?_) (fun hc => ?_)
  ·have h := ifT h hc
   refine pw_skip ?_
   obtain ⟨κ32, hκ26, h⟩ := jnE h
   refine pw_jn0 (κ := κ32) (r := x25) (fun (j33 : List Int) => St.of [(2, .lst false (List.map (PV.int .i64) a2)), (7, .fn (.func 118) [.ptr 3 0 0]), (8, .sl 39), (13, .lst false (List.map ephem_Pair.Pv v21)), (14, .int .i64 (v21.length : Int)), (15, .int .i64 s23)] [(39, ⟨List.map (PV.int .i64) j33, (List.map (PV.int .i64) j33).length, true, 1, true⟩), (3, ⟨[store_Store.Pv a0], 0, false, 3, true⟩)]) (fun j33 h => ?_) ?_
   ·subst hκ26
    refine sr1 (by kernel_rfl) <| y0 rfl (o_ari rfl rfl rfl) <| y0 rfl (o_move (d := .int .i64 (w64 (s23 + 1))) rfl) <| y_nil ?_
    exact ⟨rfl, (w64 (s23 + 1), j33), (Option.some.inj h).symm, (Wk.trans (wk_frz _ [39]) (wk_stP (fun l => if l = 910008 then 39 else l) _ _ ⟨rfl, rfl, rfl, rfl, rfl, rfl, rfl, rfl, rfl, rfl, rfl, rfl, rfl, rfl, rfl, rfl, rfl, rfl, trivial⟩ ⟨rN, rN, trivial⟩ rfl))⟩
   ·skip
    refine pw_block <| sR ?_
    obtain ⟨v34, hv27, h⟩ := bindE h
    refine y0 rfl (o_ixL (f := ephem_Pair.Pv) (cs := ephem_Pair.Pc v34) hv27 rfl rfl Ty.e49 Ty.s52 rfl rfl) <| y0 rfl (o_loadRA (cs := ephem_Pair.Pc v34) rfl Ty.a52 Ty.s52 nl rfl) <| y1 rfl (o_alloc (d := .agg [.int .i64 0, .int .i64 0]) (z := 2) rfl Ty.z52 rfl rfl rfl) rfl <| y_sto (x' := ephem_Pair.Pv v34) (cl' := true) rfl rfl (.inl rfl) Ty.s52 <| y_nil <| sR <| y0 rfl (o_move (d := .lst false (List.map (PV.int .i64) a2)) rfl) <| y0 rfl (o_fieldAddrP (k := 0) rfl Ty.f52_0 rfl) ?_
    refine y0 rfl (o_loadS rfl rfl rfl Ty.a3 rfl) ?_
    obtain ⟨v35, hv28, h⟩ := bindE h
    refine y0 rfl (o_call (ds := [.lst false (List.map (PV.int .i64) a2), .int .i64 v34.Key]) rfl Ty.k68 rfl (slices_Contains_int_int_ok hv28)) <| y0 rfl (o_move (d := .bool v35) rfl) <| y_if (g := (v35 == true)) rfl (fun hg => o_move (d := .fn (.func 118) [.ptr 3 0 0]) rfl) <| y_if (g := (v35 == true)) rfl (fun hg => o_fieldAddrP (k := 0) rfl Ty.f52_0 rfl) <| y_if (g := (v35 == true)) rfl (fun hg => o_loadS (ct hg) rfl rfl Ty.a3 rfl) ?_
    obtain ⟨v36, hv29, h⟩ := bindE h
    refine y_if (g := (v35 == true)) rfl (fun hg => o_call (ds := [.int .i64 v34.Key, .ptr 3 0 0]) (ct hg) Ty.k118 (consE (ct hg) rfl) (fix_owed_1_ok (onlyE hv29 hg))) <| y0 rfl (pk_and rfl rfl rfl (fun q => eqT q)) <| y0 rfl (o_move (d := .bool (v35 && v36)) rfl) <| y_if (g := ((v35 && v36) == true)) rfl (fun hg => o_move (d := .fn (.func 118) [.ptr 3 0 0]) rfl) <| y_if (g := ((v35 && v36) == true)) rfl (fun hg => o_fieldAddrP (k := 1) rfl Ty.f52_1 rfl) <| y_if (g := ((v35 && v36) == true)) rfl (fun hg => o_loadS (ct hg) rfl rfl Ty.a3 rfl) ?_
    obtain ⟨v37, hv30, h⟩ := bindE h
    refine y_if (g := ((v35 && v36) == true)) rfl (fun hg => o_call (ds := [.int .i64 v34.Val, .ptr 3 0 0]) (ct hg) Ty.k118 (consE (ct hg) rfl) (fix_owed_1_ok (onlyE hv30 hg))) <| y0 rfl (pk_and rfl rfl rfl (fun q => eqT q)) <| y_nil ?_
    refine pw_cond ((v35 && v36) && v37) rfl (fun hc => ?_) (fun hc => ?_)
    ·have h := ifT h hc
     refine sr1 (by kernel_rfl) <| y0 rfl (o_move (d := .sl 910008) rfl) <| y0 rfl (o_fieldAddrP (k := 1) rfl Ty.f52_1 rfl) <| y0 rfl (o_loadS rfl rfl rfl Ty.a3 rfl) <| y0 rfl (o_bI (f := (PV.int .i64)) (l := [v34.Val]) rfl Ty.e28 Ty.s3 Ty.z3 rfl rfl nl rfl rfl) ?_
     obtain ⟨v38, hv31, h⟩ := bindE h
     refine y_app rfl (o_apR (f := (PV.int .i64)) hv31 rfl rfl rfl rfl rfl rfl (.inl ⟨_, rfl, rfl⟩) Ty.e28 Ty.s3 Ty.b3 Ty.z3 rfl (fun _ => rfl)) rfl rfl rfl <| y0 rfl (o_assign (d := .sl 39) rfl) <| y_nil ?_
     exact ⟨rfl, v38, h, (Wk.trans (wk_frz _ [39]) (wk_st _ _ ⟨rfl, rfl, rfl, rfl, rfl, rfl, rfl, rfl, rfl, rfl, rfl, rfl, rfl, rfl, rfl, rfl, rfl, rfl, trivial⟩ ⟨rS, rS, trivial⟩))⟩
    ·have h := ifF h hc
     refine pw_skip ?_
     exact ⟨rfl, s24, h, (Wk.trans (wk_frz _ [910008]) (wk_stP (fun l => if l = 39 then 910008 else l) _ _ ⟨rfl, rfl, rfl, rfl, rfl, rfl, rfl, rfl, rfl, rfl, rfl, rfl, rfl, rfl, rfl, rfl, rfl, rfl, trivial⟩ ⟨rN, rN, trivial⟩ rfl))⟩
  ·have h := ifF h hc
   refine pw_exit <| thenQ_exit <| thenQ_exit <| blockQ_exit ?_
   have he := hx20 _ (Option.some.inj h).symm
   have h := hk19
   rw [← he] at h
   exact ⟨rfl, s24, h, (Wk.trans (wk_frz _ [910008]) (wk_st _ _ ⟨rfl, rfl, rfl, trivial⟩ ⟨rS, trivial⟩))⟩

theorem fix_grown_ok {a0 : store_Store} {a1 : List hash_Place} {a2 : List Int} {r : (List Int) × Int} (h : fix_grown a0 a1 a2 = some r) : PCalls Tryz.prog 63 [store_Store.Pv a0, .lst false (List.map hash_Place.Pv a1), .lst false (List.map (PV.int .i64) a2)] (.tup [.lst false (List.map (PV.int .i64) r.1), .int .i64 r.2]) := by
 unfold fix_grown at h
 refine pc_intro (N := 38) Tryz.func63 rfl rfl nl fun w0 imm0 => sR <| y1 rfl (o_box (d := store_Store.Pv a0) (z := 3) (cl := true) rfl rfl rfl rfl rfl) rfl <| y0 rfl (o_assign (d := .lst true (List.map (PV.int .i64) [])) rfl) <| y0 rfl (o_assign (d := .int .i64 0) rfl) <| y_nil <| pw_scope <| sR ?_
 refine y0 rfl (o_loadA (cs := store_Store.Pc a0) rfl rfl rfl Ty.a26 Ty.s26 nl rfl) <| y0 rfl (o_move (d := .lst false (List.map (PV.int .i64) a2)) rfl) ?_
 obtain ⟨v1, hv1, h⟩ := bindE h
 refine yc rfl (o_callF (ls := []) (ds := [store_Store.Pv a0, .lst false (List.map (PV.int .i64) a2)]) rfl Ty.k29 rfl (reach_From_ok hv1)) <| y0 rfl (o_assign (d := .lst false (List.map (PV.int .i64) v1)) rfl) <| y_nil <| pw_seq <| pw_label <| pw_block ?_
 obtain ⟨e2, hl2, hk3⟩ := bindE h
 refine pw_lp0 (fun (q : (List Int) × Int) => St.of [(1, .lst false (List.map hash_Place.Pv a1)), (3, .ptr 3 0 0), (6, .lst false (List.map (PV.int .i64) q.1)), (7, .int .i64 q.2)] [(3, ⟨[store_Store.Pv a0], 0, false, 3, true⟩)]) hl2 (wk_st _ _ ⟨rfl, rfl, rfl, rfl, rfl, rfl, rfl, rfl, rfl, rfl, rfl, rfl, trivial⟩ ⟨rS, trivial⟩) (fun q6 x5 h hx4 => ?_)
 obtain ⟨s3, s4⟩ := q6
 refine pw_block <| sR <| y0 rfl (o_loadA (cs := store_Store.Pc a0) rfl rfl rfl Ty.a26 Ty.s26 nl rfl) <| y0 rfl (o_move (d := .lst false (List.map hash_Place.Pv a1)) rfl) <| y0 rfl (o_move (d := .lst false (List.map (PV.int .i64) s3)) rfl) ?_
 obtain ⟨v7, hv5, h⟩ := bindE h
 refine ycN rfl (o_callN (ls := []) (ds := [store_Store.Pv a0, .lst false (List.map hash_Place.Pv a1), .lst false (List.map (PV.int .i64) s3)]) rfl Ty.k71 rfl (fix_owed_okN hv5)) rfl rfl <| y0 rfl (o_assign (d := .sl 17) rfl) <| y_nil ?_
 obtain ⟨κ15, hκ13, h⟩ := jnE h
 refine pw_jn0 (κ := κ15) (r := x5) (fun (_ : Unit) => St.of [(6, .lst false (List.map (PV.int .i64) s3)), (7, .int .i64 s4)] []) (fun q16 h => ?_) ?_
 ·subst hκ13
  refine sR <| y0 rfl (o_move (d := .lst false (List.map (PV.int .i64) s3)) rfl) <| y0 rfl (o_move (d := .int .i64 s4) rfl) <| y0 rfl (o_assign (d := .lst false (List.map (PV.int .i64) s3)) rfl) <| y0 rfl (o_assign (d := .int .i64 s4) rfl) <| y_nil <| pw_ret ?_
  have he := hx4 _ (Option.some.inj h).symm
  have h := hk3
  rw [← he] at h
  obtain rfl := Option.some.inj h
  exact ⟨rfl, [_, _], ⟨rfl, ⟨rfl, trivial⟩⟩, rfl, io⟩
 ·skip
  refine sR <| y0 rfl (o_move (d := .sl 17) rfl) <| y0 rfl (o_lnR (f := (PV.int .i64)) rfl rfl rfl Ty.e28) <| y0 rfl (o_move (d := .int .i64 0) rfl) <| y_nil <| pw_block ?_
  obtain ⟨e17, hl14, hk15⟩ := bindE h
  refine pw_lp0 (fun (s18 : Int) => St.of [(1, .lst false (List.map hash_Place.Pv a1)), (3, .ptr 3 0 0), (6, .lst false (List.map (PV.int .i64) s3)), (7, .int .i64 s4), (8, .sl 17), (18, .sl 17), (19, .int .i64 (v7.length : Int)), (20, .int .i64 s18)] [(17, ⟨List.map (PV.int .i64) v7, (List.map (PV.int .i64) v7).length, true, 1, true⟩), (3, ⟨[store_Store.Pv a0], 0, false, 3, true⟩)]) hl14 (Wk.trans (wk_frz _ [17]) (wk_st _ _ ⟨rfl, rfl, rfl, rfl, rfl, rfl, rfl, rfl, rfl, rfl, rfl, rfl, rfl, rfl, rfl, rfl, rfl, rfl, rfl, rfl, rfl, rfl, rfl, rfl, trivial⟩ ⟨rS, rS, trivial⟩)) (fun s18 x19 h hx16 => ?_)
  refine sR <| y0 rfl (o_cmp rfl rfl rfl) <| y_nil <| pw_seq ?_
  refine pw_cond (decide (s18 < (v7.length : Int))) rfl (fun hc => ?_) (fun hc => ?_)
  ·have h := ifT h hc
   refine pw_skip <| pw_seq <| pw_block <| sR ?_
   obtain ⟨v20, hv17, h⟩ := bindE h
   refine y0 rfl (o_ixR (f := (PV.int .i64)) hv17 rfl rfl rfl rfl Ty.e28 Ty.s3 rfl) <| y0 rfl (o_ldS (f := (PV.int .i64)) hv17 rfl rfl rfl Ty.a3 rfl) <| y0 rfl (o_assign (d := .int .i64 v20) rfl) <| y_nil <| sR <| y0 rfl (o_move (d := .lst false (List.map (PV.int .i64) s3)) rfl) <| y0 rfl (o_move (d := .int .i64 v20) rfl) ?_
   obtain ⟨v21, hv18, h⟩ := bindE h
   refine y0 rfl (o_call (ds := [.lst false (List.map (PV.int .i64) s3), .int .i64 v20]) rfl Ty.k68 rfl (slices_Contains_int_int_ok hv18)) <| y0 rfl (o_not rfl rfl) <| y_nil ?_
   refine pw_cond (!v21) rfl (fun hc => ?_) (fun hc => ?_)
   ·have h := ifT h hc
    refine dr [4] Ty.mix (by kernel_rfl) (by kernel_rfl) <| d0 rfl (o_loadA (cs := store_Store.Pc a0) rfl rfl rfl Ty.a26 Ty.s26 nl rfl) rfl <| d7 rfl (fun _ hN => o_move (d := .sl 17) rfl) rfl <| d7 rfl (fun _ hN => o_move (d := .lst false (List.map (PV.int .i64) s3)) rfl) rfl ?_
    obtain ⟨v22, hv19, h⟩ := bindE h
    refine d3a rfl (o_apR (f := (PV.int .i64)) hv19 rfl rfl rfl rfl rfl rfl (.inl ⟨_, rfl, rfl⟩) Ty.e28 Ty.s3 Ty.b3 Ty.z3 rfl (fun _ => rfl)) rfl rfl rfl rfl rfl ?_
    obtain ⟨v23, hv20, h⟩ := bindE h
    refine d5f rfl (o_callF (ls := [31]) (ds := [store_Store.Pv a0, .sl 31]) rfl Ty.k29 rfl (reach_From_ok hv20)) rfl rfl <| d7 rfl (fun _ hN => o_assign (d := .lst false (List.map (PV.int .i64) v23)) rfl) rfl <| d_nil <| sR <| y0 rfl (o_move (d := .int .i64 s4) rfl) <| y0 rfl (o_ari rfl rfl rfl) <| y0 rfl (o_assign (d := .int .i64 (w64 (s4 + 1))) rfl) <| y_nil ?_
    refine pw_exit <| blockQ_other (by decide) <| thenQ_exit <| thenQ_exit <| blockQ_other (by decide) <| thenQ_exit <| blockQ_exit ?_
    have he := hx16 _ (Option.some.inj h).symm
    have h := hk15
    rw [← he] at h
    exact ⟨rfl, (v23, w64 (s4 + 1)), (Option.some.inj h).symm, (wk_st _ _ ⟨rfl, rfl, rfl, rfl, rfl, rfl, rfl, rfl, rfl, rfl, rfl, rfl, trivial⟩ ⟨rS, trivial⟩)⟩
   ·have h := ifF h hc
    refine pw_skip <| sr1 (by kernel_rfl) <| y0 rfl (o_ari rfl rfl rfl) <| y0 rfl (o_move (d := .int .i64 (w64 (s18 + 1))) rfl) <| y_nil ?_
    exact ⟨rfl, w64 (s18 + 1), (Option.some.inj h).symm, (Wk.trans (wk_frz _ [17]) (wk_st _ _ ⟨rfl, rfl, rfl, rfl, rfl, rfl, rfl, rfl, rfl, rfl, rfl, rfl, rfl, rfl, rfl, rfl, rfl, rfl, rfl, rfl, rfl, rfl, rfl, rfl, trivial⟩ ⟨rS, rS, trivial⟩))⟩
  ·have h := ifF h hc
   refine pw_exit <| thenQ_exit <| thenQ_exit <| blockQ_exit ?_
   have he := hx16 _ (Option.some.inj h).symm
   have h := hk15
   rw [← he] at h
   exact ⟨rfl, (), h, (wk_st _ _ ⟨rfl, rfl, rfl, rfl, rfl, rfl, trivial⟩ trivial)⟩

theorem fix_From_ok {a0 : store_Store} {a1 : List hash_Place} {a2 : List Int} {r : List Int} (h : fix_From a0 a1 a2 = some r) : PCalls Tryz.prog 19 [store_Store.Pv a0, .lst false (List.map hash_Place.Pv a1), .lst false (List.map (PV.int .i64) a2)] (.lst false (List.map (PV.int .i64) r)) := by
 unfold fix_From at h
 refine pc_intro (N := 17) Tryz.func19 rfl rfl nl fun w0 imm0 => sR <| y1 rfl (o_box (d := store_Store.Pv a0) (z := 3) (cl := true) rfl rfl rfl rfl rfl) rfl <| y0 rfl (o_assign (d := .lst true (List.map (PV.int .i64) [])) rfl) <| y_nil <| sR <| y0 rfl (o_loadA (cs := store_Store.Pc a0) rfl rfl rfl Ty.a26 Ty.s26 nl rfl) <| y0 rfl (o_move (d := .lst false (List.map hash_Place.Pv a1)) rfl) ?_
 refine y0 rfl (o_move (d := .lst false (List.map (PV.int .i64) a2)) rfl) ?_
 obtain ⟨v1, hv1, h⟩ := bindE h
 refine yc rfl (o_callF (ls := []) (ds := [store_Store.Pv a0, .lst false (List.map hash_Place.Pv a1), .lst false (List.map (PV.int .i64) a2)]) rfl Ty.k63 rfl (fix_grown_ok hv1)) <| y0 rfl (o_move (d := .tup [.lst false (List.map (PV.int .i64) v1.1), .int .i64 v1.2]) rfl) <| y0 rfl (o_extract rfl rfl) <| y0 rfl (o_extract rfl rfl) <| y0 rfl (o_assign (d := .lst false (List.map (PV.int .i64) v1.1)) rfl) <| y0 rfl (o_assign (d := .int .i64 v1.2) rfl) <| y_nil <| sR ?_
 refine y0 rfl (o_move (d := .lst false (List.map (PV.int .i64) v1.1)) rfl) <| y0 rfl (o_assign (d := .lst false (List.map (PV.int .i64) v1.1)) rfl) <| y_nil <| pw_ret ?_
 obtain rfl := Option.some.inj h
 exact ⟨rfl, [_], ⟨rfl, trivial⟩, rfl, io⟩

theorem reach_Lost_1_ok {a0 : Int} {a1 : List (Int × Bool)} {r : Bool} (h : reach_Lost_1 a0 a1 = some r) : PCalls Tryz.prog 113 [.int .i64 a0, .rptr [.abs (ImMap (List.map (ent (PV.int .i64) PV.bool) a1))]] (.bool r) := by
 unfold reach_Lost_1 at h
 refine pc_intro (N := 8) Tryz.func113 rfl rfl nl fun w0 imm0 => sR <| y0 rfl (o_assign (d := .bool false) rfl) <| y_nil <| sR <| y0 rfl (o_loadRS rfl Ty.a104 rfl) <| y0 rfl (o_move (d := .int .i64 a0) rfl) <| y0 rfl (o_lkI (es := a1) (k := a0) (E := PV.bool) (EK := (PV.int .i64)) (d := .bool ((mget a1 a0).getD (false : Bool))) rfl rfl Ty.mm104 (keyT_int Ty.u3) Ty.z4 rfl (lk1 _ _ _)) ?_
 refine y0 rfl (o_not rfl rfl) <| y0 rfl (o_assign (d := .bool (!((mget a1 a0).getD (false : Bool)))) rfl) <| y_nil <| pw_ret ?_
 obtain rfl := Option.some.inj h
 exact ⟨rfl, [_], ⟨rfl, trivial⟩, rfl, io⟩

theorem reach_live__reach_Lost_1_ok {a0 : store_Store} {a1 : List (Int × Bool)} {r : List Int} (h : reach_live__reach_Lost_1 a0 a1 = some r) : PCalls Tryz.prog 77 [store_Store.Pv a0, .fn (.func 113) [.rptr [.abs (ImMap (List.map (ent (PV.int .i64) PV.bool) a1))]]] (.lst false (List.map (PV.int .i64) r)) := by
 unfold reach_live__reach_Lost_1 at h
 refine pc_intro (N := 24) Tryz.func77 rfl rfl nl fun w0 imm0 => sR <| y1 rfl (o_box (d := store_Store.Pv a0) (z := 3) (cl := true) rfl rfl rfl rfl rfl) rfl <| y0 rfl (o_assign (d := .lst true (List.map (PV.int .i64) [])) rfl) <| y_nil <| sR <| y0 rfl (o_assign (d := .lst true (List.map (PV.int .i64) [])) rfl) <| y_nil ?_
 obtain ⟨κ15, hκ12, h⟩ := jnE h
 refine pw_jn0 (κ := κ15) (r := r) (fun (j16 : List Int) => St.of [(5, .sl 910005)] [(910005, ⟨List.map (PV.int .i64) j16, (List.map (PV.int .i64) j16).length, true, 1, true⟩)]) (fun j16 h => ?_) ?_
 ·subst hκ12
  refine sR <| y0 rfl (o_move (d := .sl 910005) rfl) <| y0 rfl (o_assign (d := .sl 910005) rfl) <| y_nil <| pw_ret ?_
  obtain rfl := Option.some.inj h
  exact ⟨rfl, [_], ⟨rfl, trivial⟩, rfl, io⟩
 ·skip
  refine sR <| y0 rfl (o_loadA (cs := store_Store.Pc a0) rfl rfl rfl Ty.a26 Ty.s26 nl rfl) ?_
  obtain ⟨v17, hv13, h⟩ := bindE h
  refine yc rfl (o_callF (ls := []) (ds := [store_Store.Pv a0]) rfl Ty.k123 rfl (store_Live_ok hv13)) <| y0 rfl (o_lnL (f := (PV.int .i64)) rfl Ty.e28) <| y0 rfl (o_move (d := .int .i64 0) rfl) <| y_nil <| pw_block ?_
  obtain ⟨e18, hl14, hk15⟩ := bindE h
  refine pw_lp0 (fun (q : Int × (List Int)) => St.of [(1, .fn (.func 113) [.rptr [.abs (ImMap (List.map (ent (PV.int .i64) PV.bool) a1))]]), (5, .sl 910005), (9, .lst false (List.map (PV.int .i64) v17)), (10, .int .i64 (v17.length : Int)), (11, .int .i64 q.1)] [(910005, ⟨List.map (PV.int .i64) q.2, (List.map (PV.int .i64) q.2).length, true, 1, true⟩)]) hl14 (Wk.trans (wk_nil (t := 5) (l := 920005) (z := 1) rfl rfl) (wk_stP (fun l => if l = 910005 then 920005 else l) _ _ ⟨rfl, rfl, rfl, rfl, rfl, rfl, rfl, rfl, rfl, rfl, rfl, rfl, rfl, rfl, rfl, trivial⟩ ⟨rN, trivial⟩ rfl)) (fun q22 x21 h hx16 => ?_)
  obtain ⟨s19, s20⟩ := q22
  refine sR <| y0 rfl (o_cmp rfl rfl rfl) <| y_nil <| pw_seq ?_
  refine pw_cond (decide (s19 < (v17.length : Int))) rfl (fun hc => ?_) (fun hc => ?_)
  ·have h := ifT h hc
   refine pw_skip ?_
   obtain ⟨κ26, hκ20, h⟩ := jnE h
   refine pw_jn0 (κ := κ26) (r := x21) (fun (j27 : List Int) => St.of [(1, .fn (.func 113) [.rptr [.abs (ImMap (List.map (ent (PV.int .i64) PV.bool) a1))]]), (5, .sl 21), (9, .lst false (List.map (PV.int .i64) v17)), (10, .int .i64 (v17.length : Int)), (11, .int .i64 s19)] [(21, ⟨List.map (PV.int .i64) j27, (List.map (PV.int .i64) j27).length, true, 1, true⟩)]) (fun j27 h => ?_) ?_
   ·subst hκ20
    refine sr1 (by kernel_rfl) <| y0 rfl (o_ari rfl rfl rfl) <| y0 rfl (o_move (d := .int .i64 (w64 (s19 + 1))) rfl) <| y_nil ?_
    exact ⟨rfl, (w64 (s19 + 1), j27), (Option.some.inj h).symm, (Wk.trans (wk_frz _ [21]) (wk_stP (fun l => if l = 910005 then 21 else l) _ _ ⟨rfl, rfl, rfl, rfl, rfl, rfl, rfl, rfl, rfl, rfl, rfl, rfl, rfl, rfl, rfl, trivial⟩ ⟨rN, trivial⟩ rfl))⟩
   ·skip
    refine pw_block <| sR ?_
    obtain ⟨v28, hv21, h⟩ := bindE h
    refine y0 rfl (o_ixL (f := (PV.int .i64)) (cs := [.int .i64 v28]) hv21 rfl rfl Ty.e28 Ty.s3 rfl rfl) <| y0 rfl (o_loadRS rfl Ty.a3 rfl) <| y0 rfl (o_assign (d := .int .i64 v28) rfl) <| y_nil <| sR <| y0 rfl (o_move (d := .fn (.func 113) [.rptr [.abs (ImMap (List.map (ent (PV.int .i64) PV.bool) a1))]]) rfl) <| y0 rfl (o_move (d := .int .i64 v28) rfl) ?_
    obtain ⟨v29, hv22, h⟩ := bindE h
    refine y0 rfl (o_call (ds := [.int .i64 v28, .rptr [.abs (ImMap (List.map (ent (PV.int .i64) PV.bool) a1))]]) rfl Ty.k113 rfl (reach_Lost_1_ok hv22)) <| y_nil ?_
    refine pw_cond v29 rfl (fun hc => ?_) (fun hc => ?_)
    ·have h := ifT h hc
     refine sr1 (by kernel_rfl) <| y0 rfl (o_move (d := .sl 910005) rfl) <| y0 rfl (o_move (d := .int .i64 v28) rfl) <| y0 rfl (o_bI (f := (PV.int .i64)) (l := [v28]) rfl Ty.e28 Ty.s3 Ty.z3 rfl rfl nl rfl rfl) ?_
     obtain ⟨v30, hv23, h⟩ := bindE h
     refine y_app rfl (o_apR (f := (PV.int .i64)) hv23 rfl rfl rfl rfl rfl rfl (.inl ⟨_, rfl, rfl⟩) Ty.e28 Ty.s3 Ty.b3 Ty.z3 rfl (fun _ => rfl)) rfl rfl rfl <| y0 rfl (o_assign (d := .sl 21) rfl) <| y_nil ?_
     exact ⟨rfl, v30, h, (Wk.trans (wk_frz _ [21]) (wk_st _ _ ⟨rfl, rfl, rfl, rfl, rfl, rfl, rfl, rfl, rfl, rfl, rfl, rfl, rfl, rfl, rfl, trivial⟩ ⟨rS, trivial⟩))⟩
    ·have h := ifF h hc
     refine pw_skip ?_
     exact ⟨rfl, s20, h, (Wk.trans (wk_frz _ [910005]) (wk_stP (fun l => if l = 21 then 910005 else l) _ _ ⟨rfl, rfl, rfl, rfl, rfl, rfl, rfl, rfl, rfl, rfl, rfl, rfl, rfl, rfl, rfl, trivial⟩ ⟨rN, trivial⟩ rfl))⟩
  ·have h := ifF h hc
   refine pw_exit <| thenQ_exit <| thenQ_exit <| blockQ_exit ?_
   have he := hx16 _ (Option.some.inj h).symm
   have h := hk15
   rw [← he] at h
   exact ⟨rfl, s20, h, (Wk.trans (wk_frz _ [910005]) (wk_st _ _ ⟨rfl, rfl, rfl, trivial⟩ ⟨rS, trivial⟩))⟩

theorem reach_Lost_ok {a0 : store_Store} {a1 : List Int} {r : List Int} (h : reach_Lost a0 a1 = some r) : PCalls Tryz.prog 65 [store_Store.Pv a0, .lst false (List.map (PV.int .i64) a1)] (.lst false (List.map (PV.int .i64) r)) := by
 unfold reach_Lost at h
 refine pc_intro (N := 12) Tryz.func65 rfl rfl nl fun w0 imm0 => sR <| y1 rfl (o_box (d := store_Store.Pv a0) (z := 3) (cl := true) rfl rfl rfl rfl rfl) rfl <| y0 rfl (o_assign (d := .lst true (List.map (PV.int .i64) [])) rfl) <| y_nil <| sR <| y0 rfl (o_loadA (cs := store_Store.Pc a0) rfl rfl rfl Ty.a26 Ty.s26 nl rfl) <| y0 rfl (o_move (d := .lst false (List.map (PV.int .i64) a1)) rfl) ?_
 obtain ⟨v1, hv1, h⟩ := bindE h
 refine yc rfl (o_callF (ls := []) (ds := [store_Store.Pv a0, .lst false (List.map (PV.int .i64) a1)]) rfl Ty.k76 rfl (reach_spread_ok hv1)) <| y1 rfl (o_alloc (d := .abs NilMap) (z := 1) rfl Ty.z104 rfl rfl rfl) rfl <| y_sto (x' := .abs (ImMap (List.map (ent (PV.int .i64) PV.bool) v1))) (cl' := true) rfl rfl (.inl rfl) Ty.s104 <| y_nil <| sR <| y0 rfl (o_loadA (cs := store_Store.Pc a0) rfl rfl rfl Ty.a26 Ty.s26 nl rfl) <| y0 rfl (o_mkFunc rfl) ?_
 obtain ⟨v2, hv2, h⟩ := bindE h
 refine ycL rfl (o_callF (ls := [5]) (ds := [store_Store.Pv a0, .fn (.func 113) [.ptr 5 0 0]]) rfl Ty.k77 rfl (reach_live__reach_Lost_1_ok hv2)) rfl <| y0 rfl (o_assign (d := .lst false (List.map (PV.int .i64) v2)) rfl) <| y_nil <| pw_ret ?_
 obtain rfl := Option.some.inj h
 exact ⟨rfl, [_], ⟨rfl, trivial⟩, rfl, io⟩

theorem fix_Lost_ok {a0 : store_Store} {a1 : List hash_Place} {a2 : List Int} {r : List Int} (h : fix_Lost a0 a1 a2 = some r) : PCalls Tryz.prog 21 [store_Store.Pv a0, .lst false (List.map hash_Place.Pv a1), .lst false (List.map (PV.int .i64) a2)] (.lst false (List.map (PV.int .i64) r)) := by
 unfold fix_Lost at h
 refine pc_intro (N := 13) Tryz.func21 rfl rfl nl fun w0 imm0 => sR <| y1 rfl (o_box (d := store_Store.Pv a0) (z := 3) (cl := true) rfl rfl rfl rfl rfl) rfl <| y0 rfl (o_assign (d := .lst true (List.map (PV.int .i64) [])) rfl) <| y_nil <| dr [] Ty.mix (by kernel_rfl) (by kernel_rfl) <| d0 rfl (o_loadA (cs := store_Store.Pc a0) rfl rfl rfl Ty.a26 Ty.s26 nl rfl) rfl <| d0 rfl (o_loadA (cs := store_Store.Pc a0) rfl rfl rfl Ty.a26 Ty.s26 nl rfl) rfl ?_
 refine d7 rfl (fun _ hN => o_move (d := .lst false (List.map hash_Place.Pv a1)) rfl) rfl <| d7 rfl (fun _ hN => o_move (d := .lst false (List.map (PV.int .i64) a2)) rfl) rfl ?_
 obtain ⟨v1, hv1, h⟩ := bindE h
 refine d2f rfl (o_callF (ls := []) (ds := [store_Store.Pv a0, .lst false (List.map hash_Place.Pv a1), .lst false (List.map (PV.int .i64) a2)]) rfl Ty.k19 rfl (fix_From_ok hv1)) rfl ?_
 obtain ⟨v2, hv2, h⟩ := bindE h
 refine d2f rfl (o_callF (ls := []) (ds := [store_Store.Pv a0, .lst false (List.map (PV.int .i64) v1)]) rfl Ty.k65 rfl (reach_Lost_ok hv2)) rfl <| d7 rfl (fun _ hN => o_assign (d := .lst false (List.map (PV.int .i64) v2)) rfl) rfl <| d_nil <| pw_ret ?_
 obtain rfl := Option.some.inj h
 exact ⟨rfl, [_], ⟨rfl, trivial⟩, rfl, io⟩

theorem fix_Rounds_ok {a0 : store_Store} {a1 : List hash_Place} {a2 : List Int} {r : Int} (h : fix_Rounds a0 a1 a2 = some r) : PCalls Tryz.prog 25 [store_Store.Pv a0, .lst false (List.map hash_Place.Pv a1), .lst false (List.map (PV.int .i64) a2)] (.int .i64 r) := by
 unfold fix_Rounds at h
 refine pc_intro (N := 17) Tryz.func25 rfl rfl nl fun w0 imm0 => sR <| y1 rfl (o_box (d := store_Store.Pv a0) (z := 3) (cl := true) rfl rfl rfl rfl rfl) rfl <| y0 rfl (o_assign (d := .int .i64 0) rfl) <| y_nil <| sR <| y0 rfl (o_loadA (cs := store_Store.Pc a0) rfl rfl rfl Ty.a26 Ty.s26 nl rfl) <| y0 rfl (o_move (d := .lst false (List.map hash_Place.Pv a1)) rfl) ?_
 refine y0 rfl (o_move (d := .lst false (List.map (PV.int .i64) a2)) rfl) ?_
 obtain ⟨v1, hv1, h⟩ := bindE h
 refine yc rfl (o_callF (ls := []) (ds := [store_Store.Pv a0, .lst false (List.map hash_Place.Pv a1), .lst false (List.map (PV.int .i64) a2)]) rfl Ty.k63 rfl (fix_grown_ok hv1)) <| y0 rfl (o_move (d := .tup [.lst false (List.map (PV.int .i64) v1.1), .int .i64 v1.2]) rfl) <| y0 rfl (o_extract rfl rfl) <| y0 rfl (o_extract rfl rfl) <| y0 rfl (o_assign (d := .lst false (List.map (PV.int .i64) v1.1)) rfl) <| y0 rfl (o_assign (d := .int .i64 v1.2) rfl) <| y_nil <| sR ?_
 refine y0 rfl (o_move (d := .int .i64 v1.2) rfl) <| y0 rfl (o_assign (d := .int .i64 v1.2) rfl) <| y_nil <| pw_ret ?_
 obtain rfl := Option.some.inj h
 exact ⟨rfl, [_], ⟨rfl, trivial⟩, rfl, io⟩

theorem reach_Closed_ok {a0 : store_Store} {a1 : List Int} {r : Bool} (h : reach_Closed a0 a1 = some r) : PCalls Tryz.prog 69 [store_Store.Pv a0, .lst false (List.map (PV.int .i64) a1)] (.bool r) := by
 unfold reach_Closed at h
 refine pc_intro (N := 47) Tryz.func69 rfl rfl nl fun w0 imm0 => sR <| y1 rfl (o_box (d := store_Store.Pv a0) (z := 3) (cl := true) rfl rfl rfl rfl rfl) rfl <| y0 rfl (o_assign (d := .bool false) rfl) <| y_nil <| sR <| y_mkM (KT := Int) (VT := Bool) (EK := (PV.int .i64)) (E := PV.bool) 5000012 rfl rfl <| y0 rfl (o_assign (d := .mp 5000012) rfl) ?_
 refine y_nil ?_
 obtain ⟨κ7, hκ5, h⟩ := jnE h
 refine pw_jn0 (κ := κ7) (r := r) (fun (j8 : List (Int × Bool)) => St.of [(1, .lst false (List.map (PV.int .i64) a1)), (2, .ptr 2 0 0), (5, .mp 5000012)] [(5000012, ⟨[.mapc (List.map (ent (PV.int .i64) PV.bool) j8)], 0, false, 0, false⟩), (2, ⟨[store_Store.Pv a0], 0, false, 3, true⟩)]) (fun j8 h => ?_) ?_
 ·subst hκ5
  obtain ⟨κ28, hκ26, h⟩ := jnE h
  refine pw_jn0 (κ := κ28) (r := r) (fun (_ : Unit) => St.of [] []) (fun q29 h => ?_) ?_
  ·subst hκ26
   refine sR <| y0 rfl (o_assign (d := .bool true) rfl) <| y_nil <| pw_ret ?_
   obtain rfl := Option.some.inj h
   exact ⟨rfl, [_], ⟨rfl, trivial⟩, rfl, io⟩
  ·skip
   refine sR <| y0 rfl (o_move (d := .lst false (List.map (PV.int .i64) a1)) rfl) <| y0 rfl (o_lnL (f := (PV.int .i64)) rfl Ty.e28) <| y0 rfl (o_move (d := .int .i64 0) rfl) <| y_nil <| pw_block ?_
   obtain ⟨e30, hl27, hk28⟩ := bindE h
   refine pw_lp0 (fun (s31 : Int) => St.of [(2, .ptr 2 0 0), (5, .mp 5000012), (22, .lst false (List.map (PV.int .i64) a1)), (23, .int .i64 (a1.length : Int)), (24, .int .i64 s31)] [(5000012, ⟨[.mapc (List.map (ent (PV.int .i64) PV.bool) j8)], 0, false, 0, false⟩), (2, ⟨[store_Store.Pv a0], 0, false, 3, true⟩)]) hl27 (wk_st _ _ ⟨rfl, rfl, rfl, rfl, rfl, rfl, rfl, rfl, rfl, rfl, rfl, rfl, rfl, rfl, rfl, trivial⟩ ⟨rowLe_open rfl rfl rfl (fun q => nomatch q) rfl rfl rfl rfl, rS, trivial⟩) (fun s31 x32 h hx29 => ?_)
   refine sR <| y0 rfl (o_cmp rfl rfl rfl) <| y_nil <| pw_seq ?_
   refine pw_cond (decide (s31 < (a1.length : Int))) rfl (fun hc => ?_) (fun hc => ?_)
   ·have h := ifT h hc
    refine pw_skip ?_
    obtain ⟨κ40, hκ38, h⟩ := jnE h
    refine pw_jn0 (κ := κ40) (r := x32) (fun (_ : Unit) => St.of [(2, .ptr 2 0 0), (5, .mp 5000012), (22, .lst false (List.map (PV.int .i64) a1)), (23, .int .i64 (a1.length : Int)), (24, .int .i64 s31)] [(5000012, ⟨[.mapc (List.map (ent (PV.int .i64) PV.bool) j8)], 0, false, 0, false⟩), (2, ⟨[store_Store.Pv a0], 0, false, 3, true⟩)]) (fun q41 h => ?_) ?_
    ·subst hκ38
     refine sr1 (by kernel_rfl) <| y0 rfl (o_ari rfl rfl rfl) <| y0 rfl (o_move (d := .int .i64 (w64 (s31 + 1))) rfl) <| y_nil ?_
     exact ⟨rfl, w64 (s31 + 1), (Option.some.inj h).symm, (wk_st _ _ ⟨rfl, rfl, rfl, rfl, rfl, rfl, rfl, rfl, rfl, rfl, rfl, rfl, rfl, rfl, rfl, trivial⟩ ⟨rowLe_open rfl rfl rfl (fun q => nomatch q) rfl rfl rfl rfl, rS, trivial⟩)⟩
    ·skip
     refine pw_block <| sR ?_
     obtain ⟨v42, hv39, h⟩ := bindE h
     refine y0 rfl (o_ixL (f := (PV.int .i64)) (cs := [.int .i64 v42]) hv39 rfl rfl Ty.e28 Ty.s3 rfl rfl) <| y0 rfl (o_loadRS rfl Ty.a3 rfl) <| y0 rfl (o_assign (d := .int .i64 v42) rfl) <| y_nil <| sR <| y0 rfl (o_loadA (cs := store_Store.Pc a0) rfl rfl rfl Ty.a26 Ty.s26 nl rfl) <| y0 rfl (o_move (d := .int .i64 v42) rfl) ?_
     obtain ⟨v43, hv40, h⟩ := bindE h
     refine yc rfl (o_callF (ls := []) (ds := [store_Store.Pv a0, .int .i64 v42]) rfl Ty.k115 rfl (refs_Out_ok hv40)) <| y0 rfl (o_lnL (f := (PV.int .i64)) rfl Ty.e28) <| y0 rfl (o_move (d := .int .i64 0) rfl) <| y_nil <| pw_block ?_
     obtain ⟨e44, hl41, hk42⟩ := bindE h
     refine pw_lp0 (fun (s45 : Int) => St.of [(2, .ptr 2 0 0), (5, .mp 5000012), (22, .lst false (List.map (PV.int .i64) a1)), (23, .int .i64 (a1.length : Int)), (24, .int .i64 s31), (30, .lst false (List.map (PV.int .i64) v43)), (31, .int .i64 (v43.length : Int)), (32, .int .i64 s45)] [(5000012, ⟨[.mapc (List.map (ent (PV.int .i64) PV.bool) j8)], 0, false, 0, false⟩), (2, ⟨[store_Store.Pv a0], 0, false, 3, true⟩)]) hl41 (wk_st _ _ ⟨rfl, rfl, rfl, rfl, rfl, rfl, rfl, rfl, rfl, rfl, rfl, rfl, rfl, rfl, rfl, rfl, rfl, rfl, rfl, rfl, rfl, rfl, rfl, rfl, trivial⟩ ⟨rowLe_open rfl rfl rfl (fun q => nomatch q) rfl rfl rfl rfl, rS, trivial⟩) (fun s45 x46 h hx43 => ?_)
     refine sR <| y0 rfl (o_cmp rfl rfl rfl) <| y_nil <| pw_seq ?_
     refine pw_cond (decide (s45 < (v43.length : Int))) rfl (fun hc => ?_) (fun hc => ?_)
     ·have h := ifT h hc
      refine pw_skip <| pw_seq <| pw_block <| sR ?_
      obtain ⟨v47, hv44, h⟩ := bindE h
      refine y0 rfl (o_ixL (f := (PV.int .i64)) (cs := [.int .i64 v47]) hv44 rfl rfl Ty.e28 Ty.s3 rfl rfl) <| y0 rfl (o_loadRS rfl Ty.a3 rfl) <| y0 rfl (o_assign (d := .int .i64 v47) rfl) <| y_nil <| sR <| y0 rfl (o_loadA (cs := store_Store.Pc a0) rfl rfl rfl Ty.a26 Ty.s26 nl rfl) <| y0 rfl (o_move (d := .int .i64 v47) rfl) ?_
      obtain ⟨v48, hv45, h⟩ := bindE h
      refine y0 rfl (o_call (ds := [store_Store.Pv a0, .int .i64 v47]) rfl Ty.k116 rfl (reach_isLive_ok hv45)) <| y0 rfl (o_move (d := .bool v48) rfl) <| y_if (g := (v48 == true)) rfl (fun hg => o_move (d := .mp 5000012) rfl) <| y_if (g := (v48 == true)) rfl (fun hg => o_move (d := .int .i64 v47) rfl) ?_
      rcases Bool.eq_false_or_eq_true (v48 == true) with hg46 | hg46
      ·have h := ifT h hg46
       refine y_lkM (es := j8) (k := v47) (E := PV.bool) (EK := (PV.int .i64)) (d := .bool ((mget j8 v47).getD (false : Bool))) (congrArg some hg46) (ct hg46) rfl (ct hg46) Ty.mm104 (keyT_int Ty.u3) Ty.z4 rfl (lk1 _ _ _) <| y0 (congrArg some hg46) (o_not rfl rfl) <| y0 rfl (pk_andT rfl rfl hg46) <| y_nil ?_
       refine pw_cond (!((mget j8 v47).getD (false : Bool))) rfl (fun hc => ?_) (fun hc => ?_)
       ·have h := ifT h hc
        refine sR <| y0 rfl (o_assign (d := .bool false) rfl) <| y_nil <| pw_ret ?_
        have he := hx43 _ (Option.some.inj h).symm
        have h := hk42
        rw [← he] at h
        have he := hx29 _ (Option.some.inj h).symm
        have h := hk28
        rw [← he] at h
        obtain rfl := Option.some.inj h
        exact ⟨rfl, [_], ⟨rfl, trivial⟩, rfl, io⟩
       ·have h := ifF h hc
        refine pw_skip <| sr1 (by kernel_rfl) <| y0 rfl (o_ari rfl rfl rfl) <| y0 rfl (o_move (d := .int .i64 (w64 (s45 + 1))) rfl) <| y_nil ?_
        exact ⟨rfl, w64 (s45 + 1), (Option.some.inj h).symm, (wk_st _ _ ⟨rfl, rfl, rfl, rfl, rfl, rfl, rfl, rfl, rfl, rfl, rfl, rfl, rfl, rfl, rfl, rfl, rfl, rfl, rfl, rfl, rfl, rfl, rfl, rfl, trivial⟩ ⟨rowLe_open rfl rfl rfl (fun q => nomatch q) rfl rfl rfl rfl, rS, trivial⟩)⟩
      ·have h := ifF h hg46
       refine y_skip (congrArg some hg46) <| y_skip (congrArg some hg46) <| y0 rfl (pk_andF rfl rfl hg46) <| y_nil ?_
       refine pw_cond false rfl (fun q => nomatch q) (fun _ => ?_)
       refine pw_skip <| sr1 (by kernel_rfl) <| y0 rfl (o_ari rfl rfl rfl) <| y0 rfl (o_move (d := .int .i64 (w64 (s45 + 1))) rfl) <| y_nil ?_
       exact ⟨rfl, w64 (s45 + 1), (Option.some.inj h).symm, (wk_st _ _ ⟨rfl, rfl, rfl, rfl, rfl, rfl, rfl, rfl, rfl, rfl, rfl, rfl, rfl, rfl, rfl, rfl, rfl, rfl, rfl, rfl, rfl, rfl, rfl, rfl, trivial⟩ ⟨rowLe_open rfl rfl rfl (fun q => nomatch q) rfl rfl rfl rfl, rS, trivial⟩)⟩
     ·have h := ifF h hc
      refine pw_exit <| thenQ_exit <| thenQ_exit <| blockQ_exit ?_
      have he := hx43 _ (Option.some.inj h).symm
      have h := hk42
      rw [← he] at h
      exact ⟨rfl, (), h, (wk_st _ _ ⟨rfl, rfl, rfl, rfl, rfl, rfl, rfl, rfl, rfl, rfl, rfl, rfl, rfl, rfl, rfl, trivial⟩ ⟨rowLe_open rfl rfl rfl (fun q => nomatch q) rfl rfl rfl rfl, rS, trivial⟩)⟩
   ·have h := ifF h hc
    refine pw_exit <| thenQ_exit <| thenQ_exit <| blockQ_exit ?_
    have he := hx29 _ (Option.some.inj h).symm
    have h := hk28
    rw [← he] at h
    exact ⟨rfl, (), h, (wk_st _ _ trivial trivial)⟩
 ·skip
  refine sR <| y0 rfl (o_move (d := .lst false (List.map (PV.int .i64) a1)) rfl) <| y0 rfl (o_lnL (f := (PV.int .i64)) rfl Ty.e28) <| y0 rfl (o_move (d := .int .i64 0) rfl) <| y_nil <| pw_block ?_
  obtain ⟨e49, hl47, hk48⟩ := bindE h
  refine pw_lp0 (fun (q : Int × (List (Int × Bool))) => St.of [(1, .lst false (List.map (PV.int .i64) a1)), (2, .ptr 2 0 0), (5, .mp 5000012), (13, .lst false (List.map (PV.int .i64) a1)), (14, .int .i64 (a1.length : Int)), (15, .int .i64 q.1)] [(5000012, ⟨[.mapc (List.map (ent (PV.int .i64) PV.bool) q.2)], 0, false, 0, false⟩), (2, ⟨[store_Store.Pv a0], 0, false, 3, true⟩)]) hl47 (wk_st _ _ ⟨rfl, rfl, rfl, rfl, rfl, rfl, rfl, rfl, rfl, rfl, rfl, rfl, rfl, rfl, rfl, rfl, rfl, rfl, trivial⟩ ⟨rowLe_open rfl rfl rfl (fun q => nomatch q) rfl rfl rfl rfl, rS, trivial⟩) (fun q53 x52 h hx49 => ?_)
  obtain ⟨s50, s51⟩ := q53
  refine sR <| y0 rfl (o_cmp rfl rfl rfl) <| y_nil <| pw_seq ?_
  refine pw_cond (decide (s50 < (a1.length : Int))) rfl (fun hc => ?_) (fun hc => ?_)
  ·have h := ifT h hc
   refine pw_skip <| pw_seq <| pw_block <| sR ?_
   obtain ⟨v54, hv50, h⟩ := bindE h
   refine y0 rfl (o_ixL (f := (PV.int .i64)) (cs := [.int .i64 v54]) hv50 rfl rfl Ty.e28 Ty.s3 rfl rfl) <| y0 rfl (o_loadRS rfl Ty.a3 rfl) <| y0 rfl (o_assign (d := .int .i64 v54) rfl) <| y_nil <| sr1 (by kernel_rfl) <| y0 rfl (o_move (d := .mp 5000012) rfl) <| y0 rfl (o_move (d := .int .i64 v54) rfl) <| y_setM (es := s51) (k := v54) (v := true) (E := PV.bool) (EK := (PV.int .i64)) (.inl rfl) rfl rfl rfl rfl rfl rfl Ty.mm104 (keyT_int Ty.u3) ?_
   refine y_nil <| sr1 (by kernel_rfl) <| y0 rfl (o_ari rfl rfl rfl) <| y0 rfl (o_move (d := .int .i64 (w64 (s50 + 1))) rfl) <| y_nil ?_
   exact ⟨rfl, (w64 (s50 + 1), (mput s51 v54 true)), (Option.some.inj h).symm, (wk_st _ _ ⟨rfl, rfl, rfl, rfl, rfl, rfl, rfl, rfl, rfl, rfl, rfl, rfl, rfl, rfl, rfl, rfl, rfl, rfl, trivial⟩ ⟨rowLe_open rfl rfl rfl (fun q => nomatch q) rfl rfl rfl rfl, rS, trivial⟩)⟩
  ·have h := ifF h hc
   refine pw_exit <| thenQ_exit <| thenQ_exit <| blockQ_exit ?_
   have he := hx49 _ (Option.some.inj h).symm
   have h := hk48
   rw [← he] at h
   exact ⟨rfl, s51, h, (wk_st _ _ ⟨rfl, rfl, rfl, rfl, rfl, rfl, rfl, rfl, rfl, trivial⟩ ⟨rowLe_open rfl rfl rfl (fun q => nomatch q) rfl rfl rfl rfl, rS, trivial⟩)⟩

theorem fix_Closed_1_ok {a0 : Int} {a1 : List Int} {r : Bool} (h : fix_Closed_1 a0 a1 = some r) : PCalls Tryz.prog 67 [.int .i64 a0, .rptr [.lst false (List.map (PV.int .i64) a1)]] (.bool r) := by
 unfold fix_Closed_1 at h
 refine pc_intro (N := 8) Tryz.func67 rfl rfl nl fun w0 imm0 => sR <| y0 rfl (o_assign (d := .bool false) rfl) <| y_nil <| sR <| y0 rfl (o_loadRS rfl Ty.a28 rfl) <| y0 rfl (o_move (d := .int .i64 a0) rfl) ?_
 obtain ⟨v1, hv1, h⟩ := bindE h
 refine y0 rfl (o_call (ds := [.lst false (List.map (PV.int .i64) a1), .int .i64 a0]) rfl Ty.k68 rfl (slices_Contains_int_int_ok hv1)) <| y0 rfl (o_not rfl rfl) <| y0 rfl (o_assign (d := .bool (!v1)) rfl) <| y_nil <| pw_ret ?_
 obtain rfl := Option.some.inj h
 exact ⟨rfl, [_], ⟨rfl, trivial⟩, rfl, io⟩

theorem slices_IndexFunc_int_int__fix_Closed_1_ok {a0 : List Int} {a1 : List Int} {r : Int} (h : slices_IndexFunc_int_int__fix_Closed_1 a0 a1 = some r) : PCalls Tryz.prog 117 [.lst false (List.map (PV.int .i64) a0), .fn (.func 67) [.rptr [.lst false (List.map (PV.int .i64) a1)]]] (.int .i64 r) := by
 unfold slices_IndexFunc_int_int__fix_Closed_1 at h
 refine pc_intro (N := 19) Tryz.func117 rfl rfl nl fun w0 imm0 => sR <| y0 rfl (o_assign (d := .int .i64 0) rfl) <| y_nil ?_
 obtain ⟨κ6, hκ6, h⟩ := jnE h
 refine pw_jn0 (κ := κ6) (r := r) (fun (_ : Unit) => St.of [] []) (fun q7 h => ?_) ?_
 ·subst hκ6
  refine sR <| y0 rfl (o_assign (d := .int .i64 (-1)) rfl) <| y_nil <| pw_ret ?_
  obtain rfl := Option.some.inj h
  exact ⟨rfl, [_], ⟨rfl, trivial⟩, rfl, io⟩
 ·skip
  refine sR <| y0 rfl (o_move (d := .lst false (List.map (PV.int .i64) a0)) rfl) <| y0 rfl (o_lnL (f := (PV.int .i64)) rfl Ty.e28) <| y0 rfl (o_move (d := .int .i64 0) rfl) <| y_nil <| pw_block ?_
  obtain ⟨e8, hl7, hk8⟩ := bindE h
  refine pw_lp0 (fun (s9 : Int) => St.of [(0, .lst false (List.map (PV.int .i64) a0)), (1, .fn (.func 67) [.rptr [.lst false (List.map (PV.int .i64) a1)]]), (7, .int .i64 (a0.length : Int)), (8, .int .i64 s9)] []) hl7 (wk_st _ _ ⟨rfl, rfl, rfl, rfl, rfl, rfl, rfl, rfl, rfl, rfl, rfl, rfl, trivial⟩ trivial) (fun s9 x10 h hx9 => ?_)
  refine sR <| y0 rfl (o_cmp rfl rfl rfl) <| y_nil <| pw_seq ?_
  refine pw_cond (decide (s9 < (a0.length : Int))) rfl (fun hc => ?_) (fun hc => ?_)
  ·have h := ifT h hc
   refine pw_skip <| pw_seq <| pw_block <| sR <| y0 rfl (o_move (d := .int .i64 s9) rfl) <| y0 rfl (o_assign (d := .int .i64 s9) rfl) <| y_nil <| sR ?_
   refine y0 rfl (o_move (d := .fn (.func 67) [.rptr [.lst false (List.map (PV.int .i64) a1)]]) rfl) <| y0 rfl (o_move (d := .lst false (List.map (PV.int .i64) a0)) rfl) <| y0 rfl (o_move (d := .int .i64 s9) rfl) ?_
   obtain ⟨v11, hv10, h⟩ := bindE h
   refine y0 rfl (o_ixL (f := (PV.int .i64)) (cs := [.int .i64 v11]) hv10 rfl rfl Ty.e28 Ty.s3 rfl rfl) <| y0 rfl (o_loadRS rfl Ty.a3 rfl) ?_
   obtain ⟨v12, hv11, h⟩ := bindE h
   refine y0 rfl (o_call (ds := [.int .i64 v11, .rptr [.lst false (List.map (PV.int .i64) a1)]]) rfl Ty.k67 rfl (fix_Closed_1_ok hv11)) <| y_nil ?_
   refine pw_cond v12 rfl (fun hc => ?_) (fun hc => ?_)
   ·have h := ifT h hc
    refine sR <| y0 rfl (o_move (d := .int .i64 s9) rfl) <| y0 rfl (o_assign (d := .int .i64 s9) rfl) <| y_nil <| pw_ret ?_
    have he := hx9 _ (Option.some.inj h).symm
    have h := hk8
    rw [← he] at h
    obtain rfl := Option.some.inj h
    exact ⟨rfl, [_], ⟨rfl, trivial⟩, rfl, io⟩
   ·have h := ifF h hc
    refine pw_skip <| sr1 (by kernel_rfl) <| y0 rfl (o_ari rfl rfl rfl) <| y0 rfl (o_move (d := .int .i64 (w64 (s9 + 1))) rfl) <| y_nil ?_
    exact ⟨rfl, w64 (s9 + 1), (Option.some.inj h).symm, (wk_st _ _ ⟨rfl, rfl, rfl, rfl, rfl, rfl, rfl, rfl, rfl, rfl, rfl, rfl, trivial⟩ trivial)⟩
  ·have h := ifF h hc
   refine pw_exit <| thenQ_exit <| thenQ_exit <| blockQ_exit ?_
   have he := hx9 _ (Option.some.inj h).symm
   have h := hk8
   rw [← he] at h
   exact ⟨rfl, (), h, (wk_st _ _ trivial trivial)⟩

theorem slices_ContainsFunc_int_int__fix_Closed_1_ok {a0 : List Int} {a1 : List Int} {r : Bool} (h : slices_ContainsFunc_int_int__fix_Closed_1 a0 a1 = some r) : PCalls Tryz.prog 70 [.lst false (List.map (PV.int .i64) a0), .fn (.func 67) [.rptr [.lst false (List.map (PV.int .i64) a1)]]] (.bool r) := by
 unfold slices_ContainsFunc_int_int__fix_Closed_1 at h
 refine pc_intro (N := 9) Tryz.func70 rfl rfl nl fun w0 imm0 => sR <| y0 rfl (o_assign (d := .bool false) rfl) <| y_nil <| sR <| y0 rfl (o_move (d := .lst false (List.map (PV.int .i64) a0)) rfl) <| y0 rfl (o_move (d := .fn (.func 67) [.rptr [.lst false (List.map (PV.int .i64) a1)]]) rfl) ?_
 obtain ⟨v1, hv1, h⟩ := bindE h
 refine y0 rfl (o_call (ds := [.lst false (List.map (PV.int .i64) a0), .fn (.func 67) [.rptr [.lst false (List.map (PV.int .i64) a1)]]]) rfl Ty.k117 rfl (slices_IndexFunc_int_int__fix_Closed_1_ok hv1)) <| y0 rfl (o_cmp rfl rfl rfl) <| y0 rfl (o_assign (d := .bool (decide (v1 ≥ 0))) rfl) <| y_nil <| pw_ret ?_
 obtain rfl := Option.some.inj h
 exact ⟨rfl, [_], ⟨rfl, trivial⟩, rfl, io⟩

theorem fix_Closed_ok {a0 : store_Store} {a1 : List hash_Place} {a2 : List Int} {r : Bool} (h : fix_Closed a0 a1 a2 = some r) : PCalls Tryz.prog 23 [store_Store.Pv a0, .lst false (List.map hash_Place.Pv a1), .lst false (List.map (PV.int .i64) a2)] (.bool r) := by
 unfold fix_Closed at h
 refine pc_intro (N := 21) Tryz.func23 rfl rfl nl fun w0 imm0 => sR <| y1 rfl (o_box (d := store_Store.Pv a0) (z := 3) (cl := true) rfl rfl rfl rfl rfl) rfl <| y1 rfl (o_box (d := .lst false (List.map (PV.int .i64) a2)) (z := 1) (cl := true) rfl rfl rfl rfl rfl) rfl <| y0 rfl (o_assign (d := .bool false) rfl) <| y_nil <| sR <| y0 rfl (o_mkFunc rfl) ?_
 refine y0 rfl (o_assign (d := .fn (.func 67) [.ptr 5 0 0]) rfl) <| y_nil <| sR <| y0 rfl (o_loadA (cs := store_Store.Pc a0) rfl rfl rfl Ty.a26 Ty.s26 nl rfl) <| y0 rfl (o_loadS rfl rfl rfl Ty.a28 rfl) ?_
 obtain ⟨v1, hv1, h⟩ := bindE h
 refine y0 rfl (o_call (ds := [store_Store.Pv a0, .lst false (List.map (PV.int .i64) a2)]) rfl Ty.k69 rfl (reach_Closed_ok hv1)) <| y0 rfl (o_move (d := .bool v1) rfl) <| y_if (g := (v1 == true)) rfl (fun hg => o_loadA (cs := store_Store.Pc a0) rfl rfl rfl Ty.a26 Ty.s26 nl rfl) <| y_if (g := (v1 == true)) rfl (fun hg => o_move (d := .lst false (List.map hash_Place.Pv a1)) rfl) <| y_if (g := (v1 == true)) rfl (fun hg => o_loadS rfl rfl rfl Ty.a28 rfl) ?_
 obtain ⟨v2, hv2, h⟩ := bindE h
 refine y_ifc (g := (v1 == true)) rfl (fun hg => o_callF (ls := []) (ds := [store_Store.Pv a0, .lst false (List.map hash_Place.Pv a1), .lst false (List.map (PV.int .i64) a2)]) rfl Ty.k71 (consE (ct hg) (consE (ct hg) (consE (ct hg) rfl))) (fix_owed_ok (onlyE hv2 hg))) <| y_if (g := (v1 == true)) rfl (fun hg => o_move (d := .fn (.func 67) [.ptr 5 0 0]) rfl) ?_
 obtain ⟨v3, hv3, h⟩ := bindE h
 refine y_if (g := (v1 == true)) rfl (fun hg => o_call (ds := [.lst false (List.map (PV.int .i64) v2), .fn (.func 67) [.ptr 5 0 0]]) rfl Ty.k70 (consE (ct hg) (consE (ct hg) rfl)) (slices_ContainsFunc_int_int__fix_Closed_1_ok (onlyE hv3 hg))) <| y_if (g := (v1 == true)) rfl (fun hg => o_not (ct hg) rfl) <| y0 rfl (pk_and rfl rfl rfl (fun q => eqT q)) <| y0 rfl (o_assign (d := .bool (v1 && (!v3))) rfl) <| y_nil <| pw_ret ?_
 obtain rfl := Option.some.inj h
 exact ⟨rfl, [_], ⟨rfl, trivial⟩, rfl, io⟩

theorem w12_shown_ok  {r : Bool} (h : w12_shown = some r) : PCalls Tryz.prog 15 [] (.bool r) := by
 unfold w12_shown at h
 refine pc_intro (N := 91) Tryz.func15 rfl rfl nl fun w0 imm0 => sR <| y0 rfl (o_assign (d := .bool false) rfl) <| y_nil <| sR ?_
 obtain ⟨v1, hv1, h⟩ := bindE h
 refine yc rfl (o_callF (ls := []) (ds := [.int .i64 5, .int .i64 3]) rfl Ty.k60 rfl (store_New_ok hv1)) <| y1 rfl (o_alloc (d := .agg [.lst true (List.map slab_Cell_store_Obj.Pv []), .int .i64 0, .int .i64 0]) (z := 3) rfl Ty.z26 rfl rfl rfl) rfl <| y_sto (x' := store_Store.Pv v1) (cl' := true) rfl rfl (.inr rfl) Ty.s26 <| y_nil ?_
 obtain ⟨κ8, hκ6, h⟩ := jnE h
 refine pw_jn0 (κ := κ8) (r := r) (fun (j9 : store_Store) => St.of [(1, .ptr 1 0 0)] [(1, ⟨[store_Store.Pv j9], 0, false, 3, true⟩)]) (fun j9 h => ?_) ?_
 ·subst hκ6
  refine sR ?_
  obtain ⟨v10, hv7, h⟩ := bindE h
  refine yc rfl (o_callF (ls := []) (ds := [.int .i64 8]) rfl Ty.k31 rfl (hash_New_ok hv7)) ?_
  obtain ⟨v11, hv8, h⟩ := bindE h
  refine yc rfl (o_callF (ls := []) (ds := [.lst false (List.map hash_Place.Pv v10), .int .i64 1, .int .i64 2]) rfl Ty.k33 rfl (ephem_Set_ok hv8)) <| y0 rfl (o_move (d := .tup [.lst false (List.map hash_Place.Pv v11.1), .int .i64 v11.2.1, .int .i64 v11.2.2]) rfl) <| y0 rfl (o_extract rfl rfl) <| y0 rfl (o_extract rfl rfl) <| y0 rfl (o_extract rfl rfl) <| y0 rfl (o_assign (d := .lst false (List.map hash_Place.Pv v11.1)) rfl) <| y0 rfl (o_assign (d := .int .i64 v11.2.1) rfl) <| y0 rfl (o_assign (d := .int .i64 v11.2.2) rfl) ?_
  refine y_nil <| sR <| y0 rfl (o_move (d := .lst false (List.map hash_Place.Pv v11.1)) rfl) ?_
  obtain ⟨v12, hv9, h⟩ := bindE h
  refine yc rfl (o_callF (ls := []) (ds := [.lst false (List.map hash_Place.Pv v11.1), .int .i64 2, .int .i64 3]) rfl Ty.k33 rfl (ephem_Set_ok hv9)) <| y0 rfl (o_move (d := .tup [.lst false (List.map hash_Place.Pv v12.1), .int .i64 v12.2.1, .int .i64 v12.2.2]) rfl) <| y0 rfl (o_extract rfl rfl) <| y0 rfl (o_extract rfl rfl) <| y0 rfl (o_extract rfl rfl) <| y0 rfl (o_assign (d := .lst false (List.map hash_Place.Pv v12.1)) rfl) <| y_nil <| sR ?_
  refine y0 rfl (o_move (d := .lst false (List.map hash_Place.Pv v12.1)) rfl) ?_
  obtain ⟨v13, hv10, h⟩ := bindE h
  refine yc rfl (o_callF (ls := []) (ds := [.lst false (List.map hash_Place.Pv v12.1), .int .i64 4, .int .i64 4]) rfl Ty.k33 rfl (ephem_Set_ok hv10)) <| y0 rfl (o_move (d := .tup [.lst false (List.map hash_Place.Pv v13.1), .int .i64 v13.2.1, .int .i64 v13.2.2]) rfl) <| y0 rfl (o_extract rfl rfl) <| y0 rfl (o_extract rfl rfl) <| y0 rfl (o_extract rfl rfl) <| y0 rfl (o_assign (d := .lst false (List.map hash_Place.Pv v13.1)) rfl) <| y_nil <| sR ?_
  refine y0 rfl (o_loadA (cs := store_Store.Pc j9) rfl rfl rfl Ty.a26 Ty.s26 nl rfl) <| y0 rfl (o_move (d := .lst false (List.map hash_Place.Pv v13.1)) rfl) <| y0 rfl (o_bI (f := (PV.int .i64)) (l := [1]) rfl Ty.e28 Ty.s3 Ty.z3 rfl rfl nl rfl rfl) ?_
  obtain ⟨v14, hv11, h⟩ := bindE h
  refine yc rfl (o_callF (ls := []) (ds := [store_Store.Pv j9, .lst false (List.map hash_Place.Pv v13.1), .lst true (List.map (PV.int .i64) [1])]) rfl Ty.k19 rfl (fix_From_ok hv11)) <| y0 rfl (o_assign (d := .lst false (List.map (PV.int .i64) v14)) rfl) <| y_nil <| sR <| y0 rfl (o_loadA (cs := store_Store.Pc j9) rfl rfl rfl Ty.a26 Ty.s26 nl rfl) <| y0 rfl (o_move (d := .lst false (List.map hash_Place.Pv v13.1)) rfl) <| y0 rfl (o_bI (f := (PV.int .i64)) (l := [1]) rfl Ty.e28 Ty.s3 Ty.z3 rfl rfl nl rfl rfl) ?_
  obtain ⟨v15, hv12, h⟩ := bindE h
  refine yc rfl (o_callF (ls := []) (ds := [store_Store.Pv j9, .lst false (List.map hash_Place.Pv v13.1), .lst true (List.map (PV.int .i64) [1])]) rfl Ty.k21 rfl (fix_Lost_ok hv12)) <| y0 rfl (o_assign (d := .lst false (List.map (PV.int .i64) v15)) rfl) <| y_nil <| sR <| y0 rfl (o_move (d := .lst false (List.map (PV.int .i64) v14)) rfl) <| y0 rfl (o_lnL (f := (PV.int .i64)) rfl Ty.e28) <| y0 rfl (o_cmp rfl rfl rfl) <| y0 rfl (o_move (d := .bool ((v14.length : Int) == 3)) rfl) ?_
  refine y_if (g := (((v14.length : Int) == 3) == true)) rfl (fun hg => o_move (d := .lst false (List.map (PV.int .i64) v14)) rfl) ?_
  obtain ⟨v16, hv13, h⟩ := bindE h
  refine y_if (g := (((v14.length : Int) == 3) == true)) rfl (fun hg => o_ixL (f := (PV.int .i64)) (cs := [.int .i64 v16]) (onlyE hv13 hg) (ct hg) rfl Ty.e28 Ty.s3 rfl rfl) <| y_if (g := (((v14.length : Int) == 3) == true)) rfl (fun hg => o_loadRS (ct hg) Ty.a3 rfl) <| y_if (g := (((v14.length : Int) == 3) == true)) rfl (fun hg => o_cmp (ct hg) rfl rfl) <| y0 rfl (pk_and rfl rfl rfl (fun q => eqT q)) <| y0 rfl (o_move (d := .bool (((v14.length : Int) == 3) && (v16 == 3))) rfl) <| y_if (g := ((((v14.length : Int) == 3) && (v16 == 3)) == true)) rfl (fun hg => o_move (d := .lst false (List.map (PV.int .i64) v15)) rfl) <| y_if (g := ((((v14.length : Int) == 3) && (v16 == 3)) == true)) rfl (fun hg => o_lnL (f := (PV.int .i64)) (ct hg) Ty.e28) <| y_if (g := ((((v14.length : Int) == 3) && (v16 == 3)) == true)) rfl (fun hg => o_cmp (ct hg) rfl rfl) ?_
  refine y0 rfl (pk_and rfl rfl rfl (fun q => eqT q)) <| y0 rfl (o_move (d := .bool ((((v14.length : Int) == 3) && (v16 == 3)) && ((v15.length : Int) == 1))) rfl) <| y_if (g := (((((v14.length : Int) == 3) && (v16 == 3)) && ((v15.length : Int) == 1)) == true)) rfl (fun hg => o_move (d := .lst false (List.map (PV.int .i64) v15)) rfl) ?_
  obtain ⟨v17, hv14, h⟩ := bindE h
  refine y_if (g := (((((v14.length : Int) == 3) && (v16 == 3)) && ((v15.length : Int) == 1)) == true)) rfl (fun hg => o_ixL (f := (PV.int .i64)) (cs := [.int .i64 v17]) (onlyE hv14 hg) (ct hg) rfl Ty.e28 Ty.s3 rfl rfl) <| y_if (g := (((((v14.length : Int) == 3) && (v16 == 3)) && ((v15.length : Int) == 1)) == true)) rfl (fun hg => o_loadRS (ct hg) Ty.a3 rfl) <| y_if (g := (((((v14.length : Int) == 3) && (v16 == 3)) && ((v15.length : Int) == 1)) == true)) rfl (fun hg => o_cmp (ct hg) rfl rfl) <| y0 rfl (pk_and rfl rfl rfl (fun q => eqT q)) <| y0 rfl (o_move (d := .bool (((((v14.length : Int) == 3) && (v16 == 3)) && ((v15.length : Int) == 1)) && (v17 == 4))) rfl) <| y_if (g := ((((((v14.length : Int) == 3) && (v16 == 3)) && ((v15.length : Int) == 1)) && (v17 == 4)) == true)) rfl (fun hg => o_loadA (cs := store_Store.Pc j9) rfl rfl rfl Ty.a26 Ty.s26 nl rfl) <| y_if (g := ((((((v14.length : Int) == 3) && (v16 == 3)) && ((v15.length : Int) == 1)) && (v17 == 4)) == true)) rfl (fun hg => o_move (d := .lst false (List.map hash_Place.Pv v13.1)) rfl) <| y_if (g := ((((((v14.length : Int) == 3) && (v16 == 3)) && ((v15.length : Int) == 1)) && (v17 == 4)) == true)) rfl (fun hg => o_bI (f := (PV.int .i64)) (l := [1]) rfl Ty.e28 Ty.s3 Ty.z3 rfl rfl nl rfl rfl) ?_
  obtain ⟨v18, hv15, h⟩ := bindE h
  refine y_if (g := ((((((v14.length : Int) == 3) && (v16 == 3)) && ((v15.length : Int) == 1)) && (v17 == 4)) == true)) rfl (fun hg => o_call (ds := [store_Store.Pv j9, .lst false (List.map hash_Place.Pv v13.1), .lst true (List.map (PV.int .i64) [1])]) rfl Ty.k25 (consE (ct hg) (consE (ct hg) (consE (ct hg) rfl))) (fix_Rounds_ok (onlyE hv15 hg))) <| y_if (g := ((((((v14.length : Int) == 3) && (v16 == 3)) && ((v15.length : Int) == 1)) && (v17 == 4)) == true)) rfl (fun hg => o_cmp (ct hg) rfl rfl) <| y0 rfl (pk_and rfl rfl rfl (fun q => eqT q)) <| y0 rfl (o_move (d := .bool ((((((v14.length : Int) == 3) && (v16 == 3)) && ((v15.length : Int) == 1)) && (v17 == 4)) && (v18 == 2))) rfl) <| y_if (g := (((((((v14.length : Int) == 3) && (v16 == 3)) && ((v15.length : Int) == 1)) && (v17 == 4)) && (v18 == 2)) == true)) rfl (fun hg => o_loadA (cs := store_Store.Pc j9) rfl rfl rfl Ty.a26 Ty.s26 nl rfl) <| y_if (g := (((((((v14.length : Int) == 3) && (v16 == 3)) && ((v15.length : Int) == 1)) && (v17 == 4)) && (v18 == 2)) == true)) rfl (fun hg => o_move (d := .lst false (List.map hash_Place.Pv v13.1)) rfl) ?_
  obtain ⟨v19, hv16, h⟩ := bindE h
  refine y_if (g := (((((((v14.length : Int) == 3) && (v16 == 3)) && ((v15.length : Int) == 1)) && (v17 == 4)) && (v18 == 2)) == true)) rfl (fun hg => o_call (ds := [store_Store.Pv j9, .lst false (List.map hash_Place.Pv v13.1), .lst true (List.map (PV.int .i64) [])]) rfl Ty.k25 (consE (ct hg) (consE (ct hg) (consE rfl rfl))) (fix_Rounds_ok (onlyE hv16 hg))) <| y_if (g := (((((((v14.length : Int) == 3) && (v16 == 3)) && ((v15.length : Int) == 1)) && (v17 == 4)) && (v18 == 2)) == true)) rfl (fun hg => o_cmp (ct hg) rfl rfl) <| y0 rfl (pk_and rfl rfl rfl (fun q => eqT q)) <| y0 rfl (o_move (d := .bool (((((((v14.length : Int) == 3) && (v16 == 3)) && ((v15.length : Int) == 1)) && (v17 == 4)) && (v18 == 2)) && (v19 == 0))) rfl) <| y_if (g := ((((((((v14.length : Int) == 3) && (v16 == 3)) && ((v15.length : Int) == 1)) && (v17 == 4)) && (v18 == 2)) && (v19 == 0)) == true)) rfl (fun hg => o_loadA (cs := store_Store.Pc j9) rfl rfl rfl Ty.a26 Ty.s26 nl rfl) <| y_if (g := ((((((((v14.length : Int) == 3) && (v16 == 3)) && ((v15.length : Int) == 1)) && (v17 == 4)) && (v18 == 2)) && (v19 == 0)) == true)) rfl (fun hg => o_move (d := .lst false (List.map hash_Place.Pv v13.1)) rfl) <| y_if (g := ((((((((v14.length : Int) == 3) && (v16 == 3)) && ((v15.length : Int) == 1)) && (v17 == 4)) && (v18 == 2)) && (v19 == 0)) == true)) rfl (fun hg => o_move (d := .lst false (List.map (PV.int .i64) v14)) rfl) ?_
  obtain ⟨v20, hv17, h⟩ := bindE h
  refine y_if (g := ((((((((v14.length : Int) == 3) && (v16 == 3)) && ((v15.length : Int) == 1)) && (v17 == 4)) && (v18 == 2)) && (v19 == 0)) == true)) rfl (fun hg => o_call (ds := [store_Store.Pv j9, .lst false (List.map hash_Place.Pv v13.1), .lst false (List.map (PV.int .i64) v14)]) rfl Ty.k23 (consE (ct hg) (consE (ct hg) (consE (ct hg) rfl))) (fix_Closed_ok (onlyE hv17 hg))) <| y0 rfl (pk_and rfl rfl rfl (fun q => eqT q)) <| y0 rfl (o_move (d := .bool ((((((((v14.length : Int) == 3) && (v16 == 3)) && ((v15.length : Int) == 1)) && (v17 == 4)) && (v18 == 2)) && (v19 == 0)) && v20)) rfl) <| y_if (g := (((((((((v14.length : Int) == 3) && (v16 == 3)) && ((v15.length : Int) == 1)) && (v17 == 4)) && (v18 == 2)) && (v19 == 0)) && v20) == true)) rfl (fun hg => o_loadA (cs := store_Store.Pc j9) rfl rfl rfl Ty.a26 Ty.s26 nl rfl) <| y_if (g := (((((((((v14.length : Int) == 3) && (v16 == 3)) && ((v15.length : Int) == 1)) && (v17 == 4)) && (v18 == 2)) && (v19 == 0)) && v20) == true)) rfl (fun hg => o_move (d := .lst false (List.map hash_Place.Pv v13.1)) rfl) <| y_if (g := (((((((((v14.length : Int) == 3) && (v16 == 3)) && ((v15.length : Int) == 1)) && (v17 == 4)) && (v18 == 2)) && (v19 == 0)) && v20) == true)) rfl (fun hg => o_bI (f := (PV.int .i64)) (l := [1, 2]) rfl Ty.e28 Ty.s3 Ty.z3 rfl rfl nl rfl rfl) ?_
  obtain ⟨v21, hv18, h⟩ := bindE h
  refine y_if (g := (((((((((v14.length : Int) == 3) && (v16 == 3)) && ((v15.length : Int) == 1)) && (v17 == 4)) && (v18 == 2)) && (v19 == 0)) && v20) == true)) rfl (fun hg => o_call (ds := [store_Store.Pv j9, .lst false (List.map hash_Place.Pv v13.1), .lst true (List.map (PV.int .i64) [1, 2])]) rfl Ty.k23 (consE (ct hg) (consE (ct hg) (consE (ct hg) rfl))) (fix_Closed_ok (onlyE hv18 hg))) <| y_if (g := (((((((((v14.length : Int) == 3) && (v16 == 3)) && ((v15.length : Int) == 1)) && (v17 == 4)) && (v18 == 2)) && (v19 == 0)) && v20) == true)) rfl (fun hg => o_not (ct hg) rfl) <| y0 rfl (pk_and rfl rfl rfl (fun q => eqT q)) <| y0 rfl (o_assign (d := .bool (((((((((v14.length : Int) == 3) && (v16 == 3)) && ((v15.length : Int) == 1)) && (v17 == 4)) && (v18 == 2)) && (v19 == 0)) && v20) && (!v21))) rfl) <| y_nil <| pw_ret ?_
  obtain rfl := Option.some.inj h
  exact ⟨rfl, [_], ⟨rfl, trivial⟩, rfl, io⟩
 ·skip
  refine sR <| y0 rfl (o_assign (d := .int .i64 0) rfl) <| y_nil <| pw_block ?_
  obtain ⟨e22, hl19, hk20⟩ := bindE h
  refine pw_lp0 (fun (q : Int × store_Store) => St.of [(1, .ptr 1 0 0), (2, .int .i64 q.1)] [(1, ⟨[store_Store.Pv q.2], 0, false, 3, true⟩)]) hl19 (wk_st _ _ ⟨rfl, rfl, rfl, rfl, rfl, rfl, trivial⟩ ⟨rS, trivial⟩) (fun q26 x25 h hx21 => ?_)
  obtain ⟨s23, s24⟩ := q26
  refine pw_seq <| sR <| y0 rfl (o_move (d := .int .i64 s23) rfl) <| y0 rfl (o_cmp rfl rfl rfl) <| y_nil ?_
  refine pw_cond (decide (s23 < 4)) rfl (fun hc => ?_) (fun hc => ?_)
  ·have h := ifT h hc
   refine pw_skip <| pw_seq <| pw_block <| sr1 (by kernel_rfl) <| y0 rfl (o_loadA (cs := store_Store.Pc s24) rfl rfl rfl Ty.a26 Ty.s26 nl rfl) ?_
   obtain ⟨v27, hv22, h⟩ := bindE h
   refine yc rfl (o_callF (ls := []) (ds := [store_Store.Pv s24, .int .i64 1, .int .i64 (-1)]) rfl Ty.k61 rfl (store_Make_ok hv22)) <| y0 rfl (o_move (d := .tup [store_Store.Pv v27.1, .int .i64 v27.2.1, .int .i64 v27.2.2]) rfl) <| y0 rfl (o_extract rfl rfl) <| y0 rfl (o_extract rfl rfl) <| y0 rfl (o_extract rfl rfl) <| y_sto (x' := store_Store.Pv v27.1) (cl' := true) rfl rfl (.inr rfl) Ty.s26 <| y_nil <| sr1 (by kernel_rfl) ?_
   refine y0 rfl (o_move (d := .int .i64 s23) rfl) <| y0 rfl (o_ari rfl rfl rfl) <| y0 rfl (o_assign (d := .int .i64 (w64 (s23 + 1))) rfl) <| y_nil ?_
   exact ⟨rfl, (w64 (s23 + 1), v27.1), (Option.some.inj h).symm, (wk_st _ _ ⟨rfl, rfl, rfl, rfl, rfl, rfl, trivial⟩ ⟨rS, trivial⟩)⟩
  ·have h := ifF h hc
   refine pw_exit <| thenQ_exit <| thenQ_exit <| blockQ_exit ?_
   have he := hx21 _ (Option.some.inj h).symm
   have h := hk20
   rw [← he] at h
   exact ⟨rfl, s24, h, (wk_st _ _ ⟨rfl, rfl, rfl, trivial⟩ ⟨rS, trivial⟩)⟩

theorem r01_Pack_ok {a0 : Int} {a1 : Int} {r : Int} (h : r01_Pack a0 a1 = some r) : PCalls Tryz.prog 74 [.int .i64 a0, .int .i64 a1] (.int .i64 r) := by
 unfold r01_Pack at h
 refine pc_intro (N := 24) Tryz.func74 rfl rfl nl fun w0 imm0 => sR <| y0 rfl (o_assign (d := .int .i64 0) rfl) <| y_nil <| pw_seq <| sR <| y0 rfl (o_move (d := .int .i64 a0) rfl) <| y0 rfl (o_cmp rfl rfl rfl) ?_
 refine y0 rfl (o_move (d := .bool (decide (a0 < 0))) rfl) <| y_if (g := ((decide (a0 < 0)) == false)) rfl (fun hg => o_move (d := .int .i64 a0) rfl) <| y_if (g := ((decide (a0 < 0)) == false)) rfl (fun hg => o_cmp (ct hg) rfl rfl) <| y0 rfl (pk_or rfl rfl rfl (fun q => eqF q)) <| y0 rfl (o_move (d := .bool ((decide (a0 < 0)) || (decide (a0 > 23)))) rfl) <| y_if (g := (((decide (a0 < 0)) || (decide (a0 > 23))) == false)) rfl (fun hg => o_move (d := .int .i64 a1) rfl) <| y_if (g := (((decide (a0 < 0)) || (decide (a0 > 23))) == false)) rfl (fun hg => o_cmp (ct hg) rfl rfl) <| y0 rfl (pk_or rfl rfl rfl (fun q => eqF q)) ?_
 refine y0 rfl (o_move (d := .bool (((decide (a0 < 0)) || (decide (a0 > 23))) || (decide (a1 < 0)))) rfl) <| y_if (g := ((((decide (a0 < 0)) || (decide (a0 > 23))) || (decide (a1 < 0))) == false)) rfl (fun hg => o_move (d := .int .i64 a1) rfl) <| y_if (g := ((((decide (a0 < 0)) || (decide (a0 > 23))) || (decide (a1 < 0))) == false)) rfl (fun hg => o_cmp (ct hg) rfl rfl) <| y0 rfl (pk_or rfl rfl rfl (fun q => eqF q)) <| y_nil ?_
 refine pw_cond ((((decide (a0 < 0)) || (decide (a0 > 23))) || (decide (a1 < 0))) || (decide (a1 > 9))) rfl (fun hc => ?_) (fun hc => ?_)
 ·have h := ifT h hc
  refine sR <| y0 rfl (o_assign (d := .int .i64 0) rfl) <| y_nil <| pw_ret ?_
  obtain rfl := Option.some.inj h
  exact ⟨rfl, [_], ⟨rfl, trivial⟩, rfl, io⟩
 ·have h := ifF h hc
  refine pw_skip <| sR <| y0 rfl (o_move (d := .int .i64 a0) rfl) <| y0 rfl (o_ari rfl rfl rfl) <| y0 rfl (o_move (d := .int .i64 a1) rfl) <| y0 rfl (o_ari rfl rfl rfl) <| y0 rfl (o_ari rfl rfl rfl) <| y0 rfl (o_assign (d := .int .i64 (w64 ((w64 (1 + a0)) + (w64 (32 * a1))))) rfl) ?_
  refine y_nil <| pw_ret ?_
  obtain rfl := Option.some.inj h
  exact ⟨rfl, [_], ⟨rfl, trivial⟩, rfl, io⟩

theorem r01_Valid_ok {a0 : Int} {r : Bool} (h : r01_Valid a0 = some r) : PCalls Tryz.prog 160 [.int .i64 a0] (.bool r) := by
 unfold r01_Valid at h
 refine pc_intro (N := 18) Tryz.func160 rfl rfl nl fun w0 imm0 => sR <| y0 rfl (o_assign (d := .bool false) rfl) <| y_nil <| pw_seq <| sR <| y0 rfl (o_move (d := .int .i64 a0) rfl) <| y0 rfl (o_cmp rfl rfl rfl) ?_
 refine y0 rfl (o_move (d := .bool (decide (a0 < 1))) rfl) <| y_if (g := ((decide (a0 < 1)) == false)) rfl (fun hg => o_move (d := .int .i64 a0) rfl) <| y_if (g := ((decide (a0 < 1)) == false)) rfl (fun hg => o_cmp (ct hg) rfl rfl) <| y0 rfl (pk_or rfl rfl rfl (fun q => eqF q)) <| y_nil ?_
 refine pw_cond ((decide (a0 < 1)) || (decide (a0 > 400))) rfl (fun hc => ?_) (fun hc => ?_)
 ·have h := ifT h hc
  refine sR <| y0 rfl (o_assign (d := .bool false) rfl) <| y_nil <| pw_ret ?_
  obtain rfl := Option.some.inj h
  exact ⟨rfl, [_], ⟨rfl, trivial⟩, rfl, io⟩
 ·have h := ifF h hc
  refine pw_skip <| sR <| y0 rfl (o_move (d := .int .i64 a0) rfl) <| y0 rfl (o_ari rfl rfl rfl) ?_
  obtain ⟨v1, hv1, h⟩ := bindE h
  refine y0 rfl (o_ari rfl rfl hv1) <| y0 rfl (o_move (d := .int .i64 a0) rfl) <| y0 rfl (o_ari rfl rfl rfl) ?_
  obtain ⟨v2, hv2, h⟩ := bindE h
  refine y0 rfl (o_ari rfl rfl hv2) ?_
  obtain ⟨v3, hv3, h⟩ := bindE h
  refine y0 rfl (o_call (ds := [.int .i64 v1, .int .i64 v2]) rfl Ty.k74 rfl (r01_Pack_ok hv3)) <| y0 rfl (o_move (d := .int .i64 a0) rfl) <| y0 rfl (o_cmp rfl rfl rfl) <| y0 rfl (o_assign (d := .bool (v3 == a0)) rfl) <| y_nil <| pw_ret ?_
  obtain rfl := Option.some.inj h
  exact ⟨rfl, [_], ⟨rfl, trivial⟩, rfl, io⟩

theorem r01_Slot_ok {a0 : Int} {r : Int} (h : r01_Slot a0 = some r) : PCalls Tryz.prog 143 [.int .i64 a0] (.int .i64 r) := by
 unfold r01_Slot at h
 refine pc_intro (N := 9) Tryz.func143 rfl rfl nl fun w0 imm0 => sR <| y0 rfl (o_assign (d := .int .i64 0) rfl) <| y_nil <| pw_seq <| sR <| y0 rfl (o_move (d := .int .i64 a0) rfl) ?_
 obtain ⟨v1, hv1, h⟩ := bindE h
 refine y0 rfl (o_call (ds := [.int .i64 a0]) rfl Ty.k160 rfl (r01_Valid_ok hv1)) <| y0 rfl (o_not rfl rfl) <| y_nil ?_
 refine pw_cond (!v1) rfl (fun hc => ?_) (fun hc => ?_)
 ·have h := ifT h hc
  refine sR <| y0 rfl (o_assign (d := .int .i64 (-1)) rfl) <| y_nil <| pw_ret ?_
  obtain rfl := Option.some.inj h
  exact ⟨rfl, [_], ⟨rfl, trivial⟩, rfl, io⟩
 ·have h := ifF h hc
  refine pw_skip <| sR <| y0 rfl (o_move (d := .int .i64 a0) rfl) <| y0 rfl (o_ari rfl rfl rfl) ?_
  obtain ⟨v2, hv2, h⟩ := bindE h
  refine y0 rfl (o_ari rfl rfl hv2) <| y0 rfl (o_assign (d := .int .i64 v2) rfl) <| y_nil <| pw_ret ?_
  obtain rfl := Option.some.inj h
  exact ⟨rfl, [_], ⟨rfl, trivial⟩, rfl, io⟩

theorem r01_Gen_ok {a0 : Int} {r : Int} (h : r01_Gen a0 = some r) : PCalls Tryz.prog 144 [.int .i64 a0] (.int .i64 r) := by
 unfold r01_Gen at h
 refine pc_intro (N := 9) Tryz.func144 rfl rfl nl fun w0 imm0 => sR <| y0 rfl (o_assign (d := .int .i64 0) rfl) <| y_nil <| pw_seq <| sR <| y0 rfl (o_move (d := .int .i64 a0) rfl) ?_
 obtain ⟨v1, hv1, h⟩ := bindE h
 refine y0 rfl (o_call (ds := [.int .i64 a0]) rfl Ty.k160 rfl (r01_Valid_ok hv1)) <| y0 rfl (o_not rfl rfl) <| y_nil ?_
 refine pw_cond (!v1) rfl (fun hc => ?_) (fun hc => ?_)
 ·have h := ifT h hc
  refine sR <| y0 rfl (o_assign (d := .int .i64 (-1)) rfl) <| y_nil <| pw_ret ?_
  obtain rfl := Option.some.inj h
  exact ⟨rfl, [_], ⟨rfl, trivial⟩, rfl, io⟩
 ·have h := ifF h hc
  refine pw_skip <| sR <| y0 rfl (o_move (d := .int .i64 a0) rfl) <| y0 rfl (o_ari rfl rfl rfl) ?_
  obtain ⟨v2, hv2, h⟩ := bindE h
  refine y0 rfl (o_ari rfl rfl hv2) <| y0 rfl (o_assign (d := .int .i64 v2) rfl) <| y_nil <| pw_ret ?_
  obtain rfl := Option.some.inj h
  exact ⟨rfl, [_], ⟨rfl, trivial⟩, rfl, io⟩

theorem r03_Find_ok {a0 : r03_Slab} {a1 : Int} {r : Int × Int} (h : r03_Find a0 a1 = some r) : PCalls Tryz.prog 121 [r03_Slab.Pv a0, .int .i64 a1] (.tup [.int .i64 r.1, .int .i64 r.2]) := by
 unfold r03_Find at h
 refine pc_intro (N := 42) Tryz.func121 rfl rfl nl fun w0 imm0 => sR <| y1 rfl (o_box (d := r03_Slab.Pv a0) (z := 2) (cl := true) rfl rfl rfl rfl rfl) rfl <| y0 rfl (o_assign (d := .int .i64 0) rfl) <| y0 rfl (o_assign (d := .int .i64 0) rfl) <| y_nil <| pw_seq <| sR ?_
 refine y0 rfl (o_move (d := .int .i64 a1) rfl) <| y0 rfl (o_cmp rfl rfl rfl) <| y_nil ?_
 refine pw_cond (a1 == 0) rfl (fun hc => ?_) (fun hc => ?_)
 ·have h := ifT h hc
  refine sR <| y0 rfl (o_assign (d := .int .i64 (-1)) rfl) <| y0 rfl (o_assign (d := .int .i64 2) rfl) <| y_nil <| pw_ret ?_
  obtain rfl := Option.some.inj h
  exact ⟨rfl, [_, _], ⟨rfl, ⟨rfl, trivial⟩⟩, rfl, io⟩
 ·have h := ifF h hc
  refine pw_skip <| sR <| y0 rfl (o_move (d := .int .i64 a1) rfl) ?_
  obtain ⟨v1, hv1, h⟩ := bindE h
  refine y0 rfl (o_call (ds := [.int .i64 a1]) rfl Ty.k143 rfl (r01_Slot_ok hv1)) <| y0 rfl (o_assign (d := .int .i64 v1) rfl) <| y_nil <| pw_seq <| sR <| y0 rfl (o_move (d := .int .i64 v1) rfl) <| y0 rfl (o_cmp rfl rfl rfl) <| y0 rfl (o_move (d := .bool (decide (v1 < 0))) rfl) ?_
  refine y_if (g := ((decide (v1 < 0)) == false)) rfl (fun hg => o_move (d := .int .i64 v1) rfl) <| y_if (g := ((decide (v1 < 0)) == false)) rfl (fun hg => o_fieldAddrP (k := 0) rfl Ty.f128_0 rfl) <| y_if (g := ((decide (v1 < 0)) == false)) rfl (fun hg => o_loadS (ct hg) rfl rfl Ty.a126 rfl) <| y_if (g := ((decide (v1 < 0)) == false)) rfl (fun hg => o_lnL (f := r03_Cell.Pv) (ct hg) Ty.e126) <| y_if (g := ((decide (v1 < 0)) == false)) rfl (fun hg => o_cmp (ct hg) (ct hg) rfl) <| y0 rfl (pk_or rfl rfl rfl (fun q => eqF q)) <| y_nil ?_
  refine pw_cond ((decide (v1 < 0)) || (decide (v1 ≥ (a0.Cells.length : Int)))) rfl (fun hc => ?_) (fun hc => ?_)
  ·have h := ifT h hc
   refine sR <| y0 rfl (o_assign (d := .int .i64 (-1)) rfl) <| y0 rfl (o_assign (d := .int .i64 3) rfl) <| y_nil <| pw_ret ?_
   obtain rfl := Option.some.inj h
   exact ⟨rfl, [_, _], ⟨rfl, ⟨rfl, trivial⟩⟩, rfl, io⟩
  ·have h := ifF h hc
   refine pw_skip <| sR <| y0 rfl (o_fieldAddrP (k := 0) rfl Ty.f128_0 rfl) <| y0 rfl (o_loadS rfl rfl rfl Ty.a126 rfl) <| y0 rfl (o_move (d := .int .i64 v1) rfl) ?_
   obtain ⟨v2, hv2, h⟩ := bindE h
   refine y0 rfl (o_ixL (f := r03_Cell.Pv) (cs := r03_Cell.Pc v2) hv2 rfl rfl Ty.e126 Ty.s167 rfl rfl) <| y0 rfl (o_loadRA (cs := r03_Cell.Pc v2) rfl Ty.a167 Ty.s167 nl rfl) <| y1 rfl (o_alloc (d := .agg [.int .i64 0, .int .i64 0, .int .i64 0]) (z := 3) rfl Ty.z167 rfl rfl rfl) rfl <| y_sto (x' := r03_Cell.Pv v2) (cl' := true) rfl rfl (.inl rfl) Ty.s167 <| y_nil <| pw_seq <| dr [] Ty.mix (by kernel_rfl) (by kernel_rfl) <| d7 rfl (fun _ hN => o_fieldAddrP (k := 1) rfl Ty.f167_1 rfl) rfl ?_
   refine d0 rfl (o_loadS rfl rfl rfl Ty.a3 rfl) rfl <| d7 rfl (fun _ hN => o_move (d := .int .i64 a1) rfl) rfl ?_
   obtain ⟨v3, hv3, h⟩ := bindE h
   refine d2 rfl (o_call (ds := [.int .i64 a1]) rfl Ty.k144 rfl (r01_Gen_ok hv3)) rfl <| d7 rfl (fun _ hN => o_cmp rfl rfl rfl) rfl <| d7 rfl (fun _ hN => o_move (d := .bool (v2.Gen != v3)) rfl) rfl <| d_if7 (g := ((v2.Gen != v3) == false)) rfl (fun hg _ hN => o_fieldAddrP (k := 0) rfl Ty.f167_0 rfl) rfl <| d_if0 (g := ((v2.Gen != v3) == false)) rfl (fun hg => o_loadS (ct hg) rfl rfl Ty.a3 rfl) rfl <| d_if7 (g := ((v2.Gen != v3) == false)) rfl (fun hg _ hN => o_cmp (ct hg) rfl rfl) rfl <| d_if7 (g := ((v2.Gen != v3) == false)) rfl (fun hg _ hN => o_move (d := .bool (v2.State != 1)) (ct hg)) rfl <| d_if7 (g := (((v2.Gen != v3) == false) && ((v2.State != 1) == true))) (want2 rfl rfl rfl) (fun hg _ hN => o_fieldAddrP (k := 0) rfl Ty.f167_0 rfl) rfl ?_
   refine d_if0 (g := (((v2.Gen != v3) == false) && ((v2.State != 1) == true))) (want2 rfl rfl rfl) (fun hg => o_loadS (ct hg) rfl rfl Ty.a3 rfl) rfl <| d_if7 (g := (((v2.Gen != v3) == false) && ((v2.State != 1) == true))) (want2 rfl rfl rfl) (fun hg _ hN => o_cmp (ct hg) rfl rfl) rfl <| d_if7 (g := ((v2.Gen != v3) == false)) rfl (fun hg _ hN => pk_and (ct hg) rfl rfl (fun q => andI hg (eqT q))) rfl <| d7 rfl (fun _ hN => pk_or rfl rfl rfl (fun q => eqF q)) rfl <| d_nil ?_
   refine pw_cond ((v2.Gen != v3) || ((v2.State != 1) && (v2.State != 2))) rfl (fun hc => ?_) (fun hc => ?_)
   ·have h := ifT h hc
    refine sR <| y0 rfl (o_assign (d := .int .i64 (-1)) rfl) <| y0 rfl (o_assign (d := .int .i64 3) rfl) <| y_nil <| pw_ret ?_
    obtain rfl := Option.some.inj h
    exact ⟨rfl, [_, _], ⟨rfl, ⟨rfl, trivial⟩⟩, rfl, io⟩
   ·have h := ifF h hc
    refine pw_skip <| sR <| y0 rfl (o_move (d := .int .i64 v1) rfl) <| y0 rfl (o_assign (d := .int .i64 v1) rfl) <| y0 rfl (o_assign (d := .int .i64 0) rfl) <| y_nil <| pw_ret ?_
    obtain rfl := Option.some.inj h
    exact ⟨rfl, [_, _], ⟨rfl, ⟨rfl, trivial⟩⟩, rfl, io⟩

theorem r06_Sorted_ok {a0 : r06_Store} {a1 : List Int} {r : List Int} (h : r06_Sorted a0 a1 = some r) : PCalls Tryz.prog 75 [r06_Store.Pv a0, .lst false (List.map (PV.int .i64) a1)] (.lst false (List.map (PV.int .i64) r)) := by
 unfold r06_Sorted at h
 refine pc_intro (N := 89) Tryz.func75 rfl rfl nl fun w0 imm0 => sR <| y1 rfl (o_box (d := r06_Store.Pv a0) (z := 3) (cl := true) rfl rfl rfl rfl rfl) rfl <| y0 rfl (o_assign (d := .lst true (List.map (PV.int .i64) [])) rfl) <| y_nil <| sR <| y0 rfl (o_nslice rfl Ty.e28 Ty.s3) <| y0 rfl (o_move (d := .lst false (List.map (PV.int .i64) a1)) rfl) ?_
 obtain ⟨v1, hv1, h⟩ := bindE h
 refine y1 rfl (o_apT (f := (PV.int .i64)) hv1 rfl rfl (.inl ⟨_, rfl, rfl⟩) Ty.e28 Ty.s3 Ty.b3 Ty.z3 rfl (fun _ => rfl)) rfl <| y0 rfl (o_assign (d := .sl 15) rfl) <| y_nil ?_
 obtain ⟨κ35, hκ28, h⟩ := jnE h
 refine pw_jn0 (κ := κ35) (r := r) (fun (j36 : List Int) => St.of [(5, .sl 15)] [(15, ⟨List.map (PV.int .i64) j36, 0, true, 1, true⟩)]) (fun j36 h => ?_) ?_
 ·subst hκ28
  refine sR <| y0 rfl (o_move (d := .sl 15) rfl) <| y0 rfl (o_assign (d := .sl 15) rfl) <| y_nil <| pw_ret ?_
  obtain rfl := Option.some.inj h
  exact ⟨rfl, [_], ⟨rfl, trivial⟩, rfl, io⟩
 ·skip
  refine sR <| y0 rfl (o_assign (d := .int .i64 1) rfl) <| y_nil <| pw_block ?_
  obtain ⟨e37, hl29, hk30⟩ := bindE h
  refine pw_lp0 (fun (q : Int × (List Int)) => St.of [(2, .ptr 2 0 0), (5, .sl 15), (6, .int .i64 q.1)] [(15, ⟨List.map (PV.int .i64) q.2, 0, true, 1, true⟩), (2, ⟨[r06_Store.Pv a0], 0, false, 3, true⟩)]) hl29 (wk_st _ _ ⟨rfl, rfl, rfl, rfl, rfl, rfl, rfl, rfl, rfl, trivial⟩ ⟨rS, rS, trivial⟩) (fun q41 x40 h hx31 => ?_)
  obtain ⟨s38, s39⟩ := q41
  refine pw_seq <| sR <| y0 rfl (o_move (d := .int .i64 s38) rfl) <| y0 rfl (o_move (d := .sl 15) rfl) <| y0 rfl (o_lnR (f := (PV.int .i64)) rfl rfl rfl Ty.e28) <| y0 rfl (o_cmp rfl rfl rfl) <| y_nil ?_
  refine pw_cond (decide (s38 < (s39.length : Int))) rfl (fun hc => ?_) (fun hc => ?_)
  ·have h := ifT h hc
   refine pw_skip ?_
   obtain ⟨κ55, hκ43, h⟩ := jnE h
   refine pw_jn0 (κ := κ55) (r := x40) (fun (j56 : List Int) => St.of [(2, .ptr 2 0 0), (5, .sl 15), (6, .int .i64 s38)] [(15, ⟨List.map (PV.int .i64) j56, 0, true, 1, true⟩), (2, ⟨[r06_Store.Pv a0], 0, false, 3, true⟩)]) (fun j56 h => ?_) ?_
   ·subst hκ43
    refine sr1 (by kernel_rfl) <| y0 rfl (o_move (d := .int .i64 s38) rfl) <| y0 rfl (o_ari rfl rfl rfl) <| y0 rfl (o_assign (d := .int .i64 (w64 (s38 + 1))) rfl) <| y_nil ?_
    exact ⟨rfl, (w64 (s38 + 1), j56), (Option.some.inj h).symm, (wk_st _ _ ⟨rfl, rfl, rfl, rfl, rfl, rfl, rfl, rfl, rfl, trivial⟩ ⟨rS, rS, trivial⟩)⟩
   ·skip
    refine pw_block <| sR <| y0 rfl (o_move (d := .int .i64 s38) rfl) <| y0 rfl (o_assign (d := .int .i64 s38) rfl) <| y_nil <| pw_block ?_
    obtain ⟨e57, hl44, hk45⟩ := bindE h
    refine pw_lp0 (fun (q : Int × (List Int)) => St.of [(2, .ptr 2 0 0), (5, .sl 15), (6, .int .i64 s38), (7, .int .i64 q.1)] [(15, ⟨List.map (PV.int .i64) q.2, 0, true, 1, true⟩), (2, ⟨[r06_Store.Pv a0], 0, false, 3, true⟩)]) hl44 (wk_st _ _ ⟨rfl, rfl, rfl, rfl, rfl, rfl, rfl, rfl, rfl, rfl, rfl, rfl, trivial⟩ ⟨rS, rS, trivial⟩) (fun q61 x60 h hx46 => ?_)
    obtain ⟨s58, s59⟩ := q61
    refine pw_seq <| sR <| y0 rfl (o_move (d := .int .i64 s58) rfl) <| y0 rfl (o_cmp rfl rfl rfl) <| y_nil ?_
    refine pw_cond (decide (s58 > 0)) rfl (fun hc => ?_) (fun hc => ?_)
    ·have h := ifT h hc
     refine pw_skip <| pw_seq <| pw_block <| dr [] Ty.mix (by kernel_rfl) (by kernel_rfl) <| d0 rfl (o_loadA (cs := r06_Store.Pc a0) rfl rfl rfl Ty.a34 Ty.s34 nl rfl) rfl ?_
     obtain ⟨v62, hv47, h⟩ := bindE h
     refine d2f rfl (o_callF (ls := []) (ds := [r06_Store.Pv a0]) rfl Ty.k98 rfl (r06_Plain_ok hv47)) rfl <| d7 rfl (fun _ hN => o_move (d := .sl 15) rfl) rfl <| d7 rfl (fun _ hN => o_move (d := .int .i64 s58) rfl) rfl <| d7 rfl (fun _ hN => o_ari rfl rfl rfl) rfl ?_
     obtain ⟨v63, hv48, h⟩ := bindE h
     refine d0 rfl (o_ixR (f := (PV.int .i64)) hv48 rfl rfl rfl rfl Ty.e28 Ty.s3 rfl) rfl <| d0 rfl (o_ldS (f := (PV.int .i64)) hv48 rfl rfl rfl Ty.a3 rfl) rfl ?_
     obtain ⟨v64, hv49, h⟩ := bindE h
     refine d2 rfl (o_call (ds := [r03_Slab.Pv v62, .int .i64 v63]) rfl Ty.k121 rfl (r03_Find_ok hv49)) rfl <| d7 rfl (fun _ hN => o_move (d := .tup [.int .i64 v64.1, .int .i64 v64.2]) rfl) rfl <| d7 rfl (fun _ hN => o_extract rfl rfl) rfl <| d7 rfl (fun _ hN => o_extract rfl rfl) rfl <| d7 rfl (fun _ hN => o_assign (d := .int .i64 v64.1) rfl) rfl <| d7 rfl (fun _ hN => o_assign (d := .int .i64 v64.2) rfl) rfl <| d_nil <| dr [] Ty.mix (by kernel_rfl) (by kernel_rfl) ?_
     refine d0 rfl (o_loadA (cs := r06_Store.Pc a0) rfl rfl rfl Ty.a34 Ty.s34 nl rfl) rfl <| d2f rfl (o_callF (ls := []) (ds := [r06_Store.Pv a0]) rfl Ty.k98 rfl (r06_Plain_ok hv47)) rfl <| d7 rfl (fun _ hN => o_move (d := .sl 15) rfl) rfl <| d7 rfl (fun _ hN => o_move (d := .int .i64 s58) rfl) rfl ?_
     obtain ⟨v65, hv50, h⟩ := bindE h
     refine d0 rfl (o_ixR (f := (PV.int .i64)) hv50 rfl rfl rfl rfl Ty.e28 Ty.s3 rfl) rfl <| d0 rfl (o_ldS (f := (PV.int .i64)) hv50 rfl rfl rfl Ty.a3 rfl) rfl ?_
     obtain ⟨v66, hv51, h⟩ := bindE h
     refine d2 rfl (o_call (ds := [r03_Slab.Pv v62, .int .i64 v65]) rfl Ty.k121 rfl (r03_Find_ok hv51)) rfl <| d7 rfl (fun _ hN => o_move (d := .tup [.int .i64 v66.1, .int .i64 v66.2]) rfl) rfl <| d7 rfl (fun _ hN => o_extract rfl rfl) rfl <| d7 rfl (fun _ hN => o_extract rfl rfl) rfl <| d7 rfl (fun _ hN => o_assign (d := .int .i64 v66.1) rfl) rfl <| d7 rfl (fun _ hN => o_assign (d := .int .i64 v66.2) rfl) rfl <| d_nil <| pw_seq ?_
     refine dr [] Ty.mix (by kernel_rfl) (by kernel_rfl) <| d7 rfl (fun _ hN => o_move (d := .int .i64 v64.1) rfl) rfl <| d7 rfl (fun _ hN => o_cmp rfl rfl rfl) rfl <| d7 rfl (fun _ hN => o_move (d := .bool (decide (v64.1 < 0))) rfl) rfl <| d_if7 (g := ((decide (v64.1 < 0)) == false)) rfl (fun hg _ hN => o_move (d := .int .i64 v66.1) rfl) rfl <| d_if7 (g := ((decide (v64.1 < 0)) == false)) rfl (fun hg _ hN => o_cmp (ct hg) rfl rfl) rfl <| d7 rfl (fun _ hN => pk_or rfl rfl rfl (fun q => eqF q)) rfl <| d7 rfl (fun _ hN => o_move (d := .bool ((decide (v64.1 < 0)) || (decide (v66.1 < 0)))) rfl) rfl ?_
     refine d_if7 (g := (((decide (v64.1 < 0)) || (decide (v66.1 < 0))) == false)) rfl (fun hg _ hN => o_fieldAddrP (k := 0) rfl Ty.f34_0 rfl) rfl <| d_if0 (g := (((decide (v64.1 < 0)) || (decide (v66.1 < 0))) == false)) rfl (fun hg => o_loadS (ct hg) rfl rfl Ty.a32 rfl) rfl <| d_if7 (g := (((decide (v64.1 < 0)) || (decide (v66.1 < 0))) == false)) rfl (fun hg _ hN => o_move (d := .int .i64 v64.1) rfl) rfl ?_
     obtain ⟨v67, hv52, h⟩ := bindE h
     refine d_if0 (g := (((decide (v64.1 < 0)) || (decide (v66.1 < 0))) == false)) rfl (fun hg => o_ixL (f := r06_Cell.Pv) (cs := r06_Cell.Pc v67) (onlyE hv52 hg) (ct hg) (ct hg) Ty.e32 Ty.s91 rfl rfl) rfl <| d_if7 (g := (((decide (v64.1 < 0)) || (decide (v66.1 < 0))) == false)) rfl (fun hg _ hN => o_fieldAddrR (ct hg) Ty.f91_2 rfl) rfl <| d_if7 (g := (((decide (v64.1 < 0)) || (decide (v66.1 < 0))) == false)) rfl (fun hg _ hN => o_fieldAddrR (ct hg) Ty.f67_0 rfl) rfl <| d_if0 (g := (((decide (v64.1 < 0)) || (decide (v66.1 < 0))) == false)) rfl (fun hg => o_loadRS (ct hg) Ty.a3 rfl) rfl <| d_if7 (g := (((decide (v64.1 < 0)) || (decide (v66.1 < 0))) == false)) rfl (fun hg _ hN => o_fieldAddrP (k := 0) rfl Ty.f34_0 rfl) rfl <| d_if0 (g := (((decide (v64.1 < 0)) || (decide (v66.1 < 0))) == false)) rfl (fun hg => o_loadS (ct hg) rfl rfl Ty.a32 rfl) rfl <| d_if7 (g := (((decide (v64.1 < 0)) || (decide (v66.1 < 0))) == false)) rfl (fun hg _ hN => o_move (d := .int .i64 v66.1) rfl) rfl ?_
     obtain ⟨v68, hv53, h⟩ := bindE h
     refine d_if0 (g := (((decide (v64.1 < 0)) || (decide (v66.1 < 0))) == false)) rfl (fun hg => o_ixL (f := r06_Cell.Pv) (cs := r06_Cell.Pc v68) (onlyE hv53 hg) (ct hg) (ct hg) Ty.e32 Ty.s91 rfl rfl) rfl <| d_if7 (g := (((decide (v64.1 < 0)) || (decide (v66.1 < 0))) == false)) rfl (fun hg _ hN => o_fieldAddrR (ct hg) Ty.f91_2 rfl) rfl <| d_if7 (g := (((decide (v64.1 < 0)) || (decide (v66.1 < 0))) == false)) rfl (fun hg _ hN => o_fieldAddrR (ct hg) Ty.f67_0 rfl) rfl <| d_if0 (g := (((decide (v64.1 < 0)) || (decide (v66.1 < 0))) == false)) rfl (fun hg => o_loadRS (ct hg) Ty.a3 rfl) rfl <| d_if7 (g := (((decide (v64.1 < 0)) || (decide (v66.1 < 0))) == false)) rfl (fun hg _ hN => o_cmp (ct hg) (ct hg) rfl) rfl <| d7 rfl (fun _ hN => pk_or rfl rfl rfl (fun q => eqF q)) rfl <| d_nil ?_
     refine pw_cond (((decide (v64.1 < 0)) || (decide (v66.1 < 0))) || (decide (v67.Val.Serial ≤ v68.Val.Serial))) rfl (fun hc => ?_) (fun hc => ?_)
     ·have h := ifT h hc
      refine pw_exit <| thenQ_exit <| blockQ_other (by decide) <| thenQ_exit <| thenQ_exit <| blockQ_exit ?_
      have he := hx46 _ (Option.some.inj h).symm
      have h := hk45
      rw [← he] at h
      exact ⟨rfl, s59, h, (wk_st _ _ ⟨rfl, rfl, rfl, rfl, rfl, rfl, rfl, rfl, rfl, trivial⟩ ⟨rS, rS, trivial⟩)⟩
     ·have h := ifF h hc
      refine pw_skip <| sR <| y0 rfl (o_move (d := .sl 15) rfl) <| y0 rfl (o_move (d := .int .i64 s58) rfl) <| y0 rfl (o_ixR (f := (PV.int .i64)) hv50 rfl rfl rfl rfl Ty.e28 Ty.s3 rfl) <| y0 rfl (o_ldS (f := (PV.int .i64)) hv50 rfl rfl rfl Ty.a3 rfl) <| y0 rfl (o_assign (d := .int .i64 v65) rfl) <| y_nil ?_
      refine sR <| y0 rfl (o_move (d := .sl 15) rfl) <| y0 rfl (o_move (d := .int .i64 s58) rfl) <| y0 rfl (o_move (d := .sl 15) rfl) <| y0 rfl (o_move (d := .int .i64 s58) rfl) <| y0 rfl (o_ari rfl rfl rfl) <| y0 rfl (o_ixR (f := (PV.int .i64)) hv48 rfl rfl rfl rfl Ty.e28 Ty.s3 rfl) <| y0 rfl (o_ldS (f := (PV.int .i64)) hv48 rfl rfl rfl Ty.a3 rfl) ?_
      refine y0 rfl (o_ixR (f := (PV.int .i64)) hv50 rfl rfl rfl rfl Ty.e28 Ty.s3 rfl) <| y_stE (f := (PV.int .i64)) (v := v63) hv50 rfl rfl (.inl rfl) Ty.s3 <| y_nil <| sr1 (by kernel_rfl) <| y0 rfl (o_move (d := .sl 15) rfl) <| y0 rfl (o_move (d := .int .i64 s58) rfl) <| y0 rfl (o_ari rfl rfl rfl) <| y0 rfl (o_move (d := .int .i64 v65) rfl) ?_
      obtain ⟨v69, hv54, h⟩ := bindE h
      refine y0 rfl (o_ixR (f := (PV.int .i64)) hv54 rfl rfl rfl rfl Ty.e28 Ty.s3 rfl) <| y_stE (f := (PV.int .i64)) (v := v65) hv54 rfl rfl (.inl rfl) Ty.s3 <| y_nil <| sr1 (by kernel_rfl) <| y0 rfl (o_move (d := .int .i64 s58) rfl) <| y0 rfl (o_ari rfl rfl rfl) <| y0 rfl (o_assign (d := .int .i64 (w64 (s58 - 1))) rfl) <| y_nil ?_
      exact ⟨rfl, (w64 (s58 - 1), ((s59.set (s58).toNat v63).set (w64 (s58 - 1)).toNat v65)), (Option.some.inj h).symm, (wk_st _ _ ⟨rfl, rfl, rfl, rfl, rfl, rfl, rfl, rfl, rfl, rfl, rfl, rfl, trivial⟩ ⟨rS, rS, trivial⟩)⟩
    ·have h := ifF h hc
     refine pw_exit <| thenQ_exit <| thenQ_exit <| blockQ_exit ?_
     have he := hx46 _ (Option.some.inj h).symm
     have h := hk45
     rw [← he] at h
     exact ⟨rfl, s59, h, (wk_st _ _ ⟨rfl, rfl, rfl, rfl, rfl, rfl, rfl, rfl, rfl, trivial⟩ ⟨rS, rS, trivial⟩)⟩
  ·have h := ifF h hc
   refine pw_exit <| thenQ_exit <| thenQ_exit <| blockQ_exit ?_
   have he := hx31 _ (Option.some.inj h).symm
   have h := hk30
   rw [← he] at h
   exact ⟨rfl, s39, h, (wk_st _ _ ⟨rfl, rfl, rfl, trivial⟩ ⟨rS, trivial⟩)⟩

theorem r06_Live_ok {a0 : r06_Store} {r : List Int} (h : r06_Live a0 = some r) : PCalls Tryz.prog 27 [r06_Store.Pv a0] (.lst false (List.map (PV.int .i64) r)) := by
 unfold r06_Live at h
 refine pc_intro (N := 34) Tryz.func27 rfl rfl nl fun w0 imm0 => sR <| y1 rfl (o_box (d := r06_Store.Pv a0) (z := 3) (cl := true) rfl rfl rfl rfl rfl) rfl <| y0 rfl (o_assign (d := .lst true (List.map (PV.int .i64) [])) rfl) <| y_nil <| sR <| y0 rfl (o_nslice rfl Ty.e28 Ty.s3) <| y0 rfl (o_assign (d := .lst true (List.map (PV.int .i64) [])) rfl) ?_
 refine y_nil ?_
 obtain ⟨κ14, hκ11, h⟩ := jnE h
 refine pw_jn0 (κ := κ14) (r := r) (fun (j15 : List Int) => St.of [(1, .ptr 1 0 0), (3, .sl 910003)] [(910003, ⟨List.map (PV.int .i64) j15, (List.map (PV.int .i64) j15).length, true, 1, true⟩), (1, ⟨[r06_Store.Pv a0], 0, false, 3, true⟩)]) (fun j15 h => ?_) ?_
 ·subst hκ11
  refine sR <| y0 rfl (o_loadA (cs := r06_Store.Pc a0) rfl rfl rfl Ty.a34 Ty.s34 nl rfl) <| y0 rfl (o_move (d := .sl 910003) rfl) ?_
  obtain ⟨v16, hv12, h⟩ := bindE h
  refine ycL rfl (o_callF (ls := [910003]) (ds := [r06_Store.Pv a0, .sl 910003]) rfl Ty.k75 rfl (r06_Sorted_ok hv12)) rfl <| y0 rfl (o_assign (d := .lst false (List.map (PV.int .i64) v16)) rfl) <| y_nil <| pw_ret ?_
  obtain rfl := Option.some.inj h
  exact ⟨rfl, [_], ⟨rfl, trivial⟩, rfl, io⟩
 ·skip
  refine sR <| y0 rfl (o_assign (d := .int .i64 0) rfl) <| y_nil <| pw_block ?_
  obtain ⟨e17, hl13, hk14⟩ := bindE h
  refine pw_lp0 (fun (q : Int × (List Int)) => St.of [(1, .ptr 1 0 0), (3, .sl 910003), (4, .int .i64 q.1)] [(1, ⟨[r06_Store.Pv a0], 0, false, 3, true⟩), (910003, ⟨List.map (PV.int .i64) q.2, (List.map (PV.int .i64) q.2).length, true, 1, true⟩)]) hl13 (Wk.trans (wk_nil (t := 3) (l := 920003) (z := 1) rfl rfl) (wk_stP (fun l => if l = 910003 then 920003 else l) _ _ ⟨rfl, rfl, rfl, rfl, rfl, rfl, rfl, rfl, rfl, trivial⟩ ⟨rN, rN, trivial⟩ rfl)) (fun q21 x20 h hx15 => ?_)
  obtain ⟨s18, s19⟩ := q21
  refine pw_seq <| sR <| y0 rfl (o_move (d := .int .i64 s18) rfl) <| y0 rfl (o_fieldAddrP (k := 0) rfl Ty.f34_0 rfl) <| y0 rfl (o_loadS rfl rfl rfl Ty.a32 rfl) <| y0 rfl (o_lnL (f := r06_Cell.Pv) rfl Ty.e32) <| y0 rfl (o_cmp rfl rfl rfl) <| y_nil ?_
  refine pw_cond (decide (s18 < (a0.Cells.length : Int))) rfl (fun hc => ?_) (fun hc => ?_)
  ·have h := ifT h hc
   refine pw_skip ?_
   obtain ⟨κ25, hκ19, h⟩ := jnE h
   refine pw_jn0 (κ := κ25) (r := x20) (fun (j26 : List Int) => St.of [(1, .ptr 1 0 0), (3, .sl 30), (4, .int .i64 s18)] [(30, ⟨List.map (PV.int .i64) j26, (List.map (PV.int .i64) j26).length, true, 1, true⟩), (1, ⟨[r06_Store.Pv a0], 0, false, 3, true⟩)]) (fun j26 h => ?_) ?_
   ·subst hκ19
    refine sr1 (by kernel_rfl) <| y0 rfl (o_move (d := .int .i64 s18) rfl) <| y0 rfl (o_ari rfl rfl rfl) <| y0 rfl (o_assign (d := .int .i64 (w64 (s18 + 1))) rfl) <| y_nil ?_
    exact ⟨rfl, (w64 (s18 + 1), j26), (Option.some.inj h).symm, (Wk.trans (wk_frz _ [30]) (wk_stP (fun l => if l = 910003 then 30 else l) _ _ ⟨rfl, rfl, rfl, rfl, rfl, rfl, rfl, rfl, rfl, trivial⟩ ⟨rN, rN, trivial⟩ rfl))⟩
   ·skip
    refine pw_block <| sR <| y0 rfl (o_fieldAddrP (k := 0) rfl Ty.f34_0 rfl) <| y0 rfl (o_loadS rfl rfl rfl Ty.a32 rfl) <| y0 rfl (o_move (d := .int .i64 s18) rfl) ?_
    obtain ⟨v27, hv20, h⟩ := bindE h
    refine y0 rfl (o_ixL (f := r06_Cell.Pv) (cs := r06_Cell.Pc v27) hv20 rfl rfl Ty.e32 Ty.s91 rfl rfl) <| y0 rfl (o_fieldAddrR rfl Ty.f91_0 rfl) <| y0 rfl (o_loadRS rfl Ty.a3 rfl) <| y0 rfl (o_cmp rfl rfl rfl) <| y_nil ?_
    refine pw_cond (v27.State == 1) rfl (fun hc => ?_) (fun hc => ?_)
    ·have h := ifT h hc
     refine sr1 (by kernel_rfl) <| y0 rfl (o_move (d := .sl 910003) rfl) <| y0 rfl (o_move (d := .int .i64 s18) rfl) <| y0 rfl (o_fieldAddrP (k := 0) rfl Ty.f34_0 rfl) <| y0 rfl (o_loadS rfl rfl rfl Ty.a32 rfl) <| y0 rfl (o_move (d := .int .i64 s18) rfl) <| y0 rfl (o_ixL (f := r06_Cell.Pv) (cs := r06_Cell.Pc v27) hv20 rfl rfl Ty.e32 Ty.s91 rfl rfl) <| y0 rfl (o_fieldAddrR rfl Ty.f91_1 rfl) ?_
     refine y0 rfl (o_loadRS rfl Ty.a3 rfl) ?_
     obtain ⟨v28, hv21, h⟩ := bindE h
     refine y0 rfl (o_call (ds := [.int .i64 s18, .int .i64 v27.Gen]) rfl Ty.k74 rfl (r01_Pack_ok hv21)) <| y0 rfl (o_bI (f := (PV.int .i64)) (l := [v28]) rfl Ty.e28 Ty.s3 Ty.z3 rfl rfl nl rfl rfl) ?_
     obtain ⟨v29, hv22, h⟩ := bindE h
     refine y_app rfl (o_apR (f := (PV.int .i64)) hv22 rfl rfl rfl rfl rfl rfl (.inl ⟨_, rfl, rfl⟩) Ty.e28 Ty.s3 Ty.b3 Ty.z3 rfl (fun _ => rfl)) rfl rfl rfl <| y0 rfl (o_assign (d := .sl 30) rfl) <| y_nil ?_
     exact ⟨rfl, v29, h, (Wk.trans (wk_frz _ [30]) (wk_st _ _ ⟨rfl, rfl, rfl, rfl, rfl, rfl, rfl, rfl, rfl, trivial⟩ ⟨rS, rS, trivial⟩))⟩
    ·have h := ifF h hc
     refine pw_skip ?_
     exact ⟨rfl, s19, h, (Wk.trans (wk_frz _ [910003]) (wk_stP (fun l => if l = 30 then 910003 else l) _ _ ⟨rfl, rfl, rfl, rfl, rfl, rfl, rfl, rfl, rfl, trivial⟩ ⟨rN, rN, trivial⟩ rfl))⟩
  ·have h := ifF h hc
   refine pw_exit <| thenQ_exit <| thenQ_exit <| blockQ_exit ?_
   have he := hx15 _ (Option.some.inj h).symm
   have h := hk14
   rw [← he] at h
   exact ⟨rfl, s19, h, (Wk.trans (wk_frz _ [910003]) (wk_st _ _ ⟨rfl, rfl, rfl, rfl, rfl, rfl, trivial⟩ ⟨rS, rS, trivial⟩))⟩

theorem r07_Times_ok {a0 : List Int} {a1 : Int} {r : Int} (h : r07_Times a0 a1 = some r) : PCalls Tryz.prog 28 [.lst false (List.map (PV.int .i64) a0), .int .i64 a1] (.int .i64 r) := by
 unfold r07_Times at h
 refine pc_intro (N := 26) Tryz.func28 rfl rfl nl fun w0 imm0 => sR <| y0 rfl (o_assign (d := .int .i64 0) rfl) <| y_nil <| sR <| y0 rfl (o_assign (d := .int .i64 0) rfl) <| y_nil ?_
 obtain ⟨κ10, hκ7, h⟩ := jnE h
 refine pw_jn0 (κ := κ10) (r := r) (fun (j11 : Int) => St.of [(5, .int .i64 j11)] []) (fun j11 h => ?_) ?_
 ·subst hκ7
  refine sR <| y0 rfl (o_move (d := .int .i64 j11) rfl) <| y0 rfl (o_assign (d := .int .i64 j11) rfl) <| y_nil <| pw_ret ?_
  obtain rfl := Option.some.inj h
  exact ⟨rfl, [_], ⟨rfl, trivial⟩, rfl, io⟩
 ·skip
  refine sR <| y0 rfl (o_assign (d := .int .i64 0) rfl) <| y_nil <| pw_block ?_
  obtain ⟨e12, hl8, hk9⟩ := bindE h
  refine pw_lp0 (fun (q : Int × Int) => St.of [(0, .lst false (List.map (PV.int .i64) a0)), (1, .int .i64 a1), (5, .int .i64 q.1), (6, .int .i64 q.2)] []) hl8 (wk_st _ _ ⟨rfl, rfl, rfl, rfl, rfl, rfl, rfl, rfl, rfl, rfl, rfl, rfl, trivial⟩ trivial) (fun q16 x15 h hx10 => ?_)
  obtain ⟨s13, s14⟩ := q16
  refine pw_seq <| sR <| y0 rfl (o_move (d := .int .i64 s14) rfl) <| y0 rfl (o_move (d := .lst false (List.map (PV.int .i64) a0)) rfl) <| y0 rfl (o_lnL (f := (PV.int .i64)) rfl Ty.e28) <| y0 rfl (o_cmp rfl rfl rfl) <| y_nil ?_
  refine pw_cond (decide (s14 < (a0.length : Int))) rfl (fun hc => ?_) (fun hc => ?_)
  ·have h := ifT h hc
   refine pw_skip ?_
   obtain ⟨κ18, hκ12, h⟩ := jnE h
   refine pw_jn0 (κ := κ18) (r := x15) (fun (j19 : Int) => St.of [(0, .lst false (List.map (PV.int .i64) a0)), (1, .int .i64 a1), (5, .int .i64 j19), (6, .int .i64 s14)] []) (fun j19 h => ?_) ?_
   ·subst hκ12
    refine sr1 (by kernel_rfl) <| y0 rfl (o_move (d := .int .i64 s14) rfl) <| y0 rfl (o_ari rfl rfl rfl) <| y0 rfl (o_assign (d := .int .i64 (w64 (s14 + 1))) rfl) <| y_nil ?_
    exact ⟨rfl, (j19, w64 (s14 + 1)), (Option.some.inj h).symm, (wk_st _ _ ⟨rfl, rfl, rfl, rfl, rfl, rfl, rfl, rfl, rfl, rfl, rfl, rfl, trivial⟩ trivial)⟩
   ·skip
    refine pw_block <| sR <| y0 rfl (o_move (d := .lst false (List.map (PV.int .i64) a0)) rfl) <| y0 rfl (o_move (d := .int .i64 s14) rfl) ?_
    obtain ⟨v20, hv13, h⟩ := bindE h
    refine y0 rfl (o_ixL (f := (PV.int .i64)) (cs := [.int .i64 v20]) hv13 rfl rfl Ty.e28 Ty.s3 rfl rfl) <| y0 rfl (o_loadRS rfl Ty.a3 rfl) <| y0 rfl (o_move (d := .int .i64 a1) rfl) <| y0 rfl (o_cmp rfl rfl rfl) <| y0 rfl (o_move (d := .bool (v20 == a1)) rfl) <| y_if (g := ((v20 == a1) == true)) rfl (fun hg => o_move (d := .int .i64 a1) rfl) <| y_if (g := ((v20 == a1) == true)) rfl (fun hg => o_cmp (ct hg) rfl rfl) <| y0 rfl (pk_and rfl rfl rfl (fun q => eqT q)) ?_
    refine y_nil ?_
    refine pw_cond ((v20 == a1) && (a1 != 0)) rfl (fun hc => ?_) (fun hc => ?_)
    ·have h := ifT h hc
     refine sr1 (by kernel_rfl) <| y0 rfl (o_move (d := .int .i64 s13) rfl) <| y0 rfl (o_ari rfl rfl rfl) <| y0 rfl (o_assign (d := .int .i64 (w64 (s13 + 1))) rfl) <| y_nil ?_
     exact ⟨rfl, w64 (s13 + 1), h, (wk_st _ _ ⟨rfl, rfl, rfl, rfl, rfl, rfl, rfl, rfl, rfl, rfl, rfl, rfl, trivial⟩ trivial)⟩
    ·have h := ifF h hc
     refine pw_skip ?_
     exact ⟨rfl, s13, h, (wk_st _ _ ⟨rfl, rfl, rfl, rfl, rfl, rfl, rfl, rfl, rfl, rfl, rfl, rfl, trivial⟩ trivial)⟩
  ·have h := ifF h hc
   refine pw_exit <| thenQ_exit <| thenQ_exit <| blockQ_exit ?_
   have he := hx10 _ (Option.some.inj h).symm
   have h := hk9
   rw [← he] at h
   exact ⟨rfl, s13, h, (wk_st _ _ ⟨rfl, rfl, rfl, trivial⟩ trivial)⟩

theorem r08_Has_ok {a0 : List Int} {a1 : Int} {r : Bool} (h : r08_Has a0 a1 = some r) : PCalls Tryz.prog 66 [.lst false (List.map (PV.int .i64) a0), .int .i64 a1] (.bool r) := by
 unfold r08_Has at h
 refine pc_intro (N := 9) Tryz.func66 rfl rfl nl fun w0 imm0 => sR <| y0 rfl (o_assign (d := .bool false) rfl) <| y_nil <| sR <| y0 rfl (o_move (d := .lst false (List.map (PV.int .i64) a0)) rfl) <| y0 rfl (o_move (d := .int .i64 a1) rfl) ?_
 obtain ⟨v1, hv1, h⟩ := bindE h
 refine y0 rfl (o_call (ds := [.lst false (List.map (PV.int .i64) a0), .int .i64 a1]) rfl Ty.k28 rfl (r07_Times_ok hv1)) <| y0 rfl (o_cmp rfl rfl rfl) <| y0 rfl (o_assign (d := .bool (decide (v1 > 0))) rfl) <| y_nil <| pw_ret ?_
 obtain rfl := Option.some.inj h
 exact ⟨rfl, [_], ⟨rfl, trivial⟩, rfl, io⟩

theorem r08_those_ok {a0 : List Int} {a1 : List Int} {a2 : Bool} {r : List Int} (h : r08_those a0 a1 a2 = some r) : PCalls Tryz.prog 120 [.lst false (List.map (PV.int .i64) a0), .lst false (List.map (PV.int .i64) a1), .bool a2] (.lst false (List.map (PV.int .i64) r)) := by
 unfold r08_those at h
 refine pc_intro (N := 32) Tryz.func120 rfl rfl nl fun w0 imm0 => sR <| y0 rfl (o_assign (d := .lst true (List.map (PV.int .i64) [])) rfl) <| y_nil <| sR <| y0 rfl (o_nslice rfl Ty.e28 Ty.s3) <| y0 rfl (o_assign (d := .lst true (List.map (PV.int .i64) [])) rfl) <| y_nil ?_
 obtain ⟨κ14, hκ11, h⟩ := jnE h
 refine pw_jn0 (κ := κ14) (r := r) (fun (j15 : List Int) => St.of [(7, .sl 910007)] [(910007, ⟨List.map (PV.int .i64) j15, (List.map (PV.int .i64) j15).length, true, 1, true⟩)]) (fun j15 h => ?_) ?_
 ·subst hκ11
  refine sR <| y0 rfl (o_move (d := .sl 910007) rfl) <| y0 rfl (o_assign (d := .sl 910007) rfl) <| y_nil <| pw_ret ?_
  obtain rfl := Option.some.inj h
  exact ⟨rfl, [_], ⟨rfl, trivial⟩, rfl, io⟩
 ·skip
  refine sR <| y0 rfl (o_assign (d := .int .i64 0) rfl) <| y_nil <| pw_block ?_
  obtain ⟨e16, hl12, hk13⟩ := bindE h
  refine pw_lp0 (fun (q : Int × (List Int)) => St.of [(0, .lst false (List.map (PV.int .i64) a0)), (1, .lst false (List.map (PV.int .i64) a1)), (2, .bool a2), (7, .sl 910007), (8, .int .i64 q.1)] [(910007, ⟨List.map (PV.int .i64) q.2, (List.map (PV.int .i64) q.2).length, true, 1, true⟩)]) hl12 (Wk.trans (wk_nil (t := 7) (l := 920007) (z := 1) rfl rfl) (wk_stP (fun l => if l = 910007 then 920007 else l) _ _ ⟨rfl, rfl, rfl, rfl, rfl, rfl, rfl, rfl, rfl, rfl, rfl, rfl, rfl, rfl, rfl, trivial⟩ ⟨rN, trivial⟩ rfl)) (fun q20 x19 h hx14 => ?_)
  obtain ⟨s17, s18⟩ := q20
  refine pw_seq <| sR <| y0 rfl (o_move (d := .int .i64 s17) rfl) <| y0 rfl (o_move (d := .lst false (List.map (PV.int .i64) a0)) rfl) <| y0 rfl (o_lnL (f := (PV.int .i64)) rfl Ty.e28) <| y0 rfl (o_cmp rfl rfl rfl) <| y_nil ?_
  refine pw_cond (decide (s17 < (a0.length : Int))) rfl (fun hc => ?_) (fun hc => ?_)
  ·have h := ifT h hc
   refine pw_skip ?_
   obtain ⟨κ24, hκ18, h⟩ := jnE h
   refine pw_jn0 (κ := κ24) (r := x19) (fun (j25 : List Int) => St.of [(0, .lst false (List.map (PV.int .i64) a0)), (1, .lst false (List.map (PV.int .i64) a1)), (2, .bool a2), (7, .sl 30), (8, .int .i64 s17)] [(30, ⟨List.map (PV.int .i64) j25, (List.map (PV.int .i64) j25).length, true, 1, true⟩)]) (fun j25 h => ?_) ?_
   ·subst hκ18
    refine sr1 (by kernel_rfl) <| y0 rfl (o_move (d := .int .i64 s17) rfl) <| y0 rfl (o_ari rfl rfl rfl) <| y0 rfl (o_assign (d := .int .i64 (w64 (s17 + 1))) rfl) <| y_nil ?_
    exact ⟨rfl, (w64 (s17 + 1), j25), (Option.some.inj h).symm, (Wk.trans (wk_frz _ [30]) (wk_stP (fun l => if l = 910007 then 30 else l) _ _ ⟨rfl, rfl, rfl, rfl, rfl, rfl, rfl, rfl, rfl, rfl, rfl, rfl, rfl, rfl, rfl, trivial⟩ ⟨rN, trivial⟩ rfl))⟩
   ·skip
    refine pw_block <| sR <| y0 rfl (o_move (d := .lst false (List.map (PV.int .i64) a1)) rfl) <| y0 rfl (o_move (d := .lst false (List.map (PV.int .i64) a0)) rfl) <| y0 rfl (o_move (d := .int .i64 s17) rfl) ?_
    obtain ⟨v26, hv19, h⟩ := bindE h
    refine y0 rfl (o_ixL (f := (PV.int .i64)) (cs := [.int .i64 v26]) hv19 rfl rfl Ty.e28 Ty.s3 rfl rfl) <| y0 rfl (o_loadRS rfl Ty.a3 rfl) ?_
    obtain ⟨v27, hv20, h⟩ := bindE h
    refine y0 rfl (o_call (ds := [.lst false (List.map (PV.int .i64) a1), .int .i64 v26]) rfl Ty.k66 rfl (r08_Has_ok hv20)) <| y0 rfl (o_move (d := .bool a2) rfl) <| y0 rfl (o_eqB rfl rfl Ty.u4 rfl) <| y_nil ?_
    refine pw_cond (v27 == a2) rfl (fun hc => ?_) (fun hc => ?_)
    ·have h := ifT h hc
     refine sr1 (by kernel_rfl) <| y0 rfl (o_move (d := .sl 910007) rfl) <| y0 rfl (o_move (d := .lst false (List.map (PV.int .i64) a0)) rfl) <| y0 rfl (o_move (d := .int .i64 s17) rfl) <| y0 rfl (o_ixL (f := (PV.int .i64)) (cs := [.int .i64 v26]) hv19 rfl rfl Ty.e28 Ty.s3 rfl rfl) <| y0 rfl (o_loadRS rfl Ty.a3 rfl) <| y0 rfl (o_bI (f := (PV.int .i64)) (l := [v26]) rfl Ty.e28 Ty.s3 Ty.z3 rfl rfl nl rfl rfl) ?_
     obtain ⟨v28, hv21, h⟩ := bindE h
     refine y_app rfl (o_apR (f := (PV.int .i64)) hv21 rfl rfl rfl rfl rfl rfl (.inl ⟨_, rfl, rfl⟩) Ty.e28 Ty.s3 Ty.b3 Ty.z3 rfl (fun _ => rfl)) rfl rfl rfl <| y0 rfl (o_assign (d := .sl 30) rfl) <| y_nil ?_
     exact ⟨rfl, v28, h, (Wk.trans (wk_frz _ [30]) (wk_st _ _ ⟨rfl, rfl, rfl, rfl, rfl, rfl, rfl, rfl, rfl, rfl, rfl, rfl, rfl, rfl, rfl, trivial⟩ ⟨rS, trivial⟩))⟩
    ·have h := ifF h hc
     refine pw_skip ?_
     exact ⟨rfl, s18, h, (Wk.trans (wk_frz _ [910007]) (wk_stP (fun l => if l = 30 then 910007 else l) _ _ ⟨rfl, rfl, rfl, rfl, rfl, rfl, rfl, rfl, rfl, rfl, rfl, rfl, rfl, rfl, rfl, trivial⟩ ⟨rN, trivial⟩ rfl))⟩
  ·have h := ifF h hc
   refine pw_exit <| thenQ_exit <| thenQ_exit <| blockQ_exit ?_
   have he := hx14 _ (Option.some.inj h).symm
   have h := hk13
   rw [← he] at h
   exact ⟨rfl, s18, h, (Wk.trans (wk_frz _ [910007]) (wk_st _ _ ⟨rfl, rfl, rfl, trivial⟩ ⟨rS, trivial⟩))⟩

theorem r03_Get_ok {a0 : r03_Slab} {a1 : Int} {r : Int × Int} (h : r03_Get a0 a1 = some r) : PCalls Tryz.prog 97 [r03_Slab.Pv a0, .int .i64 a1] (.tup [.int .i64 r.1, .int .i64 r.2]) := by
 unfold r03_Get at h
 refine pc_intro (N := 30) Tryz.func97 rfl rfl nl fun w0 imm0 => sR <| y1 rfl (o_box (d := r03_Slab.Pv a0) (z := 2) (cl := true) rfl rfl rfl rfl rfl) rfl <| y0 rfl (o_assign (d := .int .i64 0) rfl) <| y0 rfl (o_assign (d := .int .i64 0) rfl) <| y_nil <| sR <| y0 rfl (o_loadA (cs := r03_Slab.Pc a0) rfl rfl rfl Ty.a128 Ty.s128 nl rfl) ?_
 refine y0 rfl (o_move (d := .int .i64 a1) rfl) ?_
 obtain ⟨v1, hv1, h⟩ := bindE h
 refine y0 rfl (o_call (ds := [r03_Slab.Pv a0, .int .i64 a1]) rfl Ty.k121 rfl (r03_Find_ok hv1)) <| y0 rfl (o_move (d := .tup [.int .i64 v1.1, .int .i64 v1.2]) rfl) <| y0 rfl (o_extract rfl rfl) <| y0 rfl (o_extract rfl rfl) <| y0 rfl (o_assign (d := .int .i64 v1.1) rfl) <| y0 rfl (o_assign (d := .int .i64 v1.2) rfl) <| y_nil <| pw_seq ?_
 refine sR <| y0 rfl (o_move (d := .int .i64 v1.2) rfl) <| y0 rfl (o_cmp rfl rfl rfl) <| y_nil ?_
 refine pw_cond (v1.2 != 0) rfl (fun hc => ?_) (fun hc => ?_)
 ·have h := ifT h hc
  refine sR <| y0 rfl (o_move (d := .int .i64 v1.2) rfl) <| y0 rfl (o_assign (d := .int .i64 0) rfl) <| y0 rfl (o_assign (d := .int .i64 v1.2) rfl) <| y_nil <| pw_ret ?_
  obtain rfl := Option.some.inj h
  exact ⟨rfl, [_, _], ⟨rfl, ⟨rfl, trivial⟩⟩, rfl, io⟩
 ·have h := ifF h hc
  refine pw_skip <| pw_seq <| sR <| y0 rfl (o_fieldAddrP (k := 0) rfl Ty.f128_0 rfl) <| y0 rfl (o_loadS rfl rfl rfl Ty.a126 rfl) <| y0 rfl (o_move (d := .int .i64 v1.1) rfl) ?_
  obtain ⟨v2, hv2, h⟩ := bindE h
  refine y0 rfl (o_ixL (f := r03_Cell.Pv) (cs := r03_Cell.Pc v2) hv2 rfl rfl Ty.e126 Ty.s167 rfl rfl) <| y0 rfl (o_fieldAddrR rfl Ty.f167_0 rfl) <| y0 rfl (o_loadRS rfl Ty.a3 rfl) <| y0 rfl (o_cmp rfl rfl rfl) <| y_nil ?_
  refine pw_cond (v2.State == 2) rfl (fun hc => ?_) (fun hc => ?_)
  ·have h := ifT h hc
   refine sR <| y0 rfl (o_assign (d := .int .i64 0) rfl) <| y0 rfl (o_assign (d := .int .i64 3) rfl) <| y_nil <| pw_ret ?_
   obtain rfl := Option.some.inj h
   exact ⟨rfl, [_, _], ⟨rfl, ⟨rfl, trivial⟩⟩, rfl, io⟩
  ·have h := ifF h hc
   refine pw_skip <| sR <| y0 rfl (o_fieldAddrP (k := 0) rfl Ty.f128_0 rfl) <| y0 rfl (o_loadS rfl rfl rfl Ty.a126 rfl) <| y0 rfl (o_move (d := .int .i64 v1.1) rfl) <| y0 rfl (o_ixL (f := r03_Cell.Pv) (cs := r03_Cell.Pc v2) hv2 rfl rfl Ty.e126 Ty.s167 rfl rfl) <| y0 rfl (o_fieldAddrR rfl Ty.f167_2 rfl) <| y0 rfl (o_loadRS rfl Ty.a3 rfl) ?_
   refine y0 rfl (o_assign (d := .int .i64 v2.Val) rfl) <| y0 rfl (o_assign (d := .int .i64 0) rfl) <| y_nil <| pw_ret ?_
   obtain rfl := Option.some.inj h
   exact ⟨rfl, [_, _], ⟨rfl, ⟨rfl, trivial⟩⟩, rfl, io⟩

theorem r06_Get_ok {a0 : r06_Store} {a1 : Int} {r : r06_Obj × Int} (h : r06_Get a0 a1 = some r) : PCalls Tryz.prog 51 [r06_Store.Pv a0, .int .i64 a1] (.tup [r06_Obj.Pv r.1, .int .i64 r.2]) := by
 unfold r06_Get at h
 refine pc_intro (N := 25) Tryz.func51 rfl rfl nl fun w0 imm0 => sR <| y1 rfl (o_box (d := r06_Store.Pv a0) (z := 3) (cl := true) rfl rfl rfl rfl rfl) rfl <| y1 rfl (o_alloc (d := .agg [.int .i64 0, .int .i64 0, .int .i64 0, .int .i64 0, .bool false, .lst true (List.map (PV.int .i64) [])]) (z := 6) rfl Ty.z67 rfl rfl rfl) rfl <| y0 rfl (o_assign (d := .int .i64 0) rfl) <| y_nil <| sR <| y0 rfl (o_loadA (cs := r06_Store.Pc a0) rfl rfl rfl Ty.a34 Ty.s34 nl rfl) ?_
 obtain ⟨v1, hv1, h⟩ := bindE h
 refine yc rfl (o_callF (ls := []) (ds := [r06_Store.Pv a0]) rfl Ty.k98 rfl (r06_Plain_ok hv1)) <| y0 rfl (o_move (d := .int .i64 a1) rfl) ?_
 obtain ⟨v2, hv2, h⟩ := bindE h
 refine y0 rfl (o_call (ds := [r03_Slab.Pv v1, .int .i64 a1]) rfl Ty.k97 rfl (r03_Get_ok hv2)) <| y0 rfl (o_move (d := .tup [.int .i64 v2.1, .int .i64 v2.2]) rfl) <| y0 rfl (o_extract rfl rfl) <| y0 rfl (o_extract rfl rfl) <| y0 rfl (o_assign (d := .int .i64 v2.1) rfl) <| y0 rfl (o_assign (d := .int .i64 v2.2) rfl) <| y_nil <| pw_seq ?_
 refine sR <| y0 rfl (o_move (d := .int .i64 v2.2) rfl) <| y0 rfl (o_cmp rfl rfl rfl) <| y_nil ?_
 refine pw_cond (v2.2 != 0) rfl (fun hc => ?_) (fun hc => ?_)
 ·have h := ifT h hc
  refine sR <| y0 rfl (o_build (cs := [.int .i64 0, .int .i64 0, .int .i64 0, .int .i64 0, .bool false, .lst true (List.map (PV.int .i64) [])]) rfl Ty.p67 Ty.z67 rfl rfl rfl) <| y0 rfl (o_move (d := .int .i64 v2.2) rfl) <| y_sto (x' := .agg [.int .i64 0, .int .i64 0, .int .i64 0, .int .i64 0, .bool false, .lst true (List.map (PV.int .i64) [])]) (cl' := true) rfl rfl (.inl rfl) Ty.s67 <| y0 rfl (o_assign (d := .int .i64 v2.2) rfl) <| y_nil <| pw_ret ?_
  obtain rfl := Option.some.inj h
  exact ⟨rfl, [_, _], ⟨o_loadA rfl rfl rfl Ty.a67 Ty.s67 nl rfl, ⟨rfl, trivial⟩⟩, rfl, io⟩
 ·have h := ifF h hc
  refine pw_skip <| sR <| y0 rfl (o_fieldAddrP (k := 0) rfl Ty.f34_0 rfl) <| y0 rfl (o_loadS rfl rfl rfl Ty.a32 rfl) <| y0 rfl (o_move (d := .int .i64 v2.1) rfl) ?_
  obtain ⟨v3, hv3, h⟩ := bindE h
  refine y0 rfl (o_ixL (f := r06_Cell.Pv) (cs := r06_Cell.Pc v3) hv3 rfl rfl Ty.e32 Ty.s91 rfl rfl) <| y0 rfl (o_fieldAddrR rfl Ty.f91_2 rfl) <| y0 rfl (o_loadRA (cs := r06_Obj.Pc v3.Val) rfl Ty.a67 Ty.s67 nl rfl) <| y_sto (x' := r06_Obj.Pv v3.Val) (cl' := true) rfl rfl (.inr rfl) Ty.s67 <| y0 rfl (o_assign (d := .int .i64 0) rfl) <| y_nil <| pw_ret ?_
  obtain rfl := Option.some.inj h
  exact ⟨rfl, [_, _], ⟨o_loadA rfl rfl rfl Ty.a67 Ty.s67 nl rfl, ⟨rfl, trivial⟩⟩, rfl, io⟩

theorem r05_Names_ok {a0 : List Int} {r : List Int} (h : r05_Names a0 = some r) : PCalls Tryz.prog 99 [.lst false (List.map (PV.int .i64) a0)] (.lst false (List.map (PV.int .i64) r)) := by
 unfold r05_Names at h
 refine pc_intro (N := 25) Tryz.func99 rfl rfl nl fun w0 imm0 => sR <| y0 rfl (o_assign (d := .lst true (List.map (PV.int .i64) [])) rfl) <| y_nil <| sR <| y0 rfl (o_nslice rfl Ty.e28 Ty.s3) <| y0 rfl (o_assign (d := .lst true (List.map (PV.int .i64) [])) rfl) <| y_nil ?_
 obtain ⟨κ12, hκ9, h⟩ := jnE h
 refine pw_jn0 (κ := κ12) (r := r) (fun (j13 : List Int) => St.of [(3, .sl 910003)] [(910003, ⟨List.map (PV.int .i64) j13, (List.map (PV.int .i64) j13).length, true, 1, true⟩)]) (fun j13 h => ?_) ?_
 ·subst hκ9
  refine sR <| y0 rfl (o_move (d := .sl 910003) rfl) <| y0 rfl (o_assign (d := .sl 910003) rfl) <| y_nil <| pw_ret ?_
  obtain rfl := Option.some.inj h
  exact ⟨rfl, [_], ⟨rfl, trivial⟩, rfl, io⟩
 ·skip
  refine sR <| y0 rfl (o_assign (d := .int .i64 0) rfl) <| y_nil <| pw_block ?_
  obtain ⟨e14, hl10, hk11⟩ := bindE h
  refine pw_lp0 (fun (q : Int × (List Int)) => St.of [(0, .lst false (List.map (PV.int .i64) a0)), (3, .sl 910003), (4, .int .i64 q.1)] [(910003, ⟨List.map (PV.int .i64) q.2, (List.map (PV.int .i64) q.2).length, true, 1, true⟩)]) hl10 (Wk.trans (wk_nil (t := 3) (l := 920003) (z := 1) rfl rfl) (wk_stP (fun l => if l = 910003 then 920003 else l) _ _ ⟨rfl, rfl, rfl, rfl, rfl, rfl, rfl, rfl, rfl, trivial⟩ ⟨rN, trivial⟩ rfl)) (fun q18 x17 h hx12 => ?_)
  obtain ⟨s15, s16⟩ := q18
  refine pw_seq <| sR <| y0 rfl (o_move (d := .int .i64 s15) rfl) <| y0 rfl (o_move (d := .lst false (List.map (PV.int .i64) a0)) rfl) <| y0 rfl (o_lnL (f := (PV.int .i64)) rfl Ty.e28) <| y0 rfl (o_cmp rfl rfl rfl) <| y_nil ?_
  refine pw_cond (decide (s15 < (a0.length : Int))) rfl (fun hc => ?_) (fun hc => ?_)
  ·have h := ifT h hc
   refine pw_skip ?_
   obtain ⟨κ21, hκ15, h⟩ := jnE h
   refine pw_jn0 (κ := κ21) (r := x17) (fun (j22 : List Int) => St.of [(0, .lst false (List.map (PV.int .i64) a0)), (3, .sl 23), (4, .int .i64 s15)] [(23, ⟨List.map (PV.int .i64) j22, (List.map (PV.int .i64) j22).length, true, 1, true⟩)]) (fun j22 h => ?_) ?_
   ·subst hκ15
    refine sr1 (by kernel_rfl) <| y0 rfl (o_move (d := .int .i64 s15) rfl) <| y0 rfl (o_ari rfl rfl rfl) <| y0 rfl (o_assign (d := .int .i64 (w64 (s15 + 1))) rfl) <| y_nil ?_
    exact ⟨rfl, (w64 (s15 + 1), j22), (Option.some.inj h).symm, (Wk.trans (wk_frz _ [23]) (wk_stP (fun l => if l = 910003 then 23 else l) _ _ ⟨rfl, rfl, rfl, rfl, rfl, rfl, rfl, rfl, rfl, trivial⟩ ⟨rN, trivial⟩ rfl))⟩
   ·skip
    refine pw_block <| sR <| y0 rfl (o_move (d := .lst false (List.map (PV.int .i64) a0)) rfl) <| y0 rfl (o_move (d := .int .i64 s15) rfl) ?_
    obtain ⟨v23, hv16, h⟩ := bindE h
    refine y0 rfl (o_ixL (f := (PV.int .i64)) (cs := [.int .i64 v23]) hv16 rfl rfl Ty.e28 Ty.s3 rfl rfl) <| y0 rfl (o_loadRS rfl Ty.a3 rfl) <| y0 rfl (o_cmp rfl rfl rfl) <| y_nil ?_
    refine pw_cond (v23 != 0) rfl (fun hc => ?_) (fun hc => ?_)
    ·have h := ifT h hc
     refine sr1 (by kernel_rfl) <| y0 rfl (o_move (d := .sl 910003) rfl) <| y0 rfl (o_move (d := .lst false (List.map (PV.int .i64) a0)) rfl) <| y0 rfl (o_move (d := .int .i64 s15) rfl) <| y0 rfl (o_ixL (f := (PV.int .i64)) (cs := [.int .i64 v23]) hv16 rfl rfl Ty.e28 Ty.s3 rfl rfl) <| y0 rfl (o_loadRS rfl Ty.a3 rfl) <| y0 rfl (o_bI (f := (PV.int .i64)) (l := [v23]) rfl Ty.e28 Ty.s3 Ty.z3 rfl rfl nl rfl rfl) ?_
     obtain ⟨v24, hv17, h⟩ := bindE h
     refine y_app rfl (o_apR (f := (PV.int .i64)) hv17 rfl rfl rfl rfl rfl rfl (.inl ⟨_, rfl, rfl⟩) Ty.e28 Ty.s3 Ty.b3 Ty.z3 rfl (fun _ => rfl)) rfl rfl rfl <| y0 rfl (o_assign (d := .sl 23) rfl) <| y_nil ?_
     exact ⟨rfl, v24, h, (Wk.trans (wk_frz _ [23]) (wk_st _ _ ⟨rfl, rfl, rfl, rfl, rfl, rfl, rfl, rfl, rfl, trivial⟩ ⟨rS, trivial⟩))⟩
    ·have h := ifF h hc
     refine pw_skip ?_
     exact ⟨rfl, s16, h, (Wk.trans (wk_frz _ [910003]) (wk_stP (fun l => if l = 23 then 910003 else l) _ _ ⟨rfl, rfl, rfl, rfl, rfl, rfl, rfl, rfl, rfl, trivial⟩ ⟨rN, trivial⟩ rfl))⟩
  ·have h := ifF h hc
   refine pw_exit <| thenQ_exit <| thenQ_exit <| blockQ_exit ?_
   have he := hx12 _ (Option.some.inj h).symm
   have h := hk11
   rw [← he] at h
   exact ⟨rfl, s16, h, (Wk.trans (wk_frz _ [910003]) (wk_st _ _ ⟨rfl, rfl, rfl, trivial⟩ ⟨rS, trivial⟩))⟩

theorem r07_Out_ok {a0 : r06_Store} {a1 : Int} {r : List Int} (h : r07_Out a0 a1 = some r) : PCalls Tryz.prog 53 [r06_Store.Pv a0, .int .i64 a1] (.lst false (List.map (PV.int .i64) r)) := by
 unfold r07_Out at h
 refine pc_intro (N := 18) Tryz.func53 rfl rfl nl fun w0 imm0 => sR <| y1 rfl (o_box (d := r06_Store.Pv a0) (z := 3) (cl := true) rfl rfl rfl rfl rfl) rfl <| y0 rfl (o_assign (d := .lst true (List.map (PV.int .i64) [])) rfl) <| y_nil <| sR <| y0 rfl (o_loadA (cs := r06_Store.Pc a0) rfl rfl rfl Ty.a34 Ty.s34 nl rfl) <| y0 rfl (o_move (d := .int .i64 a1) rfl) ?_
 obtain ⟨v1, hv1, h⟩ := bindE h
 refine yc rfl (o_callF (ls := []) (ds := [r06_Store.Pv a0, .int .i64 a1]) rfl Ty.k51 rfl (r06_Get_ok hv1)) <| y0 rfl (o_move (d := .tup [r06_Obj.Pv v1.1, .int .i64 v1.2]) rfl) <| y0 rfl (o_extract rfl rfl) <| y0 rfl (o_extract rfl rfl) <| y1 rfl (o_alloc (d := .agg [.int .i64 0, .int .i64 0, .int .i64 0, .int .i64 0, .bool false, .lst true (List.map (PV.int .i64) [])]) (z := 6) rfl Ty.z67 rfl rfl rfl) rfl <| y_sto (x' := r06_Obj.Pv v1.1) (cl' := true) rfl rfl (.inr rfl) Ty.s67 <| y0 rfl (o_assign (d := .int .i64 v1.2) rfl) <| y_nil ?_
 refine pw_seq <| sR <| y0 rfl (o_move (d := .int .i64 v1.2) rfl) <| y0 rfl (o_cmp rfl rfl rfl) <| y_nil ?_
 refine pw_cond (v1.2 != 0) rfl (fun hc => ?_) (fun hc => ?_)
 ·have h := ifT h hc
  refine sR <| y0 rfl (o_assign (d := .lst true (List.map (PV.int .i64) [])) rfl) <| y_nil <| pw_ret ?_
  obtain rfl := Option.some.inj h
  exact ⟨rfl, [_], ⟨rfl, trivial⟩, rfl, io⟩
 ·have h := ifF h hc
  refine pw_skip <| sR <| y0 rfl (o_fieldAddrP (k := 5) rfl Ty.f67_5 rfl) <| y0 rfl (o_loadS rfl rfl rfl Ty.a28 rfl) ?_
  obtain ⟨v2, hv2, h⟩ := bindE h
  refine yc rfl (o_callF (ls := []) (ds := [.lst false (List.map (PV.int .i64) v1.1.Fields)]) rfl Ty.k99 rfl (r05_Names_ok hv2)) <| y0 rfl (o_assign (d := .lst false (List.map (PV.int .i64) v2)) rfl) <| y_nil <| pw_ret ?_
  obtain rfl := Option.some.inj h
  exact ⟨rfl, [_], ⟨rfl, trivial⟩, rfl, io⟩

theorem r08_From_ok {a0 : r06_Store} {a1 : List Int} {r : List Int} (h : r08_From a0 a1 = some r) : PCalls Tryz.prog 112 [r06_Store.Pv a0, .lst false (List.map (PV.int .i64) a1)] (.lst false (List.map (PV.int .i64) r)) := by
 unfold r08_From at h
 refine pc_intro (N := 42) Tryz.func112 rfl rfl nl fun w0 imm0 => sR <| y1 rfl (o_box (d := r06_Store.Pv a0) (z := 3) (cl := true) rfl rfl rfl rfl rfl) rfl <| y0 rfl (o_assign (d := .lst true (List.map (PV.int .i64) [])) rfl) <| y_nil <| sR <| y0 rfl (o_loadA (cs := r06_Store.Pc a0) rfl rfl rfl Ty.a34 Ty.s34 nl rfl) ?_
 obtain ⟨v1, hv1, h⟩ := bindE h
 refine yc rfl (o_callF (ls := []) (ds := [r06_Store.Pv a0]) rfl Ty.k27 rfl (r06_Live_ok hv1)) <| y0 rfl (o_assign (d := .lst false (List.map (PV.int .i64) v1)) rfl) <| y_nil <| sR <| y0 rfl (o_move (d := .lst false (List.map (PV.int .i64) v1)) rfl) <| y0 rfl (o_move (d := .lst false (List.map (PV.int .i64) a1)) rfl) ?_
 obtain ⟨v2, hv2, h⟩ := bindE h
 refine yc rfl (o_callF (ls := []) (ds := [.lst false (List.map (PV.int .i64) v1), .lst false (List.map (PV.int .i64) a1), .bool true]) rfl Ty.k120 rfl (r08_those_ok hv2)) <| y0 rfl (o_assign (d := .lst false (List.map (PV.int .i64) v2)) rfl) <| y_nil ?_
 obtain ⟨κ50, hκ37, h⟩ := jnE h
 refine pw_jn0 (κ := κ50) (r := r) (fun (j51 : List Int) => St.of [(6, .lst false (List.map (PV.int .i64) j51))] []) (fun j51 h => ?_) ?_
 ·subst hκ37
  refine sR <| y0 rfl (o_move (d := .lst false (List.map (PV.int .i64) j51)) rfl) <| y0 rfl (o_assign (d := .lst false (List.map (PV.int .i64) j51)) rfl) <| y_nil <| pw_ret ?_
  obtain rfl := Option.some.inj h
  exact ⟨rfl, [_], ⟨rfl, trivial⟩, rfl, io⟩
 ·skip
  refine sR <| y0 rfl (o_assign (d := .int .i64 0) rfl) <| y_nil <| pw_block ?_
  obtain ⟨e52, hl38, hk39⟩ := bindE h
  refine pw_lp0 (fun (q : (List Int) × Int) => St.of [(2, .ptr 2 0 0), (5, .lst false (List.map (PV.int .i64) v1)), (6, .lst false (List.map (PV.int .i64) q.1)), (7, .int .i64 q.2)] [(2, ⟨[r06_Store.Pv a0], 0, false, 3, true⟩)]) hl38 (wk_st _ _ ⟨rfl, rfl, rfl, rfl, rfl, rfl, rfl, rfl, rfl, rfl, rfl, rfl, trivial⟩ ⟨rS, trivial⟩) (fun q56 x55 h hx40 => ?_)
  obtain ⟨s53, s54⟩ := q56
  refine pw_seq <| sR <| y0 rfl (o_move (d := .int .i64 s54) rfl) <| y0 rfl (o_move (d := .lst false (List.map (PV.int .i64) v1)) rfl) <| y0 rfl (o_lnL (f := (PV.int .i64)) rfl Ty.e28) <| y0 rfl (o_cmp rfl rfl rfl) <| y_nil ?_
  refine pw_cond (decide (s54 < (v1.length : Int))) rfl (fun hc => ?_) (fun hc => ?_)
  ·have h := ifT h hc
   refine pw_skip ?_
   obtain ⟨κ77, hκ56, h⟩ := jnE h
   refine pw_jn0 (κ := κ77) (r := x55) (fun (j78 : List Int) => St.of [(2, .ptr 2 0 0), (5, .lst false (List.map (PV.int .i64) v1)), (6, .lst false (List.map (PV.int .i64) j78)), (7, .int .i64 s54)] [(2, ⟨[r06_Store.Pv a0], 0, false, 3, true⟩)]) (fun j78 h => ?_) ?_
   ·subst hκ56
    refine sr1 (by kernel_rfl) <| y0 rfl (o_move (d := .int .i64 s54) rfl) <| y0 rfl (o_ari rfl rfl rfl) <| y0 rfl (o_assign (d := .int .i64 (w64 (s54 + 1))) rfl) <| y_nil ?_
    exact ⟨rfl, (j78, w64 (s54 + 1)), (Option.some.inj h).symm, (wk_st _ _ ⟨rfl, rfl, rfl, rfl, rfl, rfl, rfl, rfl, rfl, rfl, rfl, rfl, trivial⟩ ⟨rS, trivial⟩)⟩
   ·skip
    refine pw_block <| sR <| y0 rfl (o_nslice rfl Ty.e28 Ty.s3) <| y0 rfl (o_move (d := .lst false (List.map (PV.int .i64) s53)) rfl) ?_
    obtain ⟨v79, hv57, h⟩ := bindE h
    refine y1 rfl (o_apT (f := (PV.int .i64)) hv57 rfl rfl (.inl ⟨_, rfl, rfl⟩) Ty.e28 Ty.s3 Ty.b3 Ty.z3 rfl (fun _ => rfl)) rfl <| y0 rfl (o_assign (d := .sl 23) rfl) <| y_nil ?_
    obtain ⟨κ88, hκ64, h⟩ := jnE h
    refine pw_jn0 (κ := κ88) (r := x55) (fun (j89 : List Int) => St.of [(2, .ptr 2 0 0), (5, .lst false (List.map (PV.int .i64) v1)), (7, .int .i64 s54), (8, .sl 23)] [(23, ⟨List.map (PV.int .i64) j89, (List.map (PV.int .i64) j89).length, true, 1, true⟩), (2, ⟨[r06_Store.Pv a0], 0, false, 3, true⟩)]) (fun j89 h => ?_) ?_
    ·subst hκ64
     refine sr1 (by kernel_rfl) <| y0 rfl (o_move (d := .lst false (List.map (PV.int .i64) v1)) rfl) <| y0 rfl (o_move (d := .sl 23) rfl) ?_
     obtain ⟨v90, hv65, h⟩ := bindE h
     refine ycL rfl (o_callF (ls := [23]) (ds := [.lst false (List.map (PV.int .i64) v1), .sl 23, .bool true]) rfl Ty.k120 rfl (r08_those_ok hv65)) rfl <| y0 rfl (o_assign (d := .lst false (List.map (PV.int .i64) v90)) rfl) <| y_nil ?_
     exact ⟨rfl, v90, h, (wk_st _ _ ⟨rfl, rfl, rfl, rfl, rfl, rfl, rfl, rfl, rfl, rfl, rfl, rfl, trivial⟩ ⟨rS, trivial⟩)⟩
    ·skip
     refine sR <| y0 rfl (o_assign (d := .int .i64 0) rfl) <| y_nil <| pw_block ?_
     obtain ⟨e91, hl66, hk67⟩ := bindE h
     refine pw_lp0 (fun (q : Int × (List Int)) => St.of [(2, .ptr 2 0 0), (5, .lst false (List.map (PV.int .i64) v1)), (6, .lst false (List.map (PV.int .i64) s53)), (7, .int .i64 s54), (8, .sl 23), (9, .int .i64 q.1)] [(23, ⟨List.map (PV.int .i64) q.2, (List.map (PV.int .i64) q.2).length, true, 1, true⟩), (2, ⟨[r06_Store.Pv a0], 0, false, 3, true⟩)]) hl66 (Wk.trans (wk_frz _ [23]) (wk_st _ _ ⟨rfl, rfl, rfl, rfl, rfl, rfl, rfl, rfl, rfl, rfl, rfl, rfl, rfl, rfl, rfl, rfl, rfl, rfl, trivial⟩ ⟨rS, rS, trivial⟩)) (fun q95 x94 h hx68 => ?_)
     obtain ⟨s92, s93⟩ := q95
     refine pw_seq <| sR <| y0 rfl (o_move (d := .int .i64 s92) rfl) <| y0 rfl (o_move (d := .lst false (List.map (PV.int .i64) s53)) rfl) <| y0 rfl (o_lnL (f := (PV.int .i64)) rfl Ty.e28) <| y0 rfl (o_cmp rfl rfl rfl) <| y_nil ?_
     refine pw_cond (decide (s92 < (s53.length : Int))) rfl (fun hc => ?_) (fun hc => ?_)
     ·have h := ifT h hc
      refine pw_skip <| pw_seq <| pw_block <| pw_drw [] Ty.mix (by kernel_rfl) (by kernel_rfl) <| d7 rfl (fun _ hN => o_move (d := .sl 23) rfl) rfl <| d0 rfl (o_loadA (cs := r06_Store.Pc a0) rfl rfl rfl Ty.a34 Ty.s34 nl rfl) rfl <| d7 rfl (fun _ hN => o_move (d := .lst false (List.map (PV.int .i64) s53)) rfl) rfl <| d7 rfl (fun _ hN => o_move (d := .int .i64 s92) rfl) rfl ?_
      obtain ⟨v96, hv69, h⟩ := bindE h
      refine d0 rfl (o_ixL (f := (PV.int .i64)) (cs := [.int .i64 v96]) hv69 rfl rfl Ty.e28 Ty.s3 rfl rfl) rfl <| d0 rfl (o_loadRS rfl Ty.a3 rfl) rfl ?_
      obtain ⟨v97, hv70, h⟩ := bindE h
      refine d2f rfl (o_callF (ls := []) (ds := [r06_Store.Pv a0, .int .i64 v96]) rfl Ty.k53 rfl (r07_Out_ok hv70)) rfl ?_
      obtain ⟨v98, hv71, h⟩ := bindE h
      refine d3a rfl (o_apR (f := (PV.int .i64)) hv71 rfl rfl rfl rfl rfl rfl (.inl ⟨_, rfl, rfl⟩) Ty.e28 Ty.s3 Ty.b3 Ty.z3 rfl (fun _ => rfl)) rfl rfl rfl rfl rfl <| d7 rfl (fun _ hN => o_assign (d := .sl 37) rfl) rfl <| d_nil <| sr1 (by kernel_rfl) <| y0 rfl (o_move (d := .int .i64 s92) rfl) <| y0 rfl (o_ari rfl rfl rfl) <| y0 rfl (o_assign (d := .int .i64 (w64 (s92 + 1))) rfl) <| y_nil ?_
      exact ⟨rfl, (w64 (s92 + 1), v98), (Option.some.inj h).symm, (Wk.trans (wk_frz _ [37]) (wk_stP (fun l => if l = 23 then 37 else l) _ _ ⟨rfl, rfl, rfl, rfl, rfl, rfl, rfl, rfl, rfl, rfl, rfl, rfl, rfl, rfl, rfl, rfl, rfl, rfl, trivial⟩ ⟨rN, rN, trivial⟩ rfl))⟩
     ·have h := ifF h hc
      refine pw_exit <| thenQ_exit <| thenQ_exit <| blockQ_exit ?_
      have he := hx68 _ (Option.some.inj h).symm
      have h := hk67
      rw [← he] at h
      exact ⟨rfl, s93, h, (Wk.trans (wk_frz _ [23]) (wk_st _ _ ⟨rfl, rfl, rfl, rfl, rfl, rfl, rfl, rfl, rfl, rfl, rfl, rfl, trivial⟩ ⟨rS, rS, trivial⟩))⟩
  ·have h := ifF h hc
   refine pw_exit <| thenQ_exit <| thenQ_exit <| blockQ_exit ?_
   have he := hx40 _ (Option.some.inj h).symm
   have h := hk39
   rw [← he] at h
   exact ⟨rfl, s53, h, (wk_st _ _ ⟨rfl, rfl, rfl, trivial⟩ trivial)⟩

theorem r10_Keys_ok {a0 : List r10_Place} {r : List Int} (h : r10_Keys a0 = some r) : PCalls Tryz.prog 102 [.lst false (List.map r10_Place.Pv a0)] (.lst false (List.map (PV.int .i64) r)) := by
 unfold r10_Keys at h
 refine pc_intro (N := 27) Tryz.func102 rfl rfl nl fun w0 imm0 => sR <| y0 rfl (o_assign (d := .lst true (List.map (PV.int .i64) [])) rfl) <| y_nil <| sR <| y0 rfl (o_nslice rfl Ty.e28 Ty.s3) <| y0 rfl (o_assign (d := .lst true (List.map (PV.int .i64) [])) rfl) <| y_nil ?_
 obtain ⟨κ12, hκ9, h⟩ := jnE h
 refine pw_jn0 (κ := κ12) (r := r) (fun (j13 : List Int) => St.of [(3, .sl 910003)] [(910003, ⟨List.map (PV.int .i64) j13, (List.map (PV.int .i64) j13).length, true, 1, true⟩)]) (fun j13 h => ?_) ?_
 ·subst hκ9
  refine sR <| y0 rfl (o_move (d := .sl 910003) rfl) <| y0 rfl (o_assign (d := .sl 910003) rfl) <| y_nil <| pw_ret ?_
  obtain rfl := Option.some.inj h
  exact ⟨rfl, [_], ⟨rfl, trivial⟩, rfl, io⟩
 ·skip
  refine sR <| y0 rfl (o_assign (d := .int .i64 0) rfl) <| y_nil <| pw_block ?_
  obtain ⟨e14, hl10, hk11⟩ := bindE h
  refine pw_lp0 (fun (q : Int × (List Int)) => St.of [(0, .lst false (List.map r10_Place.Pv a0)), (3, .sl 910003), (4, .int .i64 q.1)] [(910003, ⟨List.map (PV.int .i64) q.2, (List.map (PV.int .i64) q.2).length, true, 1, true⟩)]) hl10 (Wk.trans (wk_nil (t := 3) (l := 920003) (z := 1) rfl rfl) (wk_stP (fun l => if l = 910003 then 920003 else l) _ _ ⟨rfl, rfl, rfl, rfl, rfl, rfl, rfl, rfl, rfl, trivial⟩ ⟨rN, trivial⟩ rfl)) (fun q18 x17 h hx12 => ?_)
  obtain ⟨s15, s16⟩ := q18
  refine pw_seq <| sR <| y0 rfl (o_move (d := .int .i64 s15) rfl) <| y0 rfl (o_move (d := .lst false (List.map r10_Place.Pv a0)) rfl) <| y0 rfl (o_lnL (f := r10_Place.Pv) rfl Ty.e36) <| y0 rfl (o_cmp rfl rfl rfl) <| y_nil ?_
  refine pw_cond (decide (s15 < (a0.length : Int))) rfl (fun hc => ?_) (fun hc => ?_)
  ·have h := ifT h hc
   refine pw_skip ?_
   obtain ⟨κ21, hκ15, h⟩ := jnE h
   refine pw_jn0 (κ := κ21) (r := x17) (fun (j22 : List Int) => St.of [(0, .lst false (List.map r10_Place.Pv a0)), (3, .sl 25), (4, .int .i64 s15)] [(25, ⟨List.map (PV.int .i64) j22, (List.map (PV.int .i64) j22).length, true, 1, true⟩)]) (fun j22 h => ?_) ?_
   ·subst hκ15
    refine sr1 (by kernel_rfl) <| y0 rfl (o_move (d := .int .i64 s15) rfl) <| y0 rfl (o_ari rfl rfl rfl) <| y0 rfl (o_assign (d := .int .i64 (w64 (s15 + 1))) rfl) <| y_nil ?_
    exact ⟨rfl, (w64 (s15 + 1), j22), (Option.some.inj h).symm, (Wk.trans (wk_frz _ [25]) (wk_stP (fun l => if l = 910003 then 25 else l) _ _ ⟨rfl, rfl, rfl, rfl, rfl, rfl, rfl, rfl, rfl, trivial⟩ ⟨rN, trivial⟩ rfl))⟩
   ·skip
    refine pw_block <| sR <| y0 rfl (o_move (d := .lst false (List.map r10_Place.Pv a0)) rfl) <| y0 rfl (o_move (d := .int .i64 s15) rfl) ?_
    obtain ⟨v23, hv16, h⟩ := bindE h
    refine y0 rfl (o_ixL (f := r10_Place.Pv) (cs := r10_Place.Pc v23) hv16 rfl rfl Ty.e36 Ty.s93 rfl rfl) <| y0 rfl (o_fieldAddrR rfl Ty.f93_0 rfl) <| y0 rfl (o_loadRS rfl Ty.a3 rfl) <| y0 rfl (o_cmp rfl rfl rfl) <| y_nil ?_
    refine pw_cond (v23.State == 1) rfl (fun hc => ?_) (fun hc => ?_)
    ·have h := ifT h hc
     refine sr1 (by kernel_rfl) <| y0 rfl (o_move (d := .sl 910003) rfl) <| y0 rfl (o_move (d := .lst false (List.map r10_Place.Pv a0)) rfl) <| y0 rfl (o_move (d := .int .i64 s15) rfl) <| y0 rfl (o_ixL (f := r10_Place.Pv) (cs := r10_Place.Pc v23) hv16 rfl rfl Ty.e36 Ty.s93 rfl rfl) <| y0 rfl (o_fieldAddrR rfl Ty.f93_1 rfl) <| y0 rfl (o_loadRS rfl Ty.a3 rfl) <| y0 rfl (o_bI (f := (PV.int .i64)) (l := [v23.Key]) rfl Ty.e28 Ty.s3 Ty.z3 rfl rfl nl rfl rfl) ?_
     obtain ⟨v24, hv17, h⟩ := bindE h
     refine y_app rfl (o_apR (f := (PV.int .i64)) hv17 rfl rfl rfl rfl rfl rfl (.inl ⟨_, rfl, rfl⟩) Ty.e28 Ty.s3 Ty.b3 Ty.z3 rfl (fun _ => rfl)) rfl rfl rfl <| y0 rfl (o_assign (d := .sl 25) rfl) <| y_nil ?_
     exact ⟨rfl, v24, h, (Wk.trans (wk_frz _ [25]) (wk_st _ _ ⟨rfl, rfl, rfl, rfl, rfl, rfl, rfl, rfl, rfl, trivial⟩ ⟨rS, trivial⟩))⟩
    ·have h := ifF h hc
     refine pw_skip ?_
     exact ⟨rfl, s16, h, (Wk.trans (wk_frz _ [910003]) (wk_stP (fun l => if l = 25 then 910003 else l) _ _ ⟨rfl, rfl, rfl, rfl, rfl, rfl, rfl, rfl, rfl, trivial⟩ ⟨rN, trivial⟩ rfl))⟩
  ·have h := ifF h hc
   refine pw_exit <| thenQ_exit <| thenQ_exit <| blockQ_exit ?_
   have he := hx12 _ (Option.some.inj h).symm
   have h := hk11
   rw [← he] at h
   exact ⟨rfl, s16, h, (Wk.trans (wk_frz _ [910003]) (wk_st _ _ ⟨rfl, rfl, rfl, trivial⟩ ⟨rS, trivial⟩))⟩

theorem r10_Get_ok {a0 : List r10_Place} {a1 : Int} {r : Int × Int} (h : r10_Get a0 a1 = some r) : PCalls Tryz.prog 103 [.lst false (List.map r10_Place.Pv a0), .int .i64 a1] (.tup [.int .i64 r.1, .int .i64 r.2]) := by
 unfold r10_Get at h
 refine pc_intro (N := 17) Tryz.func103 rfl rfl nl fun w0 imm0 => sR <| y0 rfl (o_assign (d := .int .i64 0) rfl) <| y0 rfl (o_assign (d := .int .i64 0) rfl) <| y_nil <| sR <| y0 rfl (o_move (d := .lst false (List.map r10_Place.Pv a0)) rfl) <| y0 rfl (o_move (d := .int .i64 a1) rfl) ?_
 obtain ⟨v1, hv1, h⟩ := bindE h
 refine y0 rfl (o_call (ds := [.lst false (List.map r10_Place.Pv a0), .int .i64 a1]) rfl Ty.k106 rfl (r10_Find_ok hv1)) <| y0 rfl (o_assign (d := .int .i64 v1) rfl) <| y_nil <| pw_seq <| sR <| y0 rfl (o_move (d := .int .i64 v1) rfl) <| y0 rfl (o_cmp rfl rfl rfl) <| y_nil ?_
 refine pw_cond (decide (v1 < 0)) rfl (fun hc => ?_) (fun hc => ?_)
 ·have h := ifT h hc
  refine sR <| y0 rfl (o_assign (d := .int .i64 0) rfl) <| y0 rfl (o_assign (d := .int .i64 9) rfl) <| y_nil <| pw_ret ?_
  obtain rfl := Option.some.inj h
  exact ⟨rfl, [_, _], ⟨rfl, ⟨rfl, trivial⟩⟩, rfl, io⟩
 ·have h := ifF h hc
  refine pw_skip <| sR <| y0 rfl (o_move (d := .lst false (List.map r10_Place.Pv a0)) rfl) <| y0 rfl (o_move (d := .int .i64 v1) rfl) ?_
  obtain ⟨v2, hv2, h⟩ := bindE h
  refine y0 rfl (o_ixL (f := r10_Place.Pv) (cs := r10_Place.Pc v2) hv2 rfl rfl Ty.e36 Ty.s93 rfl rfl) <| y0 rfl (o_fieldAddrR rfl Ty.f93_2 rfl) <| y0 rfl (o_loadRS rfl Ty.a3 rfl) <| y0 rfl (o_assign (d := .int .i64 v2.Val) rfl) <| y0 rfl (o_assign (d := .int .i64 0) rfl) <| y_nil <| pw_ret ?_
  obtain rfl := Option.some.inj h
  exact ⟨rfl, [_, _], ⟨rfl, ⟨rfl, trivial⟩⟩, rfl, io⟩

theorem r11_Pairs_ok {a0 : List r10_Place} {r : List r11_Pair} (h : r11_Pairs a0 = some r) : PCalls Tryz.prog 56 [.lst false (List.map r10_Place.Pv a0)] (.lst false (List.map r11_Pair.Pv r)) := by
 unfold r11_Pairs at h
 refine pc_intro (N := 36) Tryz.func56 rfl rfl nl fun w0 imm0 => sR <| y0 rfl (o_assign (d := .lst true (List.map r11_Pair.Pv [])) rfl) <| y_nil <| sR <| y0 rfl (o_nslice rfl Ty.e78 Ty.s80) <| y0 rfl (o_assign (d := .lst true (List.map r11_Pair.Pv [])) rfl) <| y_nil ?_
 refine sR <| y0 rfl (o_move (d := .lst false (List.map r10_Place.Pv a0)) rfl) ?_
 obtain ⟨v1, hv1, h⟩ := bindE h
 refine yc rfl (o_callF (ls := []) (ds := [.lst false (List.map r10_Place.Pv a0)]) rfl Ty.k102 rfl (r10_Keys_ok hv1)) <| y0 rfl (o_assign (d := .lst false (List.map (PV.int .i64) v1)) rfl) <| y_nil ?_
 obtain ⟨κ10, hκ8, h⟩ := jnE h
 refine pw_jn0 (κ := κ10) (r := r) (fun (j11 : List r11_Pair) => St.of [(3, .sl 910003)] [(910003, ⟨List.map r11_Pair.Pv j11, (List.map r11_Pair.Pv j11).length, true, 2, true⟩)]) (fun j11 h => ?_) ?_
 ·subst hκ8
  refine sR <| y0 rfl (o_move (d := .sl 910003) rfl) <| y0 rfl (o_assign (d := .sl 910003) rfl) <| y_nil <| pw_ret ?_
  obtain rfl := Option.some.inj h
  exact ⟨rfl, [_], ⟨rfl, trivial⟩, rfl, io⟩
 ·skip
  refine sR <| y0 rfl (o_assign (d := .int .i64 0) rfl) <| y_nil <| pw_block ?_
  obtain ⟨e12, hl9, hk10⟩ := bindE h
  refine pw_lp0 (fun (q : Int × (List r11_Pair)) => St.of [(0, .lst false (List.map r10_Place.Pv a0)), (3, .sl 910003), (4, .lst false (List.map (PV.int .i64) v1)), (5, .int .i64 q.1)] [(910003, ⟨List.map r11_Pair.Pv q.2, (List.map r11_Pair.Pv q.2).length, true, 2, true⟩)]) hl9 (Wk.trans (wk_nil (t := 3) (l := 920003) (z := 2) rfl rfl) (wk_stP (fun l => if l = 910003 then 920003 else l) _ _ ⟨rfl, rfl, rfl, rfl, rfl, rfl, rfl, rfl, rfl, rfl, rfl, rfl, trivial⟩ ⟨rN, trivial⟩ rfl)) (fun q16 x15 h hx11 => ?_)
  obtain ⟨s13, s14⟩ := q16
  refine pw_seq <| sR <| y0 rfl (o_move (d := .int .i64 s13) rfl) <| y0 rfl (o_move (d := .lst false (List.map (PV.int .i64) v1)) rfl) <| y0 rfl (o_lnL (f := (PV.int .i64)) rfl Ty.e28) <| y0 rfl (o_cmp rfl rfl rfl) <| y_nil ?_
  refine pw_cond (decide (s13 < (v1.length : Int))) rfl (fun hc => ?_) (fun hc => ?_)
  ·have h := ifT h hc
   refine pw_skip <| pw_seq <| pw_block <| sR <| y0 rfl (o_move (d := .lst false (List.map r10_Place.Pv a0)) rfl) <| y0 rfl (o_move (d := .lst false (List.map (PV.int .i64) v1)) rfl) <| y0 rfl (o_move (d := .int .i64 s13) rfl) ?_
   obtain ⟨v17, hv12, h⟩ := bindE h
   refine y0 rfl (o_ixL (f := (PV.int .i64)) (cs := [.int .i64 v17]) hv12 rfl rfl Ty.e28 Ty.s3 rfl rfl) <| y0 rfl (o_loadRS rfl Ty.a3 rfl) ?_
   obtain ⟨v18, hv13, h⟩ := bindE h
   refine y0 rfl (o_call (ds := [.lst false (List.map r10_Place.Pv a0), .int .i64 v17]) rfl Ty.k103 rfl (r10_Get_ok hv13)) <| y0 rfl (o_move (d := .tup [.int .i64 v18.1, .int .i64 v18.2]) rfl) <| y0 rfl (o_extract rfl rfl) <| y0 rfl (o_extract rfl rfl) <| y0 rfl (o_assign (d := .int .i64 v18.1) rfl) <| y0 rfl (o_assign (d := .int .i64 v18.2) rfl) <| y_nil <| sr1 (by kernel_rfl) ?_
   refine y0 rfl (o_move (d := .sl 910003) rfl) <| y0 rfl (o_move (d := .lst false (List.map (PV.int .i64) v1)) rfl) <| y0 rfl (o_move (d := .int .i64 s13) rfl) <| y0 rfl (o_ixL (f := (PV.int .i64)) (cs := [.int .i64 v17]) hv12 rfl rfl Ty.e28 Ty.s3 rfl rfl) <| y0 rfl (o_loadRS rfl Ty.a3 rfl) <| y0 rfl (o_move (d := .int .i64 v18.1) rfl) <| y0 rfl (o_build (cs := [.int .i64 v17, .int .i64 v18.1]) rfl Ty.p80 Ty.z80 rfl rfl rfl) <| y0 rfl (o_bI (f := r11_Pair.Pv) (l := [(⟨v17, v18.1⟩ : r11_Pair)]) rfl Ty.e78 Ty.s80 Ty.z80 rfl rfl nl rfl rfl) ?_
   obtain ⟨v19, hv14, h⟩ := bindE h
   refine y_app rfl (o_apR (f := r11_Pair.Pv) hv14 rfl rfl rfl rfl rfl rfl (.inl ⟨_, rfl, rfl⟩) Ty.e78 Ty.s80 Ty.b80 Ty.z80 rfl (fun _ => rfl)) rfl rfl rfl <| y0 rfl (o_assign (d := .sl 34) rfl) <| y_nil <| sr1 (by kernel_rfl) <| y0 rfl (o_move (d := .int .i64 s13) rfl) <| y0 rfl (o_ari rfl rfl rfl) <| y0 rfl (o_assign (d := .int .i64 (w64 (s13 + 1))) rfl) <| y_nil ?_
   exact ⟨rfl, (w64 (s13 + 1), v19), (Option.some.inj h).symm, (Wk.trans (wk_frz _ [34]) (wk_stP (fun l => if l = 910003 then 34 else l) _ _ ⟨rfl, rfl, rfl, rfl, rfl, rfl, rfl, rfl, rfl, rfl, rfl, rfl, trivial⟩ ⟨rN, trivial⟩ rfl))⟩
  ·have h := ifF h hc
   refine pw_exit <| thenQ_exit <| thenQ_exit <| blockQ_exit ?_
   have he := hx11 _ (Option.some.inj h).symm
   have h := hk10
   rw [← he] at h
   exact ⟨rfl, s14, h, (Wk.trans (wk_frz _ [910003]) (wk_st _ _ ⟨rfl, rfl, rfl, trivial⟩ ⟨rS, trivial⟩))⟩

theorem r12_lives_ok {a0 : r06_Store} {a1 : Int} {r : Bool} (h : r12_lives a0 a1 = some r) : PCalls Tryz.prog 119 [r06_Store.Pv a0, .int .i64 a1] (.bool r) := by
 unfold r12_lives at h
 refine pc_intro (N := 15) Tryz.func119 rfl rfl nl fun w0 imm0 => sR <| y1 rfl (o_box (d := r06_Store.Pv a0) (z := 3) (cl := true) rfl rfl rfl rfl rfl) rfl <| y0 rfl (o_assign (d := .bool false) rfl) <| y_nil <| sR <| y0 rfl (o_loadA (cs := r06_Store.Pc a0) rfl rfl rfl Ty.a34 Ty.s34 nl rfl) <| y0 rfl (o_move (d := .int .i64 a1) rfl) ?_
 obtain ⟨v1, hv1, h⟩ := bindE h
 refine yc rfl (o_callF (ls := []) (ds := [r06_Store.Pv a0, .int .i64 a1]) rfl Ty.k51 rfl (r06_Get_ok hv1)) <| y0 rfl (o_move (d := .tup [r06_Obj.Pv v1.1, .int .i64 v1.2]) rfl) <| y0 rfl (o_extract rfl rfl) <| y0 rfl (o_extract rfl rfl) <| y1 rfl (o_alloc (d := .agg [.int .i64 0, .int .i64 0, .int .i64 0, .int .i64 0, .bool false, .lst true (List.map (PV.int .i64) [])]) (z := 6) rfl Ty.z67 rfl rfl rfl) rfl <| y_sto (x' := r06_Obj.Pv v1.1) (cl' := true) rfl rfl (.inr rfl) Ty.s67 <| y0 rfl (o_assign (d := .int .i64 v1.2) rfl) <| y_nil ?_
 refine sR <| y0 rfl (o_move (d := .int .i64 v1.2) rfl) <| y0 rfl (o_cmp rfl rfl rfl) <| y0 rfl (o_assign (d := .bool (v1.2 == 0)) rfl) <| y_nil <| pw_ret ?_
 obtain rfl := Option.some.inj h
 exact ⟨rfl, [_], ⟨rfl, trivial⟩, rfl, io⟩

theorem r12_held_ok {a0 : r06_Store} {a1 : List r10_Place} {a2 : List Int} {r : List Int} (h : r12_held a0 a1 a2 = some r) : PCalls Tryz.prog 72 [r06_Store.Pv a0, .lst false (List.map r10_Place.Pv a1), .lst false (List.map (PV.int .i64) a2)] (.lst false (List.map (PV.int .i64) r)) := by
 unfold r12_held at h
 refine pc_intro (N := 53) Tryz.func72 rfl rfl nl fun w0 imm0 => sR <| y1 rfl (o_box (d := r06_Store.Pv a0) (z := 3) (cl := true) rfl rfl rfl rfl rfl) rfl <| y0 rfl (o_assign (d := .lst true (List.map (PV.int .i64) [])) rfl) <| y_nil <| sR <| y0 rfl (o_nslice rfl Ty.e28 Ty.s3) <| y0 rfl (o_assign (d := .lst true (List.map (PV.int .i64) [])) rfl) ?_
 refine y_nil <| sR <| y0 rfl (o_move (d := .lst false (List.map r10_Place.Pv a1)) rfl) ?_
 obtain ⟨v1, hv1, h⟩ := bindE h
 refine yc rfl (o_callF (ls := []) (ds := [.lst false (List.map r10_Place.Pv a1)]) rfl Ty.k56 rfl (r11_Pairs_ok hv1)) <| y0 rfl (o_assign (d := .lst false (List.map r11_Pair.Pv v1)) rfl) <| y_nil ?_
 obtain ⟨κ19, hκ16, h⟩ := jnE h
 refine pw_jn0 (κ := κ19) (r := r) (fun (j20 : List Int) => St.of [(7, .sl 910007)] [(910007, ⟨List.map (PV.int .i64) j20, (List.map (PV.int .i64) j20).length, true, 1, true⟩)]) (fun j20 h => ?_) ?_
 ·subst hκ16
  refine sR <| y0 rfl (o_move (d := .sl 910007) rfl) <| y0 rfl (o_assign (d := .sl 910007) rfl) <| y_nil <| pw_ret ?_
  obtain rfl := Option.some.inj h
  exact ⟨rfl, [_], ⟨rfl, trivial⟩, rfl, io⟩
 ·skip
  refine sR <| y0 rfl (o_assign (d := .int .i64 0) rfl) <| y_nil <| pw_block ?_
  obtain ⟨e21, hl17, hk18⟩ := bindE h
  refine pw_lp0 (fun (q : Int × (List Int)) => St.of [(2, .lst false (List.map (PV.int .i64) a2)), (3, .ptr 3 0 0), (7, .sl 910007), (8, .lst false (List.map r11_Pair.Pv v1)), (9, .int .i64 q.1)] [(3, ⟨[r06_Store.Pv a0], 0, false, 3, true⟩), (910007, ⟨List.map (PV.int .i64) q.2, (List.map (PV.int .i64) q.2).length, true, 1, true⟩)]) hl17 (Wk.trans (wk_nil (t := 7) (l := 920007) (z := 1) rfl rfl) (wk_stP (fun l => if l = 910007 then 920007 else l) _ _ ⟨rfl, rfl, rfl, rfl, rfl, rfl, rfl, rfl, rfl, rfl, rfl, rfl, rfl, rfl, rfl, trivial⟩ ⟨rN, rN, trivial⟩ rfl)) (fun q25 x24 h hx19 => ?_)
  obtain ⟨s22, s23⟩ := q25
  refine pw_seq <| sR <| y0 rfl (o_move (d := .int .i64 s22) rfl) <| y0 rfl (o_move (d := .lst false (List.map r11_Pair.Pv v1)) rfl) <| y0 rfl (o_lnL (f := r11_Pair.Pv) rfl Ty.e78) <| y0 rfl (o_cmp rfl rfl rfl) <| y_nil ?_
  refine pw_cond (decide (s22 < (v1.length : Int))) rfl (fun hc => ?_) (fun hc => ?_)
  ·have h := ifT h hc
   refine pw_skip ?_
   obtain ⟨κ31, hκ25, h⟩ := jnE h
   refine pw_jn0 (κ := κ31) (r := x24) (fun (j32 : List Int) => St.of [(2, .lst false (List.map (PV.int .i64) a2)), (3, .ptr 3 0 0), (7, .sl 51), (8, .lst false (List.map r11_Pair.Pv v1)), (9, .int .i64 s22)] [(51, ⟨List.map (PV.int .i64) j32, (List.map (PV.int .i64) j32).length, true, 1, true⟩), (3, ⟨[r06_Store.Pv a0], 0, false, 3, true⟩)]) (fun j32 h => ?_) ?_
   ·subst hκ25
    refine sr1 (by kernel_rfl) <| y0 rfl (o_move (d := .int .i64 s22) rfl) <| y0 rfl (o_ari rfl rfl rfl) <| y0 rfl (o_assign (d := .int .i64 (w64 (s22 + 1))) rfl) <| y_nil ?_
    exact ⟨rfl, (w64 (s22 + 1), j32), (Option.some.inj h).symm, (Wk.trans (wk_frz _ [51]) (wk_stP (fun l => if l = 910007 then 51 else l) _ _ ⟨rfl, rfl, rfl, rfl, rfl, rfl, rfl, rfl, rfl, rfl, rfl, rfl, rfl, rfl, rfl, trivial⟩ ⟨rN, rN, trivial⟩ rfl))⟩
   ·skip
    refine pw_block <| dr [] Ty.mix (by kernel_rfl) (by kernel_rfl) <| d0 rfl (o_loadA (cs := r06_Store.Pc a0) rfl rfl rfl Ty.a34 Ty.s34 nl rfl) rfl <| d7 rfl (fun _ hN => o_move (d := .lst false (List.map r11_Pair.Pv v1)) rfl) rfl <| d7 rfl (fun _ hN => o_move (d := .int .i64 s22) rfl) rfl ?_
    obtain ⟨v33, hv26, h⟩ := bindE h
    refine d0 rfl (o_ixL (f := r11_Pair.Pv) (cs := r11_Pair.Pc v33) hv26 rfl rfl Ty.e78 Ty.s80 rfl rfl) rfl <| d7 rfl (fun _ hN => o_fieldAddrR rfl Ty.f80_0 rfl) rfl <| d0 rfl (o_loadRS rfl Ty.a3 rfl) rfl ?_
    obtain ⟨v34, hv27, h⟩ := bindE h
    refine d2 rfl (o_call (ds := [r06_Store.Pv a0, .int .i64 v33.Key]) rfl Ty.k119 rfl (r12_lives_ok hv27)) rfl <| d7 rfl (fun _ hN => o_move (d := .bool v34) rfl) rfl <| d_if7 (g := (v34 == true)) rfl (fun hg _ hN => o_move (d := .lst false (List.map (PV.int .i64) a2)) rfl) rfl <| d_if7 (g := (v34 == true)) rfl (fun hg _ hN => o_move (d := .lst false (List.map r11_Pair.Pv v1)) rfl) rfl <| d_if7 (g := (v34 == true)) rfl (fun hg _ hN => o_move (d := .int .i64 s22) rfl) rfl <| d_if0 (g := (v34 == true)) rfl (fun hg => o_ixL (f := r11_Pair.Pv) (cs := r11_Pair.Pc v33) hv26 (ct hg) (ct hg) Ty.e78 Ty.s80 rfl rfl) rfl <| d_if7 (g := (v34 == true)) rfl (fun hg _ hN => o_fieldAddrR (ct hg) Ty.f80_0 rfl) rfl <| d_if0 (g := (v34 == true)) rfl (fun hg => o_loadRS (ct hg) Ty.a3 rfl) rfl ?_
    obtain ⟨v35, hv28, h⟩ := bindE h
    refine d_if2 (g := (v34 == true)) rfl (fun hg => o_call (ds := [.lst false (List.map (PV.int .i64) a2), .int .i64 v33.Key]) rfl Ty.k66 (consE (ct hg) (consE (ct hg) rfl)) (r08_Has_ok (onlyE hv28 hg))) rfl <| d7 rfl (fun _ hN => pk_and rfl rfl rfl (fun q => eqT q)) rfl <| d7 rfl (fun _ hN => o_move (d := .bool (v34 && v35)) rfl) rfl <| d_if0 (g := ((v34 && v35) == true)) rfl (fun hg => o_loadA (cs := r06_Store.Pc a0) rfl rfl rfl Ty.a34 Ty.s34 nl rfl) rfl <| d_if7 (g := ((v34 && v35) == true)) rfl (fun hg _ hN => o_move (d := .lst false (List.map r11_Pair.Pv v1)) rfl) rfl <| d_if7 (g := ((v34 && v35) == true)) rfl (fun hg _ hN => o_move (d := .int .i64 s22) rfl) rfl <| d_if0 (g := ((v34 && v35) == true)) rfl (fun hg => o_ixL (f := r11_Pair.Pv) (cs := r11_Pair.Pc v33) hv26 (ct hg) (ct hg) Ty.e78 Ty.s80 rfl rfl) rfl <| d_if7 (g := ((v34 && v35) == true)) rfl (fun hg _ hN => o_fieldAddrR (ct hg) Ty.f80_1 rfl) rfl ?_
    refine d_if0 (g := ((v34 && v35) == true)) rfl (fun hg => o_loadRS (ct hg) Ty.a3 rfl) rfl ?_
    obtain ⟨v36, hv29, h⟩ := bindE h
    refine d_if2 (g := ((v34 && v35) == true)) rfl (fun hg => o_call (ds := [r06_Store.Pv a0, .int .i64 v33.Val]) rfl Ty.k119 (consE (ct hg) (consE (ct hg) rfl)) (r12_lives_ok (onlyE hv29 hg))) rfl <| d7 rfl (fun _ hN => pk_and rfl rfl rfl (fun q => eqT q)) rfl <| d_nil ?_
    refine pw_cond ((v34 && v35) && v36) rfl (fun hc => ?_) (fun hc => ?_)
    ·have h := ifT h hc
     refine sr1 (by kernel_rfl) <| y0 rfl (o_move (d := .sl 910007) rfl) <| y0 rfl (o_move (d := .lst false (List.map r11_Pair.Pv v1)) rfl) <| y0 rfl (o_move (d := .int .i64 s22) rfl) <| y0 rfl (o_ixL (f := r11_Pair.Pv) (cs := r11_Pair.Pc v33) hv26 rfl rfl Ty.e78 Ty.s80 rfl rfl) <| y0 rfl (o_fieldAddrR rfl Ty.f80_1 rfl) <| y0 rfl (o_loadRS rfl Ty.a3 rfl) <| y0 rfl (o_bI (f := (PV.int .i64)) (l := [v33.Val]) rfl Ty.e28 Ty.s3 Ty.z3 rfl rfl nl rfl rfl) ?_
     obtain ⟨v37, hv30, h⟩ := bindE h
     refine y_app rfl (o_apR (f := (PV.int .i64)) hv30 rfl rfl rfl rfl rfl rfl (.inl ⟨_, rfl, rfl⟩) Ty.e28 Ty.s3 Ty.b3 Ty.z3 rfl (fun _ => rfl)) rfl rfl rfl <| y0 rfl (o_assign (d := .sl 51) rfl) <| y_nil ?_
     exact ⟨rfl, v37, h, (Wk.trans (wk_frz _ [51]) (wk_st _ _ ⟨rfl, rfl, rfl, rfl, rfl, rfl, rfl, rfl, rfl, rfl, rfl, rfl, rfl, rfl, rfl, trivial⟩ ⟨rS, rS, trivial⟩))⟩
    ·have h := ifF h hc
     refine pw_skip ?_
     exact ⟨rfl, s23, h, (Wk.trans (wk_frz _ [910007]) (wk_stP (fun l => if l = 51 then 910007 else l) _ _ ⟨rfl, rfl, rfl, rfl, rfl, rfl, rfl, rfl, rfl, rfl, rfl, rfl, rfl, rfl, rfl, trivial⟩ ⟨rN, rN, trivial⟩ rfl))⟩
  ·have h := ifF h hc
   refine pw_exit <| thenQ_exit <| thenQ_exit <| blockQ_exit ?_
   have he := hx19 _ (Option.some.inj h).symm
   have h := hk18
   rw [← he] at h
   exact ⟨rfl, s23, h, (Wk.trans (wk_frz _ [910007]) (wk_st _ _ ⟨rfl, rfl, rfl, trivial⟩ ⟨rS, trivial⟩))⟩

theorem r02_Ints_ok {a0 : List Int} {a1 : List Int} {r : Bool} (h : r02_Ints a0 a1 = some r) : PCalls Tryz.prog 18 [.lst false (List.map (PV.int .i64) a0), .lst false (List.map (PV.int .i64) a1)] (.bool r) := by
 unfold r02_Ints at h
 refine pc_intro (N := 26) Tryz.func18 rfl rfl nl fun w0 imm0 => sR <| y0 rfl (o_assign (d := .bool false) rfl) <| y_nil <| pw_seq <| sR <| y0 rfl (o_move (d := .lst false (List.map (PV.int .i64) a0)) rfl) <| y0 rfl (o_lnL (f := (PV.int .i64)) rfl Ty.e28) ?_
 refine y0 rfl (o_move (d := .lst false (List.map (PV.int .i64) a1)) rfl) <| y0 rfl (o_lnL (f := (PV.int .i64)) rfl Ty.e28) <| y0 rfl (o_cmp rfl rfl rfl) <| y_nil ?_
 refine pw_cond ((a0.length : Int) != (a1.length : Int)) rfl (fun hc => ?_) (fun hc => ?_)
 ·have h := ifT h hc
  refine sR <| y0 rfl (o_assign (d := .bool false) rfl) <| y_nil <| pw_ret ?_
  obtain rfl := Option.some.inj h
  exact ⟨rfl, [_], ⟨rfl, trivial⟩, rfl, io⟩
 ·have h := ifF h hc
  refine pw_skip ?_
  obtain ⟨κ6, hκ6, h⟩ := jnE h
  refine pw_jn0 (κ := κ6) (r := r) (fun (_ : Unit) => St.of [] []) (fun q7 h => ?_) ?_
  ·subst hκ6
   refine sR <| y0 rfl (o_assign (d := .bool true) rfl) <| y_nil <| pw_ret ?_
   obtain rfl := Option.some.inj h
   exact ⟨rfl, [_], ⟨rfl, trivial⟩, rfl, io⟩
  ·skip
   refine sR <| y0 rfl (o_assign (d := .int .i64 0) rfl) <| y_nil <| pw_block ?_
   obtain ⟨e8, hl7, hk8⟩ := bindE h
   refine pw_lp0 (fun (s9 : Int) => St.of [(0, .lst false (List.map (PV.int .i64) a0)), (1, .lst false (List.map (PV.int .i64) a1)), (5, .int .i64 s9)] []) hl7 (wk_st _ _ ⟨rfl, rfl, rfl, rfl, rfl, rfl, rfl, rfl, rfl, trivial⟩ trivial) (fun s9 x10 h hx9 => ?_)
   refine pw_seq <| sR <| y0 rfl (o_move (d := .int .i64 s9) rfl) <| y0 rfl (o_move (d := .lst false (List.map (PV.int .i64) a0)) rfl) <| y0 rfl (o_lnL (f := (PV.int .i64)) rfl Ty.e28) <| y0 rfl (o_cmp rfl rfl rfl) <| y_nil ?_
   refine pw_cond (decide (s9 < (a0.length : Int))) rfl (fun hc => ?_) (fun hc => ?_)
   ·have h := ifT h hc
    refine pw_skip <| pw_seq <| pw_block <| dr [] Ty.mix (by kernel_rfl) (by kernel_rfl) <| d7 rfl (fun _ hN => o_move (d := .lst false (List.map (PV.int .i64) a0)) rfl) rfl <| d7 rfl (fun _ hN => o_move (d := .int .i64 s9) rfl) rfl ?_
    obtain ⟨v11, hv10, h⟩ := bindE h
    refine d0 rfl (o_ixL (f := (PV.int .i64)) (cs := [.int .i64 v11]) hv10 rfl rfl Ty.e28 Ty.s3 rfl rfl) rfl <| d0 rfl (o_loadRS rfl Ty.a3 rfl) rfl <| d7 rfl (fun _ hN => o_move (d := .lst false (List.map (PV.int .i64) a1)) rfl) rfl <| d7 rfl (fun _ hN => o_move (d := .int .i64 s9) rfl) rfl ?_
    obtain ⟨v12, hv11, h⟩ := bindE h
    refine d0 rfl (o_ixL (f := (PV.int .i64)) (cs := [.int .i64 v12]) hv11 rfl rfl Ty.e28 Ty.s3 rfl rfl) rfl <| d0 rfl (o_loadRS rfl Ty.a3 rfl) rfl <| d7 rfl (fun _ hN => o_cmp rfl rfl rfl) rfl <| d_nil ?_
    refine pw_cond (v11 != v12) rfl (fun hc => ?_) (fun hc => ?_)
    ·have h := ifT h hc
     refine sR <| y0 rfl (o_assign (d := .bool false) rfl) <| y_nil <| pw_ret ?_
     have he := hx9 _ (Option.some.inj h).symm
     have h := hk8
     rw [← he] at h
     obtain rfl := Option.some.inj h
     exact ⟨rfl, [_], ⟨rfl, trivial⟩, rfl, io⟩
    ·have h := ifF h hc
     refine pw_skip <| sr1 (by kernel_rfl) <| y0 rfl (o_move (d := .int .i64 s9) rfl) <| y0 rfl (o_ari rfl rfl rfl) <| y0 rfl (o_assign (d := .int .i64 (w64 (s9 + 1))) rfl) <| y_nil ?_
     exact ⟨rfl, w64 (s9 + 1), (Option.some.inj h).symm, (wk_st _ _ ⟨rfl, rfl, rfl, rfl, rfl, rfl, rfl, rfl, rfl, trivial⟩ trivial)⟩
   ·have h := ifF h hc
    refine pw_exit <| thenQ_exit <| thenQ_exit <| blockQ_exit ?_
    have he := hx9 _ (Option.some.inj h).symm
    have h := hk8
    rw [← he] at h
    exact ⟨rfl, (), h, (wk_st _ _ trivial trivial)⟩

theorem r12_rounds_ok {a0 : r06_Store} {a1 : List r10_Place} {a2 : List Int} {r : (List Int) × Int} (h : r12_rounds a0 a1 a2 = some r) : PCalls Tryz.prog 64 [r06_Store.Pv a0, .lst false (List.map r10_Place.Pv a1), .lst false (List.map (PV.int .i64) a2)] (.tup [.lst false (List.map (PV.int .i64) r.1), .int .i64 r.2]) := by
 unfold r12_rounds at h
 refine pc_intro (N := 35) Tryz.func64 rfl rfl nl fun w0 imm0 => sR <| y1 rfl (o_box (d := r06_Store.Pv a0) (z := 3) (cl := true) rfl rfl rfl rfl rfl) rfl <| y0 rfl (o_assign (d := .lst true (List.map (PV.int .i64) [])) rfl) <| y0 rfl (o_assign (d := .int .i64 0) rfl) <| y_nil <| sR <| y0 rfl (o_loadA (cs := r06_Store.Pc a0) rfl rfl rfl Ty.a34 Ty.s34 nl rfl) ?_
 refine y0 rfl (o_move (d := .lst false (List.map (PV.int .i64) a2)) rfl) ?_
 obtain ⟨v1, hv1, h⟩ := bindE h
 refine yc rfl (o_callF (ls := []) (ds := [r06_Store.Pv a0, .lst false (List.map (PV.int .i64) a2)]) rfl Ty.k112 rfl (r08_From_ok hv1)) <| y0 rfl (o_assign (d := .lst false (List.map (PV.int .i64) v1)) rfl) <| y_nil ?_
 obtain ⟨κ12, hκ10, h⟩ := jnE h
 refine pw_jn0 (κ := κ12) (r := r) (fun (j13 : List Int) => St.of [(8, .lst false (List.map (PV.int .i64) j13))] []) (fun j13 h => ?_) ?_
 ·subst hκ10
  refine sR <| y0 rfl (o_move (d := .lst false (List.map (PV.int .i64) j13)) rfl) <| y0 rfl (o_assign (d := .lst false (List.map (PV.int .i64) j13)) rfl) <| y0 rfl (o_assign (d := .int .i64 30) rfl) <| y_nil <| pw_ret ?_
  obtain rfl := Option.some.inj h
  exact ⟨rfl, [_, _], ⟨rfl, ⟨rfl, trivial⟩⟩, rfl, io⟩
 ·skip
  refine sR <| y0 rfl (o_assign (d := .int .i64 0) rfl) <| y_nil <| pw_block ?_
  obtain ⟨e14, hl11, hk12⟩ := bindE h
  refine pw_lp0 (fun (q : (List Int) × Int) => St.of [(1, .lst false (List.map r10_Place.Pv a1)), (3, .ptr 3 0 0), (8, .lst false (List.map (PV.int .i64) q.1)), (9, .int .i64 q.2)] [(3, ⟨[r06_Store.Pv a0], 0, false, 3, true⟩)]) hl11 (wk_st _ _ ⟨rfl, rfl, rfl, rfl, rfl, rfl, rfl, rfl, rfl, rfl, rfl, rfl, trivial⟩ ⟨rS, trivial⟩) (fun q18 x17 h hx13 => ?_)
  obtain ⟨s15, s16⟩ := q18
  refine pw_seq <| sR <| y0 rfl (o_move (d := .int .i64 s16) rfl) <| y0 rfl (o_cmp rfl rfl rfl) <| y_nil ?_
  refine pw_cond (decide (s16 < 30)) rfl (fun hc => ?_) (fun hc => ?_)
  ·have h := ifT h hc
   refine pw_skip <| pw_seq <| pw_block <| dr [9] Ty.mix (by kernel_rfl) (by kernel_rfl) <| d0 rfl (o_loadA (cs := r06_Store.Pc a0) rfl rfl rfl Ty.a34 Ty.s34 nl rfl) rfl <| d1n rfl (o_nslice rfl Ty.e28 Ty.s3) rfl <| d7 rfl (fun _ hN => o_move (d := .lst false (List.map (PV.int .i64) s15)) rfl) rfl ?_
   obtain ⟨v19, hv14, h⟩ := bindE h
   refine d3 rfl (o_apT (f := (PV.int .i64)) hv14 rfl rfl (.inl ⟨_, rfl, rfl⟩) Ty.e28 Ty.s3 Ty.b3 Ty.z3 rfl (fun _ => rfl)) rfl rfl rfl <| d0 rfl (o_loadA (cs := r06_Store.Pc a0) rfl rfl rfl Ty.a34 Ty.s34 nl rfl) rfl <| d7 rfl (fun _ hN => o_move (d := .lst false (List.map r10_Place.Pv a1)) rfl) rfl <| d7 rfl (fun _ hN => o_move (d := .lst false (List.map (PV.int .i64) s15)) rfl) rfl ?_
   obtain ⟨v20, hv15, h⟩ := bindE h
   refine d2f rfl (o_callF (ls := []) (ds := [r06_Store.Pv a0, .lst false (List.map r10_Place.Pv a1), .lst false (List.map (PV.int .i64) s15)]) rfl Ty.k72 rfl (r12_held_ok hv15)) rfl ?_
   obtain ⟨v21, hv16, h⟩ := bindE h
   refine d3a rfl (o_apR (f := (PV.int .i64)) hv16 rfl rfl rfl rfl rfl rfl (.inl ⟨_, rfl, rfl⟩) Ty.e28 Ty.s3 Ty.b3 Ty.z3 rfl (fun _ => rfl)) rfl rfl rfl rfl rfl ?_
   obtain ⟨v22, hv17, h⟩ := bindE h
   refine d5f rfl (o_callF (ls := [26]) (ds := [r06_Store.Pv a0, .sl 26]) rfl Ty.k112 rfl (r08_From_ok hv17)) rfl rfl <| d7 rfl (fun _ hN => o_assign (d := .lst false (List.map (PV.int .i64) v22)) rfl) rfl <| d_nil <| pw_seq <| sR <| y0 rfl (o_move (d := .lst false (List.map (PV.int .i64) v22)) rfl) <| y0 rfl (o_move (d := .lst false (List.map (PV.int .i64) s15)) rfl) ?_
   obtain ⟨v23, hv18, h⟩ := bindE h
   refine y0 rfl (o_call (ds := [.lst false (List.map (PV.int .i64) v22), .lst false (List.map (PV.int .i64) s15)]) rfl Ty.k18 rfl (r02_Ints_ok hv18)) <| y_nil ?_
   refine pw_cond v23 rfl (fun hc => ?_) (fun hc => ?_)
   ·have h := ifT h hc
    refine sR <| y0 rfl (o_move (d := .lst false (List.map (PV.int .i64) s15)) rfl) <| y0 rfl (o_move (d := .int .i64 s16) rfl) <| y0 rfl (o_assign (d := .lst false (List.map (PV.int .i64) s15)) rfl) <| y0 rfl (o_assign (d := .int .i64 s16) rfl) <| y_nil <| pw_ret ?_
    have he := hx13 _ (Option.some.inj h).symm
    have h := hk12
    rw [← he] at h
    obtain rfl := Option.some.inj h
    exact ⟨rfl, [_, _], ⟨rfl, ⟨rfl, trivial⟩⟩, rfl, io⟩
   ·have h := ifF h hc
    refine pw_skip <| sr1 (by kernel_rfl) <| y0 rfl (o_move (d := .lst false (List.map (PV.int .i64) v22)) rfl) <| y0 rfl (o_assign (d := .lst false (List.map (PV.int .i64) v22)) rfl) <| y_nil <| sr1 (by kernel_rfl) <| y0 rfl (o_move (d := .int .i64 s16) rfl) <| y0 rfl (o_ari rfl rfl rfl) ?_
    refine y0 rfl (o_assign (d := .int .i64 (w64 (s16 + 1))) rfl) <| y_nil ?_
    exact ⟨rfl, (v22, w64 (s16 + 1)), (Option.some.inj h).symm, (wk_st _ _ ⟨rfl, rfl, rfl, rfl, rfl, rfl, rfl, rfl, rfl, rfl, rfl, rfl, trivial⟩ ⟨rS, trivial⟩)⟩
  ·have h := ifF h hc
   refine pw_exit <| thenQ_exit <| thenQ_exit <| blockQ_exit ?_
   have he := hx13 _ (Option.some.inj h).symm
   have h := hk12
   rw [← he] at h
   exact ⟨rfl, s15, h, (wk_st _ _ ⟨rfl, rfl, rfl, trivial⟩ trivial)⟩

theorem r12_From_ok {a0 : r06_Store} {a1 : List r10_Place} {a2 : List Int} {r : List Int} (h : r12_From a0 a1 a2 = some r) : PCalls Tryz.prog 20 [r06_Store.Pv a0, .lst false (List.map r10_Place.Pv a1), .lst false (List.map (PV.int .i64) a2)] (.lst false (List.map (PV.int .i64) r)) := by
 unfold r12_From at h
 refine pc_intro (N := 17) Tryz.func20 rfl rfl nl fun w0 imm0 => sR <| y1 rfl (o_box (d := r06_Store.Pv a0) (z := 3) (cl := true) rfl rfl rfl rfl rfl) rfl <| y0 rfl (o_assign (d := .lst true (List.map (PV.int .i64) [])) rfl) <| y_nil <| sR <| y0 rfl (o_loadA (cs := r06_Store.Pc a0) rfl rfl rfl Ty.a34 Ty.s34 nl rfl) <| y0 rfl (o_move (d := .lst false (List.map r10_Place.Pv a1)) rfl) ?_
 refine y0 rfl (o_move (d := .lst false (List.map (PV.int .i64) a2)) rfl) ?_
 obtain ⟨v1, hv1, h⟩ := bindE h
 refine yc rfl (o_callF (ls := []) (ds := [r06_Store.Pv a0, .lst false (List.map r10_Place.Pv a1), .lst false (List.map (PV.int .i64) a2)]) rfl Ty.k64 rfl (r12_rounds_ok hv1)) <| y0 rfl (o_move (d := .tup [.lst false (List.map (PV.int .i64) v1.1), .int .i64 v1.2]) rfl) <| y0 rfl (o_extract rfl rfl) <| y0 rfl (o_extract rfl rfl) <| y0 rfl (o_assign (d := .lst false (List.map (PV.int .i64) v1.1)) rfl) <| y0 rfl (o_assign (d := .int .i64 v1.2) rfl) <| y_nil <| sR ?_
 refine y0 rfl (o_move (d := .lst false (List.map (PV.int .i64) v1.1)) rfl) <| y0 rfl (o_assign (d := .lst false (List.map (PV.int .i64) v1.1)) rfl) <| y_nil <| pw_ret ?_
 obtain rfl := Option.some.inj h
 exact ⟨rfl, [_], ⟨rfl, trivial⟩, rfl, io⟩

theorem r12_Lost_ok {a0 : r06_Store} {a1 : List r10_Place} {a2 : List Int} {r : List Int} (h : r12_Lost a0 a1 a2 = some r) : PCalls Tryz.prog 22 [r06_Store.Pv a0, .lst false (List.map r10_Place.Pv a1), .lst false (List.map (PV.int .i64) a2)] (.lst false (List.map (PV.int .i64) r)) := by
 unfold r12_Lost at h
 refine pc_intro (N := 39) Tryz.func22 rfl rfl nl fun w0 imm0 => sR <| y1 rfl (o_box (d := r06_Store.Pv a0) (z := 3) (cl := true) rfl rfl rfl rfl rfl) rfl <| y0 rfl (o_assign (d := .lst true (List.map (PV.int .i64) [])) rfl) <| y_nil <| sR <| y0 rfl (o_loadA (cs := r06_Store.Pc a0) rfl rfl rfl Ty.a34 Ty.s34 nl rfl) <| y0 rfl (o_move (d := .lst false (List.map r10_Place.Pv a1)) rfl) ?_
 refine y0 rfl (o_move (d := .lst false (List.map (PV.int .i64) a2)) rfl) ?_
 obtain ⟨v1, hv1, h⟩ := bindE h
 refine yc rfl (o_callF (ls := []) (ds := [r06_Store.Pv a0, .lst false (List.map r10_Place.Pv a1), .lst false (List.map (PV.int .i64) a2)]) rfl Ty.k20 rfl (r12_From_ok hv1)) <| y0 rfl (o_assign (d := .lst false (List.map (PV.int .i64) v1)) rfl) <| y_nil <| sR <| y0 rfl (o_nslice rfl Ty.e28 Ty.s3) <| y0 rfl (o_assign (d := .lst true (List.map (PV.int .i64) [])) rfl) <| y_nil <| sR ?_
 refine y0 rfl (o_loadA (cs := r06_Store.Pc a0) rfl rfl rfl Ty.a34 Ty.s34 nl rfl) ?_
 obtain ⟨v2, hv2, h⟩ := bindE h
 refine yc rfl (o_callF (ls := []) (ds := [r06_Store.Pv a0]) rfl Ty.k27 rfl (r06_Live_ok hv2)) <| y0 rfl (o_assign (d := .lst false (List.map (PV.int .i64) v2)) rfl) <| y_nil ?_
 obtain ⟨κ16, hκ13, h⟩ := jnE h
 refine pw_jn0 (κ := κ16) (r := r) (fun (j17 : List Int) => St.of [(8, .sl 910008)] [(910008, ⟨List.map (PV.int .i64) j17, (List.map (PV.int .i64) j17).length, true, 1, true⟩)]) (fun j17 h => ?_) ?_
 ·subst hκ13
  refine sR <| y0 rfl (o_move (d := .sl 910008) rfl) <| y0 rfl (o_assign (d := .sl 910008) rfl) <| y_nil <| pw_ret ?_
  obtain rfl := Option.some.inj h
  exact ⟨rfl, [_], ⟨rfl, trivial⟩, rfl, io⟩
 ·skip
  refine sR <| y0 rfl (o_assign (d := .int .i64 0) rfl) <| y_nil <| pw_block ?_
  obtain ⟨e18, hl14, hk15⟩ := bindE h
  refine pw_lp0 (fun (q : Int × (List Int)) => St.of [(7, .lst false (List.map (PV.int .i64) v1)), (8, .sl 910008), (9, .lst false (List.map (PV.int .i64) v2)), (10, .int .i64 q.1)] [(910008, ⟨List.map (PV.int .i64) q.2, (List.map (PV.int .i64) q.2).length, true, 1, true⟩)]) hl14 (Wk.trans (wk_nil (t := 8) (l := 920008) (z := 1) rfl rfl) (wk_stP (fun l => if l = 910008 then 920008 else l) _ _ ⟨rfl, rfl, rfl, rfl, rfl, rfl, rfl, rfl, rfl, rfl, rfl, rfl, trivial⟩ ⟨rN, trivial⟩ rfl)) (fun q22 x21 h hx16 => ?_)
  obtain ⟨s19, s20⟩ := q22
  refine pw_seq <| sR <| y0 rfl (o_move (d := .int .i64 s19) rfl) <| y0 rfl (o_move (d := .lst false (List.map (PV.int .i64) v2)) rfl) <| y0 rfl (o_lnL (f := (PV.int .i64)) rfl Ty.e28) <| y0 rfl (o_cmp rfl rfl rfl) <| y_nil ?_
  refine pw_cond (decide (s19 < (v2.length : Int))) rfl (fun hc => ?_) (fun hc => ?_)
  ·have h := ifT h hc
   refine pw_skip ?_
   obtain ⟨κ26, hκ20, h⟩ := jnE h
   refine pw_jn0 (κ := κ26) (r := x21) (fun (j27 : List Int) => St.of [(7, .lst false (List.map (PV.int .i64) v1)), (8, .sl 37), (9, .lst false (List.map (PV.int .i64) v2)), (10, .int .i64 s19)] [(37, ⟨List.map (PV.int .i64) j27, (List.map (PV.int .i64) j27).length, true, 1, true⟩)]) (fun j27 h => ?_) ?_
   ·subst hκ20
    refine sr1 (by kernel_rfl) <| y0 rfl (o_move (d := .int .i64 s19) rfl) <| y0 rfl (o_ari rfl rfl rfl) <| y0 rfl (o_assign (d := .int .i64 (w64 (s19 + 1))) rfl) <| y_nil ?_
    exact ⟨rfl, (w64 (s19 + 1), j27), (Option.some.inj h).symm, (Wk.trans (wk_frz _ [37]) (wk_stP (fun l => if l = 910008 then 37 else l) _ _ ⟨rfl, rfl, rfl, rfl, rfl, rfl, rfl, rfl, rfl, rfl, rfl, rfl, trivial⟩ ⟨rN, trivial⟩ rfl))⟩
   ·skip
    refine pw_block <| sR <| y0 rfl (o_move (d := .lst false (List.map (PV.int .i64) v1)) rfl) <| y0 rfl (o_move (d := .lst false (List.map (PV.int .i64) v2)) rfl) <| y0 rfl (o_move (d := .int .i64 s19) rfl) ?_
    obtain ⟨v28, hv21, h⟩ := bindE h
    refine y0 rfl (o_ixL (f := (PV.int .i64)) (cs := [.int .i64 v28]) hv21 rfl rfl Ty.e28 Ty.s3 rfl rfl) <| y0 rfl (o_loadRS rfl Ty.a3 rfl) ?_
    obtain ⟨v29, hv22, h⟩ := bindE h
    refine y0 rfl (o_call (ds := [.lst false (List.map (PV.int .i64) v1), .int .i64 v28]) rfl Ty.k66 rfl (r08_Has_ok hv22)) <| y0 rfl (o_not rfl rfl) <| y_nil ?_
    refine pw_cond (!v29) rfl (fun hc => ?_) (fun hc => ?_)
    ·have h := ifT h hc
     refine sr1 (by kernel_rfl) <| y0 rfl (o_move (d := .sl 910008) rfl) <| y0 rfl (o_move (d := .lst false (List.map (PV.int .i64) v2)) rfl) <| y0 rfl (o_move (d := .int .i64 s19) rfl) <| y0 rfl (o_ixL (f := (PV.int .i64)) (cs := [.int .i64 v28]) hv21 rfl rfl Ty.e28 Ty.s3 rfl rfl) <| y0 rfl (o_loadRS rfl Ty.a3 rfl) <| y0 rfl (o_bI (f := (PV.int .i64)) (l := [v28]) rfl Ty.e28 Ty.s3 Ty.z3 rfl rfl nl rfl rfl) ?_
     obtain ⟨v30, hv23, h⟩ := bindE h
     refine y_app rfl (o_apR (f := (PV.int .i64)) hv23 rfl rfl rfl rfl rfl rfl (.inl ⟨_, rfl, rfl⟩) Ty.e28 Ty.s3 Ty.b3 Ty.z3 rfl (fun _ => rfl)) rfl rfl rfl <| y0 rfl (o_assign (d := .sl 37) rfl) <| y_nil ?_
     exact ⟨rfl, v30, h, (Wk.trans (wk_frz _ [37]) (wk_st _ _ ⟨rfl, rfl, rfl, rfl, rfl, rfl, rfl, rfl, rfl, rfl, rfl, rfl, trivial⟩ ⟨rS, trivial⟩))⟩
    ·have h := ifF h hc
     refine pw_skip ?_
     exact ⟨rfl, s20, h, (Wk.trans (wk_frz _ [910008]) (wk_stP (fun l => if l = 37 then 910008 else l) _ _ ⟨rfl, rfl, rfl, rfl, rfl, rfl, rfl, rfl, rfl, rfl, rfl, rfl, trivial⟩ ⟨rN, trivial⟩ rfl))⟩
  ·have h := ifF h hc
   refine pw_exit <| thenQ_exit <| thenQ_exit <| blockQ_exit ?_
   have he := hx16 _ (Option.some.inj h).symm
   have h := hk15
   rw [← he] at h
   exact ⟨rfl, s20, h, (Wk.trans (wk_frz _ [910008]) (wk_st _ _ ⟨rfl, rfl, rfl, trivial⟩ ⟨rS, trivial⟩))⟩

theorem r08_Closed_ok {a0 : r06_Store} {a1 : List Int} {r : Bool} (h : r08_Closed a0 a1 = some r) : PCalls Tryz.prog 73 [r06_Store.Pv a0, .lst false (List.map (PV.int .i64) a1)] (.bool r) := by
 unfold r08_Closed at h
 refine pc_intro (N := 42) Tryz.func73 rfl rfl nl fun w0 imm0 => sR <| y1 rfl (o_box (d := r06_Store.Pv a0) (z := 3) (cl := true) rfl rfl rfl rfl rfl) rfl <| y0 rfl (o_assign (d := .bool false) rfl) <| y_nil <| sR <| y0 rfl (o_loadA (cs := r06_Store.Pc a0) rfl rfl rfl Ty.a34 Ty.s34 nl rfl) ?_
 obtain ⟨v1, hv1, h⟩ := bindE h
 refine yc rfl (o_callF (ls := []) (ds := [r06_Store.Pv a0]) rfl Ty.k27 rfl (r06_Live_ok hv1)) <| y0 rfl (o_assign (d := .lst false (List.map (PV.int .i64) v1)) rfl) <| y_nil <| sR <| y0 rfl (o_move (d := .lst false (List.map (PV.int .i64) v1)) rfl) <| y0 rfl (o_move (d := .lst false (List.map (PV.int .i64) a1)) rfl) ?_
 obtain ⟨v2, hv2, h⟩ := bindE h
 refine yc rfl (o_callF (ls := []) (ds := [.lst false (List.map (PV.int .i64) v1), .lst false (List.map (PV.int .i64) a1), .bool true]) rfl Ty.k120 rfl (r08_those_ok hv2)) <| y0 rfl (o_assign (d := .lst false (List.map (PV.int .i64) v2)) rfl) <| y_nil ?_
 obtain ⟨κ24, hκ23, h⟩ := jnE h
 refine pw_jn0 (κ := κ24) (r := r) (fun (_ : Unit) => St.of [] []) (fun q25 h => ?_) ?_
 ·subst hκ23
  refine sR <| y0 rfl (o_assign (d := .bool true) rfl) <| y_nil <| pw_ret ?_
  obtain rfl := Option.some.inj h
  exact ⟨rfl, [_], ⟨rfl, trivial⟩, rfl, io⟩
 ·skip
  refine sR <| y0 rfl (o_assign (d := .int .i64 0) rfl) <| y_nil <| pw_block ?_
  obtain ⟨e26, hl24, hk25⟩ := bindE h
  refine pw_lp0 (fun (s27 : Int) => St.of [(1, .lst false (List.map (PV.int .i64) a1)), (2, .ptr 2 0 0), (5, .lst false (List.map (PV.int .i64) v1)), (6, .lst false (List.map (PV.int .i64) v2)), (7, .int .i64 s27)] [(2, ⟨[r06_Store.Pv a0], 0, false, 3, true⟩)]) hl24 (wk_st _ _ ⟨rfl, rfl, rfl, rfl, rfl, rfl, rfl, rfl, rfl, rfl, rfl, rfl, rfl, rfl, rfl, trivial⟩ ⟨rS, trivial⟩) (fun s27 x28 h hx26 => ?_)
  refine pw_seq <| sR <| y0 rfl (o_move (d := .int .i64 s27) rfl) <| y0 rfl (o_move (d := .lst false (List.map (PV.int .i64) v2)) rfl) <| y0 rfl (o_lnL (f := (PV.int .i64)) rfl Ty.e28) <| y0 rfl (o_cmp rfl rfl rfl) <| y_nil ?_
  refine pw_cond (decide (s27 < (v2.length : Int))) rfl (fun hc => ?_) (fun hc => ?_)
  ·have h := ifT h hc
   refine pw_skip ?_
   obtain ⟨κ37, hκ35, h⟩ := jnE h
   refine pw_jn0 (κ := κ37) (r := x28) (fun (_ : Unit) => St.of [(1, .lst false (List.map (PV.int .i64) a1)), (2, .ptr 2 0 0), (5, .lst false (List.map (PV.int .i64) v1)), (6, .lst false (List.map (PV.int .i64) v2)), (7, .int .i64 s27)] [(2, ⟨[r06_Store.Pv a0], 0, false, 3, true⟩)]) (fun q38 h => ?_) ?_
   ·subst hκ35
    refine sr1 (by kernel_rfl) <| y0 rfl (o_move (d := .int .i64 s27) rfl) <| y0 rfl (o_ari rfl rfl rfl) <| y0 rfl (o_assign (d := .int .i64 (w64 (s27 + 1))) rfl) <| y_nil ?_
    exact ⟨rfl, w64 (s27 + 1), (Option.some.inj h).symm, (wk_st _ _ ⟨rfl, rfl, rfl, rfl, rfl, rfl, rfl, rfl, rfl, rfl, rfl, rfl, rfl, rfl, rfl, trivial⟩ ⟨rS, trivial⟩)⟩
   ·skip
    refine pw_block <| dr [] Ty.mix (by kernel_rfl) (by kernel_rfl) <| d7 rfl (fun _ hN => o_move (d := .lst false (List.map (PV.int .i64) v1)) rfl) rfl <| d0 rfl (o_loadA (cs := r06_Store.Pc a0) rfl rfl rfl Ty.a34 Ty.s34 nl rfl) rfl <| d7 rfl (fun _ hN => o_move (d := .lst false (List.map (PV.int .i64) v2)) rfl) rfl <| d7 rfl (fun _ hN => o_move (d := .int .i64 s27) rfl) rfl ?_
    obtain ⟨v39, hv36, h⟩ := bindE h
    refine d0 rfl (o_ixL (f := (PV.int .i64)) (cs := [.int .i64 v39]) hv36 rfl rfl Ty.e28 Ty.s3 rfl rfl) rfl <| d0 rfl (o_loadRS rfl Ty.a3 rfl) rfl ?_
    obtain ⟨v40, hv37, h⟩ := bindE h
    refine d2f rfl (o_callF (ls := []) (ds := [r06_Store.Pv a0, .int .i64 v39]) rfl Ty.k53 rfl (r07_Out_ok hv37)) rfl ?_
    obtain ⟨v41, hv38, h⟩ := bindE h
    refine d2f rfl (o_callF (ls := []) (ds := [.lst false (List.map (PV.int .i64) v1), .lst false (List.map (PV.int .i64) v40), .bool true]) rfl Ty.k120 rfl (r08_those_ok hv38)) rfl <| d7 rfl (fun _ hN => o_assign (d := .lst false (List.map (PV.int .i64) v41)) rfl) rfl <| d_nil <| sR <| y0 rfl (o_assign (d := .int .i64 0) rfl) <| y_nil <| pw_block ?_
    obtain ⟨e42, hl39, hk40⟩ := bindE h
    refine pw_lp0 (fun (s43 : Int) => St.of [(1, .lst false (List.map (PV.int .i64) a1)), (2, .ptr 2 0 0), (5, .lst false (List.map (PV.int .i64) v1)), (6, .lst false (List.map (PV.int .i64) v2)), (7, .int .i64 s27), (8, .lst false (List.map (PV.int .i64) v41)), (9, .int .i64 s43)] [(2, ⟨[r06_Store.Pv a0], 0, false, 3, true⟩)]) hl39 (wk_st _ _ ⟨rfl, rfl, rfl, rfl, rfl, rfl, rfl, rfl, rfl, rfl, rfl, rfl, rfl, rfl, rfl, rfl, rfl, rfl, rfl, rfl, rfl, trivial⟩ ⟨rS, trivial⟩) (fun s43 x44 h hx41 => ?_)
    refine pw_seq <| sR <| y0 rfl (o_move (d := .int .i64 s43) rfl) <| y0 rfl (o_move (d := .lst false (List.map (PV.int .i64) v41)) rfl) <| y0 rfl (o_lnL (f := (PV.int .i64)) rfl Ty.e28) <| y0 rfl (o_cmp rfl rfl rfl) <| y_nil ?_
    refine pw_cond (decide (s43 < (v41.length : Int))) rfl (fun hc => ?_) (fun hc => ?_)
    ·have h := ifT h hc
     refine pw_skip <| pw_seq <| pw_block <| sR <| y0 rfl (o_move (d := .lst false (List.map (PV.int .i64) a1)) rfl) <| y0 rfl (o_move (d := .lst false (List.map (PV.int .i64) v41)) rfl) <| y0 rfl (o_move (d := .int .i64 s43) rfl) ?_
     obtain ⟨v45, hv42, h⟩ := bindE h
     refine y0 rfl (o_ixL (f := (PV.int .i64)) (cs := [.int .i64 v45]) hv42 rfl rfl Ty.e28 Ty.s3 rfl rfl) <| y0 rfl (o_loadRS rfl Ty.a3 rfl) ?_
     obtain ⟨v46, hv43, h⟩ := bindE h
     refine y0 rfl (o_call (ds := [.lst false (List.map (PV.int .i64) a1), .int .i64 v45]) rfl Ty.k66 rfl (r08_Has_ok hv43)) <| y0 rfl (o_not rfl rfl) <| y_nil ?_
     refine pw_cond (!v46) rfl (fun hc => ?_) (fun hc => ?_)
     ·have h := ifT h hc
      refine sR <| y0 rfl (o_assign (d := .bool false) rfl) <| y_nil <| pw_ret ?_
      have he := hx41 _ (Option.some.inj h).symm
      have h := hk40
      rw [← he] at h
      have he := hx26 _ (Option.some.inj h).symm
      have h := hk25
      rw [← he] at h
      obtain rfl := Option.some.inj h
      exact ⟨rfl, [_], ⟨rfl, trivial⟩, rfl, io⟩
     ·have h := ifF h hc
      refine pw_skip <| sr1 (by kernel_rfl) <| y0 rfl (o_move (d := .int .i64 s43) rfl) <| y0 rfl (o_ari rfl rfl rfl) <| y0 rfl (o_assign (d := .int .i64 (w64 (s43 + 1))) rfl) <| y_nil ?_
      exact ⟨rfl, w64 (s43 + 1), (Option.some.inj h).symm, (wk_st _ _ ⟨rfl, rfl, rfl, rfl, rfl, rfl, rfl, rfl, rfl, rfl, rfl, rfl, rfl, rfl, rfl, rfl, rfl, rfl, rfl, rfl, rfl, trivial⟩ ⟨rS, trivial⟩)⟩
    ·have h := ifF h hc
     refine pw_exit <| thenQ_exit <| thenQ_exit <| blockQ_exit ?_
     have he := hx41 _ (Option.some.inj h).symm
     have h := hk40
     rw [← he] at h
     exact ⟨rfl, (), h, (wk_st _ _ ⟨rfl, rfl, rfl, rfl, rfl, rfl, rfl, rfl, rfl, rfl, rfl, rfl, rfl, rfl, rfl, trivial⟩ ⟨rS, trivial⟩)⟩
  ·have h := ifF h hc
   refine pw_exit <| thenQ_exit <| thenQ_exit <| blockQ_exit ?_
   have he := hx26 _ (Option.some.inj h).symm
   have h := hk25
   rw [← he] at h
   exact ⟨rfl, (), h, (wk_st _ _ trivial trivial)⟩

theorem r12_Closed_ok {a0 : r06_Store} {a1 : List r10_Place} {a2 : List Int} {r : Bool} (h : r12_Closed a0 a1 a2 = some r) : PCalls Tryz.prog 24 [r06_Store.Pv a0, .lst false (List.map r10_Place.Pv a1), .lst false (List.map (PV.int .i64) a2)] (.bool r) := by
 unfold r12_Closed at h
 refine pc_intro (N := 29) Tryz.func24 rfl rfl nl fun w0 imm0 => sR <| y1 rfl (o_box (d := r06_Store.Pv a0) (z := 3) (cl := true) rfl rfl rfl rfl rfl) rfl <| y0 rfl (o_assign (d := .bool false) rfl) <| y_nil <| sR <| y0 rfl (o_loadA (cs := r06_Store.Pc a0) rfl rfl rfl Ty.a34 Ty.s34 nl rfl) <| y0 rfl (o_move (d := .lst false (List.map r10_Place.Pv a1)) rfl) ?_
 refine y0 rfl (o_move (d := .lst false (List.map (PV.int .i64) a2)) rfl) ?_
 obtain ⟨v1, hv1, h⟩ := bindE h
 refine yc rfl (o_callF (ls := []) (ds := [r06_Store.Pv a0, .lst false (List.map r10_Place.Pv a1), .lst false (List.map (PV.int .i64) a2)]) rfl Ty.k72 rfl (r12_held_ok hv1)) <| y0 rfl (o_assign (d := .lst false (List.map (PV.int .i64) v1)) rfl) <| y_nil ?_
 obtain ⟨κ7, hκ7, h⟩ := jnE h
 refine pw_jn0 (κ := κ7) (r := r) (fun (_ : Unit) => St.of [(2, .lst false (List.map (PV.int .i64) a2)), (3, .ptr 3 0 0)] [(3, ⟨[r06_Store.Pv a0], 0, false, 3, true⟩)]) (fun q8 h => ?_) ?_
 ·subst hκ7
  refine sR <| y0 rfl (o_loadA (cs := r06_Store.Pc a0) rfl rfl rfl Ty.a34 Ty.s34 nl rfl) <| y0 rfl (o_move (d := .lst false (List.map (PV.int .i64) a2)) rfl) ?_
  obtain ⟨v9, hv8, h⟩ := bindE h
  refine y0 rfl (o_call (ds := [r06_Store.Pv a0, .lst false (List.map (PV.int .i64) a2)]) rfl Ty.k73 rfl (r08_Closed_ok hv8)) <| y0 rfl (o_assign (d := .bool v9) rfl) <| y_nil <| pw_ret ?_
  obtain rfl := Option.some.inj h
  exact ⟨rfl, [_], ⟨rfl, trivial⟩, rfl, io⟩
 ·skip
  refine sR <| y0 rfl (o_assign (d := .int .i64 0) rfl) <| y_nil <| pw_block ?_
  obtain ⟨e10, hl9, hk10⟩ := bindE h
  refine pw_lp0 (fun (s11 : Int) => St.of [(2, .lst false (List.map (PV.int .i64) a2)), (3, .ptr 3 0 0), (7, .lst false (List.map (PV.int .i64) v1)), (8, .int .i64 s11)] [(3, ⟨[r06_Store.Pv a0], 0, false, 3, true⟩)]) hl9 (wk_st _ _ ⟨rfl, rfl, rfl, rfl, rfl, rfl, rfl, rfl, rfl, rfl, rfl, rfl, trivial⟩ ⟨rS, trivial⟩) (fun s11 x12 h hx11 => ?_)
  refine pw_seq <| sR <| y0 rfl (o_move (d := .int .i64 s11) rfl) <| y0 rfl (o_move (d := .lst false (List.map (PV.int .i64) v1)) rfl) <| y0 rfl (o_lnL (f := (PV.int .i64)) rfl Ty.e28) <| y0 rfl (o_cmp rfl rfl rfl) <| y_nil ?_
  refine pw_cond (decide (s11 < (v1.length : Int))) rfl (fun hc => ?_) (fun hc => ?_)
  ·have h := ifT h hc
   refine pw_skip <| pw_seq <| pw_block <| sR <| y0 rfl (o_move (d := .lst false (List.map (PV.int .i64) a2)) rfl) <| y0 rfl (o_move (d := .lst false (List.map (PV.int .i64) v1)) rfl) <| y0 rfl (o_move (d := .int .i64 s11) rfl) ?_
   obtain ⟨v13, hv12, h⟩ := bindE h
   refine y0 rfl (o_ixL (f := (PV.int .i64)) (cs := [.int .i64 v13]) hv12 rfl rfl Ty.e28 Ty.s3 rfl rfl) <| y0 rfl (o_loadRS rfl Ty.a3 rfl) ?_
   obtain ⟨v14, hv13, h⟩ := bindE h
   refine y0 rfl (o_call (ds := [.lst false (List.map (PV.int .i64) a2), .int .i64 v13]) rfl Ty.k66 rfl (r08_Has_ok hv13)) <| y0 rfl (o_not rfl rfl) <| y_nil ?_
   refine pw_cond (!v14) rfl (fun hc => ?_) (fun hc => ?_)
   ·have h := ifT h hc
    refine sR <| y0 rfl (o_assign (d := .bool false) rfl) <| y_nil <| pw_ret ?_
    have he := hx11 _ (Option.some.inj h).symm
    have h := hk10
    rw [← he] at h
    obtain rfl := Option.some.inj h
    exact ⟨rfl, [_], ⟨rfl, trivial⟩, rfl, io⟩
   ·have h := ifF h hc
    refine pw_skip <| sr1 (by kernel_rfl) <| y0 rfl (o_move (d := .int .i64 s11) rfl) <| y0 rfl (o_ari rfl rfl rfl) <| y0 rfl (o_assign (d := .int .i64 (w64 (s11 + 1))) rfl) <| y_nil ?_
    exact ⟨rfl, w64 (s11 + 1), (Option.some.inj h).symm, (wk_st _ _ ⟨rfl, rfl, rfl, rfl, rfl, rfl, rfl, rfl, rfl, rfl, rfl, rfl, trivial⟩ ⟨rS, trivial⟩)⟩
  ·have h := ifF h hc
   refine pw_exit <| thenQ_exit <| thenQ_exit <| blockQ_exit ?_
   have he := hx11 _ (Option.some.inj h).symm
   have h := hk10
   rw [← he] at h
   exact ⟨rfl, (), h, (wk_st _ _ ⟨rfl, rfl, rfl, rfl, rfl, rfl, trivial⟩ ⟨rS, trivial⟩)⟩

theorem r12_Rounds_ok {a0 : r06_Store} {a1 : List r10_Place} {a2 : List Int} {r : Int} (h : r12_Rounds a0 a1 a2 = some r) : PCalls Tryz.prog 26 [r06_Store.Pv a0, .lst false (List.map r10_Place.Pv a1), .lst false (List.map (PV.int .i64) a2)] (.int .i64 r) := by
 unfold r12_Rounds at h
 refine pc_intro (N := 17) Tryz.func26 rfl rfl nl fun w0 imm0 => sR <| y1 rfl (o_box (d := r06_Store.Pv a0) (z := 3) (cl := true) rfl rfl rfl rfl rfl) rfl <| y0 rfl (o_assign (d := .int .i64 0) rfl) <| y_nil <| sR <| y0 rfl (o_loadA (cs := r06_Store.Pc a0) rfl rfl rfl Ty.a34 Ty.s34 nl rfl) <| y0 rfl (o_move (d := .lst false (List.map r10_Place.Pv a1)) rfl) ?_
 refine y0 rfl (o_move (d := .lst false (List.map (PV.int .i64) a2)) rfl) ?_
 obtain ⟨v1, hv1, h⟩ := bindE h
 refine yc rfl (o_callF (ls := []) (ds := [r06_Store.Pv a0, .lst false (List.map r10_Place.Pv a1), .lst false (List.map (PV.int .i64) a2)]) rfl Ty.k64 rfl (r12_rounds_ok hv1)) <| y0 rfl (o_move (d := .tup [.lst false (List.map (PV.int .i64) v1.1), .int .i64 v1.2]) rfl) <| y0 rfl (o_extract rfl rfl) <| y0 rfl (o_extract rfl rfl) <| y0 rfl (o_assign (d := .lst false (List.map (PV.int .i64) v1.1)) rfl) <| y0 rfl (o_assign (d := .int .i64 v1.2) rfl) <| y_nil <| sR ?_
 refine y0 rfl (o_move (d := .int .i64 v1.2) rfl) <| y0 rfl (o_assign (d := .int .i64 v1.2) rfl) <| y_nil <| pw_ret ?_
 obtain rfl := Option.some.inj h
 exact ⟨rfl, [_], ⟨rfl, trivial⟩, rfl, io⟩

theorem w12_FixTells_ok {a0 : store_Store} {a1 : List hash_Place} {a2 : List Int} {r : Bool} (h : w12_FixTells a0 a1 a2 = some r) : PCalls Tryz.prog 3 [store_Store.Pv a0, .lst false (List.map hash_Place.Pv a1), .lst false (List.map (PV.int .i64) a2)] (.bool r) := by
 unfold w12_FixTells at h
 refine pc_intro (N := 73) Tryz.func3 rfl rfl nl fun w0 imm0 => sR <| y1 rfl (o_box (d := store_Store.Pv a0) (z := 3) (cl := true) rfl rfl rfl rfl rfl) rfl <| y0 rfl (o_assign (d := .bool false) rfl) <| y_nil <| pw_seq <| sR <| y0 rfl (o_loadA (cs := store_Store.Pc a0) rfl rfl rfl Ty.a26 Ty.s26 nl rfl) ?_
 obtain ⟨v1, hv1, h⟩ := bindE h
 refine y0 rfl (o_call (ds := [store_Store.Pv a0]) rfl Ty.k13 rfl (w12_right_ok hv1)) <| y0 rfl (o_not rfl rfl) <| y0 rfl (o_move (d := .bool (!v1)) rfl) <| y_if (g := ((!v1) == false)) rfl (fun hg => o_move (d := .lst false (List.map hash_Place.Pv a1)) rfl) ?_
 obtain ⟨v2, hv2, h⟩ := bindE h
 refine y_if (g := ((!v1) == false)) rfl (fun hg => o_call (ds := [.lst false (List.map hash_Place.Pv a1)]) rfl Ty.k14 (consE (ct hg) rfl) (w12_even_ok (onlyE hv2 hg))) <| y_if (g := ((!v1) == false)) rfl (fun hg => o_not (ct hg) rfl) <| y0 rfl (pk_or rfl rfl rfl (fun q => eqF q)) <| y0 rfl (o_move (d := .bool ((!v1) || (!v2))) rfl) <| y_if (g := (((!v1) || (!v2)) == false)) rfl (fun hg => o_move (d := .lst false (List.map (PV.int .i64) a2)) rfl) <| y_if (g := (((!v1) || (!v2)) == false)) rfl (fun hg => o_lnL (f := (PV.int .i64)) (ct hg) Ty.e28) <| y_if (g := (((!v1) || (!v2)) == false)) rfl (fun hg => o_cmp (ct hg) rfl rfl) <| y0 rfl (pk_or rfl rfl rfl (fun q => eqF q)) ?_
 refine y0 rfl (o_move (d := .bool (((!v1) || (!v2)) || (decide ((a2.length : Int) > 50)))) rfl) ?_
 obtain ⟨v3, hv3, h⟩ := bindE h
 refine y_if (g := ((((!v1) || (!v2)) || (decide ((a2.length : Int) > 50))) == false)) rfl (fun hg => o_call (ds := []) rfl Ty.k15 rfl (w12_shown_ok (onlyE hv3 hg))) <| y_if (g := ((((!v1) || (!v2)) || (decide ((a2.length : Int) > 50))) == false)) rfl (fun hg => o_not (ct hg) rfl) <| y0 rfl (pk_or rfl rfl rfl (fun q => eqF q)) <| y_nil ?_
 refine pw_cond ((((!v1) || (!v2)) || (decide ((a2.length : Int) > 50))) || (!v3)) rfl (fun hc => ?_) (fun hc => ?_)
 ·have h := ifT h hc
  refine sR ?_
  obtain ⟨v4, hv4, h⟩ := bindE h
  refine y0 rfl (o_call (ds := []) rfl Ty.k15 rfl (w12_shown_ok hv4)) <| y0 rfl (o_assign (d := .bool v4) rfl) <| y_nil <| pw_ret ?_
  obtain rfl := Option.some.inj h
  exact ⟨rfl, [_], ⟨rfl, trivial⟩, rfl, io⟩
 ·have h := ifF h hc
  refine pw_skip <| sR <| y0 rfl (o_loadA (cs := store_Store.Pc a0) rfl rfl rfl Ty.a26 Ty.s26 nl rfl) ?_
  obtain ⟨v5, hv5, h⟩ := bindE h
  refine yc rfl (o_callF (ls := []) (ds := [store_Store.Pv a0]) rfl Ty.k16 rfl (w12_its_ok hv5)) <| y1 rfl (o_alloc (d := .agg [.lst true (List.map r06_Cell.Pv []), .int .i64 0, .int .i64 0]) (z := 3) rfl Ty.z34 rfl rfl rfl) rfl <| y_sto (x' := r06_Store.Pv v5) (cl' := true) rfl rfl (.inr rfl) Ty.s34 <| y_nil <| sR <| y0 rfl (o_move (d := .lst false (List.map hash_Place.Pv a1)) rfl) ?_
  obtain ⟨v6, hv6, h⟩ := bindE h
  refine yc rfl (o_callF (ls := []) (ds := [.lst false (List.map hash_Place.Pv a1)]) rfl Ty.k17 rfl (w12_tab_ok hv6)) <| y0 rfl (o_assign (d := .lst false (List.map r10_Place.Pv v6)) rfl) <| y_nil <| dr [] Ty.mix (by kernel_rfl) (by kernel_rfl) <| d0 rfl (o_loadA (cs := store_Store.Pc a0) rfl rfl rfl Ty.a26 Ty.s26 nl rfl) rfl <| d7 rfl (fun _ hN => o_move (d := .lst false (List.map hash_Place.Pv a1)) rfl) rfl <| d7 rfl (fun _ hN => o_move (d := .lst false (List.map (PV.int .i64) a2)) rfl) rfl ?_
  obtain ⟨v7, hv7, h⟩ := bindE h
  refine d2f rfl (o_callF (ls := []) (ds := [store_Store.Pv a0, .lst false (List.map hash_Place.Pv a1), .lst false (List.map (PV.int .i64) a2)]) rfl Ty.k19 rfl (fix_From_ok hv7)) rfl <| d0 rfl (o_loadA (cs := r06_Store.Pc v5) rfl rfl rfl Ty.a34 Ty.s34 nl rfl) rfl <| d7 rfl (fun _ hN => o_move (d := .lst false (List.map r10_Place.Pv v6)) rfl) rfl <| d7 rfl (fun _ hN => o_move (d := .lst false (List.map (PV.int .i64) a2)) rfl) rfl ?_
  obtain ⟨v8, hv8, h⟩ := bindE h
  refine d2f rfl (o_callF (ls := []) (ds := [r06_Store.Pv v5, .lst false (List.map r10_Place.Pv v6), .lst false (List.map (PV.int .i64) a2)]) rfl Ty.k20 rfl (r12_From_ok hv8)) rfl ?_
  obtain ⟨v9, hv9, h⟩ := bindE h
  refine d2 rfl (o_call (ds := [.lst false (List.map (PV.int .i64) v7), .lst false (List.map (PV.int .i64) v8)]) rfl Ty.k18 rfl (r02_Ints_ok hv9)) rfl <| d7 rfl (fun _ hN => o_move (d := .bool v9) rfl) rfl <| d_if0 (g := (v9 == true)) rfl (fun hg => o_loadA (cs := store_Store.Pc a0) rfl rfl rfl Ty.a26 Ty.s26 nl rfl) rfl <| d_if7 (g := (v9 == true)) rfl (fun hg _ hN => o_move (d := .lst false (List.map hash_Place.Pv a1)) rfl) rfl <| d_if7 (g := (v9 == true)) rfl (fun hg _ hN => o_move (d := .lst false (List.map (PV.int .i64) a2)) rfl) rfl ?_
  obtain ⟨v10, hv10, h⟩ := bindE h
  refine d_if2f (g := (v9 == true)) rfl (fun hg => o_callF (ls := []) (ds := [store_Store.Pv a0, .lst false (List.map hash_Place.Pv a1), .lst false (List.map (PV.int .i64) a2)]) rfl Ty.k21 (consE (ct hg) (consE (ct hg) (consE (ct hg) rfl))) (fix_Lost_ok (onlyE hv10 hg))) rfl <| d_if0 (g := (v9 == true)) rfl (fun hg => o_loadA (cs := r06_Store.Pc v5) rfl rfl rfl Ty.a34 Ty.s34 nl rfl) rfl <| d_if7 (g := (v9 == true)) rfl (fun hg _ hN => o_move (d := .lst false (List.map r10_Place.Pv v6)) rfl) rfl <| d_if7 (g := (v9 == true)) rfl (fun hg _ hN => o_move (d := .lst false (List.map (PV.int .i64) a2)) rfl) rfl ?_
  obtain ⟨v11, hv11, h⟩ := bindE h
  refine d_if2f (g := (v9 == true)) rfl (fun hg => o_callF (ls := []) (ds := [r06_Store.Pv v5, .lst false (List.map r10_Place.Pv v6), .lst false (List.map (PV.int .i64) a2)]) rfl Ty.k22 (consE (ct hg) (consE (ct hg) (consE (ct hg) rfl))) (r12_Lost_ok (onlyE hv11 hg))) rfl ?_
  obtain ⟨v12, hv12, h⟩ := bindE h
  refine d_if2 (g := (v9 == true)) rfl (fun hg => o_call (ds := [.lst false (List.map (PV.int .i64) v10), .lst false (List.map (PV.int .i64) v11)]) rfl Ty.k18 (consE (ct hg) (consE (ct hg) rfl)) (r02_Ints_ok (onlyE hv12 hg))) rfl <| d7 rfl (fun _ hN => pk_and rfl rfl rfl (fun q => eqT q)) rfl <| d7 rfl (fun _ hN => o_move (d := .bool (v9 && v12)) rfl) rfl <| d_if0 (g := ((v9 && v12) == true)) rfl (fun hg => o_loadA (cs := store_Store.Pc a0) rfl rfl rfl Ty.a26 Ty.s26 nl rfl) rfl <| d_if7 (g := ((v9 && v12) == true)) rfl (fun hg _ hN => o_move (d := .lst false (List.map hash_Place.Pv a1)) rfl) rfl <| d_if7 (g := ((v9 && v12) == true)) rfl (fun hg _ hN => o_move (d := .lst false (List.map (PV.int .i64) a2)) rfl) rfl ?_
  obtain ⟨v13, hv13, h⟩ := bindE h
  refine d_if2 (g := ((v9 && v12) == true)) rfl (fun hg => o_call (ds := [store_Store.Pv a0, .lst false (List.map hash_Place.Pv a1), .lst false (List.map (PV.int .i64) a2)]) rfl Ty.k23 (consE (ct hg) (consE (ct hg) (consE (ct hg) rfl))) (fix_Closed_ok (onlyE hv13 hg))) rfl <| d_if0 (g := ((v9 && v12) == true)) rfl (fun hg => o_loadA (cs := r06_Store.Pc v5) rfl rfl rfl Ty.a34 Ty.s34 nl rfl) rfl <| d_if7 (g := ((v9 && v12) == true)) rfl (fun hg _ hN => o_move (d := .lst false (List.map r10_Place.Pv v6)) rfl) rfl <| d_if7 (g := ((v9 && v12) == true)) rfl (fun hg _ hN => o_move (d := .lst false (List.map (PV.int .i64) a2)) rfl) rfl ?_
  obtain ⟨v14, hv14, h⟩ := bindE h
  refine d_if2 (g := ((v9 && v12) == true)) rfl (fun hg => o_call (ds := [r06_Store.Pv v5, .lst false (List.map r10_Place.Pv v6), .lst false (List.map (PV.int .i64) a2)]) rfl Ty.k24 (consE (ct hg) (consE (ct hg) (consE (ct hg) rfl))) (r12_Closed_ok (onlyE hv14 hg))) rfl <| d_if7 (g := ((v9 && v12) == true)) rfl (fun hg _ hN => o_eqB (ct hg) (ct hg) Ty.u4 rfl) rfl <| d7 rfl (fun _ hN => pk_and rfl rfl rfl (fun q => eqT q)) rfl <| d7 rfl (fun _ hN => o_move (d := .bool ((v9 && v12) && (v13 == v14))) rfl) rfl <| d_if0 (g := (((v9 && v12) && (v13 == v14)) == true)) rfl (fun hg => o_loadA (cs := store_Store.Pc a0) rfl rfl rfl Ty.a26 Ty.s26 nl rfl) rfl <| d_if7 (g := (((v9 && v12) && (v13 == v14)) == true)) rfl (fun hg _ hN => o_move (d := .lst false (List.map hash_Place.Pv a1)) rfl) rfl <| d_if7 (g := (((v9 && v12) && (v13 == v14)) == true)) rfl (fun hg _ hN => o_move (d := .lst false (List.map (PV.int .i64) a2)) rfl) rfl ?_
  obtain ⟨v15, hv15, h⟩ := bindE h
  refine d_if2 (g := (((v9 && v12) && (v13 == v14)) == true)) rfl (fun hg => o_call (ds := [store_Store.Pv a0, .lst false (List.map hash_Place.Pv a1), .lst false (List.map (PV.int .i64) a2)]) rfl Ty.k25 (consE (ct hg) (consE (ct hg) (consE (ct hg) rfl))) (fix_Rounds_ok (onlyE hv15 hg))) rfl <| d_if0 (g := (((v9 && v12) && (v13 == v14)) == true)) rfl (fun hg => o_loadA (cs := r06_Store.Pc v5) rfl rfl rfl Ty.a34 Ty.s34 nl rfl) rfl <| d_if7 (g := (((v9 && v12) && (v13 == v14)) == true)) rfl (fun hg _ hN => o_move (d := .lst false (List.map r10_Place.Pv v6)) rfl) rfl <| d_if7 (g := (((v9 && v12) && (v13 == v14)) == true)) rfl (fun hg _ hN => o_move (d := .lst false (List.map (PV.int .i64) a2)) rfl) rfl ?_
  obtain ⟨v16, hv16, h⟩ := bindE h
  refine d_if2 (g := (((v9 && v12) && (v13 == v14)) == true)) rfl (fun hg => o_call (ds := [r06_Store.Pv v5, .lst false (List.map r10_Place.Pv v6), .lst false (List.map (PV.int .i64) a2)]) rfl Ty.k26 (consE (ct hg) (consE (ct hg) (consE (ct hg) rfl))) (r12_Rounds_ok (onlyE hv16 hg))) rfl <| d_if7 (g := (((v9 && v12) && (v13 == v14)) == true)) rfl (fun hg _ hN => o_cmp (ct hg) (ct hg) rfl) rfl <| d7 rfl (fun _ hN => pk_and rfl rfl rfl (fun q => eqT q)) rfl <| d7 rfl (fun _ hN => o_assign (d := .bool (((v9 && v12) && (v13 == v14)) && (v15 == v16))) rfl) rfl <| d_nil <| pw_ret ?_
  obtain rfl := Option.some.inj h
  exact ⟨rfl, [_], ⟨rfl, trivial⟩, rfl, io⟩

theorem w12_FixLeast_ok {a0 : store_Store} {a1 : List hash_Place} {a2 : List Int} {a3 : List Int} {r : Bool} (h : w12_FixLeast a0 a1 a2 a3 = some r) : PCalls Tryz.prog 4 [store_Store.Pv a0, .lst false (List.map hash_Place.Pv a1), .lst false (List.map (PV.int .i64) a2), .lst false (List.map (PV.int .i64) a3)] (.bool r) := by
 unfold w12_FixLeast at h
 refine pc_intro (N := 108) Tryz.func4 rfl rfl nl fun w0 imm0 => sR <| y1 rfl (o_box (d := store_Store.Pv a0) (z := 3) (cl := true) rfl rfl rfl rfl rfl) rfl <| y0 rfl (o_assign (d := .bool false) rfl) <| y_nil <| pw_seq <| sR <| y0 rfl (o_loadA (cs := store_Store.Pc a0) rfl rfl rfl Ty.a26 Ty.s26 nl rfl) ?_
 obtain ⟨v1, hv1, h⟩ := bindE h
 refine y0 rfl (o_call (ds := [store_Store.Pv a0]) rfl Ty.k13 rfl (w12_right_ok hv1)) <| y0 rfl (o_not rfl rfl) <| y0 rfl (o_move (d := .bool (!v1)) rfl) <| y_if (g := ((!v1) == false)) rfl (fun hg => o_move (d := .lst false (List.map hash_Place.Pv a1)) rfl) ?_
 obtain ⟨v2, hv2, h⟩ := bindE h
 refine y_if (g := ((!v1) == false)) rfl (fun hg => o_call (ds := [.lst false (List.map hash_Place.Pv a1)]) rfl Ty.k14 (consE (ct hg) rfl) (w12_even_ok (onlyE hv2 hg))) <| y_if (g := ((!v1) == false)) rfl (fun hg => o_not (ct hg) rfl) <| y0 rfl (pk_or rfl rfl rfl (fun q => eqF q)) <| y0 rfl (o_move (d := .bool ((!v1) || (!v2))) rfl) <| y_if (g := (((!v1) || (!v2)) == false)) rfl (fun hg => o_move (d := .lst false (List.map (PV.int .i64) a2)) rfl) <| y_if (g := (((!v1) || (!v2)) == false)) rfl (fun hg => o_lnL (f := (PV.int .i64)) (ct hg) Ty.e28) <| y_if (g := (((!v1) || (!v2)) == false)) rfl (fun hg => o_cmp (ct hg) rfl rfl) <| y0 rfl (pk_or rfl rfl rfl (fun q => eqF q)) ?_
 refine y0 rfl (o_move (d := .bool (((!v1) || (!v2)) || (decide ((a2.length : Int) > 50)))) rfl) <| y_if (g := ((((!v1) || (!v2)) || (decide ((a2.length : Int) > 50))) == false)) rfl (fun hg => o_move (d := .lst false (List.map (PV.int .i64) a3)) rfl) <| y_if (g := ((((!v1) || (!v2)) || (decide ((a2.length : Int) > 50))) == false)) rfl (fun hg => o_lnL (f := (PV.int .i64)) (ct hg) Ty.e28) <| y_if (g := ((((!v1) || (!v2)) || (decide ((a2.length : Int) > 50))) == false)) rfl (fun hg => o_cmp (ct hg) rfl rfl) <| y0 rfl (pk_or rfl rfl rfl (fun q => eqF q)) <| y0 rfl (o_move (d := .bool ((((!v1) || (!v2)) || (decide ((a2.length : Int) > 50))) || (decide ((a3.length : Int) > 50)))) rfl) ?_
 obtain ⟨v3, hv3, h⟩ := bindE h
 refine y_if (g := (((((!v1) || (!v2)) || (decide ((a2.length : Int) > 50))) || (decide ((a3.length : Int) > 50))) == false)) rfl (fun hg => o_call (ds := []) rfl Ty.k15 rfl (w12_shown_ok (onlyE hv3 hg))) <| y_if (g := (((((!v1) || (!v2)) || (decide ((a2.length : Int) > 50))) || (decide ((a3.length : Int) > 50))) == false)) rfl (fun hg => o_not (ct hg) rfl) <| y0 rfl (pk_or rfl rfl rfl (fun q => eqF q)) <| y_nil ?_
 refine pw_cond (((((!v1) || (!v2)) || (decide ((a2.length : Int) > 50))) || (decide ((a3.length : Int) > 50))) || (!v3)) rfl (fun hc => ?_) (fun hc => ?_)
 ·have h := ifT h hc
  refine sR ?_
  obtain ⟨v4, hv4, h⟩ := bindE h
  refine y0 rfl (o_call (ds := []) rfl Ty.k15 rfl (w12_shown_ok hv4)) <| y0 rfl (o_assign (d := .bool v4) rfl) <| y_nil <| pw_ret ?_
  obtain rfl := Option.some.inj h
  exact ⟨rfl, [_], ⟨rfl, trivial⟩, rfl, io⟩
 ·have h := ifF h hc
  refine pw_skip <| sR <| y0 rfl (o_loadA (cs := store_Store.Pc a0) rfl rfl rfl Ty.a26 Ty.s26 nl rfl) ?_
  obtain ⟨v5, hv5, h⟩ := bindE h
  refine yc rfl (o_callF (ls := []) (ds := [store_Store.Pv a0]) rfl Ty.k16 rfl (w12_its_ok hv5)) <| y1 rfl (o_alloc (d := .agg [.lst true (List.map r06_Cell.Pv []), .int .i64 0, .int .i64 0]) (z := 3) rfl Ty.z34 rfl rfl rfl) rfl <| y_sto (x' := r06_Store.Pv v5) (cl' := true) rfl rfl (.inr rfl) Ty.s34 <| y_nil <| sR <| y0 rfl (o_loadA (cs := store_Store.Pc a0) rfl rfl rfl Ty.a26 Ty.s26 nl rfl) <| y0 rfl (o_move (d := .lst false (List.map hash_Place.Pv a1)) rfl) <| y0 rfl (o_move (d := .lst false (List.map (PV.int .i64) a2)) rfl) ?_
  obtain ⟨v6, hv6, h⟩ := bindE h
  refine yc rfl (o_callF (ls := []) (ds := [store_Store.Pv a0, .lst false (List.map hash_Place.Pv a1), .lst false (List.map (PV.int .i64) a2)]) rfl Ty.k19 rfl (fix_From_ok hv6)) <| y0 rfl (o_assign (d := .lst false (List.map (PV.int .i64) v6)) rfl) <| y_nil <| pw_seq <| dr [] Ty.mix (by kernel_rfl) (by kernel_rfl) <| d7 rfl (fun _ hN => o_move (d := .lst false (List.map (PV.int .i64) v6)) rfl) rfl <| d0 rfl (o_lnL (f := (PV.int .i64)) rfl Ty.e28) rfl <| d7 rfl (fun _ hN => o_cmp rfl rfl rfl) rfl ?_
  refine d7 rfl (fun _ hN => o_move (d := .bool (decide ((v6.length : Int) > 24))) rfl) rfl <| d_if0 (g := ((decide ((v6.length : Int) > 24)) == false)) rfl (fun hg => o_loadA (cs := r06_Store.Pc v5) rfl rfl rfl Ty.a34 Ty.s34 nl rfl) rfl <| d_if7 (g := ((decide ((v6.length : Int) > 24)) == false)) rfl (fun hg _ hN => o_move (d := .lst false (List.map hash_Place.Pv a1)) rfl) rfl ?_
  obtain ⟨v7, hv7, h⟩ := bindE h
  refine d_if2f (g := ((decide ((v6.length : Int) > 24)) == false)) rfl (fun hg => o_callF (ls := []) (ds := [.lst false (List.map hash_Place.Pv a1)]) rfl Ty.k17 (consE (ct hg) rfl) (w12_tab_ok (onlyE hv7 hg))) rfl <| d_if7 (g := ((decide ((v6.length : Int) > 24)) == false)) rfl (fun hg _ hN => o_move (d := .lst false (List.map (PV.int .i64) v6)) rfl) rfl ?_
  obtain ⟨v8, hv8, h⟩ := bindE h
  refine d_if2 (g := ((decide ((v6.length : Int) > 24)) == false)) rfl (fun hg => o_call (ds := [r06_Store.Pv v5, .lst false (List.map r10_Place.Pv v7), .lst false (List.map (PV.int .i64) v6)]) rfl Ty.k24 (consE (ct hg) (consE (ct hg) (consE (ct hg) rfl))) (r12_Closed_ok (onlyE hv8 hg))) rfl <| d_if7 (g := ((decide ((v6.length : Int) > 24)) == false)) rfl (fun hg _ hN => o_not (ct hg) rfl) rfl <| d7 rfl (fun _ hN => pk_or rfl rfl rfl (fun q => eqF q)) rfl <| d_nil ?_
  refine pw_cond ((decide ((v6.length : Int) > 24)) || (!v8)) rfl (fun hc => ?_) (fun hc => ?_)
  ·have h := ifT h hc
   refine sR <| y0 rfl (o_assign (d := .bool false) rfl) <| y_nil <| pw_ret ?_
   obtain rfl := Option.some.inj h
   exact ⟨rfl, [_], ⟨rfl, trivial⟩, rfl, io⟩
  ·have h := ifF h hc
   refine pw_skip <| sR <| y0 rfl (o_loadA (cs := r06_Store.Pc v5) rfl rfl rfl Ty.a34 Ty.s34 nl rfl) ?_
   obtain ⟨v9, hv9, h⟩ := bindE h
   refine yc rfl (o_callF (ls := []) (ds := [r06_Store.Pv v5]) rfl Ty.k27 rfl (r06_Live_ok hv9)) <| y0 rfl (o_assign (d := .lst false (List.map (PV.int .i64) v9)) rfl) <| y_nil <| dr [] Ty.mix (by kernel_rfl) (by kernel_rfl) <| d0 rfl (o_loadA (cs := r06_Store.Pc v5) rfl rfl rfl Ty.a34 Ty.s34 nl rfl) rfl <| d7 rfl (fun _ hN => o_move (d := .lst false (List.map hash_Place.Pv a1)) rfl) rfl ?_
   obtain ⟨v10, hv10, h⟩ := bindE h
   refine d2f rfl (o_callF (ls := []) (ds := [.lst false (List.map hash_Place.Pv a1)]) rfl Ty.k17 rfl (w12_tab_ok hv10)) rfl <| d7 rfl (fun _ hN => o_move (d := .lst false (List.map (PV.int .i64) a3)) rfl) rfl ?_
   obtain ⟨v11, hv11, h⟩ := bindE h
   refine d2 rfl (o_call (ds := [r06_Store.Pv v5, .lst false (List.map r10_Place.Pv v10), .lst false (List.map (PV.int .i64) a3)]) rfl Ty.k24 rfl (r12_Closed_ok hv11)) rfl <| d7 rfl (fun _ hN => o_assign (d := .bool v11) rfl) rfl <| d_nil ?_
   obtain ⟨κ27, hκ24, h⟩ := jnE h
   refine pw_jn0 (κ := κ27) (r := r) (fun (j28 : Bool) => St.of [(3, .lst false (List.map (PV.int .i64) a3)), (10, .lst false (List.map (PV.int .i64) v6)), (12, .bool j28)] []) (fun j28 h => ?_) ?_
   ·subst hκ24
    obtain ⟨κ34, hκ30, h⟩ := jnE h
    refine pw_jn0 (κ := κ34) (r := r) (fun (_ : Unit) => St.of [] []) (fun q35 h => ?_) ?_
    ·subst hκ30
     refine sR <| y0 rfl (o_assign (d := .bool true) rfl) <| y_nil <| pw_ret ?_
     obtain rfl := Option.some.inj h
     exact ⟨rfl, [_], ⟨rfl, trivial⟩, rfl, io⟩
    ·skip
     refine sR <| y0 rfl (o_assign (d := .int .i64 0) rfl) <| y_nil <| pw_block ?_
     obtain ⟨e36, hl31, hk32⟩ := bindE h
     refine pw_lp0 (fun (s37 : Int) => St.of [(3, .lst false (List.map (PV.int .i64) a3)), (10, .lst false (List.map (PV.int .i64) v6)), (12, .bool j28), (14, .int .i64 s37)] []) hl31 (wk_st _ _ ⟨rfl, rfl, rfl, rfl, rfl, rfl, rfl, rfl, rfl, rfl, rfl, rfl, trivial⟩ trivial) (fun s37 x38 h hx33 => ?_)
     refine pw_seq <| sR <| y0 rfl (o_move (d := .int .i64 s37) rfl) <| y0 rfl (o_move (d := .lst false (List.map (PV.int .i64) v6)) rfl) <| y0 rfl (o_lnL (f := (PV.int .i64)) rfl Ty.e28) <| y0 rfl (o_cmp rfl rfl rfl) <| y_nil ?_
     refine pw_cond (decide (s37 < (v6.length : Int))) rfl (fun hc => ?_) (fun hc => ?_)
     ·have h := ifT h hc
      refine pw_skip <| pw_seq <| pw_block <| sR <| y0 rfl (o_move (d := .bool j28) rfl) <| y0 rfl (o_move (d := .bool j28) rfl) <| y_if (g := (j28 == true)) rfl (fun hg => o_move (d := .lst false (List.map (PV.int .i64) a3)) rfl) <| y_if (g := (j28 == true)) rfl (fun hg => o_move (d := .lst false (List.map (PV.int .i64) v6)) rfl) ?_
      refine y_if (g := (j28 == true)) rfl (fun hg => o_move (d := .int .i64 s37) rfl) ?_
      obtain ⟨v39, hv34, h⟩ := bindE h
      refine y_if (g := (j28 == true)) rfl (fun hg => o_ixL (f := (PV.int .i64)) (cs := [.int .i64 v39]) (onlyE hv34 hg) (ct hg) (ct hg) Ty.e28 Ty.s3 rfl rfl) <| y_if (g := (j28 == true)) rfl (fun hg => o_loadRS (ct hg) Ty.a3 rfl) ?_
      obtain ⟨v40, hv35, h⟩ := bindE h
      refine y_if (g := (j28 == true)) rfl (fun hg => o_call (ds := [.lst false (List.map (PV.int .i64) a3), .int .i64 v39]) rfl Ty.k28 (consE (ct hg) (consE (ct hg) rfl)) (r07_Times_ok (onlyE hv35 hg))) <| y_if (g := (j28 == true)) rfl (fun hg => o_cmp (ct hg) rfl rfl) <| y0 rfl (pk_and rfl rfl rfl (fun q => eqT q)) <| y_nil ?_
      refine pw_cond (j28 && (v40 == 0)) rfl (fun hc => ?_) (fun hc => ?_)
      ·have h := ifT h hc
       refine sR <| y0 rfl (o_assign (d := .bool false) rfl) <| y_nil <| pw_ret ?_
       have he := hx33 _ (Option.some.inj h).symm
       have h := hk32
       rw [← he] at h
       obtain rfl := Option.some.inj h
       exact ⟨rfl, [_], ⟨rfl, trivial⟩, rfl, io⟩
      ·have h := ifF h hc
       refine pw_skip <| sr1 (by kernel_rfl) <| y0 rfl (o_move (d := .int .i64 s37) rfl) <| y0 rfl (o_ari rfl rfl rfl) <| y0 rfl (o_assign (d := .int .i64 (w64 (s37 + 1))) rfl) <| y_nil ?_
       exact ⟨rfl, w64 (s37 + 1), (Option.some.inj h).symm, (wk_st _ _ ⟨rfl, rfl, rfl, rfl, rfl, rfl, rfl, rfl, rfl, rfl, rfl, rfl, trivial⟩ trivial)⟩
     ·have h := ifF h hc
      refine pw_exit <| thenQ_exit <| thenQ_exit <| blockQ_exit ?_
      have he := hx33 _ (Option.some.inj h).symm
      have h := hk32
      rw [← he] at h
      exact ⟨rfl, (), h, (wk_st _ _ trivial trivial)⟩
   ·skip
    refine sR <| y0 rfl (o_assign (d := .int .i64 0) rfl) <| y_nil <| pw_block ?_
    obtain ⟨e41, hl36, hk37⟩ := bindE h
    refine pw_lp0 (fun (q : Bool × Int) => St.of [(2, .lst false (List.map (PV.int .i64) a2)), (3, .lst false (List.map (PV.int .i64) a3)), (10, .lst false (List.map (PV.int .i64) v6)), (11, .lst false (List.map (PV.int .i64) v9)), (12, .bool q.1), (13, .int .i64 q.2)] []) hl36 (wk_st _ _ ⟨rfl, rfl, rfl, rfl, rfl, rfl, rfl, rfl, rfl, rfl, rfl, rfl, rfl, rfl, rfl, rfl, rfl, rfl, trivial⟩ trivial) (fun q45 x44 h hx38 => ?_)
    obtain ⟨s42, s43⟩ := q45
    refine pw_seq <| sR <| y0 rfl (o_move (d := .int .i64 s43) rfl) <| y0 rfl (o_move (d := .lst false (List.map (PV.int .i64) v9)) rfl) <| y0 rfl (o_lnL (f := (PV.int .i64)) rfl Ty.e28) <| y0 rfl (o_cmp rfl rfl rfl) <| y_nil ?_
    refine pw_cond (decide (s43 < (v9.length : Int))) rfl (fun hc => ?_) (fun hc => ?_)
    ·have h := ifT h hc
     refine pw_skip ?_
     obtain ⟨κ50, hκ43, h⟩ := jnE h
     refine pw_jn0 (κ := κ50) (r := x44) (fun (j51 : Bool) => St.of [(2, .lst false (List.map (PV.int .i64) a2)), (3, .lst false (List.map (PV.int .i64) a3)), (10, .lst false (List.map (PV.int .i64) v6)), (11, .lst false (List.map (PV.int .i64) v9)), (12, .bool j51), (13, .int .i64 s43)] []) (fun j51 h => ?_) ?_
     ·subst hκ43
      refine sr1 (by kernel_rfl) <| y0 rfl (o_move (d := .int .i64 s43) rfl) <| y0 rfl (o_ari rfl rfl rfl) <| y0 rfl (o_assign (d := .int .i64 (w64 (s43 + 1))) rfl) <| y_nil ?_
      exact ⟨rfl, (j51, w64 (s43 + 1)), (Option.some.inj h).symm, (wk_st _ _ ⟨rfl, rfl, rfl, rfl, rfl, rfl, rfl, rfl, rfl, rfl, rfl, rfl, rfl, rfl, rfl, rfl, rfl, rfl, trivial⟩ trivial)⟩
     ·skip
      refine pw_block <| sR <| y0 rfl (o_move (d := .lst false (List.map (PV.int .i64) a2)) rfl) <| y0 rfl (o_move (d := .lst false (List.map (PV.int .i64) v9)) rfl) <| y0 rfl (o_move (d := .int .i64 s43) rfl) ?_
      obtain ⟨v52, hv44, h⟩ := bindE h
      refine y0 rfl (o_ixL (f := (PV.int .i64)) (cs := [.int .i64 v52]) hv44 rfl rfl Ty.e28 Ty.s3 rfl rfl) <| y0 rfl (o_loadRS rfl Ty.a3 rfl) ?_
      obtain ⟨v53, hv45, h⟩ := bindE h
      refine y0 rfl (o_call (ds := [.lst false (List.map (PV.int .i64) a2), .int .i64 v52]) rfl Ty.k28 rfl (r07_Times_ok hv45)) <| y0 rfl (o_cmp rfl rfl rfl) <| y_nil ?_
      refine pw_cond (decide (v53 > 0)) rfl (fun hc => ?_) (fun hc => ?_)
      ·have h := ifT h hc
       refine pw_seq <| sR <| y0 rfl (o_move (d := .lst false (List.map (PV.int .i64) v6)) rfl) <| y0 rfl (o_move (d := .lst false (List.map (PV.int .i64) v9)) rfl) <| y0 rfl (o_move (d := .int .i64 s43) rfl) <| y0 rfl (o_ixL (f := (PV.int .i64)) (cs := [.int .i64 v52]) hv44 rfl rfl Ty.e28 Ty.s3 rfl rfl) <| y0 rfl (o_loadRS rfl Ty.a3 rfl) ?_
       obtain ⟨v54, hv46, h⟩ := bindE h
       refine y0 rfl (o_call (ds := [.lst false (List.map (PV.int .i64) v6), .int .i64 v52]) rfl Ty.k28 rfl (r07_Times_ok hv46)) <| y0 rfl (o_cmp rfl rfl rfl) <| y_nil ?_
       refine pw_cond (v54 != 1) rfl (fun hc => ?_) (fun hc => ?_)
       ·have h := ifT h hc
        refine sR <| y0 rfl (o_assign (d := .bool false) rfl) <| y_nil <| pw_ret ?_
        have he := hx38 _ (Option.some.inj h).symm
        have h := hk37
        rw [← he] at h
        obtain rfl := Option.some.inj h
        exact ⟨rfl, [_], ⟨rfl, trivial⟩, rfl, io⟩
       ·have h := ifF h hc
        refine pw_skip <| sr1 (by kernel_rfl) <| y0 rfl (o_move (d := .bool s42) rfl) <| y0 rfl (o_move (d := .bool s42) rfl) <| y_if (g := (s42 == true)) rfl (fun hg => o_move (d := .lst false (List.map (PV.int .i64) a3)) rfl) <| y_if (g := (s42 == true)) rfl (fun hg => o_move (d := .lst false (List.map (PV.int .i64) v9)) rfl) <| y_if (g := (s42 == true)) rfl (fun hg => o_move (d := .int .i64 s43) rfl) <| y_if (g := (s42 == true)) rfl (fun hg => o_ixL (f := (PV.int .i64)) (cs := [.int .i64 v52]) hv44 (ct hg) (ct hg) Ty.e28 Ty.s3 rfl rfl) ?_
        refine y_if (g := (s42 == true)) rfl (fun hg => o_loadRS (ct hg) Ty.a3 rfl) ?_
        obtain ⟨v55, hv47, h⟩ := bindE h
        refine y_if (g := (s42 == true)) rfl (fun hg => o_call (ds := [.lst false (List.map (PV.int .i64) a3), .int .i64 v52]) rfl Ty.k28 (consE (ct hg) (consE (ct hg) rfl)) (r07_Times_ok (onlyE hv47 hg))) <| y_if (g := (s42 == true)) rfl (fun hg => o_cmp (ct hg) rfl rfl) <| y0 rfl (pk_and rfl rfl rfl (fun q => eqT q)) <| y0 rfl (o_assign (d := .bool (s42 && (decide (v55 > 0)))) rfl) <| y_nil ?_
        exact ⟨rfl, (s42 && (decide (v55 > 0))), h, (wk_st _ _ ⟨rfl, rfl, rfl, rfl, rfl, rfl, rfl, rfl, rfl, rfl, rfl, rfl, rfl, rfl, rfl, rfl, rfl, rfl, trivial⟩ trivial)⟩
      ·have h := ifF h hc
       refine pw_skip ?_
       exact ⟨rfl, s42, h, (wk_st _ _ ⟨rfl, rfl, rfl, rfl, rfl, rfl, rfl, rfl, rfl, rfl, rfl, rfl, rfl, rfl, rfl, rfl, rfl, rfl, trivial⟩ trivial)⟩
    ·have h := ifF h hc
     refine pw_exit <| thenQ_exit <| thenQ_exit <| blockQ_exit ?_
     have he := hx38 _ (Option.some.inj h).symm
     have h := hk37
     rw [← he] at h
     exact ⟨rfl, s42, h, (wk_st _ _ ⟨rfl, rfl, rfl, rfl, rfl, rfl, rfl, rfl, rfl, trivial⟩ trivial)⟩

theorem w12_FixPlain_ok {a0 : store_Store} {a1 : List hash_Place} {a2 : List Int} {r : Bool} (h : w12_FixPlain a0 a1 a2 = some r) : PCalls Tryz.prog 5 [store_Store.Pv a0, .lst false (List.map hash_Place.Pv a1), .lst false (List.map (PV.int .i64) a2)] (.bool r) := by
 unfold w12_FixPlain at h
 refine pc_intro (N := 76) Tryz.func5 rfl rfl nl fun w0 imm0 => sR <| y1 rfl (o_box (d := store_Store.Pv a0) (z := 3) (cl := true) rfl rfl rfl rfl rfl) rfl <| y0 rfl (o_assign (d := .bool false) rfl) <| y_nil <| pw_seq <| sR <| y0 rfl (o_loadA (cs := store_Store.Pc a0) rfl rfl rfl Ty.a26 Ty.s26 nl rfl) ?_
 obtain ⟨v1, hv1, h⟩ := bindE h
 refine y0 rfl (o_call (ds := [store_Store.Pv a0]) rfl Ty.k13 rfl (w12_right_ok hv1)) <| y0 rfl (o_not rfl rfl) <| y0 rfl (o_move (d := .bool (!v1)) rfl) <| y_if (g := ((!v1) == false)) rfl (fun hg => o_move (d := .lst false (List.map hash_Place.Pv a1)) rfl) ?_
 obtain ⟨v2, hv2, h⟩ := bindE h
 refine y_if (g := ((!v1) == false)) rfl (fun hg => o_call (ds := [.lst false (List.map hash_Place.Pv a1)]) rfl Ty.k14 (consE (ct hg) rfl) (w12_even_ok (onlyE hv2 hg))) <| y_if (g := ((!v1) == false)) rfl (fun hg => o_not (ct hg) rfl) <| y0 rfl (pk_or rfl rfl rfl (fun q => eqF q)) <| y0 rfl (o_move (d := .bool ((!v1) || (!v2))) rfl) <| y_if (g := (((!v1) || (!v2)) == false)) rfl (fun hg => o_move (d := .lst false (List.map (PV.int .i64) a2)) rfl) <| y_if (g := (((!v1) || (!v2)) == false)) rfl (fun hg => o_lnL (f := (PV.int .i64)) (ct hg) Ty.e28) <| y_if (g := (((!v1) || (!v2)) == false)) rfl (fun hg => o_cmp (ct hg) rfl rfl) <| y0 rfl (pk_or rfl rfl rfl (fun q => eqF q)) ?_
 refine y0 rfl (o_move (d := .bool (((!v1) || (!v2)) || (decide ((a2.length : Int) > 50)))) rfl) ?_
 obtain ⟨v3, hv3, h⟩ := bindE h
 refine y_if (g := ((((!v1) || (!v2)) || (decide ((a2.length : Int) > 50))) == false)) rfl (fun hg => o_call (ds := []) rfl Ty.k15 rfl (w12_shown_ok (onlyE hv3 hg))) <| y_if (g := ((((!v1) || (!v2)) || (decide ((a2.length : Int) > 50))) == false)) rfl (fun hg => o_not (ct hg) rfl) <| y0 rfl (pk_or rfl rfl rfl (fun q => eqF q)) <| y_nil ?_
 refine pw_cond ((((!v1) || (!v2)) || (decide ((a2.length : Int) > 50))) || (!v3)) rfl (fun hc => ?_) (fun hc => ?_)
 ·have h := ifT h hc
  refine sR ?_
  obtain ⟨v4, hv4, h⟩ := bindE h
  refine y0 rfl (o_call (ds := []) rfl Ty.k15 rfl (w12_shown_ok hv4)) <| y0 rfl (o_assign (d := .bool v4) rfl) <| y_nil <| pw_ret ?_
  obtain rfl := Option.some.inj h
  exact ⟨rfl, [_], ⟨rfl, trivial⟩, rfl, io⟩
 ·have h := ifF h hc
  refine pw_skip <| sR <| y0 rfl (o_loadA (cs := store_Store.Pc a0) rfl rfl rfl Ty.a26 Ty.s26 nl rfl) <| y0 rfl (o_move (d := .lst false (List.map (PV.int .i64) a2)) rfl) ?_
  obtain ⟨v5, hv5, h⟩ := bindE h
  refine yc rfl (o_callF (ls := []) (ds := [store_Store.Pv a0, .lst false (List.map (PV.int .i64) a2)]) rfl Ty.k29 rfl (reach_From_ok hv5)) <| y0 rfl (o_assign (d := .lst false (List.map (PV.int .i64) v5)) rfl) <| y_nil <| sR <| y0 rfl (o_move (d := .lst false (List.map hash_Place.Pv a1)) rfl) ?_
  obtain ⟨v6, hv6, h⟩ := bindE h
  refine yc rfl (o_callF (ls := []) (ds := [.lst false (List.map hash_Place.Pv a1)]) rfl Ty.k30 rfl (ephem_Pairs_ok hv6)) <| y0 rfl (o_assign (d := .lst false (List.map ephem_Pair.Pv v6)) rfl) <| y_nil <| sR <| y0 rfl (o_assign (d := .bool true) rfl) <| y_nil ?_
  obtain ⟨κ14, hκ12, h⟩ := jnE h
  refine pw_jn0 (κ := κ14) (r := r) (fun (j15 : Bool) => St.of [(1, .lst false (List.map hash_Place.Pv a1)), (2, .lst false (List.map (PV.int .i64) a2)), (3, .ptr 3 0 0), (7, .lst false (List.map (PV.int .i64) v5)), (9, .bool j15)] [(3, ⟨[store_Store.Pv a0], 0, false, 3, true⟩)]) (fun j15 h => ?_) ?_
  ·subst hκ12
   refine dr [] Ty.mix (by kernel_rfl) (by kernel_rfl) <| d0 rfl (o_loadA (cs := store_Store.Pc a0) rfl rfl rfl Ty.a26 Ty.s26 nl rfl) rfl ?_
   obtain ⟨v16, hv13, h⟩ := bindE h
   refine d2f rfl (o_callF (ls := []) (ds := [.int .i64 8]) rfl Ty.k31 rfl (hash_New_ok hv13)) rfl <| d7 rfl (fun _ hN => o_move (d := .lst false (List.map (PV.int .i64) a2)) rfl) rfl ?_
   obtain ⟨v17, hv14, h⟩ := bindE h
   refine d2f rfl (o_callF (ls := []) (ds := [store_Store.Pv a0, .lst false (List.map hash_Place.Pv v16), .lst false (List.map (PV.int .i64) a2)]) rfl Ty.k19 rfl (fix_From_ok hv14)) rfl <| d7 rfl (fun _ hN => o_move (d := .lst false (List.map (PV.int .i64) v5)) rfl) rfl ?_
   obtain ⟨v18, hv15, h⟩ := bindE h
   refine d2 rfl (o_call (ds := [.lst false (List.map (PV.int .i64) v17), .lst false (List.map (PV.int .i64) v5)]) rfl Ty.k18 rfl (r02_Ints_ok hv15)) rfl <| d7 rfl (fun _ hN => o_move (d := .bool v18) rfl) rfl <| d_if7 (g := (v18 == true)) rfl (fun hg _ hN => o_move (d := .bool j15) rfl) rfl <| d_if7 (g := (v18 == true)) rfl (fun hg _ hN => o_not (ct hg) rfl) rfl <| d_if7 (g := (v18 == true)) rfl (fun hg _ hN => o_move (d := .bool (!j15)) (ct hg)) rfl <| d_if0 (g := ((v18 == true) && ((!j15) == false))) (want2 rfl rfl rfl) (fun hg => o_loadA (cs := store_Store.Pc a0) rfl rfl rfl Ty.a26 Ty.s26 nl rfl) rfl <| d_if7 (g := ((v18 == true) && ((!j15) == false))) (want2 rfl rfl rfl) (fun hg _ hN => o_move (d := .lst false (List.map hash_Place.Pv a1)) rfl) rfl <| d_if7 (g := ((v18 == true) && ((!j15) == false))) (want2 rfl rfl rfl) (fun hg _ hN => o_move (d := .lst false (List.map (PV.int .i64) a2)) rfl) rfl ?_
   obtain ⟨v19, hv16, h⟩ := bindE h
   refine d_if2f (g := ((v18 == true) && ((!j15) == false))) (want2 rfl rfl rfl) (fun hg => o_callF (ls := []) (ds := [store_Store.Pv a0, .lst false (List.map hash_Place.Pv a1), .lst false (List.map (PV.int .i64) a2)]) rfl Ty.k19 (consE (ct hg) (consE (ct hg) (consE (ct hg) rfl))) (fix_From_ok (onlyE hv16 hg))) rfl <| d_if7 (g := ((v18 == true) && ((!j15) == false))) (want2 rfl rfl rfl) (fun hg _ hN => o_move (d := .lst false (List.map (PV.int .i64) v5)) rfl) rfl ?_
   obtain ⟨v20, hv17, h⟩ := bindE h
   refine d_if2 (g := ((v18 == true) && ((!j15) == false))) (want2 rfl rfl rfl) (fun hg => o_call (ds := [.lst false (List.map (PV.int .i64) v19), .lst false (List.map (PV.int .i64) v5)]) rfl Ty.k18 (consE (ct hg) (consE (ct hg) rfl)) (r02_Ints_ok (onlyE hv17 hg))) rfl <| d_if7 (g := ((v18 == true) && ((!j15) == false))) (want2 rfl rfl rfl) (fun hg _ hN => o_move (d := .bool v20) (ct hg)) rfl <| d_if0 (g := (((v18 == true) && ((!j15) == false)) && (v20 == true))) (want2 rfl rfl rfl) (fun hg => o_loadA (cs := store_Store.Pc a0) rfl rfl rfl Ty.a26 Ty.s26 nl rfl) rfl <| d_if7 (g := (((v18 == true) && ((!j15) == false)) && (v20 == true))) (want2 rfl rfl rfl) (fun hg _ hN => o_move (d := .lst false (List.map hash_Place.Pv a1)) rfl) rfl <| d_if7 (g := (((v18 == true) && ((!j15) == false)) && (v20 == true))) (want2 rfl rfl rfl) (fun hg _ hN => o_move (d := .lst false (List.map (PV.int .i64) a2)) rfl) rfl ?_
   obtain ⟨v21, hv18, h⟩ := bindE h
   refine d_if2 (g := (((v18 == true) && ((!j15) == false)) && (v20 == true))) (want2 rfl rfl rfl) (fun hg => o_call (ds := [store_Store.Pv a0, .lst false (List.map hash_Place.Pv a1), .lst false (List.map (PV.int .i64) a2)]) rfl Ty.k25 (consE (ct hg) (consE (ct hg) (consE (ct hg) rfl))) (fix_Rounds_ok (onlyE hv18 hg))) rfl <| d_if7 (g := (((v18 == true) && ((!j15) == false)) && (v20 == true))) (want2 rfl rfl rfl) (fun hg _ hN => o_cmp (ct hg) rfl rfl) rfl <| d_if7 (g := ((v18 == true) && ((!j15) == false))) (want2 rfl rfl rfl) (fun hg _ hN => pk_and (ct hg) rfl rfl (fun q => andI hg (eqT q))) rfl <| d_if7 (g := (v18 == true)) rfl (fun hg _ hN => pk_or (ct hg) rfl rfl (fun q => andI hg (eqF q))) rfl <| d7 rfl (fun _ hN => pk_and rfl rfl rfl (fun q => eqT q)) rfl <| d7 rfl (fun _ hN => o_assign (d := .bool (v18 && ((!j15) || (v20 && (v21 == 0))))) rfl) rfl <| d_nil <| pw_ret ?_
   obtain rfl := Option.some.inj h
   exact ⟨rfl, [_], ⟨rfl, trivial⟩, rfl, io⟩
  ·skip
   refine sR <| y0 rfl (o_assign (d := .int .i64 0) rfl) <| y_nil <| pw_block ?_
   obtain ⟨e22, hl19, hk20⟩ := bindE h
   refine pw_lp0 (fun (q : Bool × Int) => St.of [(1, .lst false (List.map hash_Place.Pv a1)), (2, .lst false (List.map (PV.int .i64) a2)), (3, .ptr 3 0 0), (7, .lst false (List.map (PV.int .i64) v5)), (8, .lst false (List.map ephem_Pair.Pv v6)), (9, .bool q.1), (10, .int .i64 q.2)] [(3, ⟨[store_Store.Pv a0], 0, false, 3, true⟩)]) hl19 (wk_st _ _ ⟨rfl, rfl, rfl, rfl, rfl, rfl, rfl, rfl, rfl, rfl, rfl, rfl, rfl, rfl, rfl, rfl, rfl, rfl, rfl, rfl, rfl, trivial⟩ ⟨rS, trivial⟩) (fun q26 x25 h hx21 => ?_)
   obtain ⟨s23, s24⟩ := q26
   refine pw_seq <| sR <| y0 rfl (o_move (d := .int .i64 s24) rfl) <| y0 rfl (o_move (d := .lst false (List.map ephem_Pair.Pv v6)) rfl) <| y0 rfl (o_lnL (f := ephem_Pair.Pv) rfl Ty.e49) <| y0 rfl (o_cmp rfl rfl rfl) <| y_nil ?_
   refine pw_cond (decide (s24 < (v6.length : Int))) rfl (fun hc => ?_) (fun hc => ?_)
   ·have h := ifT h hc
    refine pw_skip <| pw_seq <| pw_block <| sr1 (by kernel_rfl) <| y0 rfl (o_move (d := .bool s23) rfl) <| y0 rfl (o_move (d := .bool s23) rfl) <| y_if (g := (s23 == true)) rfl (fun hg => o_move (d := .lst false (List.map (PV.int .i64) v5)) rfl) <| y_if (g := (s23 == true)) rfl (fun hg => o_move (d := .lst false (List.map ephem_Pair.Pv v6)) rfl) ?_
    refine y_if (g := (s23 == true)) rfl (fun hg => o_move (d := .int .i64 s24) rfl) ?_
    obtain ⟨v27, hv22, h⟩ := bindE h
    refine y_if (g := (s23 == true)) rfl (fun hg => o_ixL (f := ephem_Pair.Pv) (cs := ephem_Pair.Pc v27) (onlyE hv22 hg) (ct hg) (ct hg) Ty.e49 Ty.s52 rfl rfl) <| y_if (g := (s23 == true)) rfl (fun hg => o_fieldAddrR (ct hg) Ty.f52_0 rfl) <| y_if (g := (s23 == true)) rfl (fun hg => o_loadRS (ct hg) Ty.a3 rfl) ?_
    obtain ⟨v28, hv23, h⟩ := bindE h
    refine y_if (g := (s23 == true)) rfl (fun hg => o_call (ds := [.lst false (List.map (PV.int .i64) v5), .int .i64 v27.Key]) rfl Ty.k28 (consE (ct hg) (consE (ct hg) rfl)) (r07_Times_ok (onlyE hv23 hg))) <| y_if (g := (s23 == true)) rfl (fun hg => o_cmp (ct hg) rfl rfl) <| y0 rfl (pk_and rfl rfl rfl (fun q => eqT q)) <| y0 rfl (o_assign (d := .bool (s23 && (v28 == 0))) rfl) <| y_nil <| sr1 (by kernel_rfl) <| y0 rfl (o_move (d := .int .i64 s24) rfl) <| y0 rfl (o_ari rfl rfl rfl) ?_
    refine y0 rfl (o_assign (d := .int .i64 (w64 (s24 + 1))) rfl) <| y_nil ?_
    exact ⟨rfl, ((s23 && (v28 == 0)), w64 (s24 + 1)), (Option.some.inj h).symm, (wk_st _ _ ⟨rfl, rfl, rfl, rfl, rfl, rfl, rfl, rfl, rfl, rfl, rfl, rfl, rfl, rfl, rfl, rfl, rfl, rfl, rfl, rfl, rfl, trivial⟩ ⟨rS, trivial⟩)⟩
   ·have h := ifF h hc
    refine pw_exit <| thenQ_exit <| thenQ_exit <| blockQ_exit ?_
    have he := hx21 _ (Option.some.inj h).symm
    have h := hk20
    rw [← he] at h
    exact ⟨rfl, s23, h, (wk_st _ _ ⟨rfl, rfl, rfl, rfl, rfl, rfl, rfl, rfl, rfl, rfl, rfl, rfl, rfl, rfl, rfl, trivial⟩ ⟨rS, trivial⟩)⟩

theorem ephem_Get_ok {a0 : List hash_Place} {a1 : Int} {r : Int × Int} (h : ephem_Get a0 a1 = some r) : PCalls Tryz.prog 32 [.lst false (List.map hash_Place.Pv a0), .int .i64 a1] (.tup [.int .i64 r.1, .int .i64 r.2]) := by
 unfold ephem_Get at h
 refine pc_intro (N := 11) Tryz.func32 rfl rfl nl fun w0 imm0 => sR <| y0 rfl (o_assign (d := .int .i64 0) rfl) <| y0 rfl (o_assign (d := .int .i64 0) rfl) <| y_nil <| sR <| y0 rfl (o_move (d := .lst false (List.map hash_Place.Pv a0)) rfl) <| y0 rfl (o_move (d := .int .i64 a1) rfl) ?_
 obtain ⟨v1, hv1, h⟩ := bindE h
 refine y0 rfl (o_call (ds := [.lst false (List.map hash_Place.Pv a0), .int .i64 a1]) rfl Ty.k82 rfl (hash_Get_ok hv1)) <| y0 rfl (o_extract rfl rfl) <| y0 rfl (o_extract rfl rfl) <| y0 rfl (o_assign (d := .int .i64 v1.1) rfl) <| y0 rfl (o_assign (d := .int .i64 v1.2) rfl) <| y_nil <| pw_ret ?_
 obtain rfl := Option.some.inj h
 exact ⟨rfl, [_, _], ⟨rfl, ⟨rfl, trivial⟩⟩, rfl, io⟩

end Go.Proofs.YtkjilddlbaibfaaGreat.Ok
