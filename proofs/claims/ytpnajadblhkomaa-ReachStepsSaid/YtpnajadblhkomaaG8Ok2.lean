/-
 The functions of the program do as the plain functions do.
-/
import Derived.Test.YtpnajadblhkomaaG8Ok1
namespace Go.Proofs.Ytpnajadblhkomaa.Ok
open Go Go.Pw Go.Sh Go.Proofs
set_option linter.unusedVariables false
set_option maxRecDepth 100000
set_option maxHeartbeats 4000000
theorem r06_Sorted_ok {a0 : r06_Store} {a1 : List Int} {r : List Int} (h : r06_Sorted a0 a1 = some r) : PCalls Try.prog 86 [r06_Store.Pv a0, .lst false (List.map (PV.int .i64) a1)] (.lst false (List.map (PV.int .i64) r)) := by
 unfold r06_Sorted at h
 refine pc_intro (N := 89) Try.func86 rfl rfl nl fun w0 imm0 => sR <| y1 rfl (o_box (d := r06_Store.Pv a0) (z := 3) (cl := true) rfl rfl rfl rfl rfl) rfl <| y0 rfl (o_assign (d := .lst true (List.map (PV.int .i64) [])) rfl) <| y_nil <| sR <| y0 rfl (o_nslice rfl Ty.e27 Ty.s3) <| y0 rfl (o_move (d := .lst false (List.map (PV.int .i64) a1)) rfl) ?_
 obtain ⟨v1, hv1, h⟩ := bindE h
 refine y1 rfl (o_apT (f := (PV.int .i64)) hv1 rfl rfl (.inl ⟨_, rfl, rfl⟩) Ty.e27 Ty.s3 Ty.b3 Ty.z3 rfl (fun _ => rfl)) rfl <| y0 rfl (o_assign (d := .sl 15) rfl) <| y_nil ?_
 obtain ⟨κ35, hκ28, h⟩ := jnE h
 refine pw_jn0 (κ := κ35) (r := r) (fun (j36 : List Int) => St.of [(5, .sl 15)] [(15, ⟨List.map (PV.int .i64) j36, 0, true, 1, true⟩)]) (fun j36 h => ?_) ?_
 ·subst hκ28
  refine sR <| y0 rfl (o_move (d := .sl 15) rfl) <| y0 rfl (o_assign (d := .sl 15) rfl) <| y_nil <| pw_ret ?_
  obtain rfl := Option.some.inj h
  exact ⟨rfl, [_], ⟨rfl, trivial⟩, rfl, io⟩
 ·skip
  refine sR <| y0 rfl (o_assign (d := .int .i64 1) rfl) <| y_nil <| pw_block ?_
  obtain ⟨e37, hl29, hk30⟩ := bindE h
  refine pw_lp0 (fun (q : Int × (List Int)) => St.of [(2, .ptr 2 0 0), (5, .sl 15), (6, .int .i64 q.1)] [(15, ⟨List.map (PV.int .i64) q.2, 0, true, 1, true⟩), (2, ⟨[r06_Store.Pv a0], 0, false, 3, true⟩)]) hl29 (wk_st _ _ ⟨rfl, rfl, rfl, rfl, rfl, rfl, rfl, rfl, rfl, trivial⟩ ⟨rS, rS, trivial⟩) (fun q41 x40 h hx31 => ?_)
  obtain ⟨s38, s39⟩ := q41
  refine pw_seq <| sR <| y0 rfl (o_move (d := .int .i64 s38) rfl) <| y0 rfl (o_move (d := .sl 15) rfl) <| y0 rfl (o_lnR (f := (PV.int .i64)) rfl rfl rfl Ty.e27) <| y0 rfl (o_cmp rfl rfl rfl) <| y_nil ?_
  refine pw_cond (decide (s38 < (s39.length : Int))) rfl (fun hc => ?_) (fun hc => ?_)
  ·have h := ifT h hc
   refine pw_skip ?_
   obtain ⟨κ55, hκ43, h⟩ := jnE h
   refine pw_jn0 (κ := κ55) (r := x40) (fun (j56 : List Int) => St.of [(2, .ptr 2 0 0), (5, .sl 15), (6, .int .i64 s38)] [(15, ⟨List.map (PV.int .i64) j56, 0, true, 1, true⟩), (2, ⟨[r06_Store.Pv a0], 0, false, 3, true⟩)]) (fun j56 h => ?_) ?_
   ·subst hκ43
    refine sr1 (by kernel_rfl) <| y0 rfl (o_move (d := .int .i64 s38) rfl) <| y0 rfl (o_ari rfl rfl rfl) <| y0 rfl (o_assign (d := .int .i64 (w64 (s38 + 1))) rfl) <| y_nil ?_
    exact ⟨rfl, (w64 (s38 + 1), j56), (Option.some.inj h).symm, (wk_st _ _ ⟨rfl, rfl, rfl, rfl, rfl, rfl, rfl, rfl, rfl, trivial⟩ ⟨rS, rS, trivial⟩)⟩
   ·skip
    refine pw_block <| sR <| y0 rfl (o_move (d := .int .i64 s38) rfl) <| y0 rfl (o_assign (d := .int .i64 s38) rfl) <| y_nil <| pw_block ?_
    obtain ⟨e57, hl44, hk45⟩ := bindE h
    refine pw_lp0 (fun (q : Int × (List Int)) => St.of [(2, .ptr 2 0 0), (5, .sl 15), (6, .int .i64 s38), (7, .int .i64 q.1)] [(15, ⟨List.map (PV.int .i64) q.2, 0, true, 1, true⟩), (2, ⟨[r06_Store.Pv a0], 0, false, 3, true⟩)]) hl44 (wk_st _ _ ⟨rfl, rfl, rfl, rfl, rfl, rfl, rfl, rfl, rfl, rfl, rfl, rfl, trivial⟩ ⟨rS, rS, trivial⟩) (fun q61 x60 h hx46 => ?_)
    obtain ⟨s58, s59⟩ := q61
    refine pw_seq <| sR <| y0 rfl (o_move (d := .int .i64 s58) rfl) <| y0 rfl (o_cmp rfl rfl rfl) <| y_nil ?_
    refine pw_cond (decide (s58 > 0)) rfl (fun hc => ?_) (fun hc => ?_)
    ·have h := ifT h hc
     refine pw_skip <| pw_seq <| pw_block <| dr [] Ty.mix (by kernel_rfl) (by kernel_rfl) <| d0 rfl (o_loadA (cs := r06_Store.Pc a0) rfl rfl rfl Ty.a37 Ty.s37 nl rfl) rfl ?_
     obtain ⟨v62, hv47, h⟩ := bindE h
     refine d2f rfl (o_callF (ls := []) (ds := [r06_Store.Pv a0]) rfl Ty.k62 rfl (r06_Plain_ok hv47)) rfl <| d7 rfl (fun _ hN => o_move (d := .sl 15) rfl) rfl <| d7 rfl (fun _ hN => o_move (d := .int .i64 s58) rfl) rfl <| d7 rfl (fun _ hN => o_ari rfl rfl rfl) rfl ?_
     obtain ⟨v63, hv48, h⟩ := bindE h
     refine d0 rfl (o_ixR (f := (PV.int .i64)) hv48 rfl rfl rfl rfl Ty.e27 Ty.s3 rfl) rfl <| d0 rfl (o_ldS (f := (PV.int .i64)) hv48 rfl rfl rfl Ty.a3 rfl) rfl ?_
     obtain ⟨v64, hv49, h⟩ := bindE h
     refine d2 rfl (o_call (ds := [r03_Slab.Pv v62, .int .i64 v63]) rfl Ty.k61 rfl (r03_Find_ok hv49)) rfl <| d7 rfl (fun _ hN => o_move (d := .tup [.int .i64 v64.1, .int .i64 v64.2]) rfl) rfl <| d7 rfl (fun _ hN => o_extract rfl rfl) rfl <| d7 rfl (fun _ hN => o_extract rfl rfl) rfl <| d7 rfl (fun _ hN => o_assign (d := .int .i64 v64.1) rfl) rfl <| d7 rfl (fun _ hN => o_assign (d := .int .i64 v64.2) rfl) rfl <| d_nil <| dr [] Ty.mix (by kernel_rfl) (by kernel_rfl) ?_
     refine d0 rfl (o_loadA (cs := r06_Store.Pc a0) rfl rfl rfl Ty.a37 Ty.s37 nl rfl) rfl <| d2f rfl (o_callF (ls := []) (ds := [r06_Store.Pv a0]) rfl Ty.k62 rfl (r06_Plain_ok hv47)) rfl <| d7 rfl (fun _ hN => o_move (d := .sl 15) rfl) rfl <| d7 rfl (fun _ hN => o_move (d := .int .i64 s58) rfl) rfl ?_
     obtain ⟨v65, hv50, h⟩ := bindE h
     refine d0 rfl (o_ixR (f := (PV.int .i64)) hv50 rfl rfl rfl rfl Ty.e27 Ty.s3 rfl) rfl <| d0 rfl (o_ldS (f := (PV.int .i64)) hv50 rfl rfl rfl Ty.a3 rfl) rfl ?_
     obtain ⟨v66, hv51, h⟩ := bindE h
     refine d2 rfl (o_call (ds := [r03_Slab.Pv v62, .int .i64 v65]) rfl Ty.k61 rfl (r03_Find_ok hv51)) rfl <| d7 rfl (fun _ hN => o_move (d := .tup [.int .i64 v66.1, .int .i64 v66.2]) rfl) rfl <| d7 rfl (fun _ hN => o_extract rfl rfl) rfl <| d7 rfl (fun _ hN => o_extract rfl rfl) rfl <| d7 rfl (fun _ hN => o_assign (d := .int .i64 v66.1) rfl) rfl <| d7 rfl (fun _ hN => o_assign (d := .int .i64 v66.2) rfl) rfl <| d_nil <| pw_seq ?_
     refine dr [] Ty.mix (by kernel_rfl) (by kernel_rfl) <| d7 rfl (fun _ hN => o_move (d := .int .i64 v64.1) rfl) rfl <| d7 rfl (fun _ hN => o_cmp rfl rfl rfl) rfl <| d7 rfl (fun _ hN => o_move (d := .bool (decide (v64.1 < 0))) rfl) rfl <| d_if7 (g := ((decide (v64.1 < 0)) == false)) rfl (fun hg _ hN => o_move (d := .int .i64 v66.1) rfl) rfl <| d_if7 (g := ((decide (v64.1 < 0)) == false)) rfl (fun hg _ hN => o_cmp (ct hg) rfl rfl) rfl <| d7 rfl (fun _ hN => pk_or rfl rfl rfl (fun q => eqF q)) rfl <| d7 rfl (fun _ hN => o_move (d := .bool ((decide (v64.1 < 0)) || (decide (v66.1 < 0)))) rfl) rfl ?_
     refine d_if7 (g := (((decide (v64.1 < 0)) || (decide (v66.1 < 0))) == false)) rfl (fun hg _ hN => o_fieldAddrP (k := 0) rfl Ty.f37_0 rfl) rfl <| d_if0 (g := (((decide (v64.1 < 0)) || (decide (v66.1 < 0))) == false)) rfl (fun hg => o_loadS (ct hg) rfl rfl Ty.a35 rfl) rfl <| d_if7 (g := (((decide (v64.1 < 0)) || (decide (v66.1 < 0))) == false)) rfl (fun hg _ hN => o_move (d := .int .i64 v64.1) rfl) rfl ?_
     obtain ⟨v67, hv52, h⟩ := bindE h
     refine d_if0 (g := (((decide (v64.1 < 0)) || (decide (v66.1 < 0))) == false)) rfl (fun hg => o_ixL (f := r06_Cell.Pv) (cs := r06_Cell.Pc v67) (onlyE hv52 hg) (ct hg) (ct hg) Ty.e35 Ty.s87 rfl rfl) rfl <| d_if7 (g := (((decide (v64.1 < 0)) || (decide (v66.1 < 0))) == false)) rfl (fun hg _ hN => o_fieldAddrR (ct hg) Ty.f87_2 rfl) rfl <| d_if7 (g := (((decide (v64.1 < 0)) || (decide (v66.1 < 0))) == false)) rfl (fun hg _ hN => o_fieldAddrR (ct hg) Ty.f41_0 rfl) rfl <| d_if0 (g := (((decide (v64.1 < 0)) || (decide (v66.1 < 0))) == false)) rfl (fun hg => o_loadRS (ct hg) Ty.a3 rfl) rfl <| d_if7 (g := (((decide (v64.1 < 0)) || (decide (v66.1 < 0))) == false)) rfl (fun hg _ hN => o_fieldAddrP (k := 0) rfl Ty.f37_0 rfl) rfl <| d_if0 (g := (((decide (v64.1 < 0)) || (decide (v66.1 < 0))) == false)) rfl (fun hg => o_loadS (ct hg) rfl rfl Ty.a35 rfl) rfl <| d_if7 (g := (((decide (v64.1 < 0)) || (decide (v66.1 < 0))) == false)) rfl (fun hg _ hN => o_move (d := .int .i64 v66.1) rfl) rfl ?_
     obtain ⟨v68, hv53, h⟩ := bindE h
     refine d_if0 (g := (((decide (v64.1 < 0)) || (decide (v66.1 < 0))) == false)) rfl (fun hg => o_ixL (f := r06_Cell.Pv) (cs := r06_Cell.Pc v68) (onlyE hv53 hg) (ct hg) (ct hg) Ty.e35 Ty.s87 rfl rfl) rfl <| d_if7 (g := (((decide (v64.1 < 0)) || (decide (v66.1 < 0))) == false)) rfl (fun hg _ hN => o_fieldAddrR (ct hg) Ty.f87_2 rfl) rfl <| d_if7 (g := (((decide (v64.1 < 0)) || (decide (v66.1 < 0))) == false)) rfl (fun hg _ hN => o_fieldAddrR (ct hg) Ty.f41_0 rfl) rfl <| d_if0 (g := (((decide (v64.1 < 0)) || (decide (v66.1 < 0))) == false)) rfl (fun hg => o_loadRS (ct hg) Ty.a3 rfl) rfl <| d_if7 (g := (((decide (v64.1 < 0)) || (decide (v66.1 < 0))) == false)) rfl (fun hg _ hN => o_cmp (ct hg) (ct hg) rfl) rfl <| d7 rfl (fun _ hN => pk_or rfl rfl rfl (fun q => eqF q)) rfl <| d_nil ?_
     refine pw_cond (((decide (v64.1 < 0)) || (decide (v66.1 < 0))) || (decide (v67.Val.Serial ≤ v68.Val.Serial))) rfl (fun hc => ?_) (fun hc => ?_)
     ·have h := ifT h hc
      refine pw_exit <| thenQ_exit <| blockQ_other (by decide) <| thenQ_exit <| thenQ_exit <| blockQ_exit ?_
      have he := hx46 _ (Option.some.inj h).symm
      have h := hk45
      rw [← he] at h
      exact ⟨rfl, s59, h, (wk_st _ _ ⟨rfl, rfl, rfl, rfl, rfl, rfl, rfl, rfl, rfl, trivial⟩ ⟨rS, rS, trivial⟩)⟩
     ·have h := ifF h hc
      refine pw_skip <| sR <| y0 rfl (o_move (d := .sl 15) rfl) <| y0 rfl (o_move (d := .int .i64 s58) rfl) <| y0 rfl (o_ixR (f := (PV.int .i64)) hv50 rfl rfl rfl rfl Ty.e27 Ty.s3 rfl) <| y0 rfl (o_ldS (f := (PV.int .i64)) hv50 rfl rfl rfl Ty.a3 rfl) <| y0 rfl (o_assign (d := .int .i64 v65) rfl) <| y_nil ?_
      refine sR <| y0 rfl (o_move (d := .sl 15) rfl) <| y0 rfl (o_move (d := .int .i64 s58) rfl) <| y0 rfl (o_move (d := .sl 15) rfl) <| y0 rfl (o_move (d := .int .i64 s58) rfl) <| y0 rfl (o_ari rfl rfl rfl) <| y0 rfl (o_ixR (f := (PV.int .i64)) hv48 rfl rfl rfl rfl Ty.e27 Ty.s3 rfl) <| y0 rfl (o_ldS (f := (PV.int .i64)) hv48 rfl rfl rfl Ty.a3 rfl) ?_
      refine y0 rfl (o_ixR (f := (PV.int .i64)) hv50 rfl rfl rfl rfl Ty.e27 Ty.s3 rfl) <| y_stE (f := (PV.int .i64)) (v := v63) hv50 rfl rfl (.inl rfl) Ty.s3 <| y_nil <| sr1 (by kernel_rfl) <| y0 rfl (o_move (d := .sl 15) rfl) <| y0 rfl (o_move (d := .int .i64 s58) rfl) <| y0 rfl (o_ari rfl rfl rfl) <| y0 rfl (o_move (d := .int .i64 v65) rfl) ?_
      obtain ⟨v69, hv54, h⟩ := bindE h
      refine y0 rfl (o_ixR (f := (PV.int .i64)) hv54 rfl rfl rfl rfl Ty.e27 Ty.s3 rfl) <| y_stE (f := (PV.int .i64)) (v := v65) hv54 rfl rfl (.inl rfl) Ty.s3 <| y_nil <| sr1 (by kernel_rfl) <| y0 rfl (o_move (d := .int .i64 s58) rfl) <| y0 rfl (o_ari rfl rfl rfl) <| y0 rfl (o_assign (d := .int .i64 (w64 (s58 - 1))) rfl) <| y_nil ?_
      exact ⟨rfl, (w64 (s58 - 1), ((s59.set (s58).toNat v63).set (w64 (s58 - 1)).toNat v65)), (Option.some.inj h).symm, (wk_st _ _ ⟨rfl, rfl, rfl, rfl, rfl, rfl, rfl, rfl, rfl, rfl, rfl, rfl, trivial⟩ ⟨rS, rS, trivial⟩)⟩
    ·have h := ifF h hc
     refine pw_exit <| thenQ_exit <| thenQ_exit <| blockQ_exit ?_
     have he := hx46 _ (Option.some.inj h).symm
     have h := hk45
     rw [← he] at h
     exact ⟨rfl, s59, h, (wk_st _ _ ⟨rfl, rfl, rfl, rfl, rfl, rfl, rfl, rfl, rfl, trivial⟩ ⟨rS, rS, trivial⟩)⟩
  ·have h := ifF h hc
   refine pw_exit <| thenQ_exit <| thenQ_exit <| blockQ_exit ?_
   have he := hx31 _ (Option.some.inj h).symm
   have h := hk30
   rw [← he] at h
   exact ⟨rfl, s39, h, (wk_st _ _ ⟨rfl, rfl, rfl, trivial⟩ ⟨rS, trivial⟩)⟩

theorem r06_Live_ok {a0 : r06_Store} {r : List Int} (h : r06_Live a0 = some r) : PCalls Try.prog 46 [r06_Store.Pv a0] (.lst false (List.map (PV.int .i64) r)) := by
 unfold r06_Live at h
 refine pc_intro (N := 34) Try.func46 rfl rfl nl fun w0 imm0 => sR <| y1 rfl (o_box (d := r06_Store.Pv a0) (z := 3) (cl := true) rfl rfl rfl rfl rfl) rfl <| y0 rfl (o_assign (d := .lst true (List.map (PV.int .i64) [])) rfl) <| y_nil <| sR <| y0 rfl (o_nslice rfl Ty.e27 Ty.s3) <| y0 rfl (o_assign (d := .lst true (List.map (PV.int .i64) [])) rfl) ?_
 refine y_nil ?_
 obtain ⟨κ14, hκ11, h⟩ := jnE h
 refine pw_jn0 (κ := κ14) (r := r) (fun (j15 : List Int) => St.of [(1, .ptr 1 0 0), (3, .sl 910003)] [(910003, ⟨List.map (PV.int .i64) j15, (List.map (PV.int .i64) j15).length, true, 1, true⟩), (1, ⟨[r06_Store.Pv a0], 0, false, 3, true⟩)]) (fun j15 h => ?_) ?_
 ·subst hκ11
  refine sR <| y0 rfl (o_loadA (cs := r06_Store.Pc a0) rfl rfl rfl Ty.a37 Ty.s37 nl rfl) <| y0 rfl (o_move (d := .sl 910003) rfl) ?_
  obtain ⟨v16, hv12, h⟩ := bindE h
  refine ycL rfl (o_callF (ls := [910003]) (ds := [r06_Store.Pv a0, .sl 910003]) rfl Ty.k86 rfl (r06_Sorted_ok hv12)) rfl <| y0 rfl (o_assign (d := .lst false (List.map (PV.int .i64) v16)) rfl) <| y_nil <| pw_ret ?_
  obtain rfl := Option.some.inj h
  exact ⟨rfl, [_], ⟨rfl, trivial⟩, rfl, io⟩
 ·skip
  refine sR <| y0 rfl (o_assign (d := .int .i64 0) rfl) <| y_nil <| pw_block ?_
  obtain ⟨e17, hl13, hk14⟩ := bindE h
  refine pw_lp0 (fun (q : Int × (List Int)) => St.of [(1, .ptr 1 0 0), (3, .sl 910003), (4, .int .i64 q.1)] [(1, ⟨[r06_Store.Pv a0], 0, false, 3, true⟩), (910003, ⟨List.map (PV.int .i64) q.2, (List.map (PV.int .i64) q.2).length, true, 1, true⟩)]) hl13 (Wk.trans (wk_nil (t := 3) (l := 920003) (z := 1) rfl rfl) (wk_stP (fun l => if l = 910003 then 920003 else l) _ _ ⟨rfl, rfl, rfl, rfl, rfl, rfl, rfl, rfl, rfl, trivial⟩ ⟨rN, rN, trivial⟩ rfl)) (fun q21 x20 h hx15 => ?_)
  obtain ⟨s18, s19⟩ := q21
  refine pw_seq <| sR <| y0 rfl (o_move (d := .int .i64 s18) rfl) <| y0 rfl (o_fieldAddrP (k := 0) rfl Ty.f37_0 rfl) <| y0 rfl (o_loadS rfl rfl rfl Ty.a35 rfl) <| y0 rfl (o_lnL (f := r06_Cell.Pv) rfl Ty.e35) <| y0 rfl (o_cmp rfl rfl rfl) <| y_nil ?_
  refine pw_cond (decide (s18 < (a0.Cells.length : Int))) rfl (fun hc => ?_) (fun hc => ?_)
  ·have h := ifT h hc
   refine pw_skip ?_
   obtain ⟨κ25, hκ19, h⟩ := jnE h
   refine pw_jn0 (κ := κ25) (r := x20) (fun (j26 : List Int) => St.of [(1, .ptr 1 0 0), (3, .sl 30), (4, .int .i64 s18)] [(30, ⟨List.map (PV.int .i64) j26, (List.map (PV.int .i64) j26).length, true, 1, true⟩), (1, ⟨[r06_Store.Pv a0], 0, false, 3, true⟩)]) (fun j26 h => ?_) ?_
   ·subst hκ19
    refine sr1 (by kernel_rfl) <| y0 rfl (o_move (d := .int .i64 s18) rfl) <| y0 rfl (o_ari rfl rfl rfl) <| y0 rfl (o_assign (d := .int .i64 (w64 (s18 + 1))) rfl) <| y_nil ?_
    exact ⟨rfl, (w64 (s18 + 1), j26), (Option.some.inj h).symm, (Wk.trans (wk_frz _ [30]) (wk_stP (fun l => if l = 910003 then 30 else l) _ _ ⟨rfl, rfl, rfl, rfl, rfl, rfl, rfl, rfl, rfl, trivial⟩ ⟨rN, rN, trivial⟩ rfl))⟩
   ·skip
    refine pw_block <| sR <| y0 rfl (o_fieldAddrP (k := 0) rfl Ty.f37_0 rfl) <| y0 rfl (o_loadS rfl rfl rfl Ty.a35 rfl) <| y0 rfl (o_move (d := .int .i64 s18) rfl) ?_
    obtain ⟨v27, hv20, h⟩ := bindE h
    refine y0 rfl (o_ixL (f := r06_Cell.Pv) (cs := r06_Cell.Pc v27) hv20 rfl rfl Ty.e35 Ty.s87 rfl rfl) <| y0 rfl (o_fieldAddrR rfl Ty.f87_0 rfl) <| y0 rfl (o_loadRS rfl Ty.a3 rfl) <| y0 rfl (o_cmp rfl rfl rfl) <| y_nil ?_
    refine pw_cond (v27.State == 1) rfl (fun hc => ?_) (fun hc => ?_)
    ·have h := ifT h hc
     refine sr1 (by kernel_rfl) <| y0 rfl (o_move (d := .sl 910003) rfl) <| y0 rfl (o_move (d := .int .i64 s18) rfl) <| y0 rfl (o_fieldAddrP (k := 0) rfl Ty.f37_0 rfl) <| y0 rfl (o_loadS rfl rfl rfl Ty.a35 rfl) <| y0 rfl (o_move (d := .int .i64 s18) rfl) <| y0 rfl (o_ixL (f := r06_Cell.Pv) (cs := r06_Cell.Pc v27) hv20 rfl rfl Ty.e35 Ty.s87 rfl rfl) <| y0 rfl (o_fieldAddrR rfl Ty.f87_1 rfl) ?_
     refine y0 rfl (o_loadRS rfl Ty.a3 rfl) ?_
     obtain ⟨v28, hv21, h⟩ := bindE h
     refine y0 rfl (o_call (ds := [.int .i64 s18, .int .i64 v27.Gen]) rfl Ty.k85 rfl (r01_Pack_ok hv21)) <| y0 rfl (o_bI (f := (PV.int .i64)) (l := [v28]) rfl Ty.e27 Ty.s3 Ty.z3 rfl rfl nl rfl rfl) ?_
     obtain ⟨v29, hv22, h⟩ := bindE h
     refine y_app rfl (o_apR (f := (PV.int .i64)) hv22 rfl rfl rfl rfl rfl rfl (.inl ⟨_, rfl, rfl⟩) Ty.e27 Ty.s3 Ty.b3 Ty.z3 rfl (fun _ => rfl)) rfl rfl rfl <| y0 rfl (o_assign (d := .sl 30) rfl) <| y_nil ?_
     exact ⟨rfl, v29, h, (Wk.trans (wk_frz _ [30]) (wk_st _ _ ⟨rfl, rfl, rfl, rfl, rfl, rfl, rfl, rfl, rfl, trivial⟩ ⟨rS, rS, trivial⟩))⟩
    ·have h := ifF h hc
     refine pw_skip ?_
     exact ⟨rfl, s19, h, (Wk.trans (wk_frz _ [910003]) (wk_stP (fun l => if l = 30 then 910003 else l) _ _ ⟨rfl, rfl, rfl, rfl, rfl, rfl, rfl, rfl, rfl, trivial⟩ ⟨rN, rN, trivial⟩ rfl))⟩
  ·have h := ifF h hc
   refine pw_exit <| thenQ_exit <| thenQ_exit <| blockQ_exit ?_
   have he := hx15 _ (Option.some.inj h).symm
   have h := hk14
   rw [← he] at h
   exact ⟨rfl, s19, h, (Wk.trans (wk_frz _ [910003]) (wk_st _ _ ⟨rfl, rfl, rfl, rfl, rfl, rfl, trivial⟩ ⟨rS, rS, trivial⟩))⟩

theorem r07_Times_ok {a0 : List Int} {a1 : Int} {r : Int} (h : r07_Times a0 a1 = some r) : PCalls Try.prog 43 [.lst false (List.map (PV.int .i64) a0), .int .i64 a1] (.int .i64 r) := by
 unfold r07_Times at h
 refine pc_intro (N := 26) Try.func43 rfl rfl nl fun w0 imm0 => sR <| y0 rfl (o_assign (d := .int .i64 0) rfl) <| y_nil <| sR <| y0 rfl (o_assign (d := .int .i64 0) rfl) <| y_nil ?_
 obtain ⟨κ10, hκ7, h⟩ := jnE h
 refine pw_jn0 (κ := κ10) (r := r) (fun (j11 : Int) => St.of [(5, .int .i64 j11)] []) (fun j11 h => ?_) ?_
 ·subst hκ7
  refine sR <| y0 rfl (o_move (d := .int .i64 j11) rfl) <| y0 rfl (o_assign (d := .int .i64 j11) rfl) <| y_nil <| pw_ret ?_
  obtain rfl := Option.some.inj h
  exact ⟨rfl, [_], ⟨rfl, trivial⟩, rfl, io⟩
 ·skip
  refine sR <| y0 rfl (o_assign (d := .int .i64 0) rfl) <| y_nil <| pw_block ?_
  obtain ⟨e12, hl8, hk9⟩ := bindE h
  refine pw_lp0 (fun (q : Int × Int) => St.of [(0, .lst false (List.map (PV.int .i64) a0)), (1, .int .i64 a1), (5, .int .i64 q.1), (6, .int .i64 q.2)] []) hl8 (wk_st _ _ ⟨rfl, rfl, rfl, rfl, rfl, rfl, rfl, rfl, rfl, rfl, rfl, rfl, trivial⟩ trivial) (fun q16 x15 h hx10 => ?_)
  obtain ⟨s13, s14⟩ := q16
  refine pw_seq <| sR <| y0 rfl (o_move (d := .int .i64 s14) rfl) <| y0 rfl (o_move (d := .lst false (List.map (PV.int .i64) a0)) rfl) <| y0 rfl (o_lnL (f := (PV.int .i64)) rfl Ty.e27) <| y0 rfl (o_cmp rfl rfl rfl) <| y_nil ?_
  refine pw_cond (decide (s14 < (a0.length : Int))) rfl (fun hc => ?_) (fun hc => ?_)
  ·have h := ifT h hc
   refine pw_skip ?_
   obtain ⟨κ18, hκ12, h⟩ := jnE h
   refine pw_jn0 (κ := κ18) (r := x15) (fun (j19 : Int) => St.of [(0, .lst false (List.map (PV.int .i64) a0)), (1, .int .i64 a1), (5, .int .i64 j19), (6, .int .i64 s14)] []) (fun j19 h => ?_) ?_
   ·subst hκ12
    refine sr1 (by kernel_rfl) <| y0 rfl (o_move (d := .int .i64 s14) rfl) <| y0 rfl (o_ari rfl rfl rfl) <| y0 rfl (o_assign (d := .int .i64 (w64 (s14 + 1))) rfl) <| y_nil ?_
    exact ⟨rfl, (j19, w64 (s14 + 1)), (Option.some.inj h).symm, (wk_st _ _ ⟨rfl, rfl, rfl, rfl, rfl, rfl, rfl, rfl, rfl, rfl, rfl, rfl, trivial⟩ trivial)⟩
   ·skip
    refine pw_block <| sR <| y0 rfl (o_move (d := .lst false (List.map (PV.int .i64) a0)) rfl) <| y0 rfl (o_move (d := .int .i64 s14) rfl) ?_
    obtain ⟨v20, hv13, h⟩ := bindE h
    refine y0 rfl (o_ixL (f := (PV.int .i64)) (cs := [.int .i64 v20]) hv13 rfl rfl Ty.e27 Ty.s3 rfl rfl) <| y0 rfl (o_loadRS rfl Ty.a3 rfl) <| y0 rfl (o_move (d := .int .i64 a1) rfl) <| y0 rfl (o_cmp rfl rfl rfl) <| y0 rfl (o_move (d := .bool (v20 == a1)) rfl) <| y_if (g := ((v20 == a1) == true)) rfl (fun hg => o_move (d := .int .i64 a1) rfl) <| y_if (g := ((v20 == a1) == true)) rfl (fun hg => o_cmp (ct hg) rfl rfl) <| y0 rfl (pk_and rfl rfl rfl (fun q => eqT q)) ?_
    refine y_nil ?_
    refine pw_cond ((v20 == a1) && (a1 != 0)) rfl (fun hc => ?_) (fun hc => ?_)
    ·have h := ifT h hc
     refine sr1 (by kernel_rfl) <| y0 rfl (o_move (d := .int .i64 s13) rfl) <| y0 rfl (o_ari rfl rfl rfl) <| y0 rfl (o_assign (d := .int .i64 (w64 (s13 + 1))) rfl) <| y_nil ?_
     exact ⟨rfl, w64 (s13 + 1), h, (wk_st _ _ ⟨rfl, rfl, rfl, rfl, rfl, rfl, rfl, rfl, rfl, rfl, rfl, rfl, trivial⟩ trivial)⟩
    ·have h := ifF h hc
     refine pw_skip ?_
     exact ⟨rfl, s13, h, (wk_st _ _ ⟨rfl, rfl, rfl, rfl, rfl, rfl, rfl, rfl, rfl, rfl, rfl, rfl, trivial⟩ trivial)⟩
  ·have h := ifF h hc
   refine pw_exit <| thenQ_exit <| thenQ_exit <| blockQ_exit ?_
   have he := hx10 _ (Option.some.inj h).symm
   have h := hk9
   rw [← he] at h
   exact ⟨rfl, s13, h, (wk_st _ _ ⟨rfl, rfl, rfl, trivial⟩ trivial)⟩

theorem r08_Has_ok {a0 : List Int} {a1 : Int} {r : Bool} (h : r08_Has a0 a1 = some r) : PCalls Try.prog 95 [.lst false (List.map (PV.int .i64) a0), .int .i64 a1] (.bool r) := by
 unfold r08_Has at h
 refine pc_intro (N := 9) Try.func95 rfl rfl nl fun w0 imm0 => sR <| y0 rfl (o_assign (d := .bool false) rfl) <| y_nil <| sR <| y0 rfl (o_move (d := .lst false (List.map (PV.int .i64) a0)) rfl) <| y0 rfl (o_move (d := .int .i64 a1) rfl) ?_
 obtain ⟨v1, hv1, h⟩ := bindE h
 refine y0 rfl (o_call (ds := [.lst false (List.map (PV.int .i64) a0), .int .i64 a1]) rfl Ty.k43 rfl (r07_Times_ok hv1)) <| y0 rfl (o_cmp rfl rfl rfl) <| y0 rfl (o_assign (d := .bool (decide (v1 > 0))) rfl) <| y_nil <| pw_ret ?_
 obtain rfl := Option.some.inj h
 exact ⟨rfl, [_], ⟨rfl, trivial⟩, rfl, io⟩

theorem r08_those_ok {a0 : List Int} {a1 : List Int} {a2 : Bool} {r : List Int} (h : r08_those a0 a1 a2 = some r) : PCalls Try.prog 92 [.lst false (List.map (PV.int .i64) a0), .lst false (List.map (PV.int .i64) a1), .bool a2] (.lst false (List.map (PV.int .i64) r)) := by
 unfold r08_those at h
 refine pc_intro (N := 32) Try.func92 rfl rfl nl fun w0 imm0 => sR <| y0 rfl (o_assign (d := .lst true (List.map (PV.int .i64) [])) rfl) <| y_nil <| sR <| y0 rfl (o_nslice rfl Ty.e27 Ty.s3) <| y0 rfl (o_assign (d := .lst true (List.map (PV.int .i64) [])) rfl) <| y_nil ?_
 obtain ⟨κ14, hκ11, h⟩ := jnE h
 refine pw_jn0 (κ := κ14) (r := r) (fun (j15 : List Int) => St.of [(7, .sl 910007)] [(910007, ⟨List.map (PV.int .i64) j15, (List.map (PV.int .i64) j15).length, true, 1, true⟩)]) (fun j15 h => ?_) ?_
 ·subst hκ11
  refine sR <| y0 rfl (o_move (d := .sl 910007) rfl) <| y0 rfl (o_assign (d := .sl 910007) rfl) <| y_nil <| pw_ret ?_
  obtain rfl := Option.some.inj h
  exact ⟨rfl, [_], ⟨rfl, trivial⟩, rfl, io⟩
 ·skip
  refine sR <| y0 rfl (o_assign (d := .int .i64 0) rfl) <| y_nil <| pw_block ?_
  obtain ⟨e16, hl12, hk13⟩ := bindE h
  refine pw_lp0 (fun (q : Int × (List Int)) => St.of [(0, .lst false (List.map (PV.int .i64) a0)), (1, .lst false (List.map (PV.int .i64) a1)), (2, .bool a2), (7, .sl 910007), (8, .int .i64 q.1)] [(910007, ⟨List.map (PV.int .i64) q.2, (List.map (PV.int .i64) q.2).length, true, 1, true⟩)]) hl12 (Wk.trans (wk_nil (t := 7) (l := 920007) (z := 1) rfl rfl) (wk_stP (fun l => if l = 910007 then 920007 else l) _ _ ⟨rfl, rfl, rfl, rfl, rfl, rfl, rfl, rfl, rfl, rfl, rfl, rfl, rfl, rfl, rfl, trivial⟩ ⟨rN, trivial⟩ rfl)) (fun q20 x19 h hx14 => ?_)
  obtain ⟨s17, s18⟩ := q20
  refine pw_seq <| sR <| y0 rfl (o_move (d := .int .i64 s17) rfl) <| y0 rfl (o_move (d := .lst false (List.map (PV.int .i64) a0)) rfl) <| y0 rfl (o_lnL (f := (PV.int .i64)) rfl Ty.e27) <| y0 rfl (o_cmp rfl rfl rfl) <| y_nil ?_
  refine pw_cond (decide (s17 < (a0.length : Int))) rfl (fun hc => ?_) (fun hc => ?_)
  ·have h := ifT h hc
   refine pw_skip ?_
   obtain ⟨κ24, hκ18, h⟩ := jnE h
   refine pw_jn0 (κ := κ24) (r := x19) (fun (j25 : List Int) => St.of [(0, .lst false (List.map (PV.int .i64) a0)), (1, .lst false (List.map (PV.int .i64) a1)), (2, .bool a2), (7, .sl 30), (8, .int .i64 s17)] [(30, ⟨List.map (PV.int .i64) j25, (List.map (PV.int .i64) j25).length, true, 1, true⟩)]) (fun j25 h => ?_) ?_
   ·subst hκ18
    refine sr1 (by kernel_rfl) <| y0 rfl (o_move (d := .int .i64 s17) rfl) <| y0 rfl (o_ari rfl rfl rfl) <| y0 rfl (o_assign (d := .int .i64 (w64 (s17 + 1))) rfl) <| y_nil ?_
    exact ⟨rfl, (w64 (s17 + 1), j25), (Option.some.inj h).symm, (Wk.trans (wk_frz _ [30]) (wk_stP (fun l => if l = 910007 then 30 else l) _ _ ⟨rfl, rfl, rfl, rfl, rfl, rfl, rfl, rfl, rfl, rfl, rfl, rfl, rfl, rfl, rfl, trivial⟩ ⟨rN, trivial⟩ rfl))⟩
   ·skip
    refine pw_block <| sR <| y0 rfl (o_move (d := .lst false (List.map (PV.int .i64) a1)) rfl) <| y0 rfl (o_move (d := .lst false (List.map (PV.int .i64) a0)) rfl) <| y0 rfl (o_move (d := .int .i64 s17) rfl) ?_
    obtain ⟨v26, hv19, h⟩ := bindE h
    refine y0 rfl (o_ixL (f := (PV.int .i64)) (cs := [.int .i64 v26]) hv19 rfl rfl Ty.e27 Ty.s3 rfl rfl) <| y0 rfl (o_loadRS rfl Ty.a3 rfl) ?_
    obtain ⟨v27, hv20, h⟩ := bindE h
    refine y0 rfl (o_call (ds := [.lst false (List.map (PV.int .i64) a1), .int .i64 v26]) rfl Ty.k95 rfl (r08_Has_ok hv20)) <| y0 rfl (o_move (d := .bool a2) rfl) <| y0 rfl (o_eqB rfl rfl Ty.u4 rfl) <| y_nil ?_
    refine pw_cond (v27 == a2) rfl (fun hc => ?_) (fun hc => ?_)
    ·have h := ifT h hc
     refine sr1 (by kernel_rfl) <| y0 rfl (o_move (d := .sl 910007) rfl) <| y0 rfl (o_move (d := .lst false (List.map (PV.int .i64) a0)) rfl) <| y0 rfl (o_move (d := .int .i64 s17) rfl) <| y0 rfl (o_ixL (f := (PV.int .i64)) (cs := [.int .i64 v26]) hv19 rfl rfl Ty.e27 Ty.s3 rfl rfl) <| y0 rfl (o_loadRS rfl Ty.a3 rfl) <| y0 rfl (o_bI (f := (PV.int .i64)) (l := [v26]) rfl Ty.e27 Ty.s3 Ty.z3 rfl rfl nl rfl rfl) ?_
     obtain ⟨v28, hv21, h⟩ := bindE h
     refine y_app rfl (o_apR (f := (PV.int .i64)) hv21 rfl rfl rfl rfl rfl rfl (.inl ⟨_, rfl, rfl⟩) Ty.e27 Ty.s3 Ty.b3 Ty.z3 rfl (fun _ => rfl)) rfl rfl rfl <| y0 rfl (o_assign (d := .sl 30) rfl) <| y_nil ?_
     exact ⟨rfl, v28, h, (Wk.trans (wk_frz _ [30]) (wk_st _ _ ⟨rfl, rfl, rfl, rfl, rfl, rfl, rfl, rfl, rfl, rfl, rfl, rfl, rfl, rfl, rfl, trivial⟩ ⟨rS, trivial⟩))⟩
    ·have h := ifF h hc
     refine pw_skip ?_
     exact ⟨rfl, s18, h, (Wk.trans (wk_frz _ [910007]) (wk_stP (fun l => if l = 30 then 910007 else l) _ _ ⟨rfl, rfl, rfl, rfl, rfl, rfl, rfl, rfl, rfl, rfl, rfl, rfl, rfl, rfl, rfl, trivial⟩ ⟨rN, trivial⟩ rfl))⟩
  ·have h := ifF h hc
   refine pw_exit <| thenQ_exit <| thenQ_exit <| blockQ_exit ?_
   have he := hx14 _ (Option.some.inj h).symm
   have h := hk13
   rw [← he] at h
   exact ⟨rfl, s18, h, (Wk.trans (wk_frz _ [910007]) (wk_st _ _ ⟨rfl, rfl, rfl, trivial⟩ ⟨rS, trivial⟩))⟩

theorem r03_Get_ok {a0 : r03_Slab} {a1 : Int} {r : Int × Int} (h : r03_Get a0 a1 = some r) : PCalls Try.prog 113 [r03_Slab.Pv a0, .int .i64 a1] (.tup [.int .i64 r.1, .int .i64 r.2]) := by
 unfold r03_Get at h
 refine pc_intro (N := 30) Try.func113 rfl rfl nl fun w0 imm0 => sR <| y1 rfl (o_box (d := r03_Slab.Pv a0) (z := 2) (cl := true) rfl rfl rfl rfl rfl) rfl <| y0 rfl (o_assign (d := .int .i64 0) rfl) <| y0 rfl (o_assign (d := .int .i64 0) rfl) <| y_nil <| sR <| y0 rfl (o_loadA (cs := r03_Slab.Pc a0) rfl rfl rfl Ty.a81 Ty.s81 nl rfl) ?_
 refine y0 rfl (o_move (d := .int .i64 a1) rfl) ?_
 obtain ⟨v1, hv1, h⟩ := bindE h
 refine y0 rfl (o_call (ds := [r03_Slab.Pv a0, .int .i64 a1]) rfl Ty.k61 rfl (r03_Find_ok hv1)) <| y0 rfl (o_move (d := .tup [.int .i64 v1.1, .int .i64 v1.2]) rfl) <| y0 rfl (o_extract rfl rfl) <| y0 rfl (o_extract rfl rfl) <| y0 rfl (o_assign (d := .int .i64 v1.1) rfl) <| y0 rfl (o_assign (d := .int .i64 v1.2) rfl) <| y_nil <| pw_seq ?_
 refine sR <| y0 rfl (o_move (d := .int .i64 v1.2) rfl) <| y0 rfl (o_cmp rfl rfl rfl) <| y_nil ?_
 refine pw_cond (v1.2 != 0) rfl (fun hc => ?_) (fun hc => ?_)
 ·have h := ifT h hc
  refine sR <| y0 rfl (o_move (d := .int .i64 v1.2) rfl) <| y0 rfl (o_assign (d := .int .i64 0) rfl) <| y0 rfl (o_assign (d := .int .i64 v1.2) rfl) <| y_nil <| pw_ret ?_
  obtain rfl := Option.some.inj h
  exact ⟨rfl, [_, _], ⟨rfl, ⟨rfl, trivial⟩⟩, rfl, io⟩
 ·have h := ifF h hc
  refine pw_skip <| pw_seq <| sR <| y0 rfl (o_fieldAddrP (k := 0) rfl Ty.f81_0 rfl) <| y0 rfl (o_loadS rfl rfl rfl Ty.a79 rfl) <| y0 rfl (o_move (d := .int .i64 v1.1) rfl) ?_
  obtain ⟨v2, hv2, h⟩ := bindE h
  refine y0 rfl (o_ixL (f := r03_Cell.Pv) (cs := r03_Cell.Pc v2) hv2 rfl rfl Ty.e79 Ty.s123 rfl rfl) <| y0 rfl (o_fieldAddrR rfl Ty.f123_0 rfl) <| y0 rfl (o_loadRS rfl Ty.a3 rfl) <| y0 rfl (o_cmp rfl rfl rfl) <| y_nil ?_
  refine pw_cond (v2.State == 2) rfl (fun hc => ?_) (fun hc => ?_)
  ·have h := ifT h hc
   refine sR <| y0 rfl (o_assign (d := .int .i64 0) rfl) <| y0 rfl (o_assign (d := .int .i64 3) rfl) <| y_nil <| pw_ret ?_
   obtain rfl := Option.some.inj h
   exact ⟨rfl, [_, _], ⟨rfl, ⟨rfl, trivial⟩⟩, rfl, io⟩
  ·have h := ifF h hc
   refine pw_skip <| sR <| y0 rfl (o_fieldAddrP (k := 0) rfl Ty.f81_0 rfl) <| y0 rfl (o_loadS rfl rfl rfl Ty.a79 rfl) <| y0 rfl (o_move (d := .int .i64 v1.1) rfl) <| y0 rfl (o_ixL (f := r03_Cell.Pv) (cs := r03_Cell.Pc v2) hv2 rfl rfl Ty.e79 Ty.s123 rfl rfl) <| y0 rfl (o_fieldAddrR rfl Ty.f123_2 rfl) <| y0 rfl (o_loadRS rfl Ty.a3 rfl) ?_
   refine y0 rfl (o_assign (d := .int .i64 v2.Val) rfl) <| y0 rfl (o_assign (d := .int .i64 0) rfl) <| y_nil <| pw_ret ?_
   obtain rfl := Option.some.inj h
   exact ⟨rfl, [_, _], ⟨rfl, ⟨rfl, trivial⟩⟩, rfl, io⟩

theorem r06_Get_ok {a0 : r06_Store} {a1 : Int} {r : r06_Obj × Int} (h : r06_Get a0 a1 = some r) : PCalls Try.prog 81 [r06_Store.Pv a0, .int .i64 a1] (.tup [r06_Obj.Pv r.1, .int .i64 r.2]) := by
 unfold r06_Get at h
 refine pc_intro (N := 25) Try.func81 rfl rfl nl fun w0 imm0 => sR <| y1 rfl (o_box (d := r06_Store.Pv a0) (z := 3) (cl := true) rfl rfl rfl rfl rfl) rfl <| y1 rfl (o_alloc (d := .agg [.int .i64 0, .int .i64 0, .int .i64 0, .int .i64 0, .bool false, .lst true (List.map (PV.int .i64) [])]) (z := 6) rfl Ty.z41 rfl rfl rfl) rfl <| y0 rfl (o_assign (d := .int .i64 0) rfl) <| y_nil <| sR <| y0 rfl (o_loadA (cs := r06_Store.Pc a0) rfl rfl rfl Ty.a37 Ty.s37 nl rfl) ?_
 obtain ⟨v1, hv1, h⟩ := bindE h
 refine yc rfl (o_callF (ls := []) (ds := [r06_Store.Pv a0]) rfl Ty.k62 rfl (r06_Plain_ok hv1)) <| y0 rfl (o_move (d := .int .i64 a1) rfl) ?_
 obtain ⟨v2, hv2, h⟩ := bindE h
 refine y0 rfl (o_call (ds := [r03_Slab.Pv v1, .int .i64 a1]) rfl Ty.k113 rfl (r03_Get_ok hv2)) <| y0 rfl (o_move (d := .tup [.int .i64 v2.1, .int .i64 v2.2]) rfl) <| y0 rfl (o_extract rfl rfl) <| y0 rfl (o_extract rfl rfl) <| y0 rfl (o_assign (d := .int .i64 v2.1) rfl) <| y0 rfl (o_assign (d := .int .i64 v2.2) rfl) <| y_nil <| pw_seq ?_
 refine sR <| y0 rfl (o_move (d := .int .i64 v2.2) rfl) <| y0 rfl (o_cmp rfl rfl rfl) <| y_nil ?_
 refine pw_cond (v2.2 != 0) rfl (fun hc => ?_) (fun hc => ?_)
 ·have h := ifT h hc
  refine sR <| y0 rfl (o_build (cs := [.int .i64 0, .int .i64 0, .int .i64 0, .int .i64 0, .bool false, .lst true (List.map (PV.int .i64) [])]) rfl Ty.p41 Ty.z41 rfl rfl rfl) <| y0 rfl (o_move (d := .int .i64 v2.2) rfl) <| y_sto (x' := .agg [.int .i64 0, .int .i64 0, .int .i64 0, .int .i64 0, .bool false, .lst true (List.map (PV.int .i64) [])]) (cl' := true) rfl rfl (.inl rfl) Ty.s41 <| y0 rfl (o_assign (d := .int .i64 v2.2) rfl) <| y_nil <| pw_ret ?_
  obtain rfl := Option.some.inj h
  exact ⟨rfl, [_, _], ⟨o_loadA rfl rfl rfl Ty.a41 Ty.s41 nl rfl, ⟨rfl, trivial⟩⟩, rfl, io⟩
 ·have h := ifF h hc
  refine pw_skip <| sR <| y0 rfl (o_fieldAddrP (k := 0) rfl Ty.f37_0 rfl) <| y0 rfl (o_loadS rfl rfl rfl Ty.a35 rfl) <| y0 rfl (o_move (d := .int .i64 v2.1) rfl) ?_
  obtain ⟨v3, hv3, h⟩ := bindE h
  refine y0 rfl (o_ixL (f := r06_Cell.Pv) (cs := r06_Cell.Pc v3) hv3 rfl rfl Ty.e35 Ty.s87 rfl rfl) <| y0 rfl (o_fieldAddrR rfl Ty.f87_2 rfl) <| y0 rfl (o_loadRA (cs := r06_Obj.Pc v3.Val) rfl Ty.a41 Ty.s41 nl rfl) <| y_sto (x' := r06_Obj.Pv v3.Val) (cl' := true) rfl rfl (.inr rfl) Ty.s41 <| y0 rfl (o_assign (d := .int .i64 0) rfl) <| y_nil <| pw_ret ?_
  obtain rfl := Option.some.inj h
  exact ⟨rfl, [_, _], ⟨o_loadA rfl rfl rfl Ty.a41 Ty.s41 nl rfl, ⟨rfl, trivial⟩⟩, rfl, io⟩

theorem r05_Names_ok {a0 : List Int} {r : List Int} (h : r05_Names a0 = some r) : PCalls Try.prog 82 [.lst false (List.map (PV.int .i64) a0)] (.lst false (List.map (PV.int .i64) r)) := by
 unfold r05_Names at h
 refine pc_intro (N := 25) Try.func82 rfl rfl nl fun w0 imm0 => sR <| y0 rfl (o_assign (d := .lst true (List.map (PV.int .i64) [])) rfl) <| y_nil <| sR <| y0 rfl (o_nslice rfl Ty.e27 Ty.s3) <| y0 rfl (o_assign (d := .lst true (List.map (PV.int .i64) [])) rfl) <| y_nil ?_
 obtain ⟨κ12, hκ9, h⟩ := jnE h
 refine pw_jn0 (κ := κ12) (r := r) (fun (j13 : List Int) => St.of [(3, .sl 910003)] [(910003, ⟨List.map (PV.int .i64) j13, (List.map (PV.int .i64) j13).length, true, 1, true⟩)]) (fun j13 h => ?_) ?_
 ·subst hκ9
  refine sR <| y0 rfl (o_move (d := .sl 910003) rfl) <| y0 rfl (o_assign (d := .sl 910003) rfl) <| y_nil <| pw_ret ?_
  obtain rfl := Option.some.inj h
  exact ⟨rfl, [_], ⟨rfl, trivial⟩, rfl, io⟩
 ·skip
  refine sR <| y0 rfl (o_assign (d := .int .i64 0) rfl) <| y_nil <| pw_block ?_
  obtain ⟨e14, hl10, hk11⟩ := bindE h
  refine pw_lp0 (fun (q : Int × (List Int)) => St.of [(0, .lst false (List.map (PV.int .i64) a0)), (3, .sl 910003), (4, .int .i64 q.1)] [(910003, ⟨List.map (PV.int .i64) q.2, (List.map (PV.int .i64) q.2).length, true, 1, true⟩)]) hl10 (Wk.trans (wk_nil (t := 3) (l := 920003) (z := 1) rfl rfl) (wk_stP (fun l => if l = 910003 then 920003 else l) _ _ ⟨rfl, rfl, rfl, rfl, rfl, rfl, rfl, rfl, rfl, trivial⟩ ⟨rN, trivial⟩ rfl)) (fun q18 x17 h hx12 => ?_)
  obtain ⟨s15, s16⟩ := q18
  refine pw_seq <| sR <| y0 rfl (o_move (d := .int .i64 s15) rfl) <| y0 rfl (o_move (d := .lst false (List.map (PV.int .i64) a0)) rfl) <| y0 rfl (o_lnL (f := (PV.int .i64)) rfl Ty.e27) <| y0 rfl (o_cmp rfl rfl rfl) <| y_nil ?_
  refine pw_cond (decide (s15 < (a0.length : Int))) rfl (fun hc => ?_) (fun hc => ?_)
  ·have h := ifT h hc
   refine pw_skip ?_
   obtain ⟨κ21, hκ15, h⟩ := jnE h
   refine pw_jn0 (κ := κ21) (r := x17) (fun (j22 : List Int) => St.of [(0, .lst false (List.map (PV.int .i64) a0)), (3, .sl 23), (4, .int .i64 s15)] [(23, ⟨List.map (PV.int .i64) j22, (List.map (PV.int .i64) j22).length, true, 1, true⟩)]) (fun j22 h => ?_) ?_
   ·subst hκ15
    refine sr1 (by kernel_rfl) <| y0 rfl (o_move (d := .int .i64 s15) rfl) <| y0 rfl (o_ari rfl rfl rfl) <| y0 rfl (o_assign (d := .int .i64 (w64 (s15 + 1))) rfl) <| y_nil ?_
    exact ⟨rfl, (w64 (s15 + 1), j22), (Option.some.inj h).symm, (Wk.trans (wk_frz _ [23]) (wk_stP (fun l => if l = 910003 then 23 else l) _ _ ⟨rfl, rfl, rfl, rfl, rfl, rfl, rfl, rfl, rfl, trivial⟩ ⟨rN, trivial⟩ rfl))⟩
   ·skip
    refine pw_block <| sR <| y0 rfl (o_move (d := .lst false (List.map (PV.int .i64) a0)) rfl) <| y0 rfl (o_move (d := .int .i64 s15) rfl) ?_
    obtain ⟨v23, hv16, h⟩ := bindE h
    refine y0 rfl (o_ixL (f := (PV.int .i64)) (cs := [.int .i64 v23]) hv16 rfl rfl Ty.e27 Ty.s3 rfl rfl) <| y0 rfl (o_loadRS rfl Ty.a3 rfl) <| y0 rfl (o_cmp rfl rfl rfl) <| y_nil ?_
    refine pw_cond (v23 != 0) rfl (fun hc => ?_) (fun hc => ?_)
    ·have h := ifT h hc
     refine sr1 (by kernel_rfl) <| y0 rfl (o_move (d := .sl 910003) rfl) <| y0 rfl (o_move (d := .lst false (List.map (PV.int .i64) a0)) rfl) <| y0 rfl (o_move (d := .int .i64 s15) rfl) <| y0 rfl (o_ixL (f := (PV.int .i64)) (cs := [.int .i64 v23]) hv16 rfl rfl Ty.e27 Ty.s3 rfl rfl) <| y0 rfl (o_loadRS rfl Ty.a3 rfl) <| y0 rfl (o_bI (f := (PV.int .i64)) (l := [v23]) rfl Ty.e27 Ty.s3 Ty.z3 rfl rfl nl rfl rfl) ?_
     obtain ⟨v24, hv17, h⟩ := bindE h
     refine y_app rfl (o_apR (f := (PV.int .i64)) hv17 rfl rfl rfl rfl rfl rfl (.inl ⟨_, rfl, rfl⟩) Ty.e27 Ty.s3 Ty.b3 Ty.z3 rfl (fun _ => rfl)) rfl rfl rfl <| y0 rfl (o_assign (d := .sl 23) rfl) <| y_nil ?_
     exact ⟨rfl, v24, h, (Wk.trans (wk_frz _ [23]) (wk_st _ _ ⟨rfl, rfl, rfl, rfl, rfl, rfl, rfl, rfl, rfl, trivial⟩ ⟨rS, trivial⟩))⟩
    ·have h := ifF h hc
     refine pw_skip ?_
     exact ⟨rfl, s16, h, (Wk.trans (wk_frz _ [910003]) (wk_stP (fun l => if l = 23 then 910003 else l) _ _ ⟨rfl, rfl, rfl, rfl, rfl, rfl, rfl, rfl, rfl, trivial⟩ ⟨rN, trivial⟩ rfl))⟩
  ·have h := ifF h hc
   refine pw_exit <| thenQ_exit <| thenQ_exit <| blockQ_exit ?_
   have he := hx12 _ (Option.some.inj h).symm
   have h := hk11
   rw [← he] at h
   exact ⟨rfl, s16, h, (Wk.trans (wk_frz _ [910003]) (wk_st _ _ ⟨rfl, rfl, rfl, trivial⟩ ⟨rS, trivial⟩))⟩

theorem r07_Out_ok {a0 : r06_Store} {a1 : Int} {r : List Int} (h : r07_Out a0 a1 = some r) : PCalls Try.prog 37 [r06_Store.Pv a0, .int .i64 a1] (.lst false (List.map (PV.int .i64) r)) := by
 unfold r07_Out at h
 refine pc_intro (N := 18) Try.func37 rfl rfl nl fun w0 imm0 => sR <| y1 rfl (o_box (d := r06_Store.Pv a0) (z := 3) (cl := true) rfl rfl rfl rfl rfl) rfl <| y0 rfl (o_assign (d := .lst true (List.map (PV.int .i64) [])) rfl) <| y_nil <| sR <| y0 rfl (o_loadA (cs := r06_Store.Pc a0) rfl rfl rfl Ty.a37 Ty.s37 nl rfl) <| y0 rfl (o_move (d := .int .i64 a1) rfl) ?_
 obtain ⟨v1, hv1, h⟩ := bindE h
 refine yc rfl (o_callF (ls := []) (ds := [r06_Store.Pv a0, .int .i64 a1]) rfl Ty.k81 rfl (r06_Get_ok hv1)) <| y0 rfl (o_move (d := .tup [r06_Obj.Pv v1.1, .int .i64 v1.2]) rfl) <| y0 rfl (o_extract rfl rfl) <| y0 rfl (o_extract rfl rfl) <| y1 rfl (o_alloc (d := .agg [.int .i64 0, .int .i64 0, .int .i64 0, .int .i64 0, .bool false, .lst true (List.map (PV.int .i64) [])]) (z := 6) rfl Ty.z41 rfl rfl rfl) rfl <| y_sto (x' := r06_Obj.Pv v1.1) (cl' := true) rfl rfl (.inr rfl) Ty.s41 <| y0 rfl (o_assign (d := .int .i64 v1.2) rfl) <| y_nil ?_
 refine pw_seq <| sR <| y0 rfl (o_move (d := .int .i64 v1.2) rfl) <| y0 rfl (o_cmp rfl rfl rfl) <| y_nil ?_
 refine pw_cond (v1.2 != 0) rfl (fun hc => ?_) (fun hc => ?_)
 ·have h := ifT h hc
  refine sR <| y0 rfl (o_assign (d := .lst true (List.map (PV.int .i64) [])) rfl) <| y_nil <| pw_ret ?_
  obtain rfl := Option.some.inj h
  exact ⟨rfl, [_], ⟨rfl, trivial⟩, rfl, io⟩
 ·have h := ifF h hc
  refine pw_skip <| sR <| y0 rfl (o_fieldAddrP (k := 5) rfl Ty.f41_5 rfl) <| y0 rfl (o_loadS rfl rfl rfl Ty.a27 rfl) ?_
  obtain ⟨v2, hv2, h⟩ := bindE h
  refine yc rfl (o_callF (ls := []) (ds := [.lst false (List.map (PV.int .i64) v1.1.Fields)]) rfl Ty.k82 rfl (r05_Names_ok hv2)) <| y0 rfl (o_assign (d := .lst false (List.map (PV.int .i64) v2)) rfl) <| y_nil <| pw_ret ?_
  obtain rfl := Option.some.inj h
  exact ⟨rfl, [_], ⟨rfl, trivial⟩, rfl, io⟩

theorem r08_From_ok {a0 : r06_Store} {a1 : List Int} {r : List Int} (h : r08_From a0 a1 = some r) : PCalls Try.prog 51 [r06_Store.Pv a0, .lst false (List.map (PV.int .i64) a1)] (.lst false (List.map (PV.int .i64) r)) := by
 unfold r08_From at h
 refine pc_intro (N := 42) Try.func51 rfl rfl nl fun w0 imm0 => sR <| y1 rfl (o_box (d := r06_Store.Pv a0) (z := 3) (cl := true) rfl rfl rfl rfl rfl) rfl <| y0 rfl (o_assign (d := .lst true (List.map (PV.int .i64) [])) rfl) <| y_nil <| sR <| y0 rfl (o_loadA (cs := r06_Store.Pc a0) rfl rfl rfl Ty.a37 Ty.s37 nl rfl) ?_
 obtain ⟨v1, hv1, h⟩ := bindE h
 refine yc rfl (o_callF (ls := []) (ds := [r06_Store.Pv a0]) rfl Ty.k46 rfl (r06_Live_ok hv1)) <| y0 rfl (o_assign (d := .lst false (List.map (PV.int .i64) v1)) rfl) <| y_nil <| sR <| y0 rfl (o_move (d := .lst false (List.map (PV.int .i64) v1)) rfl) <| y0 rfl (o_move (d := .lst false (List.map (PV.int .i64) a1)) rfl) ?_
 obtain ⟨v2, hv2, h⟩ := bindE h
 refine yc rfl (o_callF (ls := []) (ds := [.lst false (List.map (PV.int .i64) v1), .lst false (List.map (PV.int .i64) a1), .bool true]) rfl Ty.k92 rfl (r08_those_ok hv2)) <| y0 rfl (o_assign (d := .lst false (List.map (PV.int .i64) v2)) rfl) <| y_nil ?_
 obtain ⟨κ50, hκ37, h⟩ := jnE h
 refine pw_jn0 (κ := κ50) (r := r) (fun (j51 : List Int) => St.of [(6, .lst false (List.map (PV.int .i64) j51))] []) (fun j51 h => ?_) ?_
 ·subst hκ37
  refine sR <| y0 rfl (o_move (d := .lst false (List.map (PV.int .i64) j51)) rfl) <| y0 rfl (o_assign (d := .lst false (List.map (PV.int .i64) j51)) rfl) <| y_nil <| pw_ret ?_
  obtain rfl := Option.some.inj h
  exact ⟨rfl, [_], ⟨rfl, trivial⟩, rfl, io⟩
 ·skip
  refine sR <| y0 rfl (o_assign (d := .int .i64 0) rfl) <| y_nil <| pw_block ?_
  obtain ⟨e52, hl38, hk39⟩ := bindE h
  refine pw_lp0 (fun (q : (List Int) × Int) => St.of [(2, .ptr 2 0 0), (5, .lst false (List.map (PV.int .i64) v1)), (6, .lst false (List.map (PV.int .i64) q.1)), (7, .int .i64 q.2)] [(2, ⟨[r06_Store.Pv a0], 0, false, 3, true⟩)]) hl38 (wk_st _ _ ⟨rfl, rfl, rfl, rfl, rfl, rfl, rfl, rfl, rfl, rfl, rfl, rfl, trivial⟩ ⟨rS, trivial⟩) (fun q56 x55 h hx40 => ?_)
  obtain ⟨s53, s54⟩ := q56
  refine pw_seq <| sR <| y0 rfl (o_move (d := .int .i64 s54) rfl) <| y0 rfl (o_move (d := .lst false (List.map (PV.int .i64) v1)) rfl) <| y0 rfl (o_lnL (f := (PV.int .i64)) rfl Ty.e27) <| y0 rfl (o_cmp rfl rfl rfl) <| y_nil ?_
  refine pw_cond (decide (s54 < (v1.length : Int))) rfl (fun hc => ?_) (fun hc => ?_)
  ·have h := ifT h hc
   refine pw_skip ?_
   obtain ⟨κ77, hκ56, h⟩ := jnE h
   refine pw_jn0 (κ := κ77) (r := x55) (fun (j78 : List Int) => St.of [(2, .ptr 2 0 0), (5, .lst false (List.map (PV.int .i64) v1)), (6, .lst false (List.map (PV.int .i64) j78)), (7, .int .i64 s54)] [(2, ⟨[r06_Store.Pv a0], 0, false, 3, true⟩)]) (fun j78 h => ?_) ?_
   ·subst hκ56
    refine sr1 (by kernel_rfl) <| y0 rfl (o_move (d := .int .i64 s54) rfl) <| y0 rfl (o_ari rfl rfl rfl) <| y0 rfl (o_assign (d := .int .i64 (w64 (s54 + 1))) rfl) <| y_nil ?_
    exact ⟨rfl, (j78, w64 (s54 + 1)), (Option.some.inj h).symm, (wk_st _ _ ⟨rfl, rfl, rfl, rfl, rfl, rfl, rfl, rfl, rfl, rfl, rfl, rfl, trivial⟩ ⟨rS, trivial⟩)⟩
   ·skip
    refine pw_block <| sR <| y0 rfl (o_nslice rfl Ty.e27 Ty.s3) <| y0 rfl (o_move (d := .lst false (List.map (PV.int .i64) s53)) rfl) ?_
    obtain ⟨v79, hv57, h⟩ := bindE h
    refine y1 rfl (o_apT (f := (PV.int .i64)) hv57 rfl rfl (.inl ⟨_, rfl, rfl⟩) Ty.e27 Ty.s3 Ty.b3 Ty.z3 rfl (fun _ => rfl)) rfl <| y0 rfl (o_assign (d := .sl 23) rfl) <| y_nil ?_
    obtain ⟨κ88, hκ64, h⟩ := jnE h
    refine pw_jn0 (κ := κ88) (r := x55) (fun (j89 : List Int) => St.of [(2, .ptr 2 0 0), (5, .lst false (List.map (PV.int .i64) v1)), (7, .int .i64 s54), (8, .sl 23)] [(23, ⟨List.map (PV.int .i64) j89, (List.map (PV.int .i64) j89).length, true, 1, true⟩), (2, ⟨[r06_Store.Pv a0], 0, false, 3, true⟩)]) (fun j89 h => ?_) ?_
    ·subst hκ64
     refine sr1 (by kernel_rfl) <| y0 rfl (o_move (d := .lst false (List.map (PV.int .i64) v1)) rfl) <| y0 rfl (o_move (d := .sl 23) rfl) ?_
     obtain ⟨v90, hv65, h⟩ := bindE h
     refine ycL rfl (o_callF (ls := [23]) (ds := [.lst false (List.map (PV.int .i64) v1), .sl 23, .bool true]) rfl Ty.k92 rfl (r08_those_ok hv65)) rfl <| y0 rfl (o_assign (d := .lst false (List.map (PV.int .i64) v90)) rfl) <| y_nil ?_
     exact ⟨rfl, v90, h, (wk_st _ _ ⟨rfl, rfl, rfl, rfl, rfl, rfl, rfl, rfl, rfl, rfl, rfl, rfl, trivial⟩ ⟨rS, trivial⟩)⟩
    ·skip
     refine sR <| y0 rfl (o_assign (d := .int .i64 0) rfl) <| y_nil <| pw_block ?_
     obtain ⟨e91, hl66, hk67⟩ := bindE h
     refine pw_lp0 (fun (q : Int × (List Int)) => St.of [(2, .ptr 2 0 0), (5, .lst false (List.map (PV.int .i64) v1)), (6, .lst false (List.map (PV.int .i64) s53)), (7, .int .i64 s54), (8, .sl 23), (9, .int .i64 q.1)] [(23, ⟨List.map (PV.int .i64) q.2, (List.map (PV.int .i64) q.2).length, true, 1, true⟩), (2, ⟨[r06_Store.Pv a0], 0, false, 3, true⟩)]) hl66 (Wk.trans (wk_frz _ [23]) (wk_st _ _ ⟨rfl, rfl, rfl, rfl, rfl, rfl, rfl, rfl, rfl, rfl, rfl, rfl, rfl, rfl, rfl, rfl, rfl, rfl, trivial⟩ ⟨rS, rS, trivial⟩)) (fun q95 x94 h hx68 => ?_)
     obtain ⟨s92, s93⟩ := q95
     refine pw_seq <| sR <| y0 rfl (o_move (d := .int .i64 s92) rfl) <| y0 rfl (o_move (d := .lst false (List.map (PV.int .i64) s53)) rfl) <| y0 rfl (o_lnL (f := (PV.int .i64)) rfl Ty.e27) <| y0 rfl (o_cmp rfl rfl rfl) <| y_nil ?_
     refine pw_cond (decide (s92 < (s53.length : Int))) rfl (fun hc => ?_) (fun hc => ?_)
     ·have h := ifT h hc
      refine pw_skip <| pw_seq <| pw_block <| pw_drw [] Ty.mix (by kernel_rfl) (by kernel_rfl) <| d7 rfl (fun _ hN => o_move (d := .sl 23) rfl) rfl <| d0 rfl (o_loadA (cs := r06_Store.Pc a0) rfl rfl rfl Ty.a37 Ty.s37 nl rfl) rfl <| d7 rfl (fun _ hN => o_move (d := .lst false (List.map (PV.int .i64) s53)) rfl) rfl <| d7 rfl (fun _ hN => o_move (d := .int .i64 s92) rfl) rfl ?_
      obtain ⟨v96, hv69, h⟩ := bindE h
      refine d0 rfl (o_ixL (f := (PV.int .i64)) (cs := [.int .i64 v96]) hv69 rfl rfl Ty.e27 Ty.s3 rfl rfl) rfl <| d0 rfl (o_loadRS rfl Ty.a3 rfl) rfl ?_
      obtain ⟨v97, hv70, h⟩ := bindE h
      refine d2f rfl (o_callF (ls := []) (ds := [r06_Store.Pv a0, .int .i64 v96]) rfl Ty.k37 rfl (r07_Out_ok hv70)) rfl ?_
      obtain ⟨v98, hv71, h⟩ := bindE h
      refine d3a rfl (o_apR (f := (PV.int .i64)) hv71 rfl rfl rfl rfl rfl rfl (.inl ⟨_, rfl, rfl⟩) Ty.e27 Ty.s3 Ty.b3 Ty.z3 rfl (fun _ => rfl)) rfl rfl rfl rfl rfl <| d7 rfl (fun _ hN => o_assign (d := .sl 37) rfl) rfl <| d_nil <| sr1 (by kernel_rfl) <| y0 rfl (o_move (d := .int .i64 s92) rfl) <| y0 rfl (o_ari rfl rfl rfl) <| y0 rfl (o_assign (d := .int .i64 (w64 (s92 + 1))) rfl) <| y_nil ?_
      exact ⟨rfl, (w64 (s92 + 1), v98), (Option.some.inj h).symm, (Wk.trans (wk_frz _ [37]) (wk_stP (fun l => if l = 23 then 37 else l) _ _ ⟨rfl, rfl, rfl, rfl, rfl, rfl, rfl, rfl, rfl, rfl, rfl, rfl, rfl, rfl, rfl, rfl, rfl, rfl, trivial⟩ ⟨rN, rN, trivial⟩ rfl))⟩
     ·have h := ifF h hc
      refine pw_exit <| thenQ_exit <| thenQ_exit <| blockQ_exit ?_
      have he := hx68 _ (Option.some.inj h).symm
      have h := hk67
      rw [← he] at h
      exact ⟨rfl, s93, h, (Wk.trans (wk_frz _ [23]) (wk_st _ _ ⟨rfl, rfl, rfl, rfl, rfl, rfl, rfl, rfl, rfl, rfl, rfl, rfl, trivial⟩ ⟨rS, rS, trivial⟩))⟩
  ·have h := ifF h hc
   refine pw_exit <| thenQ_exit <| thenQ_exit <| blockQ_exit ?_
   have he := hx40 _ (Option.some.inj h).symm
   have h := hk39
   rw [← he] at h
   exact ⟨rfl, s53, h, (wk_st _ _ ⟨rfl, rfl, rfl, trivial⟩ trivial)⟩

theorem r02_Ints_ok {a0 : List Int} {a1 : List Int} {r : Bool} (h : r02_Ints a0 a1 = some r) : PCalls Try.prog 32 [.lst false (List.map (PV.int .i64) a0), .lst false (List.map (PV.int .i64) a1)] (.bool r) := by
 unfold r02_Ints at h
 refine pc_intro (N := 26) Try.func32 rfl rfl nl fun w0 imm0 => sR <| y0 rfl (o_assign (d := .bool false) rfl) <| y_nil <| pw_seq <| sR <| y0 rfl (o_move (d := .lst false (List.map (PV.int .i64) a0)) rfl) <| y0 rfl (o_lnL (f := (PV.int .i64)) rfl Ty.e27) ?_
 refine y0 rfl (o_move (d := .lst false (List.map (PV.int .i64) a1)) rfl) <| y0 rfl (o_lnL (f := (PV.int .i64)) rfl Ty.e27) <| y0 rfl (o_cmp rfl rfl rfl) <| y_nil ?_
 refine pw_cond ((a0.length : Int) != (a1.length : Int)) rfl (fun hc => ?_) (fun hc => ?_)
 ·have h := ifT h hc
  refine sR <| y0 rfl (o_assign (d := .bool false) rfl) <| y_nil <| pw_ret ?_
  obtain rfl := Option.some.inj h
  exact ⟨rfl, [_], ⟨rfl, trivial⟩, rfl, io⟩
 ·have h := ifF h hc
  refine pw_skip ?_
  obtain ⟨κ6, hκ6, h⟩ := jnE h
  refine pw_jn0 (κ := κ6) (r := r) (fun (_ : Unit) => St.of [] []) (fun q7 h => ?_) ?_
  ·subst hκ6
   refine sR <| y0 rfl (o_assign (d := .bool true) rfl) <| y_nil <| pw_ret ?_
   obtain rfl := Option.some.inj h
   exact ⟨rfl, [_], ⟨rfl, trivial⟩, rfl, io⟩
  ·skip
   refine sR <| y0 rfl (o_assign (d := .int .i64 0) rfl) <| y_nil <| pw_block ?_
   obtain ⟨e8, hl7, hk8⟩ := bindE h
   refine pw_lp0 (fun (s9 : Int) => St.of [(0, .lst false (List.map (PV.int .i64) a0)), (1, .lst false (List.map (PV.int .i64) a1)), (5, .int .i64 s9)] []) hl7 (wk_st _ _ ⟨rfl, rfl, rfl, rfl, rfl, rfl, rfl, rfl, rfl, trivial⟩ trivial) (fun s9 x10 h hx9 => ?_)
   refine pw_seq <| sR <| y0 rfl (o_move (d := .int .i64 s9) rfl) <| y0 rfl (o_move (d := .lst false (List.map (PV.int .i64) a0)) rfl) <| y0 rfl (o_lnL (f := (PV.int .i64)) rfl Ty.e27) <| y0 rfl (o_cmp rfl rfl rfl) <| y_nil ?_
   refine pw_cond (decide (s9 < (a0.length : Int))) rfl (fun hc => ?_) (fun hc => ?_)
   ·have h := ifT h hc
    refine pw_skip <| pw_seq <| pw_block <| dr [] Ty.mix (by kernel_rfl) (by kernel_rfl) <| d7 rfl (fun _ hN => o_move (d := .lst false (List.map (PV.int .i64) a0)) rfl) rfl <| d7 rfl (fun _ hN => o_move (d := .int .i64 s9) rfl) rfl ?_
    obtain ⟨v11, hv10, h⟩ := bindE h
    refine d0 rfl (o_ixL (f := (PV.int .i64)) (cs := [.int .i64 v11]) hv10 rfl rfl Ty.e27 Ty.s3 rfl rfl) rfl <| d0 rfl (o_loadRS rfl Ty.a3 rfl) rfl <| d7 rfl (fun _ hN => o_move (d := .lst false (List.map (PV.int .i64) a1)) rfl) rfl <| d7 rfl (fun _ hN => o_move (d := .int .i64 s9) rfl) rfl ?_
    obtain ⟨v12, hv11, h⟩ := bindE h
    refine d0 rfl (o_ixL (f := (PV.int .i64)) (cs := [.int .i64 v12]) hv11 rfl rfl Ty.e27 Ty.s3 rfl rfl) rfl <| d0 rfl (o_loadRS rfl Ty.a3 rfl) rfl <| d7 rfl (fun _ hN => o_cmp rfl rfl rfl) rfl <| d_nil ?_
    refine pw_cond (v11 != v12) rfl (fun hc => ?_) (fun hc => ?_)
    ·have h := ifT h hc
     refine sR <| y0 rfl (o_assign (d := .bool false) rfl) <| y_nil <| pw_ret ?_
     have he := hx9 _ (Option.some.inj h).symm
     have h := hk8
     rw [← he] at h
     obtain rfl := Option.some.inj h
     exact ⟨rfl, [_], ⟨rfl, trivial⟩, rfl, io⟩
    ·have h := ifF h hc
     refine pw_skip <| sr1 (by kernel_rfl) <| y0 rfl (o_move (d := .int .i64 s9) rfl) <| y0 rfl (o_ari rfl rfl rfl) <| y0 rfl (o_assign (d := .int .i64 (w64 (s9 + 1))) rfl) <| y_nil ?_
     exact ⟨rfl, w64 (s9 + 1), (Option.some.inj h).symm, (wk_st _ _ ⟨rfl, rfl, rfl, rfl, rfl, rfl, rfl, rfl, rfl, trivial⟩ trivial)⟩
   ·have h := ifF h hc
    refine pw_exit <| thenQ_exit <| thenQ_exit <| blockQ_exit ?_
    have he := hx9 _ (Option.some.inj h).symm
    have h := hk8
    rw [← he] at h
    exact ⟨rfl, (), h, (wk_st _ _ trivial trivial)⟩

theorem r08_Lost_ok {a0 : r06_Store} {a1 : List Int} {r : List Int} (h : r08_Lost a0 a1 = some r) : PCalls Try.prog 53 [r06_Store.Pv a0, .lst false (List.map (PV.int .i64) a1)] (.lst false (List.map (PV.int .i64) r)) := by
 unfold r08_Lost at h
 refine pc_intro (N := 11) Try.func53 rfl rfl nl fun w0 imm0 => sR <| y1 rfl (o_box (d := r06_Store.Pv a0) (z := 3) (cl := true) rfl rfl rfl rfl rfl) rfl <| y0 rfl (o_assign (d := .lst true (List.map (PV.int .i64) [])) rfl) <| y_nil <| dr [] Ty.mix (by kernel_rfl) (by kernel_rfl) <| d0 rfl (o_loadA (cs := r06_Store.Pc a0) rfl rfl rfl Ty.a37 Ty.s37 nl rfl) rfl ?_
 obtain ⟨v1, hv1, h⟩ := bindE h
 refine d2f rfl (o_callF (ls := []) (ds := [r06_Store.Pv a0]) rfl Ty.k46 rfl (r06_Live_ok hv1)) rfl <| d0 rfl (o_loadA (cs := r06_Store.Pc a0) rfl rfl rfl Ty.a37 Ty.s37 nl rfl) rfl <| d7 rfl (fun _ hN => o_move (d := .lst false (List.map (PV.int .i64) a1)) rfl) rfl ?_
 obtain ⟨v2, hv2, h⟩ := bindE h
 refine d2f rfl (o_callF (ls := []) (ds := [r06_Store.Pv a0, .lst false (List.map (PV.int .i64) a1)]) rfl Ty.k51 rfl (r08_From_ok hv2)) rfl ?_
 obtain ⟨v3, hv3, h⟩ := bindE h
 refine d2f rfl (o_callF (ls := []) (ds := [.lst false (List.map (PV.int .i64) v1), .lst false (List.map (PV.int .i64) v2), .bool false]) rfl Ty.k92 rfl (r08_those_ok hv3)) rfl <| d7 rfl (fun _ hN => o_assign (d := .lst false (List.map (PV.int .i64) v3)) rfl) rfl <| d_nil <| pw_ret ?_
 obtain rfl := Option.some.inj h
 exact ⟨rfl, [_], ⟨rfl, trivial⟩, rfl, io⟩

theorem r08_Is_ok {a0 : r06_Store} {a1 : Int} {a2 : Int} {r : Bool} (h : r08_Is a0 a1 a2 = some r) : PCalls Try.prog 55 [r06_Store.Pv a0, .int .i64 a1, .int .i64 a2] (.bool r) := by
 unfold r08_Is at h
 refine pc_intro (N := 13) Try.func55 rfl rfl nl fun w0 imm0 => sR <| y1 rfl (o_box (d := r06_Store.Pv a0) (z := 3) (cl := true) rfl rfl rfl rfl rfl) rfl <| y0 rfl (o_assign (d := .bool false) rfl) <| y_nil <| sR <| y0 rfl (o_loadA (cs := r06_Store.Pc a0) rfl rfl rfl Ty.a37 Ty.s37 nl rfl) <| y0 rfl (o_move (d := .int .i64 a1) rfl) ?_
 refine y0 rfl (o_bI (f := (PV.int .i64)) (l := [a1]) rfl Ty.e27 Ty.s3 Ty.z3 rfl rfl nl rfl rfl) ?_
 obtain ⟨v1, hv1, h⟩ := bindE h
 refine yc rfl (o_callF (ls := []) (ds := [r06_Store.Pv a0, .lst true (List.map (PV.int .i64) [a1])]) rfl Ty.k51 rfl (r08_From_ok hv1)) <| y0 rfl (o_move (d := .int .i64 a2) rfl) ?_
 obtain ⟨v2, hv2, h⟩ := bindE h
 refine y0 rfl (o_call (ds := [.lst false (List.map (PV.int .i64) v1), .int .i64 a2]) rfl Ty.k95 rfl (r08_Has_ok hv2)) <| y0 rfl (o_assign (d := .bool v2) rfl) <| y_nil <| pw_ret ?_
 obtain rfl := Option.some.inj h
 exact ⟨rfl, [_], ⟨rfl, trivial⟩, rfl, io⟩

theorem r08_Closed_ok {a0 : r06_Store} {a1 : List Int} {r : Bool} (h : r08_Closed a0 a1 = some r) : PCalls Try.prog 57 [r06_Store.Pv a0, .lst false (List.map (PV.int .i64) a1)] (.bool r) := by
 unfold r08_Closed at h
 refine pc_intro (N := 42) Try.func57 rfl rfl nl fun w0 imm0 => sR <| y1 rfl (o_box (d := r06_Store.Pv a0) (z := 3) (cl := true) rfl rfl rfl rfl rfl) rfl <| y0 rfl (o_assign (d := .bool false) rfl) <| y_nil <| sR <| y0 rfl (o_loadA (cs := r06_Store.Pc a0) rfl rfl rfl Ty.a37 Ty.s37 nl rfl) ?_
 obtain ⟨v1, hv1, h⟩ := bindE h
 refine yc rfl (o_callF (ls := []) (ds := [r06_Store.Pv a0]) rfl Ty.k46 rfl (r06_Live_ok hv1)) <| y0 rfl (o_assign (d := .lst false (List.map (PV.int .i64) v1)) rfl) <| y_nil <| sR <| y0 rfl (o_move (d := .lst false (List.map (PV.int .i64) v1)) rfl) <| y0 rfl (o_move (d := .lst false (List.map (PV.int .i64) a1)) rfl) ?_
 obtain ⟨v2, hv2, h⟩ := bindE h
 refine yc rfl (o_callF (ls := []) (ds := [.lst false (List.map (PV.int .i64) v1), .lst false (List.map (PV.int .i64) a1), .bool true]) rfl Ty.k92 rfl (r08_those_ok hv2)) <| y0 rfl (o_assign (d := .lst false (List.map (PV.int .i64) v2)) rfl) <| y_nil ?_
 obtain ⟨κ24, hκ23, h⟩ := jnE h
 refine pw_jn0 (κ := κ24) (r := r) (fun (_ : Unit) => St.of [] []) (fun q25 h => ?_) ?_
 ·subst hκ23
  refine sR <| y0 rfl (o_assign (d := .bool true) rfl) <| y_nil <| pw_ret ?_
  obtain rfl := Option.some.inj h
  exact ⟨rfl, [_], ⟨rfl, trivial⟩, rfl, io⟩
 ·skip
  refine sR <| y0 rfl (o_assign (d := .int .i64 0) rfl) <| y_nil <| pw_block ?_
  obtain ⟨e26, hl24, hk25⟩ := bindE h
  refine pw_lp0 (fun (s27 : Int) => St.of [(1, .lst false (List.map (PV.int .i64) a1)), (2, .ptr 2 0 0), (5, .lst false (List.map (PV.int .i64) v1)), (6, .lst false (List.map (PV.int .i64) v2)), (7, .int .i64 s27)] [(2, ⟨[r06_Store.Pv a0], 0, false, 3, true⟩)]) hl24 (wk_st _ _ ⟨rfl, rfl, rfl, rfl, rfl, rfl, rfl, rfl, rfl, rfl, rfl, rfl, rfl, rfl, rfl, trivial⟩ ⟨rS, trivial⟩) (fun s27 x28 h hx26 => ?_)
  refine pw_seq <| sR <| y0 rfl (o_move (d := .int .i64 s27) rfl) <| y0 rfl (o_move (d := .lst false (List.map (PV.int .i64) v2)) rfl) <| y0 rfl (o_lnL (f := (PV.int .i64)) rfl Ty.e27) <| y0 rfl (o_cmp rfl rfl rfl) <| y_nil ?_
  refine pw_cond (decide (s27 < (v2.length : Int))) rfl (fun hc => ?_) (fun hc => ?_)
  ·have h := ifT h hc
   refine pw_skip ?_
   obtain ⟨κ37, hκ35, h⟩ := jnE h
   refine pw_jn0 (κ := κ37) (r := x28) (fun (_ : Unit) => St.of [(1, .lst false (List.map (PV.int .i64) a1)), (2, .ptr 2 0 0), (5, .lst false (List.map (PV.int .i64) v1)), (6, .lst false (List.map (PV.int .i64) v2)), (7, .int .i64 s27)] [(2, ⟨[r06_Store.Pv a0], 0, false, 3, true⟩)]) (fun q38 h => ?_) ?_
   ·subst hκ35
    refine sr1 (by kernel_rfl) <| y0 rfl (o_move (d := .int .i64 s27) rfl) <| y0 rfl (o_ari rfl rfl rfl) <| y0 rfl (o_assign (d := .int .i64 (w64 (s27 + 1))) rfl) <| y_nil ?_
    exact ⟨rfl, w64 (s27 + 1), (Option.some.inj h).symm, (wk_st _ _ ⟨rfl, rfl, rfl, rfl, rfl, rfl, rfl, rfl, rfl, rfl, rfl, rfl, rfl, rfl, rfl, trivial⟩ ⟨rS, trivial⟩)⟩
   ·skip
    refine pw_block <| dr [] Ty.mix (by kernel_rfl) (by kernel_rfl) <| d7 rfl (fun _ hN => o_move (d := .lst false (List.map (PV.int .i64) v1)) rfl) rfl <| d0 rfl (o_loadA (cs := r06_Store.Pc a0) rfl rfl rfl Ty.a37 Ty.s37 nl rfl) rfl <| d7 rfl (fun _ hN => o_move (d := .lst false (List.map (PV.int .i64) v2)) rfl) rfl <| d7 rfl (fun _ hN => o_move (d := .int .i64 s27) rfl) rfl ?_
    obtain ⟨v39, hv36, h⟩ := bindE h
    refine d0 rfl (o_ixL (f := (PV.int .i64)) (cs := [.int .i64 v39]) hv36 rfl rfl Ty.e27 Ty.s3 rfl rfl) rfl <| d0 rfl (o_loadRS rfl Ty.a3 rfl) rfl ?_
    obtain ⟨v40, hv37, h⟩ := bindE h
    refine d2f rfl (o_callF (ls := []) (ds := [r06_Store.Pv a0, .int .i64 v39]) rfl Ty.k37 rfl (r07_Out_ok hv37)) rfl ?_
    obtain ⟨v41, hv38, h⟩ := bindE h
    refine d2f rfl (o_callF (ls := []) (ds := [.lst false (List.map (PV.int .i64) v1), .lst false (List.map (PV.int .i64) v40), .bool true]) rfl Ty.k92 rfl (r08_those_ok hv38)) rfl <| d7 rfl (fun _ hN => o_assign (d := .lst false (List.map (PV.int .i64) v41)) rfl) rfl <| d_nil <| sR <| y0 rfl (o_assign (d := .int .i64 0) rfl) <| y_nil <| pw_block ?_
    obtain ⟨e42, hl39, hk40⟩ := bindE h
    refine pw_lp0 (fun (s43 : Int) => St.of [(1, .lst false (List.map (PV.int .i64) a1)), (2, .ptr 2 0 0), (5, .lst false (List.map (PV.int .i64) v1)), (6, .lst false (List.map (PV.int .i64) v2)), (7, .int .i64 s27), (8, .lst false (List.map (PV.int .i64) v41)), (9, .int .i64 s43)] [(2, ⟨[r06_Store.Pv a0], 0, false, 3, true⟩)]) hl39 (wk_st _ _ ⟨rfl, rfl, rfl, rfl, rfl, rfl, rfl, rfl, rfl, rfl, rfl, rfl, rfl, rfl, rfl, rfl, rfl, rfl, rfl, rfl, rfl, trivial⟩ ⟨rS, trivial⟩) (fun s43 x44 h hx41 => ?_)
    refine pw_seq <| sR <| y0 rfl (o_move (d := .int .i64 s43) rfl) <| y0 rfl (o_move (d := .lst false (List.map (PV.int .i64) v41)) rfl) <| y0 rfl (o_lnL (f := (PV.int .i64)) rfl Ty.e27) <| y0 rfl (o_cmp rfl rfl rfl) <| y_nil ?_
    refine pw_cond (decide (s43 < (v41.length : Int))) rfl (fun hc => ?_) (fun hc => ?_)
    ·have h := ifT h hc
     refine pw_skip <| pw_seq <| pw_block <| sR <| y0 rfl (o_move (d := .lst false (List.map (PV.int .i64) a1)) rfl) <| y0 rfl (o_move (d := .lst false (List.map (PV.int .i64) v41)) rfl) <| y0 rfl (o_move (d := .int .i64 s43) rfl) ?_
     obtain ⟨v45, hv42, h⟩ := bindE h
     refine y0 rfl (o_ixL (f := (PV.int .i64)) (cs := [.int .i64 v45]) hv42 rfl rfl Ty.e27 Ty.s3 rfl rfl) <| y0 rfl (o_loadRS rfl Ty.a3 rfl) ?_
     obtain ⟨v46, hv43, h⟩ := bindE h
     refine y0 rfl (o_call (ds := [.lst false (List.map (PV.int .i64) a1), .int .i64 v45]) rfl Ty.k95 rfl (r08_Has_ok hv43)) <| y0 rfl (o_not rfl rfl) <| y_nil ?_
     refine pw_cond (!v46) rfl (fun hc => ?_) (fun hc => ?_)
     ·have h := ifT h hc
      refine sR <| y0 rfl (o_assign (d := .bool false) rfl) <| y_nil <| pw_ret ?_
      have he := hx41 _ (Option.some.inj h).symm
      have h := hk40
      rw [← he] at h
      have he := hx26 _ (Option.some.inj h).symm
      have h := hk25
      rw [← he] at h
      obtain rfl := Option.some.inj h
      exact ⟨rfl, [_], ⟨rfl, trivial⟩, rfl, io⟩
     ·have h := ifF h hc
      refine pw_skip <| sr1 (by kernel_rfl) <| y0 rfl (o_move (d := .int .i64 s43) rfl) <| y0 rfl (o_ari rfl rfl rfl) <| y0 rfl (o_assign (d := .int .i64 (w64 (s43 + 1))) rfl) <| y_nil ?_
      exact ⟨rfl, w64 (s43 + 1), (Option.some.inj h).symm, (wk_st _ _ ⟨rfl, rfl, rfl, rfl, rfl, rfl, rfl, rfl, rfl, rfl, rfl, rfl, rfl, rfl, rfl, rfl, rfl, rfl, rfl, rfl, rfl, trivial⟩ ⟨rS, trivial⟩)⟩
    ·have h := ifF h hc
     refine pw_exit <| thenQ_exit <| thenQ_exit <| blockQ_exit ?_
     have he := hx41 _ (Option.some.inj h).symm
     have h := hk40
     rw [← he] at h
     exact ⟨rfl, (), h, (wk_st _ _ ⟨rfl, rfl, rfl, rfl, rfl, rfl, rfl, rfl, rfl, rfl, rfl, rfl, rfl, rfl, rfl, trivial⟩ ⟨rS, trivial⟩)⟩
  ·have h := ifF h hc
   refine pw_exit <| thenQ_exit <| thenQ_exit <| blockQ_exit ?_
   have he := hx26 _ (Option.some.inj h).symm
   have h := hk25
   rw [← he] at h
   exact ⟨rfl, (), h, (wk_st _ _ trivial trivial)⟩

theorem w08_ReachTells_ok {a0 : store_Store} {a1 : List Int} {a2 : Int} {a3 : Int} {r : Bool} (h : w08_ReachTells a0 a1 a2 a3 = some r) : PCalls Try.prog 11 [store_Store.Pv a0, .lst false (List.map (PV.int .i64) a1), .int .i64 a2, .int .i64 a3] (.bool r) := by
 unfold w08_ReachTells at h
 refine pc_intro (N := 61) Try.func11 rfl rfl nl fun w0 imm0 => sR <| y1 rfl (o_box (d := store_Store.Pv a0) (z := 3) (cl := true) rfl rfl rfl rfl rfl) rfl <| y0 rfl (o_assign (d := .bool false) rfl) <| y_nil <| pw_seq <| sR <| y0 rfl (o_loadA (cs := store_Store.Pc a0) rfl rfl rfl Ty.a26 Ty.s26 nl rfl) ?_
 obtain ⟨v1, hv1, h⟩ := bindE h
 refine y0 rfl (o_call (ds := [store_Store.Pv a0]) rfl Ty.k47 rfl (w08_right_ok hv1)) <| y0 rfl (o_not rfl rfl) <| y0 rfl (o_move (d := .bool (!v1)) rfl) <| y_if (g := ((!v1) == false)) rfl (fun hg => o_move (d := .lst false (List.map (PV.int .i64) a1)) rfl) <| y_if (g := ((!v1) == false)) rfl (fun hg => o_lnL (f := (PV.int .i64)) (ct hg) Ty.e27) <| y_if (g := ((!v1) == false)) rfl (fun hg => o_cmp (ct hg) rfl rfl) <| y0 rfl (pk_or rfl rfl rfl (fun q => eqF q)) <| y0 rfl (o_move (d := .bool ((!v1) || (decide ((a1.length : Int) > 50)))) rfl) ?_
 obtain ⟨v2, hv2, h⟩ := bindE h
 refine y_if (g := (((!v1) || (decide ((a1.length : Int) > 50))) == false)) rfl (fun hg => o_call (ds := []) rfl Ty.k48 rfl (w08_shown_ok (onlyE hv2 hg))) <| y_if (g := (((!v1) || (decide ((a1.length : Int) > 50))) == false)) rfl (fun hg => o_not (ct hg) rfl) <| y0 rfl (pk_or rfl rfl rfl (fun q => eqF q)) <| y_nil ?_
 refine pw_cond (((!v1) || (decide ((a1.length : Int) > 50))) || (!v2)) rfl (fun hc => ?_) (fun hc => ?_)
 ·have h := ifT h hc
  refine sR ?_
  obtain ⟨v3, hv3, h⟩ := bindE h
  refine y0 rfl (o_call (ds := []) rfl Ty.k48 rfl (w08_shown_ok hv3)) <| y0 rfl (o_assign (d := .bool v3) rfl) <| y_nil <| pw_ret ?_
  obtain rfl := Option.some.inj h
  exact ⟨rfl, [_], ⟨rfl, trivial⟩, rfl, io⟩
 ·have h := ifF h hc
  refine pw_skip <| sR <| y0 rfl (o_loadA (cs := store_Store.Pc a0) rfl rfl rfl Ty.a26 Ty.s26 nl rfl) ?_
  obtain ⟨v4, hv4, h⟩ := bindE h
  refine yc rfl (o_callF (ls := []) (ds := [store_Store.Pv a0]) rfl Ty.k49 rfl (w08_its_ok hv4)) <| y1 rfl (o_alloc (d := .agg [.lst true (List.map r06_Cell.Pv []), .int .i64 0, .int .i64 0]) (z := 3) rfl Ty.z37 rfl rfl rfl) rfl <| y_sto (x' := r06_Store.Pv v4) (cl' := true) rfl rfl (.inr rfl) Ty.s37 <| y_nil <| dr [] Ty.mix (by kernel_rfl) (by kernel_rfl) <| d0 rfl (o_loadA (cs := store_Store.Pc a0) rfl rfl rfl Ty.a26 Ty.s26 nl rfl) rfl <| d7 rfl (fun _ hN => o_move (d := .lst false (List.map (PV.int .i64) a1)) rfl) rfl ?_
  obtain ⟨v5, hv5, h⟩ := bindE h
  refine d2f rfl (o_callF (ls := []) (ds := [store_Store.Pv a0, .lst false (List.map (PV.int .i64) a1)]) rfl Ty.k50 rfl (reach_From_ok hv5)) rfl <| d0 rfl (o_loadA (cs := r06_Store.Pc v4) rfl rfl rfl Ty.a37 Ty.s37 nl rfl) rfl <| d7 rfl (fun _ hN => o_move (d := .lst false (List.map (PV.int .i64) a1)) rfl) rfl ?_
  obtain ⟨v6, hv6, h⟩ := bindE h
  refine d2f rfl (o_callF (ls := []) (ds := [r06_Store.Pv v4, .lst false (List.map (PV.int .i64) a1)]) rfl Ty.k51 rfl (r08_From_ok hv6)) rfl ?_
  obtain ⟨v7, hv7, h⟩ := bindE h
  refine d2 rfl (o_call (ds := [.lst false (List.map (PV.int .i64) v5), .lst false (List.map (PV.int .i64) v6)]) rfl Ty.k32 rfl (r02_Ints_ok hv7)) rfl <| d7 rfl (fun _ hN => o_move (d := .bool v7) rfl) rfl <| d_if0 (g := (v7 == true)) rfl (fun hg => o_loadA (cs := store_Store.Pc a0) rfl rfl rfl Ty.a26 Ty.s26 nl rfl) rfl <| d_if7 (g := (v7 == true)) rfl (fun hg _ hN => o_move (d := .lst false (List.map (PV.int .i64) a1)) rfl) rfl ?_
  obtain ⟨v8, hv8, h⟩ := bindE h
  refine d_if2f (g := (v7 == true)) rfl (fun hg => o_callF (ls := []) (ds := [store_Store.Pv a0, .lst false (List.map (PV.int .i64) a1)]) rfl Ty.k52 (consE (ct hg) (consE (ct hg) rfl)) (reach_Lost_ok (onlyE hv8 hg))) rfl <| d_if0 (g := (v7 == true)) rfl (fun hg => o_loadA (cs := r06_Store.Pc v4) rfl rfl rfl Ty.a37 Ty.s37 nl rfl) rfl <| d_if7 (g := (v7 == true)) rfl (fun hg _ hN => o_move (d := .lst false (List.map (PV.int .i64) a1)) rfl) rfl ?_
  obtain ⟨v9, hv9, h⟩ := bindE h
  refine d_if2f (g := (v7 == true)) rfl (fun hg => o_callF (ls := []) (ds := [r06_Store.Pv v4, .lst false (List.map (PV.int .i64) a1)]) rfl Ty.k53 (consE (ct hg) (consE (ct hg) rfl)) (r08_Lost_ok (onlyE hv9 hg))) rfl ?_
  obtain ⟨v10, hv10, h⟩ := bindE h
  refine d_if2 (g := (v7 == true)) rfl (fun hg => o_call (ds := [.lst false (List.map (PV.int .i64) v8), .lst false (List.map (PV.int .i64) v9)]) rfl Ty.k32 (consE (ct hg) (consE (ct hg) rfl)) (r02_Ints_ok (onlyE hv10 hg))) rfl <| d7 rfl (fun _ hN => pk_and rfl rfl rfl (fun q => eqT q)) rfl <| d7 rfl (fun _ hN => o_move (d := .bool (v7 && v10)) rfl) rfl <| d_if0 (g := ((v7 && v10) == true)) rfl (fun hg => o_loadA (cs := store_Store.Pc a0) rfl rfl rfl Ty.a26 Ty.s26 nl rfl) rfl <| d_if7 (g := ((v7 && v10) == true)) rfl (fun hg _ hN => o_move (d := .int .i64 a2) rfl) rfl <| d_if7 (g := ((v7 && v10) == true)) rfl (fun hg _ hN => o_move (d := .int .i64 a3) rfl) rfl ?_
  obtain ⟨v11, hv11, h⟩ := bindE h
  refine d_if2 (g := ((v7 && v10) == true)) rfl (fun hg => o_call (ds := [store_Store.Pv a0, .int .i64 a2, .int .i64 a3]) rfl Ty.k54 (consE (ct hg) (consE (ct hg) (consE (ct hg) rfl))) (reach_Is_ok (onlyE hv11 hg))) rfl <| d_if0 (g := ((v7 && v10) == true)) rfl (fun hg => o_loadA (cs := r06_Store.Pc v4) rfl rfl rfl Ty.a37 Ty.s37 nl rfl) rfl <| d_if7 (g := ((v7 && v10) == true)) rfl (fun hg _ hN => o_move (d := .int .i64 a2) rfl) rfl <| d_if7 (g := ((v7 && v10) == true)) rfl (fun hg _ hN => o_move (d := .int .i64 a3) rfl) rfl ?_
  obtain ⟨v12, hv12, h⟩ := bindE h
  refine d_if2 (g := ((v7 && v10) == true)) rfl (fun hg => o_call (ds := [r06_Store.Pv v4, .int .i64 a2, .int .i64 a3]) rfl Ty.k55 (consE (ct hg) (consE (ct hg) (consE (ct hg) rfl))) (r08_Is_ok (onlyE hv12 hg))) rfl <| d_if7 (g := ((v7 && v10) == true)) rfl (fun hg _ hN => o_eqB (ct hg) (ct hg) Ty.u4 rfl) rfl <| d7 rfl (fun _ hN => pk_and rfl rfl rfl (fun q => eqT q)) rfl <| d7 rfl (fun _ hN => o_move (d := .bool ((v7 && v10) && (v11 == v12))) rfl) rfl <| d_if0 (g := (((v7 && v10) && (v11 == v12)) == true)) rfl (fun hg => o_loadA (cs := store_Store.Pc a0) rfl rfl rfl Ty.a26 Ty.s26 nl rfl) rfl <| d_if7 (g := (((v7 && v10) && (v11 == v12)) == true)) rfl (fun hg _ hN => o_move (d := .lst false (List.map (PV.int .i64) a1)) rfl) rfl ?_
  obtain ⟨v13, hv13, h⟩ := bindE h
  refine d_if2 (g := (((v7 && v10) && (v11 == v12)) == true)) rfl (fun hg => o_call (ds := [store_Store.Pv a0, .lst false (List.map (PV.int .i64) a1)]) rfl Ty.k56 (consE (ct hg) (consE (ct hg) rfl)) (reach_Closed_ok (onlyE hv13 hg))) rfl <| d_if0 (g := (((v7 && v10) && (v11 == v12)) == true)) rfl (fun hg => o_loadA (cs := r06_Store.Pc v4) rfl rfl rfl Ty.a37 Ty.s37 nl rfl) rfl <| d_if7 (g := (((v7 && v10) && (v11 == v12)) == true)) rfl (fun hg _ hN => o_move (d := .lst false (List.map (PV.int .i64) a1)) rfl) rfl ?_
  obtain ⟨v14, hv14, h⟩ := bindE h
  refine d_if2 (g := (((v7 && v10) && (v11 == v12)) == true)) rfl (fun hg => o_call (ds := [r06_Store.Pv v4, .lst false (List.map (PV.int .i64) a1)]) rfl Ty.k57 (consE (ct hg) (consE (ct hg) rfl)) (r08_Closed_ok (onlyE hv14 hg))) rfl <| d_if7 (g := (((v7 && v10) && (v11 == v12)) == true)) rfl (fun hg _ hN => o_eqB (ct hg) (ct hg) Ty.u4 rfl) rfl <| d7 rfl (fun _ hN => pk_and rfl rfl rfl (fun q => eqT q)) rfl <| d7 rfl (fun _ hN => o_assign (d := .bool (((v7 && v10) && (v11 == v12)) && (v13 == v14))) rfl) rfl <| d_nil <| pw_ret ?_
  obtain rfl := Option.some.inj h
  exact ⟨rfl, [_], ⟨rfl, trivial⟩, rfl, io⟩

theorem w08_ReachLeast_ok {a0 : store_Store} {a1 : List Int} {a2 : List Int} {r : Bool} (h : w08_ReachLeast a0 a1 a2 = some r) : PCalls Try.prog 12 [store_Store.Pv a0, .lst false (List.map (PV.int .i64) a1), .lst false (List.map (PV.int .i64) a2)] (.bool r) := by
 unfold w08_ReachLeast at h
 refine pc_intro (N := 96) Try.func12 rfl rfl nl fun w0 imm0 => sR <| y1 rfl (o_box (d := store_Store.Pv a0) (z := 3) (cl := true) rfl rfl rfl rfl rfl) rfl <| y0 rfl (o_assign (d := .bool false) rfl) <| y_nil <| pw_seq <| sR <| y0 rfl (o_loadA (cs := store_Store.Pc a0) rfl rfl rfl Ty.a26 Ty.s26 nl rfl) ?_
 obtain ⟨v1, hv1, h⟩ := bindE h
 refine y0 rfl (o_call (ds := [store_Store.Pv a0]) rfl Ty.k47 rfl (w08_right_ok hv1)) <| y0 rfl (o_not rfl rfl) <| y0 rfl (o_move (d := .bool (!v1)) rfl) <| y_if (g := ((!v1) == false)) rfl (fun hg => o_move (d := .lst false (List.map (PV.int .i64) a1)) rfl) <| y_if (g := ((!v1) == false)) rfl (fun hg => o_lnL (f := (PV.int .i64)) (ct hg) Ty.e27) <| y_if (g := ((!v1) == false)) rfl (fun hg => o_cmp (ct hg) rfl rfl) <| y0 rfl (pk_or rfl rfl rfl (fun q => eqF q)) <| y0 rfl (o_move (d := .bool ((!v1) || (decide ((a1.length : Int) > 50)))) rfl) ?_
 refine y_if (g := (((!v1) || (decide ((a1.length : Int) > 50))) == false)) rfl (fun hg => o_move (d := .lst false (List.map (PV.int .i64) a2)) rfl) <| y_if (g := (((!v1) || (decide ((a1.length : Int) > 50))) == false)) rfl (fun hg => o_lnL (f := (PV.int .i64)) (ct hg) Ty.e27) <| y_if (g := (((!v1) || (decide ((a1.length : Int) > 50))) == false)) rfl (fun hg => o_cmp (ct hg) rfl rfl) <| y0 rfl (pk_or rfl rfl rfl (fun q => eqF q)) <| y0 rfl (o_move (d := .bool (((!v1) || (decide ((a1.length : Int) > 50))) || (decide ((a2.length : Int) > 50)))) rfl) ?_
 obtain ⟨v2, hv2, h⟩ := bindE h
 refine y_if (g := ((((!v1) || (decide ((a1.length : Int) > 50))) || (decide ((a2.length : Int) > 50))) == false)) rfl (fun hg => o_call (ds := []) rfl Ty.k48 rfl (w08_shown_ok (onlyE hv2 hg))) <| y_if (g := ((((!v1) || (decide ((a1.length : Int) > 50))) || (decide ((a2.length : Int) > 50))) == false)) rfl (fun hg => o_not (ct hg) rfl) <| y0 rfl (pk_or rfl rfl rfl (fun q => eqF q)) <| y_nil ?_
 refine pw_cond ((((!v1) || (decide ((a1.length : Int) > 50))) || (decide ((a2.length : Int) > 50))) || (!v2)) rfl (fun hc => ?_) (fun hc => ?_)
 ·have h := ifT h hc
  refine sR ?_
  obtain ⟨v3, hv3, h⟩ := bindE h
  refine y0 rfl (o_call (ds := []) rfl Ty.k48 rfl (w08_shown_ok hv3)) <| y0 rfl (o_assign (d := .bool v3) rfl) <| y_nil <| pw_ret ?_
  obtain rfl := Option.some.inj h
  exact ⟨rfl, [_], ⟨rfl, trivial⟩, rfl, io⟩
 ·have h := ifF h hc
  refine pw_skip <| sR <| y0 rfl (o_loadA (cs := store_Store.Pc a0) rfl rfl rfl Ty.a26 Ty.s26 nl rfl) <| y0 rfl (o_move (d := .lst false (List.map (PV.int .i64) a1)) rfl) ?_
  obtain ⟨v4, hv4, h⟩ := bindE h
  refine yc rfl (o_callF (ls := []) (ds := [store_Store.Pv a0, .lst false (List.map (PV.int .i64) a1)]) rfl Ty.k50 rfl (reach_From_ok hv4)) <| y0 rfl (o_assign (d := .lst false (List.map (PV.int .i64) v4)) rfl) <| y_nil <| pw_seq <| sR <| y0 rfl (o_loadA (cs := store_Store.Pc a0) rfl rfl rfl Ty.a26 Ty.s26 nl rfl) ?_
  obtain ⟨v5, hv5, h⟩ := bindE h
  refine yc rfl (o_callF (ls := []) (ds := [store_Store.Pv a0]) rfl Ty.k49 rfl (w08_its_ok hv5)) <| y0 rfl (o_move (d := .lst false (List.map (PV.int .i64) v4)) rfl) ?_
  obtain ⟨v6, hv6, h⟩ := bindE h
  refine y0 rfl (o_call (ds := [r06_Store.Pv v5, .lst false (List.map (PV.int .i64) v4)]) rfl Ty.k57 rfl (r08_Closed_ok hv6)) <| y0 rfl (o_not rfl rfl) <| y0 rfl (o_move (d := .bool (!v6)) rfl) <| y_if (g := ((!v6) == false)) rfl (fun hg => o_move (d := .lst false (List.map (PV.int .i64) v4)) rfl) <| y_if (g := ((!v6) == false)) rfl (fun hg => o_lnL (f := (PV.int .i64)) (ct hg) Ty.e27) <| y_if (g := ((!v6) == false)) rfl (fun hg => o_cmp (ct hg) rfl rfl) <| y0 rfl (pk_or rfl rfl rfl (fun q => eqF q)) <| y_nil ?_
  refine pw_cond ((!v6) || (decide ((v4.length : Int) > 24))) rfl (fun hc => ?_) (fun hc => ?_)
  ·have h := ifT h hc
   refine sR <| y0 rfl (o_assign (d := .bool false) rfl) <| y_nil <| pw_ret ?_
   obtain rfl := Option.some.inj h
   exact ⟨rfl, [_], ⟨rfl, trivial⟩, rfl, io⟩
  ·have h := ifF h hc
   refine pw_skip <| sR <| y0 rfl (o_loadA (cs := store_Store.Pc a0) rfl rfl rfl Ty.a26 Ty.s26 nl rfl) <| yc rfl (o_callF (ls := []) (ds := [store_Store.Pv a0]) rfl Ty.k49 rfl (w08_its_ok hv5)) ?_
   obtain ⟨v7, hv7, h⟩ := bindE h
   refine yc rfl (o_callF (ls := []) (ds := [r06_Store.Pv v5]) rfl Ty.k46 rfl (r06_Live_ok hv7)) <| y0 rfl (o_assign (d := .lst false (List.map (PV.int .i64) v7)) rfl) <| y_nil <| sR <| y0 rfl (o_loadA (cs := store_Store.Pc a0) rfl rfl rfl Ty.a26 Ty.s26 nl rfl) <| yc rfl (o_callF (ls := []) (ds := [store_Store.Pv a0]) rfl Ty.k49 rfl (w08_its_ok hv5)) <| y0 rfl (o_move (d := .lst false (List.map (PV.int .i64) a2)) rfl) ?_
   obtain ⟨v8, hv8, h⟩ := bindE h
   refine y0 rfl (o_call (ds := [r06_Store.Pv v5, .lst false (List.map (PV.int .i64) a2)]) rfl Ty.k57 rfl (r08_Closed_ok hv8)) <| y0 rfl (o_assign (d := .bool v8) rfl) <| y_nil ?_
   obtain ⟨κ24, hκ21, h⟩ := jnE h
   refine pw_jn0 (κ := κ24) (r := r) (fun (j25 : Bool) => St.of [(2, .lst false (List.map (PV.int .i64) a2)), (7, .lst false (List.map (PV.int .i64) v4)), (9, .bool j25)] []) (fun j25 h => ?_) ?_
   ·subst hκ21
    obtain ⟨κ31, hκ27, h⟩ := jnE h
    refine pw_jn0 (κ := κ31) (r := r) (fun (_ : Unit) => St.of [] []) (fun q32 h => ?_) ?_
    ·subst hκ27
     refine sR <| y0 rfl (o_assign (d := .bool true) rfl) <| y_nil <| pw_ret ?_
     obtain rfl := Option.some.inj h
     exact ⟨rfl, [_], ⟨rfl, trivial⟩, rfl, io⟩
    ·skip
     refine sR <| y0 rfl (o_assign (d := .int .i64 0) rfl) <| y_nil <| pw_block ?_
     obtain ⟨e33, hl28, hk29⟩ := bindE h
     refine pw_lp0 (fun (s34 : Int) => St.of [(2, .lst false (List.map (PV.int .i64) a2)), (7, .lst false (List.map (PV.int .i64) v4)), (9, .bool j25), (11, .int .i64 s34)] []) hl28 (wk_st _ _ ⟨rfl, rfl, rfl, rfl, rfl, rfl, rfl, rfl, rfl, rfl, rfl, rfl, trivial⟩ trivial) (fun s34 x35 h hx30 => ?_)
     refine pw_seq <| sR <| y0 rfl (o_move (d := .int .i64 s34) rfl) <| y0 rfl (o_move (d := .lst false (List.map (PV.int .i64) v4)) rfl) <| y0 rfl (o_lnL (f := (PV.int .i64)) rfl Ty.e27) <| y0 rfl (o_cmp rfl rfl rfl) <| y_nil ?_
     refine pw_cond (decide (s34 < (v4.length : Int))) rfl (fun hc => ?_) (fun hc => ?_)
     ·have h := ifT h hc
      refine pw_skip <| pw_seq <| pw_block <| sR <| y0 rfl (o_move (d := .bool j25) rfl) <| y0 rfl (o_move (d := .bool j25) rfl) <| y_if (g := (j25 == true)) rfl (fun hg => o_move (d := .lst false (List.map (PV.int .i64) a2)) rfl) <| y_if (g := (j25 == true)) rfl (fun hg => o_move (d := .lst false (List.map (PV.int .i64) v4)) rfl) ?_
      refine y_if (g := (j25 == true)) rfl (fun hg => o_move (d := .int .i64 s34) rfl) ?_
      obtain ⟨v36, hv31, h⟩ := bindE h
      refine y_if (g := (j25 == true)) rfl (fun hg => o_ixL (f := (PV.int .i64)) (cs := [.int .i64 v36]) (onlyE hv31 hg) (ct hg) (ct hg) Ty.e27 Ty.s3 rfl rfl) <| y_if (g := (j25 == true)) rfl (fun hg => o_loadRS (ct hg) Ty.a3 rfl) ?_
      obtain ⟨v37, hv32, h⟩ := bindE h
      refine y_if (g := (j25 == true)) rfl (fun hg => o_call (ds := [.lst false (List.map (PV.int .i64) a2), .int .i64 v36]) rfl Ty.k43 (consE (ct hg) (consE (ct hg) rfl)) (r07_Times_ok (onlyE hv32 hg))) <| y_if (g := (j25 == true)) rfl (fun hg => o_cmp (ct hg) rfl rfl) <| y0 rfl (pk_and rfl rfl rfl (fun q => eqT q)) <| y_nil ?_
      refine pw_cond (j25 && (v37 == 0)) rfl (fun hc => ?_) (fun hc => ?_)
      ·have h := ifT h hc
       refine sR <| y0 rfl (o_assign (d := .bool false) rfl) <| y_nil <| pw_ret ?_
       have he := hx30 _ (Option.some.inj h).symm
       have h := hk29
       rw [← he] at h
       obtain rfl := Option.some.inj h
       exact ⟨rfl, [_], ⟨rfl, trivial⟩, rfl, io⟩
      ·have h := ifF h hc
       refine pw_skip <| sr1 (by kernel_rfl) <| y0 rfl (o_move (d := .int .i64 s34) rfl) <| y0 rfl (o_ari rfl rfl rfl) <| y0 rfl (o_assign (d := .int .i64 (w64 (s34 + 1))) rfl) <| y_nil ?_
       exact ⟨rfl, w64 (s34 + 1), (Option.some.inj h).symm, (wk_st _ _ ⟨rfl, rfl, rfl, rfl, rfl, rfl, rfl, rfl, rfl, rfl, rfl, rfl, trivial⟩ trivial)⟩
     ·have h := ifF h hc
      refine pw_exit <| thenQ_exit <| thenQ_exit <| blockQ_exit ?_
      have he := hx30 _ (Option.some.inj h).symm
      have h := hk29
      rw [← he] at h
      exact ⟨rfl, (), h, (wk_st _ _ trivial trivial)⟩
   ·skip
    refine sR <| y0 rfl (o_assign (d := .int .i64 0) rfl) <| y_nil <| pw_block ?_
    obtain ⟨e38, hl33, hk34⟩ := bindE h
    refine pw_lp0 (fun (q : Bool × Int) => St.of [(1, .lst false (List.map (PV.int .i64) a1)), (2, .lst false (List.map (PV.int .i64) a2)), (7, .lst false (List.map (PV.int .i64) v4)), (8, .lst false (List.map (PV.int .i64) v7)), (9, .bool q.1), (10, .int .i64 q.2)] []) hl33 (wk_st _ _ ⟨rfl, rfl, rfl, rfl, rfl, rfl, rfl, rfl, rfl, rfl, rfl, rfl, rfl, rfl, rfl, rfl, rfl, rfl, trivial⟩ trivial) (fun q42 x41 h hx35 => ?_)
    obtain ⟨s39, s40⟩ := q42
    refine pw_seq <| sR <| y0 rfl (o_move (d := .int .i64 s40) rfl) <| y0 rfl (o_move (d := .lst false (List.map (PV.int .i64) v7)) rfl) <| y0 rfl (o_lnL (f := (PV.int .i64)) rfl Ty.e27) <| y0 rfl (o_cmp rfl rfl rfl) <| y_nil ?_
    refine pw_cond (decide (s40 < (v7.length : Int))) rfl (fun hc => ?_) (fun hc => ?_)
    ·have h := ifT h hc
     refine pw_skip ?_
     obtain ⟨κ47, hκ40, h⟩ := jnE h
     refine pw_jn0 (κ := κ47) (r := x41) (fun (j48 : Bool) => St.of [(1, .lst false (List.map (PV.int .i64) a1)), (2, .lst false (List.map (PV.int .i64) a2)), (7, .lst false (List.map (PV.int .i64) v4)), (8, .lst false (List.map (PV.int .i64) v7)), (9, .bool j48), (10, .int .i64 s40)] []) (fun j48 h => ?_) ?_
     ·subst hκ40
      refine sr1 (by kernel_rfl) <| y0 rfl (o_move (d := .int .i64 s40) rfl) <| y0 rfl (o_ari rfl rfl rfl) <| y0 rfl (o_assign (d := .int .i64 (w64 (s40 + 1))) rfl) <| y_nil ?_
      exact ⟨rfl, (j48, w64 (s40 + 1)), (Option.some.inj h).symm, (wk_st _ _ ⟨rfl, rfl, rfl, rfl, rfl, rfl, rfl, rfl, rfl, rfl, rfl, rfl, rfl, rfl, rfl, rfl, rfl, rfl, trivial⟩ trivial)⟩
     ·skip
      refine pw_block <| sR <| y0 rfl (o_move (d := .lst false (List.map (PV.int .i64) a1)) rfl) <| y0 rfl (o_move (d := .lst false (List.map (PV.int .i64) v7)) rfl) <| y0 rfl (o_move (d := .int .i64 s40) rfl) ?_
      obtain ⟨v49, hv41, h⟩ := bindE h
      refine y0 rfl (o_ixL (f := (PV.int .i64)) (cs := [.int .i64 v49]) hv41 rfl rfl Ty.e27 Ty.s3 rfl rfl) <| y0 rfl (o_loadRS rfl Ty.a3 rfl) ?_
      obtain ⟨v50, hv42, h⟩ := bindE h
      refine y0 rfl (o_call (ds := [.lst false (List.map (PV.int .i64) a1), .int .i64 v49]) rfl Ty.k43 rfl (r07_Times_ok hv42)) <| y0 rfl (o_cmp rfl rfl rfl) <| y_nil ?_
      refine pw_cond (decide (v50 > 0)) rfl (fun hc => ?_) (fun hc => ?_)
      ·have h := ifT h hc
       refine pw_seq <| sR <| y0 rfl (o_move (d := .lst false (List.map (PV.int .i64) v4)) rfl) <| y0 rfl (o_move (d := .lst false (List.map (PV.int .i64) v7)) rfl) <| y0 rfl (o_move (d := .int .i64 s40) rfl) <| y0 rfl (o_ixL (f := (PV.int .i64)) (cs := [.int .i64 v49]) hv41 rfl rfl Ty.e27 Ty.s3 rfl rfl) <| y0 rfl (o_loadRS rfl Ty.a3 rfl) ?_
       obtain ⟨v51, hv43, h⟩ := bindE h
       refine y0 rfl (o_call (ds := [.lst false (List.map (PV.int .i64) v4), .int .i64 v49]) rfl Ty.k43 rfl (r07_Times_ok hv43)) <| y0 rfl (o_cmp rfl rfl rfl) <| y_nil ?_
       refine pw_cond (v51 != 1) rfl (fun hc => ?_) (fun hc => ?_)
       ·have h := ifT h hc
        refine sR <| y0 rfl (o_assign (d := .bool false) rfl) <| y_nil <| pw_ret ?_
        have he := hx35 _ (Option.some.inj h).symm
        have h := hk34
        rw [← he] at h
        obtain rfl := Option.some.inj h
        exact ⟨rfl, [_], ⟨rfl, trivial⟩, rfl, io⟩
       ·have h := ifF h hc
        refine pw_skip <| sr1 (by kernel_rfl) <| y0 rfl (o_move (d := .bool s39) rfl) <| y0 rfl (o_move (d := .bool s39) rfl) <| y_if (g := (s39 == true)) rfl (fun hg => o_move (d := .lst false (List.map (PV.int .i64) a2)) rfl) <| y_if (g := (s39 == true)) rfl (fun hg => o_move (d := .lst false (List.map (PV.int .i64) v7)) rfl) <| y_if (g := (s39 == true)) rfl (fun hg => o_move (d := .int .i64 s40) rfl) <| y_if (g := (s39 == true)) rfl (fun hg => o_ixL (f := (PV.int .i64)) (cs := [.int .i64 v49]) hv41 (ct hg) (ct hg) Ty.e27 Ty.s3 rfl rfl) ?_
        refine y_if (g := (s39 == true)) rfl (fun hg => o_loadRS (ct hg) Ty.a3 rfl) ?_
        obtain ⟨v52, hv44, h⟩ := bindE h
        refine y_if (g := (s39 == true)) rfl (fun hg => o_call (ds := [.lst false (List.map (PV.int .i64) a2), .int .i64 v49]) rfl Ty.k43 (consE (ct hg) (consE (ct hg) rfl)) (r07_Times_ok (onlyE hv44 hg))) <| y_if (g := (s39 == true)) rfl (fun hg => o_cmp (ct hg) rfl rfl) <| y0 rfl (pk_and rfl rfl rfl (fun q => eqT q)) <| y0 rfl (o_assign (d := .bool (s39 && (decide (v52 > 0)))) rfl) <| y_nil ?_
        exact ⟨rfl, (s39 && (decide (v52 > 0))), h, (wk_st _ _ ⟨rfl, rfl, rfl, rfl, rfl, rfl, rfl, rfl, rfl, rfl, rfl, rfl, rfl, rfl, rfl, rfl, rfl, rfl, trivial⟩ trivial)⟩
      ·have h := ifF h hc
       refine pw_skip ?_
       exact ⟨rfl, s39, h, (wk_st _ _ ⟨rfl, rfl, rfl, rfl, rfl, rfl, rfl, rfl, rfl, rfl, rfl, rfl, rfl, rfl, rfl, rfl, rfl, rfl, trivial⟩ trivial)⟩
    ·have h := ifF h hc
     refine pw_exit <| thenQ_exit <| thenQ_exit <| blockQ_exit ?_
     have he := hx35 _ (Option.some.inj h).symm
     have h := hk34
     rw [← he] at h
     exact ⟨rfl, s39, h, (wk_st _ _ ⟨rfl, rfl, rfl, rfl, rfl, rfl, rfl, rfl, rfl, trivial⟩ trivial)⟩

theorem w08_ReachParts_ok {a0 : store_Store} {a1 : List Int} {r : Bool} (h : w08_ReachParts a0 a1 = some r) : PCalls Try.prog 13 [store_Store.Pv a0, .lst false (List.map (PV.int .i64) a1)] (.bool r) := by
 unfold w08_ReachParts at h
 refine pc_intro (N := 71) Try.func13 rfl rfl nl fun w0 imm0 => sR <| y1 rfl (o_box (d := store_Store.Pv a0) (z := 3) (cl := true) rfl rfl rfl rfl rfl) rfl <| y0 rfl (o_assign (d := .bool false) rfl) <| y_nil <| pw_seq <| sR <| y0 rfl (o_loadA (cs := store_Store.Pc a0) rfl rfl rfl Ty.a26 Ty.s26 nl rfl) ?_
 obtain ⟨v1, hv1, h⟩ := bindE h
 refine y0 rfl (o_call (ds := [store_Store.Pv a0]) rfl Ty.k47 rfl (w08_right_ok hv1)) <| y0 rfl (o_not rfl rfl) <| y0 rfl (o_move (d := .bool (!v1)) rfl) <| y_if (g := ((!v1) == false)) rfl (fun hg => o_move (d := .lst false (List.map (PV.int .i64) a1)) rfl) <| y_if (g := ((!v1) == false)) rfl (fun hg => o_lnL (f := (PV.int .i64)) (ct hg) Ty.e27) <| y_if (g := ((!v1) == false)) rfl (fun hg => o_cmp (ct hg) rfl rfl) <| y0 rfl (pk_or rfl rfl rfl (fun q => eqF q)) <| y0 rfl (o_move (d := .bool ((!v1) || (decide ((a1.length : Int) > 50)))) rfl) ?_
 obtain ⟨v2, hv2, h⟩ := bindE h
 refine y_if (g := (((!v1) || (decide ((a1.length : Int) > 50))) == false)) rfl (fun hg => o_call (ds := []) rfl Ty.k48 rfl (w08_shown_ok (onlyE hv2 hg))) <| y_if (g := (((!v1) || (decide ((a1.length : Int) > 50))) == false)) rfl (fun hg => o_not (ct hg) rfl) <| y0 rfl (pk_or rfl rfl rfl (fun q => eqF q)) <| y_nil ?_
 refine pw_cond (((!v1) || (decide ((a1.length : Int) > 50))) || (!v2)) rfl (fun hc => ?_) (fun hc => ?_)
 ·have h := ifT h hc
  refine sR ?_
  obtain ⟨v3, hv3, h⟩ := bindE h
  refine y0 rfl (o_call (ds := []) rfl Ty.k48 rfl (w08_shown_ok hv3)) <| y0 rfl (o_assign (d := .bool v3) rfl) <| y_nil <| pw_ret ?_
  obtain rfl := Option.some.inj h
  exact ⟨rfl, [_], ⟨rfl, trivial⟩, rfl, io⟩
 ·have h := ifF h hc
  refine pw_skip <| sR <| y0 rfl (o_loadA (cs := store_Store.Pc a0) rfl rfl rfl Ty.a26 Ty.s26 nl rfl) <| y0 rfl (o_move (d := .lst false (List.map (PV.int .i64) a1)) rfl) ?_
  obtain ⟨v4, hv4, h⟩ := bindE h
  refine yc rfl (o_callF (ls := []) (ds := [store_Store.Pv a0, .lst false (List.map (PV.int .i64) a1)]) rfl Ty.k50 rfl (reach_From_ok hv4)) <| y0 rfl (o_assign (d := .lst false (List.map (PV.int .i64) v4)) rfl) <| y_nil <| sR <| y0 rfl (o_loadA (cs := store_Store.Pc a0) rfl rfl rfl Ty.a26 Ty.s26 nl rfl) <| y0 rfl (o_move (d := .lst false (List.map (PV.int .i64) a1)) rfl) ?_
  obtain ⟨v5, hv5, h⟩ := bindE h
  refine yc rfl (o_callF (ls := []) (ds := [store_Store.Pv a0, .lst false (List.map (PV.int .i64) a1)]) rfl Ty.k52 rfl (reach_Lost_ok hv5)) <| y0 rfl (o_assign (d := .lst false (List.map (PV.int .i64) v5)) rfl) <| y_nil <| sR <| y0 rfl (o_loadA (cs := store_Store.Pc a0) rfl rfl rfl Ty.a26 Ty.s26 nl rfl) ?_
  obtain ⟨v6, hv6, h⟩ := bindE h
  refine yc rfl (o_callF (ls := []) (ds := [store_Store.Pv a0]) rfl Ty.k49 rfl (w08_its_ok hv6)) ?_
  obtain ⟨v7, hv7, h⟩ := bindE h
  refine yc rfl (o_callF (ls := []) (ds := [r06_Store.Pv v6]) rfl Ty.k46 rfl (r06_Live_ok hv7)) <| y0 rfl (o_assign (d := .lst false (List.map (PV.int .i64) v7)) rfl) <| y_nil <| pw_seq <| sR <| y0 rfl (o_move (d := .lst false (List.map (PV.int .i64) v4)) rfl) <| y0 rfl (o_lnL (f := (PV.int .i64)) rfl Ty.e27) <| y0 rfl (o_move (d := .lst false (List.map (PV.int .i64) v5)) rfl) ?_
  refine y0 rfl (o_lnL (f := (PV.int .i64)) rfl Ty.e27) <| y0 rfl (o_ari rfl rfl rfl) <| y0 rfl (o_move (d := .lst false (List.map (PV.int .i64) v7)) rfl) <| y0 rfl (o_lnL (f := (PV.int .i64)) rfl Ty.e27) <| y0 rfl (o_cmp rfl rfl rfl) <| y_nil ?_
  refine pw_cond ((w64 ((v4.length : Int) + (v5.length : Int))) != (v7.length : Int)) rfl (fun hc => ?_) (fun hc => ?_)
  ·have h := ifT h hc
   refine sR <| y0 rfl (o_assign (d := .bool false) rfl) <| y_nil <| pw_ret ?_
   obtain rfl := Option.some.inj h
   exact ⟨rfl, [_], ⟨rfl, trivial⟩, rfl, io⟩
  ·have h := ifF h hc
   refine pw_skip ?_
   obtain ⟨κ14, hκ14, h⟩ := jnE h
   refine pw_jn0 (κ := κ14) (r := r) (fun (_ : Unit) => St.of [(2, .ptr 2 0 0), (5, .lst false (List.map (PV.int .i64) v4)), (6, .lst false (List.map (PV.int .i64) v5))] [(2, ⟨[store_Store.Pv a0], 0, false, 3, true⟩)]) (fun q15 h => ?_) ?_
   ·subst hκ14
    refine sR <| y0 rfl (o_loadA (cs := store_Store.Pc a0) rfl rfl rfl Ty.a26 Ty.s26 nl rfl) <| y0 rfl (o_move (d := .lst false (List.map (PV.int .i64) v4)) rfl) ?_
    obtain ⟨v16, hv15, h⟩ := bindE h
    refine yc rfl (o_callF (ls := []) (ds := [store_Store.Pv a0, .lst false (List.map (PV.int .i64) v4)]) rfl Ty.k50 rfl (reach_From_ok hv15)) <| y0 rfl (o_move (d := .lst false (List.map (PV.int .i64) v4)) rfl) ?_
    obtain ⟨v17, hv16, h⟩ := bindE h
    refine y0 rfl (o_call (ds := [.lst false (List.map (PV.int .i64) v16), .lst false (List.map (PV.int .i64) v4)]) rfl Ty.k32 rfl (r02_Ints_ok hv16)) <| y0 rfl (o_move (d := .bool v17) rfl) <| y_if (g := (v17 == true)) rfl (fun hg => o_loadA (cs := store_Store.Pc a0) rfl rfl rfl Ty.a26 Ty.s26 nl rfl) <| y_if (g := (v17 == true)) rfl (fun hg => o_move (d := .lst false (List.map (PV.int .i64) v4)) rfl) ?_
    obtain ⟨v18, hv17, h⟩ := bindE h
    refine y_ifc (g := (v17 == true)) rfl (fun hg => o_callF (ls := []) (ds := [store_Store.Pv a0, .lst false (List.map (PV.int .i64) v4)]) rfl Ty.k52 (consE (ct hg) (consE (ct hg) rfl)) (reach_Lost_ok (onlyE hv17 hg))) <| y_if (g := (v17 == true)) rfl (fun hg => o_move (d := .lst false (List.map (PV.int .i64) v5)) rfl) ?_
    obtain ⟨v19, hv18, h⟩ := bindE h
    refine y_if (g := (v17 == true)) rfl (fun hg => o_call (ds := [.lst false (List.map (PV.int .i64) v18), .lst false (List.map (PV.int .i64) v5)]) rfl Ty.k32 (consE (ct hg) (consE (ct hg) rfl)) (r02_Ints_ok (onlyE hv18 hg))) <| y0 rfl (pk_and rfl rfl rfl (fun q => eqT q)) <| y0 rfl (o_assign (d := .bool (v17 && v19)) rfl) <| y_nil <| pw_ret ?_
    obtain rfl := Option.some.inj h
    exact ⟨rfl, [_], ⟨rfl, trivial⟩, rfl, io⟩
   ·skip
    refine sR <| y0 rfl (o_assign (d := .int .i64 0) rfl) <| y_nil <| pw_block ?_
    obtain ⟨e20, hl19, hk20⟩ := bindE h
    refine pw_lp0 (fun (s21 : Int) => St.of [(2, .ptr 2 0 0), (5, .lst false (List.map (PV.int .i64) v4)), (6, .lst false (List.map (PV.int .i64) v5)), (7, .lst false (List.map (PV.int .i64) v7)), (8, .int .i64 s21)] [(2, ⟨[store_Store.Pv a0], 0, false, 3, true⟩)]) hl19 (wk_st _ _ ⟨rfl, rfl, rfl, rfl, rfl, rfl, rfl, rfl, rfl, rfl, rfl, rfl, rfl, rfl, rfl, trivial⟩ ⟨rS, trivial⟩) (fun s21 x22 h hx21 => ?_)
    refine pw_seq <| sR <| y0 rfl (o_move (d := .int .i64 s21) rfl) <| y0 rfl (o_move (d := .lst false (List.map (PV.int .i64) v7)) rfl) <| y0 rfl (o_lnL (f := (PV.int .i64)) rfl Ty.e27) <| y0 rfl (o_cmp rfl rfl rfl) <| y_nil ?_
    refine pw_cond (decide (s21 < (v7.length : Int))) rfl (fun hc => ?_) (fun hc => ?_)
    ·have h := ifT h hc
     refine pw_skip <| pw_seq <| pw_block <| dr [] Ty.mix (by kernel_rfl) (by kernel_rfl) <| d7 rfl (fun _ hN => o_move (d := .lst false (List.map (PV.int .i64) v4)) rfl) rfl <| d7 rfl (fun _ hN => o_move (d := .lst false (List.map (PV.int .i64) v7)) rfl) rfl <| d7 rfl (fun _ hN => o_move (d := .int .i64 s21) rfl) rfl ?_
     obtain ⟨v23, hv22, h⟩ := bindE h
     refine d0 rfl (o_ixL (f := (PV.int .i64)) (cs := [.int .i64 v23]) hv22 rfl rfl Ty.e27 Ty.s3 rfl rfl) rfl <| d0 rfl (o_loadRS rfl Ty.a3 rfl) rfl ?_
     obtain ⟨v24, hv23, h⟩ := bindE h
     refine d2 rfl (o_call (ds := [.lst false (List.map (PV.int .i64) v4), .int .i64 v23]) rfl Ty.k43 rfl (r07_Times_ok hv23)) rfl <| d7 rfl (fun _ hN => o_move (d := .lst false (List.map (PV.int .i64) v5)) rfl) rfl <| d7 rfl (fun _ hN => o_move (d := .lst false (List.map (PV.int .i64) v7)) rfl) rfl <| d7 rfl (fun _ hN => o_move (d := .int .i64 s21) rfl) rfl <| d0 rfl (o_ixL (f := (PV.int .i64)) (cs := [.int .i64 v23]) hv22 rfl rfl Ty.e27 Ty.s3 rfl rfl) rfl <| d0 rfl (o_loadRS rfl Ty.a3 rfl) rfl ?_
     obtain ⟨v25, hv24, h⟩ := bindE h
     refine d2 rfl (o_call (ds := [.lst false (List.map (PV.int .i64) v5), .int .i64 v23]) rfl Ty.k43 rfl (r07_Times_ok hv24)) rfl <| d7 rfl (fun _ hN => o_ari rfl rfl rfl) rfl <| d7 rfl (fun _ hN => o_cmp rfl rfl rfl) rfl <| d_nil ?_
     refine pw_cond ((w64 (v24 + v25)) != 1) rfl (fun hc => ?_) (fun hc => ?_)
     ·have h := ifT h hc
      refine sR <| y0 rfl (o_assign (d := .bool false) rfl) <| y_nil <| pw_ret ?_
      have he := hx21 _ (Option.some.inj h).symm
      have h := hk20
      rw [← he] at h
      obtain rfl := Option.some.inj h
      exact ⟨rfl, [_], ⟨rfl, trivial⟩, rfl, io⟩
     ·have h := ifF h hc
      refine pw_skip <| sr1 (by kernel_rfl) <| y0 rfl (o_move (d := .int .i64 s21) rfl) <| y0 rfl (o_ari rfl rfl rfl) <| y0 rfl (o_assign (d := .int .i64 (w64 (s21 + 1))) rfl) <| y_nil ?_
      exact ⟨rfl, w64 (s21 + 1), (Option.some.inj h).symm, (wk_st _ _ ⟨rfl, rfl, rfl, rfl, rfl, rfl, rfl, rfl, rfl, rfl, rfl, rfl, rfl, rfl, rfl, trivial⟩ ⟨rS, trivial⟩)⟩
    ·have h := ifF h hc
     refine pw_exit <| thenQ_exit <| thenQ_exit <| blockQ_exit ?_
     have he := hx21 _ (Option.some.inj h).symm
     have h := hk20
     rw [← he] at h
     exact ⟨rfl, (), h, (wk_st _ _ ⟨rfl, rfl, rfl, rfl, rfl, rfl, rfl, rfl, rfl, trivial⟩ ⟨rS, trivial⟩)⟩

theorem w08_ReachMore_ok {a0 : store_Store} {a1 : List Int} {a2 : List Int} {r : Bool} (h : w08_ReachMore a0 a1 a2 = some r) : PCalls Try.prog 14 [store_Store.Pv a0, .lst false (List.map (PV.int .i64) a1), .lst false (List.map (PV.int .i64) a2)] (.bool r) := by
 unfold w08_ReachMore at h
 refine pc_intro (N := 86) Try.func14 rfl rfl nl fun w0 imm0 => sR <| y1 rfl (o_box (d := store_Store.Pv a0) (z := 3) (cl := true) rfl rfl rfl rfl rfl) rfl <| y0 rfl (o_assign (d := .bool false) rfl) <| y_nil <| pw_seq <| sR <| y0 rfl (o_loadA (cs := store_Store.Pc a0) rfl rfl rfl Ty.a26 Ty.s26 nl rfl) ?_
 obtain ⟨v1, hv1, h⟩ := bindE h
 refine y0 rfl (o_call (ds := [store_Store.Pv a0]) rfl Ty.k47 rfl (w08_right_ok hv1)) <| y0 rfl (o_not rfl rfl) <| y0 rfl (o_move (d := .bool (!v1)) rfl) <| y_if (g := ((!v1) == false)) rfl (fun hg => o_move (d := .lst false (List.map (PV.int .i64) a1)) rfl) <| y_if (g := ((!v1) == false)) rfl (fun hg => o_lnL (f := (PV.int .i64)) (ct hg) Ty.e27) <| y_if (g := ((!v1) == false)) rfl (fun hg => o_cmp (ct hg) rfl rfl) <| y0 rfl (pk_or rfl rfl rfl (fun q => eqF q)) <| y0 rfl (o_move (d := .bool ((!v1) || (decide ((a1.length : Int) > 50)))) rfl) ?_
 refine y_if (g := (((!v1) || (decide ((a1.length : Int) > 50))) == false)) rfl (fun hg => o_move (d := .lst false (List.map (PV.int .i64) a2)) rfl) <| y_if (g := (((!v1) || (decide ((a1.length : Int) > 50))) == false)) rfl (fun hg => o_lnL (f := (PV.int .i64)) (ct hg) Ty.e27) <| y_if (g := (((!v1) || (decide ((a1.length : Int) > 50))) == false)) rfl (fun hg => o_cmp (ct hg) rfl rfl) <| y0 rfl (pk_or rfl rfl rfl (fun q => eqF q)) <| y0 rfl (o_move (d := .bool (((!v1) || (decide ((a1.length : Int) > 50))) || (decide ((a2.length : Int) > 50)))) rfl) ?_
 obtain ⟨v2, hv2, h⟩ := bindE h
 refine y_if (g := ((((!v1) || (decide ((a1.length : Int) > 50))) || (decide ((a2.length : Int) > 50))) == false)) rfl (fun hg => o_call (ds := []) rfl Ty.k48 rfl (w08_shown_ok (onlyE hv2 hg))) <| y_if (g := ((((!v1) || (decide ((a1.length : Int) > 50))) || (decide ((a2.length : Int) > 50))) == false)) rfl (fun hg => o_not (ct hg) rfl) <| y0 rfl (pk_or rfl rfl rfl (fun q => eqF q)) <| y_nil ?_
 refine pw_cond ((((!v1) || (decide ((a1.length : Int) > 50))) || (decide ((a2.length : Int) > 50))) || (!v2)) rfl (fun hc => ?_) (fun hc => ?_)
 ·have h := ifT h hc
  refine sR ?_
  obtain ⟨v3, hv3, h⟩ := bindE h
  refine y0 rfl (o_call (ds := []) rfl Ty.k48 rfl (w08_shown_ok hv3)) <| y0 rfl (o_assign (d := .bool v3) rfl) <| y_nil <| pw_ret ?_
  obtain rfl := Option.some.inj h
  exact ⟨rfl, [_], ⟨rfl, trivial⟩, rfl, io⟩
 ·have h := ifF h hc
  refine pw_skip <| sR <| y0 rfl (o_loadA (cs := store_Store.Pc a0) rfl rfl rfl Ty.a26 Ty.s26 nl rfl) <| y0 rfl (o_move (d := .lst false (List.map (PV.int .i64) a1)) rfl) ?_
  obtain ⟨v4, hv4, h⟩ := bindE h
  refine yc rfl (o_callF (ls := []) (ds := [store_Store.Pv a0, .lst false (List.map (PV.int .i64) a1)]) rfl Ty.k50 rfl (reach_From_ok hv4)) <| y0 rfl (o_assign (d := .lst false (List.map (PV.int .i64) v4)) rfl) <| y_nil <| sR <| y0 rfl (o_loadA (cs := store_Store.Pc a0) rfl rfl rfl Ty.a26 Ty.s26 nl rfl) <| y0 rfl (o_move (d := .lst false (List.map (PV.int .i64) a2)) rfl) ?_
  obtain ⟨v5, hv5, h⟩ := bindE h
  refine yc rfl (o_callF (ls := []) (ds := [store_Store.Pv a0, .lst false (List.map (PV.int .i64) a2)]) rfl Ty.k50 rfl (reach_From_ok hv5)) <| y0 rfl (o_assign (d := .lst false (List.map (PV.int .i64) v5)) rfl) <| y_nil <| dr [6] Ty.mix (by kernel_rfl) (by kernel_rfl) <| d0 rfl (o_loadA (cs := store_Store.Pc a0) rfl rfl rfl Ty.a26 Ty.s26 nl rfl) rfl <| d1n rfl (o_nslice rfl Ty.e27 Ty.s3) rfl <| d7 rfl (fun _ hN => o_move (d := .lst false (List.map (PV.int .i64) a1)) rfl) rfl ?_
  obtain ⟨v6, hv6, h⟩ := bindE h
  refine d3 rfl (o_apT (f := (PV.int .i64)) hv6 rfl rfl (.inl ⟨_, rfl, rfl⟩) Ty.e27 Ty.s3 Ty.b3 Ty.z3 rfl (fun _ => rfl)) rfl rfl rfl <| d7 rfl (fun _ hN => o_move (d := .lst false (List.map (PV.int .i64) a2)) rfl) rfl ?_
  obtain ⟨v7, hv7, h⟩ := bindE h
  refine d3a rfl (o_apR (f := (PV.int .i64)) hv7 rfl rfl rfl rfl rfl rfl (.inl ⟨_, rfl, rfl⟩) Ty.e27 Ty.s3 Ty.b3 Ty.z3 rfl (fun _ => rfl)) rfl rfl rfl rfl rfl ?_
  obtain ⟨v8, hv8, h⟩ := bindE h
  refine d5f rfl (o_callF (ls := [42]) (ds := [store_Store.Pv a0, .sl 42]) rfl Ty.k50 rfl (reach_From_ok hv8)) rfl rfl <| d7 rfl (fun _ hN => o_assign (d := .lst false (List.map (PV.int .i64) v8)) rfl) rfl <| d_nil <| sR <| y0 rfl (o_loadA (cs := store_Store.Pc a0) rfl rfl rfl Ty.a26 Ty.s26 nl rfl) ?_
  obtain ⟨v9, hv9, h⟩ := bindE h
  refine yc rfl (o_callF (ls := []) (ds := [store_Store.Pv a0]) rfl Ty.k49 rfl (w08_its_ok hv9)) ?_
  obtain ⟨v10, hv10, h⟩ := bindE h
  refine yc rfl (o_callF (ls := []) (ds := [r06_Store.Pv v9]) rfl Ty.k46 rfl (r06_Live_ok hv10)) <| y0 rfl (o_assign (d := .lst false (List.map (PV.int .i64) v10)) rfl) <| y_nil ?_
  obtain ⟨κ18, hκ18, h⟩ := jnE h
  refine pw_jn0 (κ := κ18) (r := r) (fun (_ : Unit) => St.of [(7, .lst false (List.map (PV.int .i64) v4)), (8, .lst false (List.map (PV.int .i64) v5)), (9, .lst false (List.map (PV.int .i64) v8))] []) (fun q19 h => ?_) ?_
  ·subst hκ18
   refine sR <| y0 rfl (o_move (d := .lst false (List.map (PV.int .i64) v8)) rfl) <| y0 rfl (o_lnL (f := (PV.int .i64)) rfl Ty.e27) <| y0 rfl (o_move (d := .lst false (List.map (PV.int .i64) v4)) rfl) <| y0 rfl (o_lnL (f := (PV.int .i64)) rfl Ty.e27) <| y0 rfl (o_move (d := .lst false (List.map (PV.int .i64) v5)) rfl) <| y0 rfl (o_lnL (f := (PV.int .i64)) rfl Ty.e27) <| y0 rfl (o_ari rfl rfl rfl) ?_
   refine y0 rfl (o_cmp rfl rfl rfl) <| y0 rfl (o_assign (d := .bool (decide ((v8.length : Int) ≤ (w64 ((v4.length : Int) + (v5.length : Int)))))) rfl) <| y_nil <| pw_ret ?_
   obtain rfl := Option.some.inj h
   exact ⟨rfl, [_], ⟨rfl, trivial⟩, rfl, io⟩
  ·skip
   refine sR <| y0 rfl (o_assign (d := .int .i64 0) rfl) <| y_nil <| pw_block ?_
   obtain ⟨e20, hl19, hk20⟩ := bindE h
   refine pw_lp0 (fun (s21 : Int) => St.of [(7, .lst false (List.map (PV.int .i64) v4)), (8, .lst false (List.map (PV.int .i64) v5)), (9, .lst false (List.map (PV.int .i64) v8)), (10, .lst false (List.map (PV.int .i64) v10)), (11, .int .i64 s21)] []) hl19 (wk_st _ _ ⟨rfl, rfl, rfl, rfl, rfl, rfl, rfl, rfl, rfl, rfl, rfl, rfl, rfl, rfl, rfl, trivial⟩ trivial) (fun s21 x22 h hx21 => ?_)
   refine pw_seq <| sR <| y0 rfl (o_move (d := .int .i64 s21) rfl) <| y0 rfl (o_move (d := .lst false (List.map (PV.int .i64) v10)) rfl) <| y0 rfl (o_lnL (f := (PV.int .i64)) rfl Ty.e27) <| y0 rfl (o_cmp rfl rfl rfl) <| y_nil ?_
   refine pw_cond (decide (s21 < (v10.length : Int))) rfl (fun hc => ?_) (fun hc => ?_)
   ·have h := ifT h hc
    refine pw_skip <| pw_seq <| pw_block <| sR <| y0 rfl (o_move (d := .lst false (List.map (PV.int .i64) v4)) rfl) <| y0 rfl (o_move (d := .lst false (List.map (PV.int .i64) v10)) rfl) <| y0 rfl (o_move (d := .int .i64 s21) rfl) ?_
    obtain ⟨v23, hv22, h⟩ := bindE h
    refine y0 rfl (o_ixL (f := (PV.int .i64)) (cs := [.int .i64 v23]) hv22 rfl rfl Ty.e27 Ty.s3 rfl rfl) <| y0 rfl (o_loadRS rfl Ty.a3 rfl) ?_
    obtain ⟨v24, hv23, h⟩ := bindE h
    refine y0 rfl (o_call (ds := [.lst false (List.map (PV.int .i64) v4), .int .i64 v23]) rfl Ty.k43 rfl (r07_Times_ok hv23)) <| y0 rfl (o_cmp rfl rfl rfl) <| y0 rfl (o_move (d := .bool (decide (v24 > 0))) rfl) <| y_if (g := ((decide (v24 > 0)) == false)) rfl (fun hg => o_move (d := .lst false (List.map (PV.int .i64) v5)) rfl) <| y_if (g := ((decide (v24 > 0)) == false)) rfl (fun hg => o_move (d := .lst false (List.map (PV.int .i64) v10)) rfl) <| y_if (g := ((decide (v24 > 0)) == false)) rfl (fun hg => o_move (d := .int .i64 s21) rfl) <| y_if (g := ((decide (v24 > 0)) == false)) rfl (fun hg => o_ixL (f := (PV.int .i64)) (cs := [.int .i64 v23]) hv22 (ct hg) (ct hg) Ty.e27 Ty.s3 rfl rfl) <| y_if (g := ((decide (v24 > 0)) == false)) rfl (fun hg => o_loadRS (ct hg) Ty.a3 rfl) ?_
    obtain ⟨v25, hv24, h⟩ := bindE h
    refine y_if (g := ((decide (v24 > 0)) == false)) rfl (fun hg => o_call (ds := [.lst false (List.map (PV.int .i64) v5), .int .i64 v23]) rfl Ty.k43 (consE (ct hg) (consE (ct hg) rfl)) (r07_Times_ok (onlyE hv24 hg))) <| y_if (g := ((decide (v24 > 0)) == false)) rfl (fun hg => o_cmp (ct hg) rfl rfl) <| y0 rfl (pk_or rfl rfl rfl (fun q => eqF q)) <| y0 rfl (o_assign (d := .bool ((decide (v24 > 0)) || (decide (v25 > 0)))) rfl) <| y_nil <| sR <| y0 rfl (o_move (d := .bool ((decide (v24 > 0)) || (decide (v25 > 0)))) rfl) <| y0 rfl (o_move (d := .lst false (List.map (PV.int .i64) v8)) rfl) ?_
    refine y0 rfl (o_move (d := .lst false (List.map (PV.int .i64) v10)) rfl) <| y0 rfl (o_move (d := .int .i64 s21) rfl) <| y0 rfl (o_ixL (f := (PV.int .i64)) (cs := [.int .i64 v23]) hv22 rfl rfl Ty.e27 Ty.s3 rfl rfl) <| y0 rfl (o_loadRS rfl Ty.a3 rfl) ?_
    obtain ⟨v26, hv25, h⟩ := bindE h
    refine y0 rfl (o_call (ds := [.lst false (List.map (PV.int .i64) v8), .int .i64 v23]) rfl Ty.k43 rfl (r07_Times_ok hv25)) <| y0 rfl (o_cmp rfl rfl rfl) <| y0 rfl (o_neB rfl rfl Ty.u4 rfl) <| y_nil ?_
    refine pw_cond (((decide (v24 > 0)) || (decide (v25 > 0))) != (decide (v26 > 0))) rfl (fun hc => ?_) (fun hc => ?_)
    ·have h := ifT h hc
     refine sR <| y0 rfl (o_assign (d := .bool false) rfl) <| y_nil <| pw_ret ?_
     have he := hx21 _ (Option.some.inj h).symm
     have h := hk20
     rw [← he] at h
     obtain rfl := Option.some.inj h
     exact ⟨rfl, [_], ⟨rfl, trivial⟩, rfl, io⟩
    ·have h := ifF h hc
     refine pw_skip <| sr1 (by kernel_rfl) <| y0 rfl (o_move (d := .int .i64 s21) rfl) <| y0 rfl (o_ari rfl rfl rfl) <| y0 rfl (o_assign (d := .int .i64 (w64 (s21 + 1))) rfl) <| y_nil ?_
     exact ⟨rfl, w64 (s21 + 1), (Option.some.inj h).symm, (wk_st _ _ ⟨rfl, rfl, rfl, rfl, rfl, rfl, rfl, rfl, rfl, rfl, rfl, rfl, rfl, rfl, rfl, trivial⟩ trivial)⟩
   ·have h := ifF h hc
    refine pw_exit <| thenQ_exit <| thenQ_exit <| blockQ_exit ?_
    have he := hx21 _ (Option.some.inj h).symm
    have h := hk20
    rw [← he] at h
    exact ⟨rfl, (), h, (wk_st _ _ ⟨rfl, rfl, rfl, rfl, rfl, rfl, rfl, rfl, rfl, trivial⟩ trivial)⟩

theorem w08_ReachSteps_ok {a0 : store_Store} {a1 : Int} {a2 : Int} {a3 : Int} {r : Bool} (h : w08_ReachSteps a0 a1 a2 a3 = some r) : PCalls Try.prog 15 [store_Store.Pv a0, .int .i64 a1, .int .i64 a2, .int .i64 a3] (.bool r) := by
 unfold w08_ReachSteps at h
 refine pc_intro (N := 50) Try.func15 rfl rfl nl fun w0 imm0 => sR <| y1 rfl (o_box (d := store_Store.Pv a0) (z := 3) (cl := true) rfl rfl rfl rfl rfl) rfl <| y0 rfl (o_assign (d := .bool false) rfl) <| y_nil <| pw_seq <| sR <| y0 rfl (o_loadA (cs := store_Store.Pc a0) rfl rfl rfl Ty.a26 Ty.s26 nl rfl) ?_
 obtain ⟨v1, hv1, h⟩ := bindE h
 refine y0 rfl (o_call (ds := [store_Store.Pv a0]) rfl Ty.k47 rfl (w08_right_ok hv1)) <| y0 rfl (o_not rfl rfl) <| y0 rfl (o_move (d := .bool (!v1)) rfl) ?_
 obtain ⟨v2, hv2, h⟩ := bindE h
 refine y_if (g := ((!v1) == false)) rfl (fun hg => o_call (ds := []) rfl Ty.k48 rfl (w08_shown_ok (onlyE hv2 hg))) <| y_if (g := ((!v1) == false)) rfl (fun hg => o_not (ct hg) rfl) <| y0 rfl (pk_or rfl rfl rfl (fun q => eqF q)) <| y_nil ?_
 refine pw_cond ((!v1) || (!v2)) rfl (fun hc => ?_) (fun hc => ?_)
 ·have h := ifT h hc
  refine sR ?_
  obtain ⟨v3, hv3, h⟩ := bindE h
  refine y0 rfl (o_call (ds := []) rfl Ty.k48 rfl (w08_shown_ok hv3)) <| y0 rfl (o_assign (d := .bool v3) rfl) <| y_nil <| pw_ret ?_
  obtain rfl := Option.some.inj h
  exact ⟨rfl, [_], ⟨rfl, trivial⟩, rfl, io⟩
 ·have h := ifF h hc
  refine pw_skip <| sR <| y0 rfl (o_loadA (cs := store_Store.Pc a0) rfl rfl rfl Ty.a26 Ty.s26 nl rfl) ?_
  obtain ⟨v4, hv4, h⟩ := bindE h
  refine yc rfl (o_callF (ls := []) (ds := [store_Store.Pv a0]) rfl Ty.k49 rfl (w08_its_ok hv4)) ?_
  obtain ⟨v5, hv5, h⟩ := bindE h
  refine yc rfl (o_callF (ls := []) (ds := [r06_Store.Pv v4]) rfl Ty.k46 rfl (r06_Live_ok hv5)) <| y0 rfl (o_move (d := .int .i64 a1) rfl) ?_
  obtain ⟨v6, hv6, h⟩ := bindE h
  refine y0 rfl (o_call (ds := [.lst false (List.map (PV.int .i64) v5), .int .i64 a1]) rfl Ty.k43 rfl (r07_Times_ok hv6)) <| y0 rfl (o_cmp rfl rfl rfl) <| y0 rfl (o_assign (d := .bool (decide (v6 > 0))) rfl) <| y_nil <| sR <| y0 rfl (o_loadA (cs := store_Store.Pc a0) rfl rfl rfl Ty.a26 Ty.s26 nl rfl) <| y0 rfl (o_move (d := .int .i64 a1) rfl) <| y0 rfl (o_move (d := .int .i64 a2) rfl) ?_
  obtain ⟨v7, hv7, h⟩ := bindE h
  refine y0 rfl (o_call (ds := [store_Store.Pv a0, .int .i64 a1, .int .i64 a2]) rfl Ty.k54 rfl (reach_Is_ok hv7)) <| y0 rfl (o_not rfl rfl) <| y0 rfl (o_move (d := .bool (!v7)) rfl) <| y_if (g := ((!v7) == false)) rfl (fun hg => o_loadA (cs := store_Store.Pc a0) rfl rfl rfl Ty.a26 Ty.s26 nl rfl) <| y_if (g := ((!v7) == false)) rfl (fun hg => o_move (d := .int .i64 a2) rfl) <| y_if (g := ((!v7) == false)) rfl (fun hg => o_move (d := .int .i64 a3) rfl) ?_
  obtain ⟨v8, hv8, h⟩ := bindE h
  refine y_if (g := ((!v7) == false)) rfl (fun hg => o_call (ds := [store_Store.Pv a0, .int .i64 a2, .int .i64 a3]) rfl Ty.k54 (consE (ct hg) (consE (ct hg) (consE (ct hg) rfl))) (reach_Is_ok (onlyE hv8 hg))) <| y_if (g := ((!v7) == false)) rfl (fun hg => o_not (ct hg) rfl) <| y0 rfl (pk_or rfl rfl rfl (fun q => eqF q)) <| y0 rfl (o_move (d := .bool ((!v7) || (!v8))) rfl) <| y_if (g := (((!v7) || (!v8)) == false)) rfl (fun hg => o_loadA (cs := store_Store.Pc a0) rfl rfl rfl Ty.a26 Ty.s26 nl rfl) <| y_if (g := (((!v7) || (!v8)) == false)) rfl (fun hg => o_move (d := .int .i64 a1) rfl) <| y_if (g := (((!v7) || (!v8)) == false)) rfl (fun hg => o_move (d := .int .i64 a3) rfl) ?_
  obtain ⟨v9, hv9, h⟩ := bindE h
  refine y_if (g := (((!v7) || (!v8)) == false)) rfl (fun hg => o_call (ds := [store_Store.Pv a0, .int .i64 a1, .int .i64 a3]) rfl Ty.k54 (consE (ct hg) (consE (ct hg) (consE (ct hg) rfl))) (reach_Is_ok (onlyE hv9 hg))) <| y0 rfl (pk_or rfl rfl rfl (fun q => eqF q)) <| y0 rfl (o_move (d := .bool (((!v7) || (!v8)) || v9)) rfl) <| y_if (g := ((((!v7) || (!v8)) || v9) == true)) rfl (fun hg => o_loadA (cs := store_Store.Pc a0) rfl rfl rfl Ty.a26 Ty.s26 nl rfl) <| y_if (g := ((((!v7) || (!v8)) || v9) == true)) rfl (fun hg => o_move (d := .int .i64 a1) rfl) <| y_if (g := ((((!v7) || (!v8)) || v9) == true)) rfl (fun hg => o_move (d := .int .i64 a1) rfl) ?_
  obtain ⟨v10, hv10, h⟩ := bindE h
  refine y_if (g := ((((!v7) || (!v8)) || v9) == true)) rfl (fun hg => o_call (ds := [store_Store.Pv a0, .int .i64 a1, .int .i64 a1]) rfl Ty.k54 (consE (ct hg) (consE (ct hg) (consE (ct hg) rfl))) (reach_Is_ok (onlyE hv10 hg))) <| y_if (g := ((((!v7) || (!v8)) || v9) == true)) rfl (fun hg => o_move (d := .bool (decide (v6 > 0))) rfl) <| y_if (g := ((((!v7) || (!v8)) || v9) == true)) rfl (fun hg => o_eqB (ct hg) (ct hg) Ty.u4 rfl) <| y0 rfl (pk_and rfl rfl rfl (fun q => eqT q)) <| y0 rfl (o_assign (d := .bool ((((!v7) || (!v8)) || v9) && (v10 == (decide (v6 > 0))))) rfl) <| y_nil <| pw_ret ?_
  obtain rfl := Option.some.inj h
  exact ⟨rfl, [_], ⟨rfl, trivial⟩, rfl, io⟩

end Go.Proofs.Ytpnajadblhkomaa.Ok
