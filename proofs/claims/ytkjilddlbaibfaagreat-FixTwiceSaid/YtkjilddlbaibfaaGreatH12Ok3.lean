/-
 The functions of the program do as the plain functions do.
-/
import Derived.Test.YtkjilddlbaibfaaGreatH12Ok2
namespace Go.Proofs.YtkjilddlbaibfaaGreat.Ok
open Go Go.Pw Go.Sh Go.Proofs
set_option linter.unusedVariables false
set_option maxRecDepth 100000
set_option maxHeartbeats 4000000
theorem w12_FixMore_ok {a0 : store_Store} {a1 : List hash_Place} {a2 : List Int} {a3 : List Int} {a4 : Int} {a5 : Int} {r : Bool} (h : w12_FixMore a0 a1 a2 a3 a4 a5 = some r) : PCalls Tryz.prog 6 [store_Store.Pv a0, .lst false (List.map hash_Place.Pv a1), .lst false (List.map (PV.int .i64) a2), .lst false (List.map (PV.int .i64) a3), .int .i64 a4, .int .i64 a5] (.bool r) := by
 unfold w12_FixMore at h
 refine pc_intro (N := 128) Tryz.func6 rfl rfl nl fun w0 imm0 => sR <| y1 rfl (o_box (d := store_Store.Pv a0) (z := 3) (cl := true) rfl rfl rfl rfl rfl) rfl <| y0 rfl (o_assign (d := .bool false) rfl) <| y_nil <| pw_seq <| sR <| y0 rfl (o_loadA (cs := store_Store.Pc a0) rfl rfl rfl Ty.a26 Ty.s26 nl rfl) ?_
 obtain ⟨v1, hv1, h⟩ := bindE h
 refine y0 rfl (o_call (ds := [store_Store.Pv a0]) rfl Ty.k13 rfl (w12_right_ok hv1)) <| y0 rfl (o_not rfl rfl) <| y0 rfl (o_move (d := .bool (!v1)) rfl) <| y_if (g := ((!v1) == false)) rfl (fun hg => o_move (d := .lst false (List.map hash_Place.Pv a1)) rfl) ?_
 obtain ⟨v2, hv2, h⟩ := bindE h
 refine y_if (g := ((!v1) == false)) rfl (fun hg => o_call (ds := [.lst false (List.map hash_Place.Pv a1)]) rfl Ty.k14 (consE (ct hg) rfl) (w12_even_ok (onlyE hv2 hg))) <| y_if (g := ((!v1) == false)) rfl (fun hg => o_not (ct hg) rfl) <| y0 rfl (pk_or rfl rfl rfl (fun q => eqF q)) <| y0 rfl (o_move (d := .bool ((!v1) || (!v2))) rfl) <| y_if (g := (((!v1) || (!v2)) == false)) rfl (fun hg => o_move (d := .lst false (List.map (PV.int .i64) a2)) rfl) <| y_if (g := (((!v1) || (!v2)) == false)) rfl (fun hg => o_lnL (f := (PV.int .i64)) (ct hg) Ty.e28) <| y_if (g := (((!v1) || (!v2)) == false)) rfl (fun hg => o_cmp (ct hg) rfl rfl) <| y0 rfl (pk_or rfl rfl rfl (fun q => eqF q)) ?_
 refine y0 rfl (o_move (d := .bool (((!v1) || (!v2)) || (decide ((a2.length : Int) > 50)))) rfl) <| y_if (g := ((((!v1) || (!v2)) || (decide ((a2.length : Int) > 50))) == false)) rfl (fun hg => o_move (d := .lst false (List.map (PV.int .i64) a3)) rfl) <| y_if (g := ((((!v1) || (!v2)) || (decide ((a2.length : Int) > 50))) == false)) rfl (fun hg => o_lnL (f := (PV.int .i64)) (ct hg) Ty.e28) <| y_if (g := ((((!v1) || (!v2)) || (decide ((a2.length : Int) > 50))) == false)) rfl (fun hg => o_cmp (ct hg) rfl rfl) <| y0 rfl (pk_or rfl rfl rfl (fun q => eqF q)) <| y0 rfl (o_move (d := .bool ((((!v1) || (!v2)) || (decide ((a2.length : Int) > 50))) || (decide ((a3.length : Int) > 50)))) rfl) ?_
 obtain ⟨v3, hv3, h⟩ := bindE h
 refine y_if (g := (((((!v1) || (!v2)) || (decide ((a2.length : Int) > 50))) || (decide ((a3.length : Int) > 50))) == false)) rfl (fun hg => o_call (ds := []) rfl Ty.k15 rfl (w12_shown_ok (onlyE hv3 hg))) <| y_if (g := (((((!v1) || (!v2)) || (decide ((a2.length : Int) > 50))) || (decide ((a3.length : Int) > 50))) == false)) rfl (fun hg => o_not (ct hg) rfl) <| y0 rfl (pk_or rfl rfl rfl (fun q => eqF q)) <| y_nil ?_
 refine pw_cond (((((!v1) || (!v2)) || (decide ((a2.length : Int) > 50))) || (decide ((a3.length : Int) > 50))) || (!v3)) rfl (fun hc => ?_) (fun hc => ?_)
 ·have h := ifT h hc
  refine sR ?_
  obtain ⟨v4, hv4, h⟩ := bindE h
  refine y0 rfl (o_call (ds := []) rfl Ty.k15 rfl (w12_shown_ok hv4)) <| y0 rfl (o_assign (d := .bool v4) rfl) <| y_nil <| pw_ret ?_
  obtain rfl := Option.some.inj h
  exact ⟨rfl, [_], ⟨rfl, trivial⟩, rfl, io⟩
 ·have h := ifF h hc
  refine pw_skip <| sR <| y0 rfl (o_loadA (cs := store_Store.Pc a0) rfl rfl rfl Ty.a26 Ty.s26 nl rfl) <| y0 rfl (o_move (d := .lst false (List.map hash_Place.Pv a1)) rfl) <| y0 rfl (o_move (d := .lst false (List.map (PV.int .i64) a2)) rfl) ?_
  obtain ⟨v5, hv5, h⟩ := bindE h
  refine yc rfl (o_callF (ls := []) (ds := [store_Store.Pv a0, .lst false (List.map hash_Place.Pv a1), .lst false (List.map (PV.int .i64) a2)]) rfl Ty.k19 rfl (fix_From_ok hv5)) <| y0 rfl (o_assign (d := .lst false (List.map (PV.int .i64) v5)) rfl) <| y_nil <| dr [7] Ty.mix (by kernel_rfl) (by kernel_rfl) <| d0 rfl (o_loadA (cs := store_Store.Pc a0) rfl rfl rfl Ty.a26 Ty.s26 nl rfl) rfl <| d7 rfl (fun _ hN => o_move (d := .lst false (List.map hash_Place.Pv a1)) rfl) rfl <| d1n rfl (o_nslice rfl Ty.e28 Ty.s3) rfl <| d7 rfl (fun _ hN => o_move (d := .lst false (List.map (PV.int .i64) a2)) rfl) rfl ?_
  obtain ⟨v6, hv6, h⟩ := bindE h
  refine d3 rfl (o_apT (f := (PV.int .i64)) hv6 rfl rfl (.inl ⟨_, rfl, rfl⟩) Ty.e28 Ty.s3 Ty.b3 Ty.z3 rfl (fun _ => rfl)) rfl rfl rfl <| d7 rfl (fun _ hN => o_move (d := .lst false (List.map (PV.int .i64) a3)) rfl) rfl ?_
  obtain ⟨v7, hv7, h⟩ := bindE h
  refine d3a rfl (o_apR (f := (PV.int .i64)) hv7 rfl rfl rfl rfl rfl rfl (.inl ⟨_, rfl, rfl⟩) Ty.e28 Ty.s3 Ty.b3 Ty.z3 rfl (fun _ => rfl)) rfl rfl rfl rfl rfl ?_
  obtain ⟨v8, hv8, h⟩ := bindE h
  refine d5f rfl (o_callF (ls := [55]) (ds := [store_Store.Pv a0, .lst false (List.map hash_Place.Pv a1), .sl 55]) rfl Ty.k19 rfl (fix_From_ok hv8)) rfl rfl <| d7 rfl (fun _ hN => o_assign (d := .lst false (List.map (PV.int .i64) v8)) rfl) rfl <| d_nil <| sR <| y0 rfl (o_move (d := .lst false (List.map hash_Place.Pv a1)) rfl) <| y0 rfl (o_move (d := .int .i64 a4) rfl) ?_
  obtain ⟨v9, hv9, h⟩ := bindE h
  refine y0 rfl (o_call (ds := [.lst false (List.map hash_Place.Pv a1), .int .i64 a4]) rfl Ty.k32 rfl (ephem_Get_ok hv9)) <| y0 rfl (o_move (d := .tup [.int .i64 v9.1, .int .i64 v9.2]) rfl) <| y0 rfl (o_extract rfl rfl) <| y0 rfl (o_extract rfl rfl) <| y0 rfl (o_assign (d := .int .i64 v9.1) rfl) <| y0 rfl (o_assign (d := .int .i64 v9.2) rfl) <| y_nil <| sR ?_
  refine y0 rfl (o_move (d := .lst false (List.map hash_Place.Pv a1)) rfl) <| y0 rfl (o_move (d := .int .i64 a4) rfl) <| y0 rfl (o_move (d := .int .i64 a5) rfl) ?_
  obtain ⟨v10, hv10, h⟩ := bindE h
  refine yc rfl (o_callF (ls := []) (ds := [.lst false (List.map hash_Place.Pv a1), .int .i64 a4, .int .i64 a5]) rfl Ty.k33 rfl (ephem_Set_ok hv10)) <| y0 rfl (o_move (d := .tup [.lst false (List.map hash_Place.Pv v10.1), .int .i64 v10.2.1, .int .i64 v10.2.2]) rfl) <| y0 rfl (o_extract rfl rfl) <| y0 rfl (o_extract rfl rfl) <| y0 rfl (o_extract rfl rfl) <| y0 rfl (o_assign (d := .lst false (List.map hash_Place.Pv v10.1)) rfl) <| y0 rfl (o_assign (d := .int .i64 v10.2.1) rfl) <| y0 rfl (o_assign (d := .int .i64 v10.2.2) rfl) ?_
  refine y_nil <| sR <| y0 rfl (o_loadA (cs := store_Store.Pc a0) rfl rfl rfl Ty.a26 Ty.s26 nl rfl) <| y0 rfl (o_move (d := .lst false (List.map hash_Place.Pv v10.1)) rfl) <| y0 rfl (o_move (d := .lst false (List.map (PV.int .i64) a2)) rfl) ?_
  obtain ⟨v11, hv11, h⟩ := bindE h
  refine yc rfl (o_callF (ls := []) (ds := [store_Store.Pv a0, .lst false (List.map hash_Place.Pv v10.1), .lst false (List.map (PV.int .i64) a2)]) rfl Ty.k19 rfl (fix_From_ok hv11)) <| y0 rfl (o_assign (d := .lst false (List.map (PV.int .i64) v11)) rfl) <| y_nil ?_
  obtain ⟨κ18, hκ18, h⟩ := jnE h
  refine pw_jn0 (κ := κ18) (r := r) (fun (_ : Unit) => St.of [(1, .lst false (List.map hash_Place.Pv a1)), (2, .lst false (List.map (PV.int .i64) a2)), (6, .ptr 6 0 0), (13, .lst false (List.map (PV.int .i64) v5))] [(6, ⟨[store_Store.Pv a0], 0, false, 3, true⟩)]) (fun q19 h => ?_) ?_
  ·subst hκ18
   refine dr [] Ty.mix (by kernel_rfl) (by kernel_rfl) <| d0 rfl (o_loadA (cs := store_Store.Pc a0) rfl rfl rfl Ty.a26 Ty.s26 nl rfl) rfl <| d7 rfl (fun _ hN => o_move (d := .lst false (List.map hash_Place.Pv a1)) rfl) rfl <| d7 rfl (fun _ hN => o_move (d := .lst false (List.map (PV.int .i64) a2)) rfl) rfl ?_
   obtain ⟨v20, hv19, h⟩ := bindE h
   refine d2 rfl (o_call (ds := [store_Store.Pv a0, .lst false (List.map hash_Place.Pv a1), .lst false (List.map (PV.int .i64) a2)]) rfl Ty.k25 rfl (fix_Rounds_ok hv19)) rfl <| d7 rfl (fun _ hN => o_move (d := .lst false (List.map hash_Place.Pv a1)) rfl) rfl ?_
   obtain ⟨v21, hv20, h⟩ := bindE h
   refine d2f rfl (o_callF (ls := []) (ds := [.lst false (List.map hash_Place.Pv a1)]) rfl Ty.k30 rfl (ephem_Pairs_ok hv20)) rfl <| d0 rfl (o_lnL (f := ephem_Pair.Pv) rfl Ty.e49) rfl <| d7 rfl (fun _ hN => o_cmp rfl rfl rfl) rfl <| d7 rfl (fun _ hN => o_move (d := .bool (decide (v20 ≤ (v21.length : Int)))) rfl) rfl <| d_if7 (g := ((decide (v20 ≤ (v21.length : Int))) == true)) rfl (fun hg _ hN => o_move (d := .lst false (List.map (PV.int .i64) v5)) rfl) rfl <| d_if0 (g := ((decide (v20 ≤ (v21.length : Int))) == true)) rfl (fun hg => o_lnL (f := (PV.int .i64)) (ct hg) Ty.e28) rfl <| d_if0 (g := ((decide (v20 ≤ (v21.length : Int))) == true)) rfl (fun hg => o_loadA (cs := store_Store.Pc a0) rfl rfl rfl Ty.a26 Ty.s26 nl rfl) rfl <| d_if7 (g := ((decide (v20 ≤ (v21.length : Int))) == true)) rfl (fun hg _ hN => o_move (d := .lst false (List.map hash_Place.Pv a1)) rfl) rfl ?_
   refine d_if7 (g := ((decide (v20 ≤ (v21.length : Int))) == true)) rfl (fun hg _ hN => o_move (d := .lst false (List.map (PV.int .i64) a2)) rfl) rfl ?_
   obtain ⟨v22, hv21, h⟩ := bindE h
   refine d_if2f (g := ((decide (v20 ≤ (v21.length : Int))) == true)) rfl (fun hg => o_callF (ls := []) (ds := [store_Store.Pv a0, .lst false (List.map hash_Place.Pv a1), .lst false (List.map (PV.int .i64) a2)]) rfl Ty.k21 (consE (ct hg) (consE (ct hg) (consE (ct hg) rfl))) (fix_Lost_ok (onlyE hv21 hg))) rfl <| d_if0 (g := ((decide (v20 ≤ (v21.length : Int))) == true)) rfl (fun hg => o_lnL (f := (PV.int .i64)) (ct hg) Ty.e28) rfl <| d_if7 (g := ((decide (v20 ≤ (v21.length : Int))) == true)) rfl (fun hg _ hN => o_ari (ct hg) (ct hg) rfl) rfl <| d_if0 (g := ((decide (v20 ≤ (v21.length : Int))) == true)) rfl (fun hg => o_loadA (cs := store_Store.Pc a0) rfl rfl rfl Ty.a26 Ty.s26 nl rfl) rfl ?_
   obtain ⟨v23, hv22, h⟩ := bindE h
   refine d_if2f (g := ((decide (v20 ≤ (v21.length : Int))) == true)) rfl (fun hg => o_callF (ls := []) (ds := [store_Store.Pv a0]) rfl Ty.k16 (consE (ct hg) rfl) (w12_its_ok (onlyE hv22 hg))) rfl ?_
   obtain ⟨v24, hv23, h⟩ := bindE h
   refine d_if2f (g := ((decide (v20 ≤ (v21.length : Int))) == true)) rfl (fun hg => o_callF (ls := []) (ds := [r06_Store.Pv v23]) rfl Ty.k27 (consE (ct hg) rfl) (r06_Live_ok (onlyE hv23 hg))) rfl <| d_if0 (g := ((decide (v20 ≤ (v21.length : Int))) == true)) rfl (fun hg => o_lnL (f := (PV.int .i64)) (ct hg) Ty.e28) rfl <| d_if7 (g := ((decide (v20 ≤ (v21.length : Int))) == true)) rfl (fun hg _ hN => o_cmp (ct hg) (ct hg) rfl) rfl <| d7 rfl (fun _ hN => pk_and rfl rfl rfl (fun q => eqT q)) rfl <| d7 rfl (fun _ hN => o_assign (d := .bool ((decide (v20 ≤ (v21.length : Int))) && ((w64 ((v5.length : Int) + (v22.length : Int))) == (v24.length : Int)))) rfl) rfl <| d_nil <| pw_ret ?_
   obtain rfl := Option.some.inj h
   exact ⟨rfl, [_], ⟨rfl, trivial⟩, rfl, io⟩
  ·skip
   refine sR <| y0 rfl (o_assign (d := .int .i64 0) rfl) <| y_nil <| pw_block ?_
   obtain ⟨e25, hl24, hk25⟩ := bindE h
   refine pw_lp0 (fun (s26 : Int) => St.of [(1, .lst false (List.map hash_Place.Pv a1)), (2, .lst false (List.map (PV.int .i64) a2)), (6, .ptr 6 0 0), (13, .lst false (List.map (PV.int .i64) v5)), (14, .lst false (List.map (PV.int .i64) v8)), (16, .int .i64 v9.2), (20, .lst false (List.map (PV.int .i64) v11)), (21, .int .i64 s26)] [(6, ⟨[store_Store.Pv a0], 0, false, 3, true⟩)]) hl24 (wk_st _ _ ⟨rfl, rfl, rfl, rfl, rfl, rfl, rfl, rfl, rfl, rfl, rfl, rfl, rfl, rfl, rfl, rfl, rfl, rfl, rfl, rfl, rfl, rfl, rfl, rfl, trivial⟩ ⟨rS, trivial⟩) (fun s26 x27 h hx26 => ?_)
   refine pw_seq <| sR <| y0 rfl (o_move (d := .int .i64 s26) rfl) <| y0 rfl (o_move (d := .lst false (List.map (PV.int .i64) v5)) rfl) <| y0 rfl (o_lnL (f := (PV.int .i64)) rfl Ty.e28) <| y0 rfl (o_cmp rfl rfl rfl) <| y0 rfl (o_move (d := .bool (decide (s26 < (v5.length : Int)))) rfl) <| y_if (g := ((decide (s26 < (v5.length : Int))) == true)) rfl (fun hg => o_move (d := .int .i64 s26) rfl) ?_
   refine y_if (g := ((decide (s26 < (v5.length : Int))) == true)) rfl (fun hg => o_cmp (ct hg) rfl rfl) <| y0 rfl (pk_and rfl rfl rfl (fun q => eqT q)) <| y_nil ?_
   refine pw_cond ((decide (s26 < (v5.length : Int))) && (decide (s26 < 30))) rfl (fun hc => ?_) (fun hc => ?_)
   ·have h := ifT h hc
    refine pw_skip <| pw_seq <| pw_block <| sR <| y0 rfl (o_move (d := .lst false (List.map (PV.int .i64) v8)) rfl) <| y0 rfl (o_move (d := .lst false (List.map (PV.int .i64) v5)) rfl) <| y0 rfl (o_move (d := .int .i64 s26) rfl) ?_
    obtain ⟨v28, hv27, h⟩ := bindE h
    refine y0 rfl (o_ixL (f := (PV.int .i64)) (cs := [.int .i64 v28]) hv27 rfl rfl Ty.e28 Ty.s3 rfl rfl) <| y0 rfl (o_loadRS rfl Ty.a3 rfl) ?_
    obtain ⟨v29, hv28, h⟩ := bindE h
    refine y0 rfl (o_call (ds := [.lst false (List.map (PV.int .i64) v8), .int .i64 v28]) rfl Ty.k28 rfl (r07_Times_ok hv28)) <| y0 rfl (o_cmp rfl rfl rfl) <| y0 rfl (o_move (d := .bool (v29 == 0)) rfl) <| y_if (g := ((v29 == 0) == false)) rfl (fun hg => o_move (d := .int .i64 v9.2) rfl) <| y_if (g := ((v29 == 0) == false)) rfl (fun hg => o_cmp (ct hg) rfl rfl) <| y_if (g := ((v29 == 0) == false)) rfl (fun hg => o_move (d := .bool (v9.2 != 0)) (ct hg)) <| y_if (g := (((v29 == 0) == false) && ((v9.2 != 0) == true))) (want2 rfl rfl rfl) (fun hg => o_move (d := .lst false (List.map (PV.int .i64) v11)) rfl) <| y_if (g := (((v29 == 0) == false) && ((v9.2 != 0) == true))) (want2 rfl rfl rfl) (fun hg => o_move (d := .lst false (List.map (PV.int .i64) v5)) rfl) ?_
    refine y_if (g := (((v29 == 0) == false) && ((v9.2 != 0) == true))) (want2 rfl rfl rfl) (fun hg => o_move (d := .int .i64 s26) rfl) <| y_if (g := (((v29 == 0) == false) && ((v9.2 != 0) == true))) (want2 rfl rfl rfl) (fun hg => o_ixL (f := (PV.int .i64)) (cs := [.int .i64 v28]) hv27 (ct hg) (ct hg) Ty.e28 Ty.s3 rfl rfl) <| y_if (g := (((v29 == 0) == false) && ((v9.2 != 0) == true))) (want2 rfl rfl rfl) (fun hg => o_loadRS (ct hg) Ty.a3 rfl) ?_
    obtain ⟨v30, hv29, h⟩ := bindE h
    refine y_if (g := (((v29 == 0) == false) && ((v9.2 != 0) == true))) (want2 rfl rfl rfl) (fun hg => o_call (ds := [.lst false (List.map (PV.int .i64) v11), .int .i64 v28]) rfl Ty.k28 (consE (ct hg) (consE (ct hg) rfl)) (r07_Times_ok (onlyE hv29 hg))) <| y_if (g := (((v29 == 0) == false) && ((v9.2 != 0) == true))) (want2 rfl rfl rfl) (fun hg => o_cmp (ct hg) rfl rfl) <| y_if (g := ((v29 == 0) == false)) rfl (fun hg => pk_and (ct hg) rfl rfl (fun q => andI hg (eqT q))) <| y0 rfl (pk_or rfl rfl rfl (fun q => eqF q)) <| y_nil ?_
    refine pw_cond ((v29 == 0) || ((v9.2 != 0) && (v30 == 0))) rfl (fun hc => ?_) (fun hc => ?_)
    ·have h := ifT h hc
     refine sR <| y0 rfl (o_assign (d := .bool false) rfl) <| y_nil <| pw_ret ?_
     have he := hx26 _ (Option.some.inj h).symm
     have h := hk25
     rw [← he] at h
     obtain rfl := Option.some.inj h
     exact ⟨rfl, [_], ⟨rfl, trivial⟩, rfl, io⟩
    ·have h := ifF h hc
     refine pw_skip <| sr1 (by kernel_rfl) <| y0 rfl (o_move (d := .int .i64 s26) rfl) <| y0 rfl (o_ari rfl rfl rfl) <| y0 rfl (o_assign (d := .int .i64 (w64 (s26 + 1))) rfl) <| y_nil ?_
     exact ⟨rfl, w64 (s26 + 1), (Option.some.inj h).symm, (wk_st _ _ ⟨rfl, rfl, rfl, rfl, rfl, rfl, rfl, rfl, rfl, rfl, rfl, rfl, rfl, rfl, rfl, rfl, rfl, rfl, rfl, rfl, rfl, rfl, rfl, rfl, trivial⟩ ⟨rS, trivial⟩)⟩
   ·have h := ifF h hc
    refine pw_exit <| thenQ_exit <| thenQ_exit <| blockQ_exit ?_
    have he := hx26 _ (Option.some.inj h).symm
    have h := hk25
    rw [← he] at h
    exact ⟨rfl, (), h, (wk_st _ _ ⟨rfl, rfl, rfl, rfl, rfl, rfl, rfl, rfl, rfl, rfl, rfl, rfl, trivial⟩ ⟨rS, trivial⟩)⟩

theorem w12_FixTwice_ok {a0 : store_Store} {a1 : List hash_Place} {a2 : List Int} {r : Bool} (h : w12_FixTwice a0 a1 a2 = some r) : PCalls Tryz.prog 7 [store_Store.Pv a0, .lst false (List.map hash_Place.Pv a1), .lst false (List.map (PV.int .i64) a2)] (.bool r) := by
 unfold w12_FixTwice at h
 refine pc_intro (N := 56) Tryz.func7 rfl rfl nl fun w0 imm0 => sR <| y1 rfl (o_box (d := store_Store.Pv a0) (z := 3) (cl := true) rfl rfl rfl rfl rfl) rfl <| y0 rfl (o_assign (d := .bool false) rfl) <| y_nil <| pw_seq <| sR <| y0 rfl (o_loadA (cs := store_Store.Pc a0) rfl rfl rfl Ty.a26 Ty.s26 nl rfl) ?_
 obtain ⟨v1, hv1, h⟩ := bindE h
 refine y0 rfl (o_call (ds := [store_Store.Pv a0]) rfl Ty.k13 rfl (w12_right_ok hv1)) <| y0 rfl (o_not rfl rfl) <| y0 rfl (o_move (d := .bool (!v1)) rfl) <| y_if (g := ((!v1) == false)) rfl (fun hg => o_move (d := .lst false (List.map hash_Place.Pv a1)) rfl) ?_
 obtain ⟨v2, hv2, h⟩ := bindE h
 refine y_if (g := ((!v1) == false)) rfl (fun hg => o_call (ds := [.lst false (List.map hash_Place.Pv a1)]) rfl Ty.k14 (consE (ct hg) rfl) (w12_even_ok (onlyE hv2 hg))) <| y_if (g := ((!v1) == false)) rfl (fun hg => o_not (ct hg) rfl) <| y0 rfl (pk_or rfl rfl rfl (fun q => eqF q)) <| y0 rfl (o_move (d := .bool ((!v1) || (!v2))) rfl) <| y_if (g := (((!v1) || (!v2)) == false)) rfl (fun hg => o_move (d := .lst false (List.map (PV.int .i64) a2)) rfl) <| y_if (g := (((!v1) || (!v2)) == false)) rfl (fun hg => o_lnL (f := (PV.int .i64)) (ct hg) Ty.e28) <| y_if (g := (((!v1) || (!v2)) == false)) rfl (fun hg => o_cmp (ct hg) rfl rfl) <| y0 rfl (pk_or rfl rfl rfl (fun q => eqF q)) ?_
 refine y0 rfl (o_move (d := .bool (((!v1) || (!v2)) || (decide ((a2.length : Int) > 50)))) rfl) ?_
 obtain ⟨v3, hv3, h⟩ := bindE h
 refine y_if (g := ((((!v1) || (!v2)) || (decide ((a2.length : Int) > 50))) == false)) rfl (fun hg => o_call (ds := []) rfl Ty.k15 rfl (w12_shown_ok (onlyE hv3 hg))) <| y_if (g := ((((!v1) || (!v2)) || (decide ((a2.length : Int) > 50))) == false)) rfl (fun hg => o_not (ct hg) rfl) <| y0 rfl (pk_or rfl rfl rfl (fun q => eqF q)) <| y_nil ?_
 refine pw_cond ((((!v1) || (!v2)) || (decide ((a2.length : Int) > 50))) || (!v3)) rfl (fun hc => ?_) (fun hc => ?_)
 ·have h := ifT h hc
  refine sR ?_
  obtain ⟨v4, hv4, h⟩ := bindE h
  refine y0 rfl (o_call (ds := []) rfl Ty.k15 rfl (w12_shown_ok hv4)) <| y0 rfl (o_assign (d := .bool v4) rfl) <| y_nil <| pw_ret ?_
  obtain rfl := Option.some.inj h
  exact ⟨rfl, [_], ⟨rfl, trivial⟩, rfl, io⟩
 ·have h := ifF h hc
  refine pw_skip <| sR <| y0 rfl (o_loadA (cs := store_Store.Pc a0) rfl rfl rfl Ty.a26 Ty.s26 nl rfl) <| y0 rfl (o_move (d := .lst false (List.map hash_Place.Pv a1)) rfl) <| y0 rfl (o_move (d := .lst false (List.map (PV.int .i64) a2)) rfl) ?_
  obtain ⟨v5, hv5, h⟩ := bindE h
  refine yc rfl (o_callF (ls := []) (ds := [store_Store.Pv a0, .lst false (List.map hash_Place.Pv a1), .lst false (List.map (PV.int .i64) a2)]) rfl Ty.k19 rfl (fix_From_ok hv5)) <| y0 rfl (o_assign (d := .lst false (List.map (PV.int .i64) v5)) rfl) <| y_nil <| sR <| y0 rfl (o_loadA (cs := store_Store.Pc a0) rfl rfl rfl Ty.a26 Ty.s26 nl rfl) <| y0 rfl (o_move (d := .lst false (List.map hash_Place.Pv a1)) rfl) <| y0 rfl (o_move (d := .lst false (List.map (PV.int .i64) v5)) rfl) ?_
  obtain ⟨v6, hv6, h⟩ := bindE h
  refine yc rfl (o_callF (ls := []) (ds := [store_Store.Pv a0, .lst false (List.map hash_Place.Pv a1), .lst false (List.map (PV.int .i64) v5)]) rfl Ty.k19 rfl (fix_From_ok hv6)) <| y0 rfl (o_move (d := .lst false (List.map (PV.int .i64) v5)) rfl) ?_
  obtain ⟨v7, hv7, h⟩ := bindE h
  refine y0 rfl (o_call (ds := [.lst false (List.map (PV.int .i64) v6), .lst false (List.map (PV.int .i64) v5)]) rfl Ty.k18 rfl (r02_Ints_ok hv7)) <| y0 rfl (o_move (d := .bool v7) rfl) <| y_if (g := (v7 == true)) rfl (fun hg => o_loadA (cs := store_Store.Pc a0) rfl rfl rfl Ty.a26 Ty.s26 nl rfl) <| y_if (g := (v7 == true)) rfl (fun hg => o_move (d := .lst false (List.map (PV.int .i64) v5)) rfl) ?_
  obtain ⟨v8, hv8, h⟩ := bindE h
  refine y_ifc (g := (v7 == true)) rfl (fun hg => o_callF (ls := []) (ds := [store_Store.Pv a0, .lst false (List.map (PV.int .i64) v5)]) rfl Ty.k29 (consE (ct hg) (consE (ct hg) rfl)) (reach_From_ok (onlyE hv8 hg))) <| y_if (g := (v7 == true)) rfl (fun hg => o_move (d := .lst false (List.map (PV.int .i64) v5)) rfl) ?_
  obtain ⟨v9, hv9, h⟩ := bindE h
  refine y_if (g := (v7 == true)) rfl (fun hg => o_call (ds := [.lst false (List.map (PV.int .i64) v8), .lst false (List.map (PV.int .i64) v5)]) rfl Ty.k18 (consE (ct hg) (consE (ct hg) rfl)) (r02_Ints_ok (onlyE hv9 hg))) <| y0 rfl (pk_and rfl rfl rfl (fun q => eqT q)) <| y0 rfl (o_move (d := .bool (v7 && v9)) rfl) <| y_if (g := ((v7 && v9) == true)) rfl (fun hg => o_loadA (cs := store_Store.Pc a0) rfl rfl rfl Ty.a26 Ty.s26 nl rfl) <| y_if (g := ((v7 && v9) == true)) rfl (fun hg => o_move (d := .lst false (List.map hash_Place.Pv a1)) rfl) <| y_if (g := ((v7 && v9) == true)) rfl (fun hg => o_move (d := .lst false (List.map (PV.int .i64) v5)) rfl) ?_
  obtain ⟨v10, hv10, h⟩ := bindE h
  refine y_if (g := ((v7 && v9) == true)) rfl (fun hg => o_call (ds := [store_Store.Pv a0, .lst false (List.map hash_Place.Pv a1), .lst false (List.map (PV.int .i64) v5)]) rfl Ty.k25 (consE (ct hg) (consE (ct hg) (consE (ct hg) rfl))) (fix_Rounds_ok (onlyE hv10 hg))) <| y_if (g := ((v7 && v9) == true)) rfl (fun hg => o_cmp (ct hg) rfl rfl) <| y0 rfl (pk_and rfl rfl rfl (fun q => eqT q)) <| y0 rfl (o_move (d := .bool ((v7 && v9) && (v10 == 0))) rfl) <| y_if (g := (((v7 && v9) && (v10 == 0)) == true)) rfl (fun hg => o_loadA (cs := store_Store.Pc a0) rfl rfl rfl Ty.a26 Ty.s26 nl rfl) <| y_if (g := (((v7 && v9) && (v10 == 0)) == true)) rfl (fun hg => o_move (d := .lst false (List.map hash_Place.Pv a1)) rfl) <| y_if (g := (((v7 && v9) && (v10 == 0)) == true)) rfl (fun hg => o_move (d := .lst false (List.map (PV.int .i64) v5)) rfl) ?_
  obtain ⟨v11, hv11, h⟩ := bindE h
  refine y_if (g := (((v7 && v9) && (v10 == 0)) == true)) rfl (fun hg => o_call (ds := [store_Store.Pv a0, .lst false (List.map hash_Place.Pv a1), .lst false (List.map (PV.int .i64) v5)]) rfl Ty.k23 (consE (ct hg) (consE (ct hg) (consE (ct hg) rfl))) (fix_Closed_ok (onlyE hv11 hg))) <| y0 rfl (pk_and rfl rfl rfl (fun q => eqT q)) <| y0 rfl (o_assign (d := .bool (((v7 && v9) && (v10 == 0)) && v11)) rfl) <| y_nil <| pw_ret ?_
  obtain rfl := Option.some.inj h
  exact ⟨rfl, [_], ⟨rfl, trivial⟩, rfl, io⟩

end Go.Proofs.YtkjilddlbaibfaaGreat.Ok
