/-
  The functions of the program do as the plain functions do.
-/
import Derived.Test.YtpnajadblhkomaaG8Ok1
namespace Go.Proofs.Ytpnajadblhkomaa.Ok
open Go Go.Pw Go.Sh Go.Proofs
set_option linter.unusedVariables false
set_option maxRecDepth 100000
set_option maxHeartbeats 4000000 in
theorem reach_Closed_ok {a0 : store_Store} {a1 : List Int} {r : Bool} (h : reach_Closed a0 a1 = some r) : PCalls Try.prog 56 [store_Store.Pv a0, .lst false (List.map (PV.int .i64) a1)] (.bool r) := by
  unfold reach_Closed at h
  refine pc_intro (N := 47) Try.func56 rfl rfl (Nat.le_of_ble_eq_true rfl) fun w0 imm0 => ?_
  refine sr (by kernel_rfl) ?_
  refine y1 rfl (o_box (d := store_Store.Pv a0) (z := 3) (cl := true) rfl rfl rfl rfl rfl) rfl ?_
  refine y0 rfl (o_assign (d := .bool false) rfl) ?_
  refine y_nil ?_
  refine sr (by kernel_rfl) ?_
  refine y_mkM (KT := Int) (VT := Bool) (EK := (PV.int .i64)) (E := PV.bool) 5000012 rfl rfl ?_
  refine y0 rfl (o_assign (d := .mp 5000012) rfl) ?_
  refine y_nil ?_
  obtain ⟨κ7, hκ5, h⟩ := jnE h
  refine pw_jn0 (κ := κ7) (r := r) (fun (j8 : List (Int × Bool)) => St.of [(1, .lst false (List.map (PV.int .i64) a1)), (2, .ptr 2 0 0), (5, .mp 5000012)] [(5000012, ⟨[.mapc (List.map (ent (PV.int .i64) PV.bool) j8)], 0, false, 0, false⟩), (2, ⟨[store_Store.Pv a0], 0, false, 3, true⟩)]) (fun j8 h => ?_) ?_
  · subst hκ5
    obtain ⟨κ28, hκ26, h⟩ := jnE h
    refine pw_jn0 (κ := κ28) (r := r) (fun (_ : Unit) => St.of [] []) (fun q29 h => ?_) ?_
    · subst hκ26
      refine sr (by kernel_rfl) ?_
      refine y0 rfl (o_assign (d := .bool true) rfl) ?_
      refine y_nil ?_
      refine pw_ret ?_
      obtain rfl := Option.some.inj h
      exact ⟨rfl, [_], ⟨rfl, trivial⟩, rfl, by first | exact .inl rfl | exact .inr rfl⟩
    · skip
      refine sr (by kernel_rfl) ?_
      refine y0 rfl (o_move (d := .lst false (List.map (PV.int .i64) a1)) rfl) ?_
      refine y0 rfl (o_lnL (f := (PV.int .i64)) rfl Ty.e27) ?_
      refine y0 rfl (o_move (d := .int .i64 0) rfl) ?_
      refine y_nil ?_
      refine pw_block ?_
      obtain ⟨e30, hl27, hk28⟩ := bindE h
      refine pw_lp0 (fun (s31 : Int) => St.of [(2, .ptr 2 0 0), (5, .mp 5000012), (22, .lst false (List.map (PV.int .i64) a1)), (23, .int .i64 (a1.length : Int)), (24, .int .i64 s31)] [(5000012, ⟨[.mapc (List.map (ent (PV.int .i64) PV.bool) j8)], 0, false, 0, false⟩), (2, ⟨[store_Store.Pv a0], 0, false, 3, true⟩)]) hl27 (wk_st _ _ ⟨rfl, rfl, rfl, rfl, rfl, rfl, rfl, rfl, rfl, rfl, rfl, rfl, rfl, rfl, rfl, trivial⟩ ⟨rowLe_open rfl rfl rfl (fun q => nomatch q) rfl rfl rfl rfl, rowLe_same rfl rfl rfl (fun q => nomatch q) rfl rfl rfl, trivial⟩) (fun s31 x32 h hx29 => ?_)
      refine sr (by kernel_rfl) ?_
      refine y0 rfl (o_cmp rfl rfl rfl) ?_
      refine y_nil ?_
      refine pw_seq ?_
      refine pw_cond (decide (s31 < (a1.length : Int))) rfl (fun hc => ?_) (fun hc => ?_)
      · have h := ifT h hc
        refine pw_skip ?_
        obtain ⟨κ40, hκ38, h⟩ := jnE h
        refine pw_jn0 (κ := κ40) (r := x32) (fun (_ : Unit) => St.of [(2, .ptr 2 0 0), (5, .mp 5000012), (22, .lst false (List.map (PV.int .i64) a1)), (23, .int .i64 (a1.length : Int)), (24, .int .i64 s31)] [(5000012, ⟨[.mapc (List.map (ent (PV.int .i64) PV.bool) j8)], 0, false, 0, false⟩), (2, ⟨[store_Store.Pv a0], 0, false, 3, true⟩)]) (fun q41 h => ?_) ?_
        · subst hκ38
          refine sr1 (by kernel_rfl) ?_
          refine y0 rfl (o_ari rfl rfl rfl) ?_
          refine y0 rfl (o_move (d := .int .i64 (w64 (s31 + 1))) rfl) ?_
          refine y_nil ?_
          exact ⟨rfl, w64 (s31 + 1), (Option.some.inj h).symm, (wk_st _ _ ⟨rfl, rfl, rfl, rfl, rfl, rfl, rfl, rfl, rfl, rfl, rfl, rfl, rfl, rfl, rfl, trivial⟩ ⟨rowLe_open rfl rfl rfl (fun q => nomatch q) rfl rfl rfl rfl, rowLe_same rfl rfl rfl (fun q => nomatch q) rfl rfl rfl, trivial⟩)⟩
        · skip
          refine pw_block ?_
          refine sr (by kernel_rfl) ?_
          obtain ⟨v42, hv39, h⟩ := bindE h
          refine y0 rfl (o_ixL (f := (PV.int .i64)) (cs := [.int .i64 v42]) hv39 rfl rfl Ty.e27 Ty.s3 rfl rfl) ?_
          refine y0 rfl (o_loadRS rfl Ty.a3 rfl) ?_
          refine y0 rfl (o_assign (d := .int .i64 v42) rfl) ?_
          refine y_nil ?_
          refine sr (by kernel_rfl) ?_
          refine y0 rfl (o_loadA (cs := store_Store.Pc a0) rfl rfl rfl Ty.a26 Ty.s26 (Nat.le_of_ble_eq_true rfl) rfl) ?_
          refine y0 rfl (o_move (d := .int .i64 v42) rfl) ?_
          obtain ⟨v43, hv40, h⟩ := bindE h
          refine yc rfl (o_callF (ls := []) (ds := [store_Store.Pv a0, .int .i64 v42]) rfl Ty.k36 rfl (refs_Out_ok hv40)) ?_
          refine y0 rfl (o_lnL (f := (PV.int .i64)) rfl Ty.e27) ?_
          refine y0 rfl (o_move (d := .int .i64 0) rfl) ?_
          refine y_nil ?_
          refine pw_block ?_
          obtain ⟨e44, hl41, hk42⟩ := bindE h
          refine pw_lp0 (fun (s45 : Int) => St.of [(2, .ptr 2 0 0), (5, .mp 5000012), (22, .lst false (List.map (PV.int .i64) a1)), (23, .int .i64 (a1.length : Int)), (24, .int .i64 s31), (30, .lst false (List.map (PV.int .i64) v43)), (31, .int .i64 (v43.length : Int)), (32, .int .i64 s45)] [(5000012, ⟨[.mapc (List.map (ent (PV.int .i64) PV.bool) j8)], 0, false, 0, false⟩), (2, ⟨[store_Store.Pv a0], 0, false, 3, true⟩)]) hl41 (wk_st _ _ ⟨rfl, rfl, rfl, rfl, rfl, rfl, rfl, rfl, rfl, rfl, rfl, rfl, rfl, rfl, rfl, rfl, rfl, rfl, rfl, rfl, rfl, rfl, rfl, rfl, trivial⟩ ⟨rowLe_open rfl rfl rfl (fun q => nomatch q) rfl rfl rfl rfl, rowLe_same rfl rfl rfl (fun q => nomatch q) rfl rfl rfl, trivial⟩) (fun s45 x46 h hx43 => ?_)
          refine sr (by kernel_rfl) ?_
          refine y0 rfl (o_cmp rfl rfl rfl) ?_
          refine y_nil ?_
          refine pw_seq ?_
          refine pw_cond (decide (s45 < (v43.length : Int))) rfl (fun hc => ?_) (fun hc => ?_)
          · have h := ifT h hc
            refine pw_skip ?_
            refine pw_seq ?_
            refine pw_block ?_
            refine sr (by kernel_rfl) ?_
            obtain ⟨v47, hv44, h⟩ := bindE h
            refine y0 rfl (o_ixL (f := (PV.int .i64)) (cs := [.int .i64 v47]) hv44 rfl rfl Ty.e27 Ty.s3 rfl rfl) ?_
            refine y0 rfl (o_loadRS rfl Ty.a3 rfl) ?_
            refine y0 rfl (o_assign (d := .int .i64 v47) rfl) ?_
            refine y_nil ?_
            refine sr (by kernel_rfl) ?_
            refine y0 rfl (o_loadA (cs := store_Store.Pc a0) rfl rfl rfl Ty.a26 Ty.s26 (Nat.le_of_ble_eq_true rfl) rfl) ?_
            refine y0 rfl (o_move (d := .int .i64 v47) rfl) ?_
            obtain ⟨v48, hv45, h⟩ := bindE h
            refine y0 rfl (o_call (ds := [store_Store.Pv a0, .int .i64 v47]) rfl Ty.k96 rfl (reach_isLive_ok hv45)) ?_
            refine y0 rfl (o_move (d := .bool v48) rfl) ?_
            refine y_if (g := (v48 == true)) rfl (fun hg => o_move (d := .mp 5000012) rfl) ?_
            refine y_if (g := (v48 == true)) rfl (fun hg => o_move (d := .int .i64 v47) rfl) ?_
            rcases Bool.eq_false_or_eq_true (v48 == true) with hg46 | hg46
            · have h := ifT h hg46
              refine y_lkM (es := j8) (k := v47) (E := PV.bool) (EK := (PV.int .i64)) (d := .bool ((mget j8 v47).getD (false : Bool))) (congrArg some hg46) (ct hg46) rfl (ct hg46) Ty.mm112 (keyT_int Ty.u3) Ty.z4 rfl (lk1 _ _ _) ?_
              refine y0 (congrArg some hg46) (o_not rfl rfl) ?_
              refine y0 rfl (pk_andT rfl rfl hg46) ?_
              refine y_nil ?_
              refine pw_cond (!((mget j8 v47).getD (false : Bool))) rfl (fun hc => ?_) (fun hc => ?_)
              · have h := ifT h hc
                refine sr (by kernel_rfl) ?_
                refine y0 rfl (o_assign (d := .bool false) rfl) ?_
                refine y_nil ?_
                refine pw_ret ?_
                have he := hx43 _ (Option.some.inj h).symm
                have h := hk42
                rw [← he] at h
                have he := hx29 _ (Option.some.inj h).symm
                have h := hk28
                rw [← he] at h
                obtain rfl := Option.some.inj h
                exact ⟨rfl, [_], ⟨rfl, trivial⟩, rfl, by first | exact .inl rfl | exact .inr rfl⟩
              · have h := ifF h hc
                refine pw_skip ?_
                refine sr1 (by kernel_rfl) ?_
                refine y0 rfl (o_ari rfl rfl rfl) ?_
                refine y0 rfl (o_move (d := .int .i64 (w64 (s45 + 1))) rfl) ?_
                refine y_nil ?_
                exact ⟨rfl, w64 (s45 + 1), (Option.some.inj h).symm, (wk_st _ _ ⟨rfl, rfl, rfl, rfl, rfl, rfl, rfl, rfl, rfl, rfl, rfl, rfl, rfl, rfl, rfl, rfl, rfl, rfl, rfl, rfl, rfl, rfl, rfl, rfl, trivial⟩ ⟨rowLe_open rfl rfl rfl (fun q => nomatch q) rfl rfl rfl rfl, rowLe_same rfl rfl rfl (fun q => nomatch q) rfl rfl rfl, trivial⟩)⟩
            · have h := ifF h hg46
              refine y_skip (congrArg some hg46) ?_
              refine y_skip (congrArg some hg46) ?_
              refine y0 rfl (pk_andF rfl rfl hg46) ?_
              refine y_nil ?_
              refine pw_cond false rfl (fun q => nomatch q) (fun _ => ?_)
              refine pw_skip ?_
              refine sr1 (by kernel_rfl) ?_
              refine y0 rfl (o_ari rfl rfl rfl) ?_
              refine y0 rfl (o_move (d := .int .i64 (w64 (s45 + 1))) rfl) ?_
              refine y_nil ?_
              exact ⟨rfl, w64 (s45 + 1), (Option.some.inj h).symm, (wk_st _ _ ⟨rfl, rfl, rfl, rfl, rfl, rfl, rfl, rfl, rfl, rfl, rfl, rfl, rfl, rfl, rfl, rfl, rfl, rfl, rfl, rfl, rfl, rfl, rfl, rfl, trivial⟩ ⟨rowLe_open rfl rfl rfl (fun q => nomatch q) rfl rfl rfl rfl, rowLe_same rfl rfl rfl (fun q => nomatch q) rfl rfl rfl, trivial⟩)⟩
          · have h := ifF h hc
            refine pw_exit ?_
            refine thenQ_exit ?_
            refine thenQ_exit ?_
            refine blockQ_exit ?_
            have he := hx43 _ (Option.some.inj h).symm
            have h := hk42
            rw [← he] at h
            exact ⟨rfl, (), h, (wk_st _ _ ⟨rfl, rfl, rfl, rfl, rfl, rfl, rfl, rfl, rfl, rfl, rfl, rfl, rfl, rfl, rfl, trivial⟩ ⟨rowLe_open rfl rfl rfl (fun q => nomatch q) rfl rfl rfl rfl, rowLe_same rfl rfl rfl (fun q => nomatch q) rfl rfl rfl, trivial⟩)⟩
      · have h := ifF h hc
        refine pw_exit ?_
        refine thenQ_exit ?_
        refine thenQ_exit ?_
        refine blockQ_exit ?_
        have he := hx29 _ (Option.some.inj h).symm
        have h := hk28
        rw [← he] at h
        exact ⟨rfl, (), h, (wk_st _ _ trivial trivial)⟩
  · skip
    refine sr (by kernel_rfl) ?_
    refine y0 rfl (o_move (d := .lst false (List.map (PV.int .i64) a1)) rfl) ?_
    refine y0 rfl (o_lnL (f := (PV.int .i64)) rfl Ty.e27) ?_
    refine y0 rfl (o_move (d := .int .i64 0) rfl) ?_
    refine y_nil ?_
    refine pw_block ?_
    obtain ⟨e49, hl47, hk48⟩ := bindE h
    refine pw_lp0 (fun (q : Int × (List (Int × Bool))) => St.of [(1, .lst false (List.map (PV.int .i64) a1)), (2, .ptr 2 0 0), (5, .mp 5000012), (13, .lst false (List.map (PV.int .i64) a1)), (14, .int .i64 (a1.length : Int)), (15, .int .i64 q.1)] [(5000012, ⟨[.mapc (List.map (ent (PV.int .i64) PV.bool) q.2)], 0, false, 0, false⟩), (2, ⟨[store_Store.Pv a0], 0, false, 3, true⟩)]) hl47 (wk_st _ _ ⟨rfl, rfl, rfl, rfl, rfl, rfl, rfl, rfl, rfl, rfl, rfl, rfl, rfl, rfl, rfl, rfl, rfl, rfl, trivial⟩ ⟨rowLe_open rfl rfl rfl (fun q => nomatch q) rfl rfl rfl rfl, rowLe_same rfl rfl rfl (fun q => nomatch q) rfl rfl rfl, trivial⟩) (fun q53 x52 h hx49 => ?_)
    obtain ⟨s50, s51⟩ := q53
    refine sr (by kernel_rfl) ?_
    refine y0 rfl (o_cmp rfl rfl rfl) ?_
    refine y_nil ?_
    refine pw_seq ?_
    refine pw_cond (decide (s50 < (a1.length : Int))) rfl (fun hc => ?_) (fun hc => ?_)
    · have h := ifT h hc
      refine pw_skip ?_
      refine pw_seq ?_
      refine pw_block ?_
      refine sr (by kernel_rfl) ?_
      obtain ⟨v54, hv50, h⟩ := bindE h
      refine y0 rfl (o_ixL (f := (PV.int .i64)) (cs := [.int .i64 v54]) hv50 rfl rfl Ty.e27 Ty.s3 rfl rfl) ?_
      refine y0 rfl (o_loadRS rfl Ty.a3 rfl) ?_
      refine y0 rfl (o_assign (d := .int .i64 v54) rfl) ?_
      refine y_nil ?_
      refine sr1 (by kernel_rfl) ?_
      refine y0 rfl (o_move (d := .mp 5000012) rfl) ?_
      refine y0 rfl (o_move (d := .int .i64 v54) rfl) ?_
      refine y_setM (es := s51) (k := v54) (v := true) (E := PV.bool) (EK := (PV.int .i64)) (.inl rfl) rfl rfl rfl rfl rfl rfl Ty.mm112 (keyT_int Ty.u3) ?_
      refine y_nil ?_
      refine sr1 (by kernel_rfl) ?_
      refine y0 rfl (o_ari rfl rfl rfl) ?_
      refine y0 rfl (o_move (d := .int .i64 (w64 (s50 + 1))) rfl) ?_
      refine y_nil ?_
      exact ⟨rfl, (w64 (s50 + 1), (mput s51 v54 true)), (Option.some.inj h).symm, (wk_st _ _ ⟨rfl, rfl, rfl, rfl, rfl, rfl, rfl, rfl, rfl, rfl, rfl, rfl, rfl, rfl, rfl, rfl, rfl, rfl, trivial⟩ ⟨rowLe_open rfl rfl rfl (fun q => nomatch q) rfl rfl rfl rfl, rowLe_same rfl rfl rfl (fun q => nomatch q) rfl rfl rfl, trivial⟩)⟩
    · have h := ifF h hc
      refine pw_exit ?_
      refine thenQ_exit ?_
      refine thenQ_exit ?_
      refine blockQ_exit ?_
      have he := hx49 _ (Option.some.inj h).symm
      have h := hk48
      rw [← he] at h
      exact ⟨rfl, s51, h, (wk_st _ _ ⟨rfl, rfl, rfl, rfl, rfl, rfl, rfl, rfl, rfl, trivial⟩ ⟨rowLe_open rfl rfl rfl (fun q => nomatch q) rfl rfl rfl rfl, rowLe_same rfl rfl rfl (fun q => nomatch q) rfl rfl rfl, trivial⟩)⟩

set_option maxHeartbeats 4000000 in
theorem w08_shown_ok  {r : Bool} (h : w08_shown = some r) : PCalls Try.prog 48 [] (.bool r) := by
  unfold w08_shown at h
  refine pc_intro (N := 108) Try.func48 rfl rfl (Nat.le_of_ble_eq_true rfl) fun w0 imm0 => ?_
  refine sr (by kernel_rfl) ?_
  refine y0 rfl (o_assign (d := .bool false) rfl) ?_
  refine y_nil ?_
  refine sr (by kernel_rfl) ?_
  obtain ⟨v1, hv1, h⟩ := bindE h
  refine yc rfl (o_callF (ls := []) (ds := [.int .i64 4, .int .i64 3]) rfl Ty.k27 rfl (store_New_ok hv1)) ?_
  obtain ⟨v2, hv2, h⟩ := bindE h
  refine yc rfl (o_callF (ls := []) (ds := [store_Store.Pv v1, .int .i64 1, .int .i64 (-1)]) rfl Ty.k31 rfl (store_Make_ok hv2)) ?_
  refine y0 rfl (o_move (d := .tup [store_Store.Pv v2.1, .int .i64 v2.2.1, .int .i64 v2.2.2]) rfl) ?_
  refine y0 rfl (o_extract rfl rfl) ?_
  refine y0 rfl (o_extract rfl rfl) ?_
  refine y0 rfl (o_extract rfl rfl) ?_
  refine y1 rfl (o_alloc (d := .agg [.lst true (List.map slab_Cell_store_Obj.Pv []), .int .i64 0, .int .i64 0]) (z := 3) rfl Ty.z26 rfl rfl rfl) rfl ?_
  refine y_sto (x' := store_Store.Pv v2.1) (cl' := true) rfl rfl (.inr rfl) Ty.s26 ?_
  refine y0 rfl (o_assign (d := .int .i64 v2.2.1) rfl) ?_
  refine y0 rfl (o_assign (d := .int .i64 v2.2.2) rfl) ?_
  refine y_nil ?_
  refine sr (by kernel_rfl) ?_
  refine y0 rfl (o_loadA (cs := store_Store.Pc v2.1) rfl rfl rfl Ty.a26 Ty.s26 (Nat.le_of_ble_eq_true rfl) rfl) ?_
  obtain ⟨v3, hv3, h⟩ := bindE h
  refine yc rfl (o_callF (ls := []) (ds := [store_Store.Pv v2.1, .int .i64 1, .int .i64 (-1)]) rfl Ty.k31 rfl (store_Make_ok hv3)) ?_
  refine y0 rfl (o_move (d := .tup [store_Store.Pv v3.1, .int .i64 v3.2.1, .int .i64 v3.2.2]) rfl) ?_
  refine y0 rfl (o_extract rfl rfl) ?_
  refine y0 rfl (o_extract rfl rfl) ?_
  refine y0 rfl (o_extract rfl rfl) ?_
  refine y_sto (x' := store_Store.Pv v3.1) (cl' := true) rfl rfl (.inr rfl) Ty.s26 ?_
  refine y0 rfl (o_assign (d := .int .i64 v3.2.1) rfl) ?_
  refine y0 rfl (o_assign (d := .int .i64 v3.2.2) rfl) ?_
  refine y_nil ?_
  refine sr (by kernel_rfl) ?_
  refine y0 rfl (o_loadA (cs := store_Store.Pc v3.1) rfl rfl rfl Ty.a26 Ty.s26 (Nat.le_of_ble_eq_true rfl) rfl) ?_
  obtain ⟨v4, hv4, h⟩ := bindE h
  refine yc rfl (o_callF (ls := []) (ds := [store_Store.Pv v3.1, .int .i64 0, .int .i64 (-1)]) rfl Ty.k31 rfl (store_Make_ok hv4)) ?_
  refine y0 rfl (o_move (d := .tup [store_Store.Pv v4.1, .int .i64 v4.2.1, .int .i64 v4.2.2]) rfl) ?_
  refine y0 rfl (o_extract rfl rfl) ?_
  refine y0 rfl (o_extract rfl rfl) ?_
  refine y0 rfl (o_extract rfl rfl) ?_
  refine y_sto (x' := store_Store.Pv v4.1) (cl' := true) rfl rfl (.inr rfl) Ty.s26 ?_
  refine y0 rfl (o_assign (d := .int .i64 v4.2.1) rfl) ?_
  refine y0 rfl (o_assign (d := .int .i64 v4.2.2) rfl) ?_
  refine y_nil ?_
  refine sr (by kernel_rfl) ?_
  refine y0 rfl (o_loadA (cs := store_Store.Pc v4.1) rfl rfl rfl Ty.a26 Ty.s26 (Nat.le_of_ble_eq_true rfl) rfl) ?_
  refine y0 rfl (o_move (d := .int .i64 v2.2.1) rfl) ?_
  refine y0 rfl (o_move (d := .int .i64 v3.2.1) rfl) ?_
  obtain ⟨v5, hv5, h⟩ := bindE h
  refine yc rfl (o_callF (ls := []) (ds := [store_Store.Pv v4.1, .int .i64 v2.2.1, .int .i64 0, .int .i64 v3.2.1]) rfl Ty.k58 rfl (store_Put_ok hv5)) ?_
  refine y0 rfl (o_move (d := .tup [store_Store.Pv v5.1, .int .i64 v5.2]) rfl) ?_
  refine y0 rfl (o_extract rfl rfl) ?_
  refine y0 rfl (o_extract rfl rfl) ?_
  refine y_sto (x' := store_Store.Pv v5.1) (cl' := true) rfl rfl (.inr rfl) Ty.s26 ?_
  refine y_nil ?_
  refine sr (by kernel_rfl) ?_
  refine y0 rfl (o_loadA (cs := store_Store.Pc v5.1) rfl rfl rfl Ty.a26 Ty.s26 (Nat.le_of_ble_eq_true rfl) rfl) ?_
  refine y0 rfl (o_move (d := .int .i64 v3.2.1) rfl) ?_
  refine y0 rfl (o_move (d := .int .i64 v2.2.1) rfl) ?_
  obtain ⟨v6, hv6, h⟩ := bindE h
  refine yc rfl (o_callF (ls := []) (ds := [store_Store.Pv v5.1, .int .i64 v3.2.1, .int .i64 0, .int .i64 v2.2.1]) rfl Ty.k58 rfl (store_Put_ok hv6)) ?_
  refine y0 rfl (o_move (d := .tup [store_Store.Pv v6.1, .int .i64 v6.2]) rfl) ?_
  refine y0 rfl (o_extract rfl rfl) ?_
  refine y0 rfl (o_extract rfl rfl) ?_
  refine y_sto (x' := store_Store.Pv v6.1) (cl' := true) rfl rfl (.inr rfl) Ty.s26 ?_
  refine y_nil ?_
  refine sr (by kernel_rfl) ?_
  refine y0 rfl (o_loadA (cs := store_Store.Pc v6.1) rfl rfl rfl Ty.a26 Ty.s26 (Nat.le_of_ble_eq_true rfl) rfl) ?_
  refine y0 rfl (o_move (d := .int .i64 v3.2.1) rfl) ?_
  refine y0 rfl (o_bI (f := (PV.int .i64)) (l := [v3.2.1, 99]) rfl Ty.e27 Ty.s3 Ty.z3 rfl rfl (Nat.le_of_ble_eq_true rfl) rfl rfl) ?_
  obtain ⟨v7, hv7, h⟩ := bindE h
  refine yc rfl (o_callF (ls := []) (ds := [store_Store.Pv v6.1, .lst true (List.map (PV.int .i64) [v3.2.1, 99])]) rfl Ty.k50 rfl (reach_From_ok hv7)) ?_
  refine y0 rfl (o_assign (d := .lst false (List.map (PV.int .i64) v7)) rfl) ?_
  refine y_nil ?_
  refine sr (by kernel_rfl) ?_
  refine y0 rfl (o_loadA (cs := store_Store.Pc v6.1) rfl rfl rfl Ty.a26 Ty.s26 (Nat.le_of_ble_eq_true rfl) rfl) ?_
  refine y0 rfl (o_move (d := .int .i64 v3.2.1) rfl) ?_
  refine y0 rfl (o_bI (f := (PV.int .i64)) (l := [v3.2.1]) rfl Ty.e27 Ty.s3 Ty.z3 rfl rfl (Nat.le_of_ble_eq_true rfl) rfl rfl) ?_
  obtain ⟨v8, hv8, h⟩ := bindE h
  refine yc rfl (o_callF (ls := []) (ds := [store_Store.Pv v6.1, .lst true (List.map (PV.int .i64) [v3.2.1])]) rfl Ty.k52 rfl (reach_Lost_ok hv8)) ?_
  refine y0 rfl (o_assign (d := .lst false (List.map (PV.int .i64) v8)) rfl) ?_
  refine y_nil ?_
  refine sr (by kernel_rfl) ?_
  refine y0 rfl (o_move (d := .lst false (List.map (PV.int .i64) v7)) rfl) ?_
  refine y0 rfl (o_lnL (f := (PV.int .i64)) rfl Ty.e27) ?_
  refine y0 rfl (o_cmp rfl rfl rfl) ?_
  refine y0 rfl (o_move (d := .bool ((v7.length : Int) == 2)) rfl) ?_
  refine y_if (g := (((v7.length : Int) == 2) == true)) rfl (fun hg => o_move (d := .lst false (List.map (PV.int .i64) v7)) rfl) ?_
  obtain ⟨v9, hv9, h⟩ := bindE h
  refine y_if (g := (((v7.length : Int) == 2) == true)) rfl (fun hg => o_ixL (f := (PV.int .i64)) (cs := [.int .i64 v9]) (onlyE hv9 hg) (ct hg) rfl Ty.e27 Ty.s3 rfl rfl) ?_
  refine y_if (g := (((v7.length : Int) == 2) == true)) rfl (fun hg => o_loadRS (ct hg) Ty.a3 rfl) ?_
  refine y_if (g := (((v7.length : Int) == 2) == true)) rfl (fun hg => o_move (d := .int .i64 v2.2.1) rfl) ?_
  refine y_if (g := (((v7.length : Int) == 2) == true)) rfl (fun hg => o_cmp (ct hg) (ct hg) rfl) ?_
  refine y0 rfl (pk_and rfl rfl rfl (fun q => eqT q)) ?_
  refine y0 rfl (o_move (d := .bool (((v7.length : Int) == 2) && (v9 == v2.2.1))) rfl) ?_
  refine y_if (g := ((((v7.length : Int) == 2) && (v9 == v2.2.1)) == true)) rfl (fun hg => o_move (d := .lst false (List.map (PV.int .i64) v7)) rfl) ?_
  obtain ⟨v10, hv10, h⟩ := bindE h
  refine y_if (g := ((((v7.length : Int) == 2) && (v9 == v2.2.1)) == true)) rfl (fun hg => o_ixL (f := (PV.int .i64)) (cs := [.int .i64 v10]) (onlyE hv10 hg) (ct hg) rfl Ty.e27 Ty.s3 rfl rfl) ?_
  refine y_if (g := ((((v7.length : Int) == 2) && (v9 == v2.2.1)) == true)) rfl (fun hg => o_loadRS (ct hg) Ty.a3 rfl) ?_
  refine y_if (g := ((((v7.length : Int) == 2) && (v9 == v2.2.1)) == true)) rfl (fun hg => o_move (d := .int .i64 v3.2.1) rfl) ?_
  refine y_if (g := ((((v7.length : Int) == 2) && (v9 == v2.2.1)) == true)) rfl (fun hg => o_cmp (ct hg) (ct hg) rfl) ?_
  refine y0 rfl (pk_and rfl rfl rfl (fun q => eqT q)) ?_
  refine y0 rfl (o_move (d := .bool ((((v7.length : Int) == 2) && (v9 == v2.2.1)) && (v10 == v3.2.1))) rfl) ?_
  refine y_if (g := (((((v7.length : Int) == 2) && (v9 == v2.2.1)) && (v10 == v3.2.1)) == true)) rfl (fun hg => o_move (d := .lst false (List.map (PV.int .i64) v8)) rfl) ?_
  refine y_if (g := (((((v7.length : Int) == 2) && (v9 == v2.2.1)) && (v10 == v3.2.1)) == true)) rfl (fun hg => o_lnL (f := (PV.int .i64)) (ct hg) Ty.e27) ?_
  refine y_if (g := (((((v7.length : Int) == 2) && (v9 == v2.2.1)) && (v10 == v3.2.1)) == true)) rfl (fun hg => o_cmp (ct hg) rfl rfl) ?_
  refine y0 rfl (pk_and rfl rfl rfl (fun q => eqT q)) ?_
  refine y0 rfl (o_move (d := .bool (((((v7.length : Int) == 2) && (v9 == v2.2.1)) && (v10 == v3.2.1)) && ((v8.length : Int) == 1))) rfl) ?_
  refine y_if (g := ((((((v7.length : Int) == 2) && (v9 == v2.2.1)) && (v10 == v3.2.1)) && ((v8.length : Int) == 1)) == true)) rfl (fun hg => o_move (d := .lst false (List.map (PV.int .i64) v8)) rfl) ?_
  obtain ⟨v11, hv11, h⟩ := bindE h
  refine y_if (g := ((((((v7.length : Int) == 2) && (v9 == v2.2.1)) && (v10 == v3.2.1)) && ((v8.length : Int) == 1)) == true)) rfl (fun hg => o_ixL (f := (PV.int .i64)) (cs := [.int .i64 v11]) (onlyE hv11 hg) (ct hg) rfl Ty.e27 Ty.s3 rfl rfl) ?_
  refine y_if (g := ((((((v7.length : Int) == 2) && (v9 == v2.2.1)) && (v10 == v3.2.1)) && ((v8.length : Int) == 1)) == true)) rfl (fun hg => o_loadRS (ct hg) Ty.a3 rfl) ?_
  refine y_if (g := ((((((v7.length : Int) == 2) && (v9 == v2.2.1)) && (v10 == v3.2.1)) && ((v8.length : Int) == 1)) == true)) rfl (fun hg => o_move (d := .int .i64 v4.2.1) rfl) ?_
  refine y_if (g := ((((((v7.length : Int) == 2) && (v9 == v2.2.1)) && (v10 == v3.2.1)) && ((v8.length : Int) == 1)) == true)) rfl (fun hg => o_cmp (ct hg) (ct hg) rfl) ?_
  refine y0 rfl (pk_and rfl rfl rfl (fun q => eqT q)) ?_
  refine y0 rfl (o_move (d := .bool ((((((v7.length : Int) == 2) && (v9 == v2.2.1)) && (v10 == v3.2.1)) && ((v8.length : Int) == 1)) && (v11 == v4.2.1))) rfl) ?_
  refine y_if (g := (((((((v7.length : Int) == 2) && (v9 == v2.2.1)) && (v10 == v3.2.1)) && ((v8.length : Int) == 1)) && (v11 == v4.2.1)) == true)) rfl (fun hg => o_loadA (cs := store_Store.Pc v6.1) rfl rfl rfl Ty.a26 Ty.s26 (Nat.le_of_ble_eq_true rfl) rfl) ?_
  refine y_if (g := (((((((v7.length : Int) == 2) && (v9 == v2.2.1)) && (v10 == v3.2.1)) && ((v8.length : Int) == 1)) && (v11 == v4.2.1)) == true)) rfl (fun hg => o_move (d := .int .i64 v2.2.1) rfl) ?_
  refine y_if (g := (((((((v7.length : Int) == 2) && (v9 == v2.2.1)) && (v10 == v3.2.1)) && ((v8.length : Int) == 1)) && (v11 == v4.2.1)) == true)) rfl (fun hg => o_move (d := .int .i64 v3.2.1) rfl) ?_
  obtain ⟨v12, hv12, h⟩ := bindE h
  refine y_if (g := (((((((v7.length : Int) == 2) && (v9 == v2.2.1)) && (v10 == v3.2.1)) && ((v8.length : Int) == 1)) && (v11 == v4.2.1)) == true)) rfl (fun hg => o_call (ds := [store_Store.Pv v6.1, .int .i64 v2.2.1, .int .i64 v3.2.1]) rfl Ty.k54 (consE (ct hg) (consE (ct hg) (consE (ct hg) rfl))) (reach_Is_ok (onlyE hv12 hg))) ?_
  refine y0 rfl (pk_and rfl rfl rfl (fun q => eqT q)) ?_
  refine y0 rfl (o_move (d := .bool (((((((v7.length : Int) == 2) && (v9 == v2.2.1)) && (v10 == v3.2.1)) && ((v8.length : Int) == 1)) && (v11 == v4.2.1)) && v12)) rfl) ?_
  refine y_if (g := ((((((((v7.length : Int) == 2) && (v9 == v2.2.1)) && (v10 == v3.2.1)) && ((v8.length : Int) == 1)) && (v11 == v4.2.1)) && v12) == true)) rfl (fun hg => o_loadA (cs := store_Store.Pc v6.1) rfl rfl rfl Ty.a26 Ty.s26 (Nat.le_of_ble_eq_true rfl) rfl) ?_
  refine y_if (g := ((((((((v7.length : Int) == 2) && (v9 == v2.2.1)) && (v10 == v3.2.1)) && ((v8.length : Int) == 1)) && (v11 == v4.2.1)) && v12) == true)) rfl (fun hg => o_move (d := .int .i64 v2.2.1) rfl) ?_
  refine y_if (g := ((((((((v7.length : Int) == 2) && (v9 == v2.2.1)) && (v10 == v3.2.1)) && ((v8.length : Int) == 1)) && (v11 == v4.2.1)) && v12) == true)) rfl (fun hg => o_move (d := .int .i64 v4.2.1) rfl) ?_
  obtain ⟨v13, hv13, h⟩ := bindE h
  refine y_if (g := ((((((((v7.length : Int) == 2) && (v9 == v2.2.1)) && (v10 == v3.2.1)) && ((v8.length : Int) == 1)) && (v11 == v4.2.1)) && v12) == true)) rfl (fun hg => o_call (ds := [store_Store.Pv v6.1, .int .i64 v2.2.1, .int .i64 v4.2.1]) rfl Ty.k54 (consE (ct hg) (consE (ct hg) (consE (ct hg) rfl))) (reach_Is_ok (onlyE hv13 hg))) ?_
  refine y_if (g := ((((((((v7.length : Int) == 2) && (v9 == v2.2.1)) && (v10 == v3.2.1)) && ((v8.length : Int) == 1)) && (v11 == v4.2.1)) && v12) == true)) rfl (fun hg => o_not (ct hg) rfl) ?_
  refine y0 rfl (pk_and rfl rfl rfl (fun q => eqT q)) ?_
  refine y0 rfl (o_move (d := .bool ((((((((v7.length : Int) == 2) && (v9 == v2.2.1)) && (v10 == v3.2.1)) && ((v8.length : Int) == 1)) && (v11 == v4.2.1)) && v12) && (!v13))) rfl) ?_
  refine y_if (g := (((((((((v7.length : Int) == 2) && (v9 == v2.2.1)) && (v10 == v3.2.1)) && ((v8.length : Int) == 1)) && (v11 == v4.2.1)) && v12) && (!v13)) == true)) rfl (fun hg => o_loadA (cs := store_Store.Pc v6.1) rfl rfl rfl Ty.a26 Ty.s26 (Nat.le_of_ble_eq_true rfl) rfl) ?_
  refine y_if (g := (((((((((v7.length : Int) == 2) && (v9 == v2.2.1)) && (v10 == v3.2.1)) && ((v8.length : Int) == 1)) && (v11 == v4.2.1)) && v12) && (!v13)) == true)) rfl (fun hg => o_move (d := .lst false (List.map (PV.int .i64) v7)) rfl) ?_
  obtain ⟨v14, hv14, h⟩ := bindE h
  refine y_if (g := (((((((((v7.length : Int) == 2) && (v9 == v2.2.1)) && (v10 == v3.2.1)) && ((v8.length : Int) == 1)) && (v11 == v4.2.1)) && v12) && (!v13)) == true)) rfl (fun hg => o_call (ds := [store_Store.Pv v6.1, .lst false (List.map (PV.int .i64) v7)]) rfl Ty.k56 (consE (ct hg) (consE (ct hg) rfl)) (reach_Closed_ok (onlyE hv14 hg))) ?_
  refine y0 rfl (pk_and rfl rfl rfl (fun q => eqT q)) ?_
  refine y0 rfl (o_move (d := .bool (((((((((v7.length : Int) == 2) && (v9 == v2.2.1)) && (v10 == v3.2.1)) && ((v8.length : Int) == 1)) && (v11 == v4.2.1)) && v12) && (!v13)) && v14)) rfl) ?_
  refine y_if (g := ((((((((((v7.length : Int) == 2) && (v9 == v2.2.1)) && (v10 == v3.2.1)) && ((v8.length : Int) == 1)) && (v11 == v4.2.1)) && v12) && (!v13)) && v14) == true)) rfl (fun hg => o_loadA (cs := store_Store.Pc v6.1) rfl rfl rfl Ty.a26 Ty.s26 (Nat.le_of_ble_eq_true rfl) rfl) ?_
  refine y_if (g := ((((((((((v7.length : Int) == 2) && (v9 == v2.2.1)) && (v10 == v3.2.1)) && ((v8.length : Int) == 1)) && (v11 == v4.2.1)) && v12) && (!v13)) && v14) == true)) rfl (fun hg => o_move (d := .int .i64 v2.2.1) rfl) ?_
  refine y_if (g := ((((((((((v7.length : Int) == 2) && (v9 == v2.2.1)) && (v10 == v3.2.1)) && ((v8.length : Int) == 1)) && (v11 == v4.2.1)) && v12) && (!v13)) && v14) == true)) rfl (fun hg => o_bI (f := (PV.int .i64)) (l := [v2.2.1]) (consE (partE (ct hg)) rfl) Ty.e27 Ty.s3 Ty.z3 rfl rfl (Nat.le_of_ble_eq_true rfl) rfl rfl) ?_
  obtain ⟨v15, hv15, h⟩ := bindE h
  refine y_if (g := ((((((((((v7.length : Int) == 2) && (v9 == v2.2.1)) && (v10 == v3.2.1)) && ((v8.length : Int) == 1)) && (v11 == v4.2.1)) && v12) && (!v13)) && v14) == true)) rfl (fun hg => o_call (ds := [store_Store.Pv v6.1, .lst true (List.map (PV.int .i64) [v2.2.1])]) rfl Ty.k56 (consE (ct hg) (consE (ct hg) rfl)) (reach_Closed_ok (onlyE hv15 hg))) ?_
  refine y_if (g := ((((((((((v7.length : Int) == 2) && (v9 == v2.2.1)) && (v10 == v3.2.1)) && ((v8.length : Int) == 1)) && (v11 == v4.2.1)) && v12) && (!v13)) && v14) == true)) rfl (fun hg => o_not (ct hg) rfl) ?_
  refine y0 rfl (pk_and rfl rfl rfl (fun q => eqT q)) ?_
  refine y0 rfl (o_move (d := .bool ((((((((((v7.length : Int) == 2) && (v9 == v2.2.1)) && (v10 == v3.2.1)) && ((v8.length : Int) == 1)) && (v11 == v4.2.1)) && v12) && (!v13)) && v14) && (!v15))) rfl) ?_
  refine y_if (g := (((((((((((v7.length : Int) == 2) && (v9 == v2.2.1)) && (v10 == v3.2.1)) && ((v8.length : Int) == 1)) && (v11 == v4.2.1)) && v12) && (!v13)) && v14) && (!v15)) == true)) rfl (fun hg => o_loadA (cs := store_Store.Pc v6.1) rfl rfl rfl Ty.a26 Ty.s26 (Nat.le_of_ble_eq_true rfl) rfl) ?_
  obtain ⟨v16, hv16, h⟩ := bindE h
  refine y_if (g := (((((((((((v7.length : Int) == 2) && (v9 == v2.2.1)) && (v10 == v3.2.1)) && ((v8.length : Int) == 1)) && (v11 == v4.2.1)) && v12) && (!v13)) && v14) && (!v15)) == true)) rfl (fun hg => o_call (ds := [store_Store.Pv v6.1, .lst true (List.map (PV.int .i64) [])]) rfl Ty.k56 (consE (ct hg) (consE rfl rfl)) (reach_Closed_ok (onlyE hv16 hg))) ?_
  refine y0 rfl (pk_and rfl rfl rfl (fun q => eqT q)) ?_
  refine y0 rfl (o_assign (d := .bool (((((((((((v7.length : Int) == 2) && (v9 == v2.2.1)) && (v10 == v3.2.1)) && ((v8.length : Int) == 1)) && (v11 == v4.2.1)) && v12) && (!v13)) && v14) && (!v15)) && v16)) rfl) ?_
  refine y_nil ?_
  refine pw_ret ?_
  obtain rfl := Option.some.inj h
  exact ⟨rfl, [_], ⟨rfl, trivial⟩, rfl, by first | exact .inl rfl | exact .inr rfl⟩

set_option maxHeartbeats 4000000 in
theorem r01_Pack_ok {a0 : Int} {a1 : Int} {r : Int} (h : r01_Pack a0 a1 = some r) : PCalls Try.prog 85 [.int .i64 a0, .int .i64 a1] (.int .i64 r) := by
  unfold r01_Pack at h
  refine pc_intro (N := 24) Try.func85 rfl rfl (Nat.le_of_ble_eq_true rfl) fun w0 imm0 => ?_
  refine sr (by kernel_rfl) ?_
  refine y0 rfl (o_assign (d := .int .i64 0) rfl) ?_
  refine y_nil ?_
  refine pw_seq ?_
  refine sr (by kernel_rfl) ?_
  refine y0 rfl (o_move (d := .int .i64 a0) rfl) ?_
  refine y0 rfl (o_cmp rfl rfl rfl) ?_
  refine y0 rfl (o_move (d := .bool (decide (a0 < 0))) rfl) ?_
  refine y_if (g := ((decide (a0 < 0)) == false)) rfl (fun hg => o_move (d := .int .i64 a0) rfl) ?_
  refine y_if (g := ((decide (a0 < 0)) == false)) rfl (fun hg => o_cmp (ct hg) rfl rfl) ?_
  refine y0 rfl (pk_or rfl rfl rfl (fun q => eqF q)) ?_
  refine y0 rfl (o_move (d := .bool ((decide (a0 < 0)) || (decide (a0 > 23)))) rfl) ?_
  refine y_if (g := (((decide (a0 < 0)) || (decide (a0 > 23))) == false)) rfl (fun hg => o_move (d := .int .i64 a1) rfl) ?_
  refine y_if (g := (((decide (a0 < 0)) || (decide (a0 > 23))) == false)) rfl (fun hg => o_cmp (ct hg) rfl rfl) ?_
  refine y0 rfl (pk_or rfl rfl rfl (fun q => eqF q)) ?_
  refine y0 rfl (o_move (d := .bool (((decide (a0 < 0)) || (decide (a0 > 23))) || (decide (a1 < 0)))) rfl) ?_
  refine y_if (g := ((((decide (a0 < 0)) || (decide (a0 > 23))) || (decide (a1 < 0))) == false)) rfl (fun hg => o_move (d := .int .i64 a1) rfl) ?_
  refine y_if (g := ((((decide (a0 < 0)) || (decide (a0 > 23))) || (decide (a1 < 0))) == false)) rfl (fun hg => o_cmp (ct hg) rfl rfl) ?_
  refine y0 rfl (pk_or rfl rfl rfl (fun q => eqF q)) ?_
  refine y_nil ?_
  refine pw_cond ((((decide (a0 < 0)) || (decide (a0 > 23))) || (decide (a1 < 0))) || (decide (a1 > 9))) rfl (fun hc => ?_) (fun hc => ?_)
  · have h := ifT h hc
    refine sr (by kernel_rfl) ?_
    refine y0 rfl (o_assign (d := .int .i64 0) rfl) ?_
    refine y_nil ?_
    refine pw_ret ?_
    obtain rfl := Option.some.inj h
    exact ⟨rfl, [_], ⟨rfl, trivial⟩, rfl, by first | exact .inl rfl | exact .inr rfl⟩
  · have h := ifF h hc
    refine pw_skip ?_
    refine sr (by kernel_rfl) ?_
    refine y0 rfl (o_move (d := .int .i64 a0) rfl) ?_
    refine y0 rfl (o_ari rfl rfl rfl) ?_
    refine y0 rfl (o_move (d := .int .i64 a1) rfl) ?_
    refine y0 rfl (o_ari rfl rfl rfl) ?_
    refine y0 rfl (o_ari rfl rfl rfl) ?_
    refine y0 rfl (o_assign (d := .int .i64 (w64 ((w64 (1 + a0)) + (w64 (32 * a1))))) rfl) ?_
    refine y_nil ?_
    refine pw_ret ?_
    obtain rfl := Option.some.inj h
    exact ⟨rfl, [_], ⟨rfl, trivial⟩, rfl, by first | exact .inl rfl | exact .inr rfl⟩

set_option maxHeartbeats 4000000 in
theorem r01_Valid_ok {a0 : Int} {r : Bool} (h : r01_Valid a0 = some r) : PCalls Try.prog 125 [.int .i64 a0] (.bool r) := by
  unfold r01_Valid at h
  refine pc_intro (N := 18) Try.func125 rfl rfl (Nat.le_of_ble_eq_true rfl) fun w0 imm0 => ?_
  refine sr (by kernel_rfl) ?_
  refine y0 rfl (o_assign (d := .bool false) rfl) ?_
  refine y_nil ?_
  refine pw_seq ?_
  refine sr (by kernel_rfl) ?_
  refine y0 rfl (o_move (d := .int .i64 a0) rfl) ?_
  refine y0 rfl (o_cmp rfl rfl rfl) ?_
  refine y0 rfl (o_move (d := .bool (decide (a0 < 1))) rfl) ?_
  refine y_if (g := ((decide (a0 < 1)) == false)) rfl (fun hg => o_move (d := .int .i64 a0) rfl) ?_
  refine y_if (g := ((decide (a0 < 1)) == false)) rfl (fun hg => o_cmp (ct hg) rfl rfl) ?_
  refine y0 rfl (pk_or rfl rfl rfl (fun q => eqF q)) ?_
  refine y_nil ?_
  refine pw_cond ((decide (a0 < 1)) || (decide (a0 > 400))) rfl (fun hc => ?_) (fun hc => ?_)
  · have h := ifT h hc
    refine sr (by kernel_rfl) ?_
    refine y0 rfl (o_assign (d := .bool false) rfl) ?_
    refine y_nil ?_
    refine pw_ret ?_
    obtain rfl := Option.some.inj h
    exact ⟨rfl, [_], ⟨rfl, trivial⟩, rfl, by first | exact .inl rfl | exact .inr rfl⟩
  · have h := ifF h hc
    refine pw_skip ?_
    refine sr (by kernel_rfl) ?_
    refine y0 rfl (o_move (d := .int .i64 a0) rfl) ?_
    refine y0 rfl (o_ari rfl rfl rfl) ?_
    obtain ⟨v1, hv1, h⟩ := bindE h
    refine y0 rfl (o_ari rfl rfl hv1) ?_
    refine y0 rfl (o_move (d := .int .i64 a0) rfl) ?_
    refine y0 rfl (o_ari rfl rfl rfl) ?_
    obtain ⟨v2, hv2, h⟩ := bindE h
    refine y0 rfl (o_ari rfl rfl hv2) ?_
    obtain ⟨v3, hv3, h⟩ := bindE h
    refine y0 rfl (o_call (ds := [.int .i64 v1, .int .i64 v2]) rfl Ty.k85 rfl (r01_Pack_ok hv3)) ?_
    refine y0 rfl (o_move (d := .int .i64 a0) rfl) ?_
    refine y0 rfl (o_cmp rfl rfl rfl) ?_
    refine y0 rfl (o_assign (d := .bool (v3 == a0)) rfl) ?_
    refine y_nil ?_
    refine pw_ret ?_
    obtain rfl := Option.some.inj h
    exact ⟨rfl, [_], ⟨rfl, trivial⟩, rfl, by first | exact .inl rfl | exact .inr rfl⟩

set_option maxHeartbeats 4000000 in
theorem r01_Slot_ok {a0 : Int} {r : Int} (h : r01_Slot a0 = some r) : PCalls Try.prog 101 [.int .i64 a0] (.int .i64 r) := by
  unfold r01_Slot at h
  refine pc_intro (N := 9) Try.func101 rfl rfl (Nat.le_of_ble_eq_true rfl) fun w0 imm0 => ?_
  refine sr (by kernel_rfl) ?_
  refine y0 rfl (o_assign (d := .int .i64 0) rfl) ?_
  refine y_nil ?_
  refine pw_seq ?_
  refine sr (by kernel_rfl) ?_
  refine y0 rfl (o_move (d := .int .i64 a0) rfl) ?_
  obtain ⟨v1, hv1, h⟩ := bindE h
  refine y0 rfl (o_call (ds := [.int .i64 a0]) rfl Ty.k125 rfl (r01_Valid_ok hv1)) ?_
  refine y0 rfl (o_not rfl rfl) ?_
  refine y_nil ?_
  refine pw_cond (!v1) rfl (fun hc => ?_) (fun hc => ?_)
  · have h := ifT h hc
    refine sr (by kernel_rfl) ?_
    refine y0 rfl (o_assign (d := .int .i64 (-1)) rfl) ?_
    refine y_nil ?_
    refine pw_ret ?_
    obtain rfl := Option.some.inj h
    exact ⟨rfl, [_], ⟨rfl, trivial⟩, rfl, by first | exact .inl rfl | exact .inr rfl⟩
  · have h := ifF h hc
    refine pw_skip ?_
    refine sr (by kernel_rfl) ?_
    refine y0 rfl (o_move (d := .int .i64 a0) rfl) ?_
    refine y0 rfl (o_ari rfl rfl rfl) ?_
    obtain ⟨v2, hv2, h⟩ := bindE h
    refine y0 rfl (o_ari rfl rfl hv2) ?_
    refine y0 rfl (o_assign (d := .int .i64 v2) rfl) ?_
    refine y_nil ?_
    refine pw_ret ?_
    obtain rfl := Option.some.inj h
    exact ⟨rfl, [_], ⟨rfl, trivial⟩, rfl, by first | exact .inl rfl | exact .inr rfl⟩

set_option maxHeartbeats 4000000 in
theorem r01_Gen_ok {a0 : Int} {r : Int} (h : r01_Gen a0 = some r) : PCalls Try.prog 102 [.int .i64 a0] (.int .i64 r) := by
  unfold r01_Gen at h
  refine pc_intro (N := 9) Try.func102 rfl rfl (Nat.le_of_ble_eq_true rfl) fun w0 imm0 => ?_
  refine sr (by kernel_rfl) ?_
  refine y0 rfl (o_assign (d := .int .i64 0) rfl) ?_
  refine y_nil ?_
  refine pw_seq ?_
  refine sr (by kernel_rfl) ?_
  refine y0 rfl (o_move (d := .int .i64 a0) rfl) ?_
  obtain ⟨v1, hv1, h⟩ := bindE h
  refine y0 rfl (o_call (ds := [.int .i64 a0]) rfl Ty.k125 rfl (r01_Valid_ok hv1)) ?_
  refine y0 rfl (o_not rfl rfl) ?_
  refine y_nil ?_
  refine pw_cond (!v1) rfl (fun hc => ?_) (fun hc => ?_)
  · have h := ifT h hc
    refine sr (by kernel_rfl) ?_
    refine y0 rfl (o_assign (d := .int .i64 (-1)) rfl) ?_
    refine y_nil ?_
    refine pw_ret ?_
    obtain rfl := Option.some.inj h
    exact ⟨rfl, [_], ⟨rfl, trivial⟩, rfl, by first | exact .inl rfl | exact .inr rfl⟩
  · have h := ifF h hc
    refine pw_skip ?_
    refine sr (by kernel_rfl) ?_
    refine y0 rfl (o_move (d := .int .i64 a0) rfl) ?_
    refine y0 rfl (o_ari rfl rfl rfl) ?_
    obtain ⟨v2, hv2, h⟩ := bindE h
    refine y0 rfl (o_ari rfl rfl hv2) ?_
    refine y0 rfl (o_assign (d := .int .i64 v2) rfl) ?_
    refine y_nil ?_
    refine pw_ret ?_
    obtain rfl := Option.some.inj h
    exact ⟨rfl, [_], ⟨rfl, trivial⟩, rfl, by first | exact .inl rfl | exact .inr rfl⟩

set_option maxHeartbeats 4000000 in
theorem r03_Find_ok {a0 : r03_Slab} {a1 : Int} {r : Int × Int} (h : r03_Find a0 a1 = some r) : PCalls Try.prog 61 [r03_Slab.Pv a0, .int .i64 a1] (.tup [.int .i64 r.1, .int .i64 r.2]) := by
  unfold r03_Find at h
  refine pc_intro (N := 42) Try.func61 rfl rfl (Nat.le_of_ble_eq_true rfl) fun w0 imm0 => ?_
  refine sr (by kernel_rfl) ?_
  refine y1 rfl (o_box (d := r03_Slab.Pv a0) (z := 2) (cl := true) rfl rfl rfl rfl rfl) rfl ?_
  refine y0 rfl (o_assign (d := .int .i64 0) rfl) ?_
  refine y0 rfl (o_assign (d := .int .i64 0) rfl) ?_
  refine y_nil ?_
  refine pw_seq ?_
  refine sr (by kernel_rfl) ?_
  refine y0 rfl (o_move (d := .int .i64 a1) rfl) ?_
  refine y0 rfl (o_cmp rfl rfl rfl) ?_
  refine y_nil ?_
  refine pw_cond (a1 == 0) rfl (fun hc => ?_) (fun hc => ?_)
  · have h := ifT h hc
    refine sr (by kernel_rfl) ?_
    refine y0 rfl (o_assign (d := .int .i64 (-1)) rfl) ?_
    refine y0 rfl (o_assign (d := .int .i64 2) rfl) ?_
    refine y_nil ?_
    refine pw_ret ?_
    obtain rfl := Option.some.inj h
    exact ⟨rfl, [_, _], ⟨rfl, ⟨rfl, trivial⟩⟩, rfl, by first | exact .inl rfl | exact .inr rfl⟩
  · have h := ifF h hc
    refine pw_skip ?_
    refine sr (by kernel_rfl) ?_
    refine y0 rfl (o_move (d := .int .i64 a1) rfl) ?_
    obtain ⟨v1, hv1, h⟩ := bindE h
    refine y0 rfl (o_call (ds := [.int .i64 a1]) rfl Ty.k101 rfl (r01_Slot_ok hv1)) ?_
    refine y0 rfl (o_assign (d := .int .i64 v1) rfl) ?_
    refine y_nil ?_
    refine pw_seq ?_
    refine sr (by kernel_rfl) ?_
    refine y0 rfl (o_move (d := .int .i64 v1) rfl) ?_
    refine y0 rfl (o_cmp rfl rfl rfl) ?_
    refine y0 rfl (o_move (d := .bool (decide (v1 < 0))) rfl) ?_
    refine y_if (g := ((decide (v1 < 0)) == false)) rfl (fun hg => o_move (d := .int .i64 v1) rfl) ?_
    refine y_if (g := ((decide (v1 < 0)) == false)) rfl (fun hg => o_fieldAddrP (k := 0) rfl Ty.f81_0 rfl) ?_
    refine y_if (g := ((decide (v1 < 0)) == false)) rfl (fun hg => o_loadS (ct hg) rfl rfl Ty.a79 rfl) ?_
    refine y_if (g := ((decide (v1 < 0)) == false)) rfl (fun hg => o_lnL (f := r03_Cell.Pv) (ct hg) Ty.e79) ?_
    refine y_if (g := ((decide (v1 < 0)) == false)) rfl (fun hg => o_cmp (ct hg) (ct hg) rfl) ?_
    refine y0 rfl (pk_or rfl rfl rfl (fun q => eqF q)) ?_
    refine y_nil ?_
    refine pw_cond ((decide (v1 < 0)) || (decide (v1 ≥ (a0.Cells.length : Int)))) rfl (fun hc => ?_) (fun hc => ?_)
    · have h := ifT h hc
      refine sr (by kernel_rfl) ?_
      refine y0 rfl (o_assign (d := .int .i64 (-1)) rfl) ?_
      refine y0 rfl (o_assign (d := .int .i64 3) rfl) ?_
      refine y_nil ?_
      refine pw_ret ?_
      obtain rfl := Option.some.inj h
      exact ⟨rfl, [_, _], ⟨rfl, ⟨rfl, trivial⟩⟩, rfl, by first | exact .inl rfl | exact .inr rfl⟩
    · have h := ifF h hc
      refine pw_skip ?_
      refine sr (by kernel_rfl) ?_
      refine y0 rfl (o_fieldAddrP (k := 0) rfl Ty.f81_0 rfl) ?_
      refine y0 rfl (o_loadS rfl rfl rfl Ty.a79 rfl) ?_
      refine y0 rfl (o_move (d := .int .i64 v1) rfl) ?_
      obtain ⟨v2, hv2, h⟩ := bindE h
      refine y0 rfl (o_ixL (f := r03_Cell.Pv) (cs := r03_Cell.Pc v2) hv2 rfl rfl Ty.e79 Ty.s123 rfl rfl) ?_
      refine y0 rfl (o_loadRA (cs := r03_Cell.Pc v2) rfl Ty.a123 Ty.s123 (Nat.le_of_ble_eq_true rfl) rfl) ?_
      refine y1 rfl (o_alloc (d := .agg [.int .i64 0, .int .i64 0, .int .i64 0]) (z := 3) rfl Ty.z123 rfl rfl rfl) rfl ?_
      refine y_sto (x' := r03_Cell.Pv v2) (cl' := true) rfl rfl (.inl rfl) Ty.s123 ?_
      refine y_nil ?_
      refine pw_seq ?_
      refine dr [] Ty.mix (by kernel_rfl) (by kernel_rfl) ?_
      refine d7 rfl (fun _ hN => o_fieldAddrP (k := 1) rfl Ty.f123_1 rfl) rfl ?_
      refine d0 rfl (o_loadS rfl rfl rfl Ty.a3 rfl) rfl ?_
      refine d7 rfl (fun _ hN => o_move (d := .int .i64 a1) rfl) rfl ?_
      obtain ⟨v3, hv3, h⟩ := bindE h
      refine d2 rfl (o_call (ds := [.int .i64 a1]) rfl Ty.k102 rfl (r01_Gen_ok hv3)) rfl ?_
      refine d7 rfl (fun _ hN => o_cmp rfl rfl rfl) rfl ?_
      refine d7 rfl (fun _ hN => o_move (d := .bool (v2.Gen != v3)) rfl) rfl ?_
      refine d_if7 (g := ((v2.Gen != v3) == false)) rfl (fun hg _ hN => o_fieldAddrP (k := 0) rfl Ty.f123_0 rfl) rfl ?_
      refine d_if0 (g := ((v2.Gen != v3) == false)) rfl (fun hg => o_loadS (ct hg) rfl rfl Ty.a3 rfl) rfl ?_
      refine d_if7 (g := ((v2.Gen != v3) == false)) rfl (fun hg _ hN => o_cmp (ct hg) rfl rfl) rfl ?_
      refine d_if7 (g := ((v2.Gen != v3) == false)) rfl (fun hg _ hN => o_move (d := .bool (v2.State != 1)) (ct hg)) rfl ?_
      refine d_if7 (g := (((v2.Gen != v3) == false) && ((v2.State != 1) == true))) (want2 rfl rfl rfl) (fun hg _ hN => o_fieldAddrP (k := 0) rfl Ty.f123_0 rfl) rfl ?_
      refine d_if0 (g := (((v2.Gen != v3) == false) && ((v2.State != 1) == true))) (want2 rfl rfl rfl) (fun hg => o_loadS (ct hg) rfl rfl Ty.a3 rfl) rfl ?_
      refine d_if7 (g := (((v2.Gen != v3) == false) && ((v2.State != 1) == true))) (want2 rfl rfl rfl) (fun hg _ hN => o_cmp (ct hg) rfl rfl) rfl ?_
      refine d_if7 (g := ((v2.Gen != v3) == false)) rfl (fun hg _ hN => pk_and (ct hg) rfl rfl (fun q => andI hg (eqT q))) rfl ?_
      refine d7 rfl (fun _ hN => pk_or rfl rfl rfl (fun q => eqF q)) rfl ?_
      refine d_nil ?_
      refine pw_cond ((v2.Gen != v3) || ((v2.State != 1) && (v2.State != 2))) rfl (fun hc => ?_) (fun hc => ?_)
      · have h := ifT h hc
        refine sr (by kernel_rfl) ?_
        refine y0 rfl (o_assign (d := .int .i64 (-1)) rfl) ?_
        refine y0 rfl (o_assign (d := .int .i64 3) rfl) ?_
        refine y_nil ?_
        refine pw_ret ?_
        obtain rfl := Option.some.inj h
        exact ⟨rfl, [_, _], ⟨rfl, ⟨rfl, trivial⟩⟩, rfl, by first | exact .inl rfl | exact .inr rfl⟩
      · have h := ifF h hc
        refine pw_skip ?_
        refine sr (by kernel_rfl) ?_
        refine y0 rfl (o_move (d := .int .i64 v1) rfl) ?_
        refine y0 rfl (o_assign (d := .int .i64 v1) rfl) ?_
        refine y0 rfl (o_assign (d := .int .i64 0) rfl) ?_
        refine y_nil ?_
        refine pw_ret ?_
        obtain rfl := Option.some.inj h
        exact ⟨rfl, [_, _], ⟨rfl, ⟨rfl, trivial⟩⟩, rfl, by first | exact .inl rfl | exact .inr rfl⟩

set_option maxHeartbeats 4000000 in
theorem r06_Sorted_ok {a0 : r06_Store} {a1 : List Int} {r : List Int} (h : r06_Sorted a0 a1 = some r) : PCalls Try.prog 86 [r06_Store.Pv a0, .lst false (List.map (PV.int .i64) a1)] (.lst false (List.map (PV.int .i64) r)) := by
  unfold r06_Sorted at h
  refine pc_intro (N := 89) Try.func86 rfl rfl (Nat.le_of_ble_eq_true rfl) fun w0 imm0 => ?_
  refine sr (by kernel_rfl) ?_
  refine y1 rfl (o_box (d := r06_Store.Pv a0) (z := 3) (cl := true) rfl rfl rfl rfl rfl) rfl ?_
  refine y0 rfl (o_assign (d := .lst true (List.map (PV.int .i64) [])) rfl) ?_
  refine y_nil ?_
  refine sr (by kernel_rfl) ?_
  refine y0 rfl (o_nslice rfl Ty.e27 Ty.s3) ?_
  refine y0 rfl (o_move (d := .lst false (List.map (PV.int .i64) a1)) rfl) ?_
  obtain ⟨v1, hv1, h⟩ := bindE h
  refine y1 rfl (o_apT (f := (PV.int .i64)) hv1 rfl rfl (.inl ⟨_, rfl, rfl⟩) Ty.e27 Ty.s3 Ty.b3 Ty.z3 rfl (fun _ => rfl)) rfl ?_
  refine y0 rfl (o_assign (d := .sl 15) rfl) ?_
  refine y_nil ?_
  obtain ⟨κ35, hκ28, h⟩ := jnE h
  refine pw_jn0 (κ := κ35) (r := r) (fun (j36 : List Int) => St.of [(5, .sl 15)] [(15, ⟨List.map (PV.int .i64) j36, 0, true, 1, true⟩)]) (fun j36 h => ?_) ?_
  · subst hκ28
    refine sr (by kernel_rfl) ?_
    refine y0 rfl (o_move (d := .sl 15) rfl) ?_
    refine y0 rfl (o_assign (d := .sl 15) rfl) ?_
    refine y_nil ?_
    refine pw_ret ?_
    obtain rfl := Option.some.inj h
    exact ⟨rfl, [_], ⟨rfl, trivial⟩, rfl, by first | exact .inl rfl | exact .inr rfl⟩
  · skip
    refine sr (by kernel_rfl) ?_
    refine y0 rfl (o_assign (d := .int .i64 1) rfl) ?_
    refine y_nil ?_
    refine pw_block ?_
    obtain ⟨e37, hl29, hk30⟩ := bindE h
    refine pw_lp0 (fun (q : Int × (List Int)) => St.of [(2, .ptr 2 0 0), (5, .sl 15), (6, .int .i64 q.1)] [(15, ⟨List.map (PV.int .i64) q.2, 0, true, 1, true⟩), (2, ⟨[r06_Store.Pv a0], 0, false, 3, true⟩)]) hl29 (wk_st _ _ ⟨rfl, rfl, rfl, rfl, rfl, rfl, rfl, rfl, rfl, trivial⟩ ⟨rowLe_same rfl rfl rfl (fun _ => rfl) rfl rfl rfl, rowLe_same rfl rfl rfl (fun q => nomatch q) rfl rfl rfl, trivial⟩) (fun q41 x40 h hx31 => ?_)
    obtain ⟨s38, s39⟩ := q41
    refine pw_seq ?_
    refine sr (by kernel_rfl) ?_
    refine y0 rfl (o_move (d := .int .i64 s38) rfl) ?_
    refine y0 rfl (o_move (d := .sl 15) rfl) ?_
    refine y0 rfl (o_lnR (f := (PV.int .i64)) rfl rfl rfl Ty.e27) ?_
    refine y0 rfl (o_cmp rfl rfl rfl) ?_
    refine y_nil ?_
    refine pw_cond (decide (s38 < (s39.length : Int))) rfl (fun hc => ?_) (fun hc => ?_)
    · have h := ifT h hc
      refine pw_skip ?_
      obtain ⟨κ55, hκ43, h⟩ := jnE h
      refine pw_jn0 (κ := κ55) (r := x40) (fun (j56 : List Int) => St.of [(2, .ptr 2 0 0), (5, .sl 15), (6, .int .i64 s38)] [(15, ⟨List.map (PV.int .i64) j56, 0, true, 1, true⟩), (2, ⟨[r06_Store.Pv a0], 0, false, 3, true⟩)]) (fun j56 h => ?_) ?_
      · subst hκ43
        refine sr1 (by kernel_rfl) ?_
        refine y0 rfl (o_move (d := .int .i64 s38) rfl) ?_
        refine y0 rfl (o_ari rfl rfl rfl) ?_
        refine y0 rfl (o_assign (d := .int .i64 (w64 (s38 + 1))) rfl) ?_
        refine y_nil ?_
        exact ⟨rfl, (w64 (s38 + 1), j56), (Option.some.inj h).symm, (wk_st _ _ ⟨rfl, rfl, rfl, rfl, rfl, rfl, rfl, rfl, rfl, trivial⟩ ⟨rowLe_same rfl rfl rfl (fun _ => rfl) rfl rfl rfl, rowLe_same rfl rfl rfl (fun q => nomatch q) rfl rfl rfl, trivial⟩)⟩
      · skip
        refine pw_block ?_
        refine sr (by kernel_rfl) ?_
        refine y0 rfl (o_move (d := .int .i64 s38) rfl) ?_
        refine y0 rfl (o_assign (d := .int .i64 s38) rfl) ?_
        refine y_nil ?_
        refine pw_block ?_
        obtain ⟨e57, hl44, hk45⟩ := bindE h
        refine pw_lp0 (fun (q : Int × (List Int)) => St.of [(2, .ptr 2 0 0), (5, .sl 15), (6, .int .i64 s38), (7, .int .i64 q.1)] [(15, ⟨List.map (PV.int .i64) q.2, 0, true, 1, true⟩), (2, ⟨[r06_Store.Pv a0], 0, false, 3, true⟩)]) hl44 (wk_st _ _ ⟨rfl, rfl, rfl, rfl, rfl, rfl, rfl, rfl, rfl, rfl, rfl, rfl, trivial⟩ ⟨rowLe_same rfl rfl rfl (fun _ => rfl) rfl rfl rfl, rowLe_same rfl rfl rfl (fun q => nomatch q) rfl rfl rfl, trivial⟩) (fun q61 x60 h hx46 => ?_)
        obtain ⟨s58, s59⟩ := q61
        refine pw_seq ?_
        refine sr (by kernel_rfl) ?_
        refine y0 rfl (o_move (d := .int .i64 s58) rfl) ?_
        refine y0 rfl (o_cmp rfl rfl rfl) ?_
        refine y_nil ?_
        refine pw_cond (decide (s58 > 0)) rfl (fun hc => ?_) (fun hc => ?_)
        · have h := ifT h hc
          refine pw_skip ?_
          refine pw_seq ?_
          refine pw_block ?_
          refine dr [] Ty.mix (by kernel_rfl) (by kernel_rfl) ?_
          refine d0 rfl (o_loadA (cs := r06_Store.Pc a0) rfl rfl rfl Ty.a37 Ty.s37 (Nat.le_of_ble_eq_true rfl) rfl) rfl ?_
          obtain ⟨v62, hv47, h⟩ := bindE h
          refine d2f rfl (o_callF (ls := []) (ds := [r06_Store.Pv a0]) rfl Ty.k62 rfl (r06_Plain_ok hv47)) rfl ?_
          refine d7 rfl (fun _ hN => o_move (d := .sl 15) rfl) rfl ?_
          refine d7 rfl (fun _ hN => o_move (d := .int .i64 s58) rfl) rfl ?_
          refine d7 rfl (fun _ hN => o_ari rfl rfl rfl) rfl ?_
          obtain ⟨v63, hv48, h⟩ := bindE h
          refine d0 rfl (o_ixR (f := (PV.int .i64)) hv48 rfl rfl rfl rfl Ty.e27 Ty.s3 rfl) rfl ?_
          refine d0 rfl (o_ldS (f := (PV.int .i64)) hv48 rfl rfl rfl Ty.a3 rfl) rfl ?_
          obtain ⟨v64, hv49, h⟩ := bindE h
          refine d2 rfl (o_call (ds := [r03_Slab.Pv v62, .int .i64 v63]) rfl Ty.k61 rfl (r03_Find_ok hv49)) rfl ?_
          refine d7 rfl (fun _ hN => o_move (d := .tup [.int .i64 v64.1, .int .i64 v64.2]) rfl) rfl ?_
          refine d7 rfl (fun _ hN => o_extract rfl rfl) rfl ?_
          refine d7 rfl (fun _ hN => o_extract rfl rfl) rfl ?_
          refine d7 rfl (fun _ hN => o_assign (d := .int .i64 v64.1) rfl) rfl ?_
          refine d7 rfl (fun _ hN => o_assign (d := .int .i64 v64.2) rfl) rfl ?_
          refine d_nil ?_
          refine dr [] Ty.mix (by kernel_rfl) (by kernel_rfl) ?_
          refine d0 rfl (o_loadA (cs := r06_Store.Pc a0) rfl rfl rfl Ty.a37 Ty.s37 (Nat.le_of_ble_eq_true rfl) rfl) rfl ?_
          refine d2f rfl (o_callF (ls := []) (ds := [r06_Store.Pv a0]) rfl Ty.k62 rfl (r06_Plain_ok hv47)) rfl ?_
          refine d7 rfl (fun _ hN => o_move (d := .sl 15) rfl) rfl ?_
          refine d7 rfl (fun _ hN => o_move (d := .int .i64 s58) rfl) rfl ?_
          obtain ⟨v65, hv50, h⟩ := bindE h
          refine d0 rfl (o_ixR (f := (PV.int .i64)) hv50 rfl rfl rfl rfl Ty.e27 Ty.s3 rfl) rfl ?_
          refine d0 rfl (o_ldS (f := (PV.int .i64)) hv50 rfl rfl rfl Ty.a3 rfl) rfl ?_
          obtain ⟨v66, hv51, h⟩ := bindE h
          refine d2 rfl (o_call (ds := [r03_Slab.Pv v62, .int .i64 v65]) rfl Ty.k61 rfl (r03_Find_ok hv51)) rfl ?_
          refine d7 rfl (fun _ hN => o_move (d := .tup [.int .i64 v66.1, .int .i64 v66.2]) rfl) rfl ?_
          refine d7 rfl (fun _ hN => o_extract rfl rfl) rfl ?_
          refine d7 rfl (fun _ hN => o_extract rfl rfl) rfl ?_
          refine d7 rfl (fun _ hN => o_assign (d := .int .i64 v66.1) rfl) rfl ?_
          refine d7 rfl (fun _ hN => o_assign (d := .int .i64 v66.2) rfl) rfl ?_
          refine d_nil ?_
          refine pw_seq ?_
          refine dr [] Ty.mix (by kernel_rfl) (by kernel_rfl) ?_
          refine d7 rfl (fun _ hN => o_move (d := .int .i64 v64.1) rfl) rfl ?_
          refine d7 rfl (fun _ hN => o_cmp rfl rfl rfl) rfl ?_
          refine d7 rfl (fun _ hN => o_move (d := .bool (decide (v64.1 < 0))) rfl) rfl ?_
          refine d_if7 (g := ((decide (v64.1 < 0)) == false)) rfl (fun hg _ hN => o_move (d := .int .i64 v66.1) rfl) rfl ?_
          refine d_if7 (g := ((decide (v64.1 < 0)) == false)) rfl (fun hg _ hN => o_cmp (ct hg) rfl rfl) rfl ?_
          refine d7 rfl (fun _ hN => pk_or rfl rfl rfl (fun q => eqF q)) rfl ?_
          refine d7 rfl (fun _ hN => o_move (d := .bool ((decide (v64.1 < 0)) || (decide (v66.1 < 0)))) rfl) rfl ?_
          refine d_if7 (g := (((decide (v64.1 < 0)) || (decide (v66.1 < 0))) == false)) rfl (fun hg _ hN => o_fieldAddrP (k := 0) rfl Ty.f37_0 rfl) rfl ?_
          refine d_if0 (g := (((decide (v64.1 < 0)) || (decide (v66.1 < 0))) == false)) rfl (fun hg => o_loadS (ct hg) rfl rfl Ty.a35 rfl) rfl ?_
          refine d_if7 (g := (((decide (v64.1 < 0)) || (decide (v66.1 < 0))) == false)) rfl (fun hg _ hN => o_move (d := .int .i64 v64.1) rfl) rfl ?_
          obtain ⟨v67, hv52, h⟩ := bindE h
          refine d_if0 (g := (((decide (v64.1 < 0)) || (decide (v66.1 < 0))) == false)) rfl (fun hg => o_ixL (f := r06_Cell.Pv) (cs := r06_Cell.Pc v67) (onlyE hv52 hg) (ct hg) (ct hg) Ty.e35 Ty.s87 rfl rfl) rfl ?_
          refine d_if7 (g := (((decide (v64.1 < 0)) || (decide (v66.1 < 0))) == false)) rfl (fun hg _ hN => o_fieldAddrR (ct hg) Ty.f87_2 rfl) rfl ?_
          refine d_if7 (g := (((decide (v64.1 < 0)) || (decide (v66.1 < 0))) == false)) rfl (fun hg _ hN => o_fieldAddrR (ct hg) Ty.f41_0 rfl) rfl ?_
          refine d_if0 (g := (((decide (v64.1 < 0)) || (decide (v66.1 < 0))) == false)) rfl (fun hg => o_loadRS (ct hg) Ty.a3 rfl) rfl ?_
          refine d_if7 (g := (((decide (v64.1 < 0)) || (decide (v66.1 < 0))) == false)) rfl (fun hg _ hN => o_fieldAddrP (k := 0) rfl Ty.f37_0 rfl) rfl ?_
          refine d_if0 (g := (((decide (v64.1 < 0)) || (decide (v66.1 < 0))) == false)) rfl (fun hg => o_loadS (ct hg) rfl rfl Ty.a35 rfl) rfl ?_
          refine d_if7 (g := (((decide (v64.1 < 0)) || (decide (v66.1 < 0))) == false)) rfl (fun hg _ hN => o_move (d := .int .i64 v66.1) rfl) rfl ?_
          obtain ⟨v68, hv53, h⟩ := bindE h
          refine d_if0 (g := (((decide (v64.1 < 0)) || (decide (v66.1 < 0))) == false)) rfl (fun hg => o_ixL (f := r06_Cell.Pv) (cs := r06_Cell.Pc v68) (onlyE hv53 hg) (ct hg) (ct hg) Ty.e35 Ty.s87 rfl rfl) rfl ?_
          refine d_if7 (g := (((decide (v64.1 < 0)) || (decide (v66.1 < 0))) == false)) rfl (fun hg _ hN => o_fieldAddrR (ct hg) Ty.f87_2 rfl) rfl ?_
          refine d_if7 (g := (((decide (v64.1 < 0)) || (decide (v66.1 < 0))) == false)) rfl (fun hg _ hN => o_fieldAddrR (ct hg) Ty.f41_0 rfl) rfl ?_
          refine d_if0 (g := (((decide (v64.1 < 0)) || (decide (v66.1 < 0))) == false)) rfl (fun hg => o_loadRS (ct hg) Ty.a3 rfl) rfl ?_
          refine d_if7 (g := (((decide (v64.1 < 0)) || (decide (v66.1 < 0))) == false)) rfl (fun hg _ hN => o_cmp (ct hg) (ct hg) rfl) rfl ?_
          refine d7 rfl (fun _ hN => pk_or rfl rfl rfl (fun q => eqF q)) rfl ?_
          refine d_nil ?_
          refine pw_cond (((decide (v64.1 < 0)) || (decide (v66.1 < 0))) || (decide (v67.Val.Serial ≤ v68.Val.Serial))) rfl (fun hc => ?_) (fun hc => ?_)
          · have h := ifT h hc
            refine pw_exit ?_
            refine thenQ_exit ?_
            refine blockQ_other (by decide) ?_
            refine thenQ_exit ?_
            refine thenQ_exit ?_
            refine blockQ_exit ?_
            have he := hx46 _ (Option.some.inj h).symm
            have h := hk45
            rw [← he] at h
            exact ⟨rfl, s59, h, (wk_st _ _ ⟨rfl, rfl, rfl, rfl, rfl, rfl, rfl, rfl, rfl, trivial⟩ ⟨rowLe_same rfl rfl rfl (fun _ => rfl) rfl rfl rfl, rowLe_same rfl rfl rfl (fun q => nomatch q) rfl rfl rfl, trivial⟩)⟩
          · have h := ifF h hc
            refine pw_skip ?_
            refine sr (by kernel_rfl) ?_
            refine y0 rfl (o_move (d := .sl 15) rfl) ?_
            refine y0 rfl (o_move (d := .int .i64 s58) rfl) ?_
            refine y0 rfl (o_ixR (f := (PV.int .i64)) hv50 rfl rfl rfl rfl Ty.e27 Ty.s3 rfl) ?_
            refine y0 rfl (o_ldS (f := (PV.int .i64)) hv50 rfl rfl rfl Ty.a3 rfl) ?_
            refine y0 rfl (o_assign (d := .int .i64 v65) rfl) ?_
            refine y_nil ?_
            refine sr (by kernel_rfl) ?_
            refine y0 rfl (o_move (d := .sl 15) rfl) ?_
            refine y0 rfl (o_move (d := .int .i64 s58) rfl) ?_
            refine y0 rfl (o_move (d := .sl 15) rfl) ?_
            refine y0 rfl (o_move (d := .int .i64 s58) rfl) ?_
            refine y0 rfl (o_ari rfl rfl rfl) ?_
            refine y0 rfl (o_ixR (f := (PV.int .i64)) hv48 rfl rfl rfl rfl Ty.e27 Ty.s3 rfl) ?_
            refine y0 rfl (o_ldS (f := (PV.int .i64)) hv48 rfl rfl rfl Ty.a3 rfl) ?_
            refine y0 rfl (o_ixR (f := (PV.int .i64)) hv50 rfl rfl rfl rfl Ty.e27 Ty.s3 rfl) ?_
            refine y_stE (f := (PV.int .i64)) (v := v63) hv50 rfl rfl (.inl rfl) Ty.s3 ?_
            refine y_nil ?_
            refine sr1 (by kernel_rfl) ?_
            refine y0 rfl (o_move (d := .sl 15) rfl) ?_
            refine y0 rfl (o_move (d := .int .i64 s58) rfl) ?_
            refine y0 rfl (o_ari rfl rfl rfl) ?_
            refine y0 rfl (o_move (d := .int .i64 v65) rfl) ?_
            obtain ⟨v69, hv54, h⟩ := bindE h
            refine y0 rfl (o_ixR (f := (PV.int .i64)) hv54 rfl rfl rfl rfl Ty.e27 Ty.s3 rfl) ?_
            refine y_stE (f := (PV.int .i64)) (v := v65) hv54 rfl rfl (.inl rfl) Ty.s3 ?_
            refine y_nil ?_
            refine sr1 (by kernel_rfl) ?_
            refine y0 rfl (o_move (d := .int .i64 s58) rfl) ?_
            refine y0 rfl (o_ari rfl rfl rfl) ?_
            refine y0 rfl (o_assign (d := .int .i64 (w64 (s58 - 1))) rfl) ?_
            refine y_nil ?_
            exact ⟨rfl, (w64 (s58 - 1), ((s59.set (s58).toNat v63).set (w64 (s58 - 1)).toNat v65)), (Option.some.inj h).symm, (wk_st _ _ ⟨rfl, rfl, rfl, rfl, rfl, rfl, rfl, rfl, rfl, rfl, rfl, rfl, trivial⟩ ⟨rowLe_same rfl rfl rfl (fun _ => rfl) rfl rfl rfl, rowLe_same rfl rfl rfl (fun q => nomatch q) rfl rfl rfl, trivial⟩)⟩
        · have h := ifF h hc
          refine pw_exit ?_
          refine thenQ_exit ?_
          refine thenQ_exit ?_
          refine blockQ_exit ?_
          have he := hx46 _ (Option.some.inj h).symm
          have h := hk45
          rw [← he] at h
          exact ⟨rfl, s59, h, (wk_st _ _ ⟨rfl, rfl, rfl, rfl, rfl, rfl, rfl, rfl, rfl, trivial⟩ ⟨rowLe_same rfl rfl rfl (fun _ => rfl) rfl rfl rfl, rowLe_same rfl rfl rfl (fun q => nomatch q) rfl rfl rfl, trivial⟩)⟩
    · have h := ifF h hc
      refine pw_exit ?_
      refine thenQ_exit ?_
      refine thenQ_exit ?_
      refine blockQ_exit ?_
      have he := hx31 _ (Option.some.inj h).symm
      have h := hk30
      rw [← he] at h
      exact ⟨rfl, s39, h, (wk_st _ _ ⟨rfl, rfl, rfl, trivial⟩ ⟨rowLe_same rfl rfl rfl (fun _ => rfl) rfl rfl rfl, trivial⟩)⟩

set_option maxHeartbeats 4000000 in
theorem r06_Live_ok {a0 : r06_Store} {r : List Int} (h : r06_Live a0 = some r) : PCalls Try.prog 46 [r06_Store.Pv a0] (.lst false (List.map (PV.int .i64) r)) := by
  unfold r06_Live at h
  refine pc_intro (N := 34) Try.func46 rfl rfl (Nat.le_of_ble_eq_true rfl) fun w0 imm0 => ?_
  refine sr (by kernel_rfl) ?_
  refine y1 rfl (o_box (d := r06_Store.Pv a0) (z := 3) (cl := true) rfl rfl rfl rfl rfl) rfl ?_
  refine y0 rfl (o_assign (d := .lst true (List.map (PV.int .i64) [])) rfl) ?_
  refine y_nil ?_
  refine sr (by kernel_rfl) ?_
  refine y0 rfl (o_nslice rfl Ty.e27 Ty.s3) ?_
  refine y0 rfl (o_assign (d := .lst true (List.map (PV.int .i64) [])) rfl) ?_
  refine y_nil ?_
  obtain ⟨κ14, hκ11, h⟩ := jnE h
  refine pw_jn0 (κ := κ14) (r := r) (fun (j15 : List Int) => St.of [(1, .ptr 1 0 0), (3, .sl 910003)] [(910003, ⟨List.map (PV.int .i64) j15, (List.map (PV.int .i64) j15).length, true, 1, true⟩), (1, ⟨[r06_Store.Pv a0], 0, false, 3, true⟩)]) (fun j15 h => ?_) ?_
  · subst hκ11
    refine sr (by kernel_rfl) ?_
    refine y0 rfl (o_loadA (cs := r06_Store.Pc a0) rfl rfl rfl Ty.a37 Ty.s37 (Nat.le_of_ble_eq_true rfl) rfl) ?_
    refine y0 rfl (o_move (d := .sl 910003) rfl) ?_
    obtain ⟨v16, hv12, h⟩ := bindE h
    refine ycL rfl (o_callF (ls := [910003]) (ds := [r06_Store.Pv a0, .sl 910003]) rfl Ty.k86 rfl (r06_Sorted_ok hv12)) rfl ?_
    refine y0 rfl (o_assign (d := .lst false (List.map (PV.int .i64) v16)) rfl) ?_
    refine y_nil ?_
    refine pw_ret ?_
    obtain rfl := Option.some.inj h
    exact ⟨rfl, [_], ⟨rfl, trivial⟩, rfl, by first | exact .inl rfl | exact .inr rfl⟩
  · skip
    refine sr (by kernel_rfl) ?_
    refine y0 rfl (o_assign (d := .int .i64 0) rfl) ?_
    refine y_nil ?_
    refine pw_block ?_
    obtain ⟨e17, hl13, hk14⟩ := bindE h
    refine pw_lp0 (fun (q : Int × (List Int)) => St.of [(1, .ptr 1 0 0), (3, .sl 910003), (4, .int .i64 q.1)] [(1, ⟨[r06_Store.Pv a0], 0, false, 3, true⟩), (910003, ⟨List.map (PV.int .i64) q.2, (List.map (PV.int .i64) q.2).length, true, 1, true⟩)]) hl13 (Wk.trans (wk_nil (t := 3) (l := 920003) (z := 1) rfl rfl) (wk_stP (fun l => if l = 910003 then 920003 else l) _ _ ⟨rfl, rfl, rfl, rfl, rfl, rfl, rfl, rfl, rfl, trivial⟩ ⟨rowLe_ren rfl rfl rfl (fun q => nomatch q) rfl rfl rfl, rowLe_ren rfl rfl rfl (fun _ => rfl) rfl rfl rfl, trivial⟩ rfl)) (fun q21 x20 h hx15 => ?_)
    obtain ⟨s18, s19⟩ := q21
    refine pw_seq ?_
    refine sr (by kernel_rfl) ?_
    refine y0 rfl (o_move (d := .int .i64 s18) rfl) ?_
    refine y0 rfl (o_fieldAddrP (k := 0) rfl Ty.f37_0 rfl) ?_
    refine y0 rfl (o_loadS rfl rfl rfl Ty.a35 rfl) ?_
    refine y0 rfl (o_lnL (f := r06_Cell.Pv) rfl Ty.e35) ?_
    refine y0 rfl (o_cmp rfl rfl rfl) ?_
    refine y_nil ?_
    refine pw_cond (decide (s18 < (a0.Cells.length : Int))) rfl (fun hc => ?_) (fun hc => ?_)
    · have h := ifT h hc
      refine pw_skip ?_
      obtain ⟨κ25, hκ19, h⟩ := jnE h
      refine pw_jn0 (κ := κ25) (r := x20) (fun (j26 : List Int) => St.of [(1, .ptr 1 0 0), (3, .sl 30), (4, .int .i64 s18)] [(30, ⟨List.map (PV.int .i64) j26, (List.map (PV.int .i64) j26).length, true, 1, true⟩), (1, ⟨[r06_Store.Pv a0], 0, false, 3, true⟩)]) (fun j26 h => ?_) ?_
      · subst hκ19
        refine sr1 (by kernel_rfl) ?_
        refine y0 rfl (o_move (d := .int .i64 s18) rfl) ?_
        refine y0 rfl (o_ari rfl rfl rfl) ?_
        refine y0 rfl (o_assign (d := .int .i64 (w64 (s18 + 1))) rfl) ?_
        refine y_nil ?_
        exact ⟨rfl, (w64 (s18 + 1), j26), (Option.some.inj h).symm, (Wk.trans (wk_frz _ [30]) (wk_stP (fun l => if l = 910003 then 30 else l) _ _ ⟨rfl, rfl, rfl, rfl, rfl, rfl, rfl, rfl, rfl, trivial⟩ ⟨rowLe_ren rfl rfl rfl (fun q => nomatch q) rfl rfl rfl, rowLe_ren rfl rfl rfl (fun _ => rfl) rfl rfl rfl, trivial⟩ rfl))⟩
      · skip
        refine pw_block ?_
        refine sr (by kernel_rfl) ?_
        refine y0 rfl (o_fieldAddrP (k := 0) rfl Ty.f37_0 rfl) ?_
        refine y0 rfl (o_loadS rfl rfl rfl Ty.a35 rfl) ?_
        refine y0 rfl (o_move (d := .int .i64 s18) rfl) ?_
        obtain ⟨v27, hv20, h⟩ := bindE h
        refine y0 rfl (o_ixL (f := r06_Cell.Pv) (cs := r06_Cell.Pc v27) hv20 rfl rfl Ty.e35 Ty.s87 rfl rfl) ?_
        refine y0 rfl (o_fieldAddrR rfl Ty.f87_0 rfl) ?_
        refine y0 rfl (o_loadRS rfl Ty.a3 rfl) ?_
        refine y0 rfl (o_cmp rfl rfl rfl) ?_
        refine y_nil ?_
        refine pw_cond (v27.State == 1) rfl (fun hc => ?_) (fun hc => ?_)
        · have h := ifT h hc
          refine sr1 (by kernel_rfl) ?_
          refine y0 rfl (o_move (d := .sl 910003) rfl) ?_
          refine y0 rfl (o_move (d := .int .i64 s18) rfl) ?_
          refine y0 rfl (o_fieldAddrP (k := 0) rfl Ty.f37_0 rfl) ?_
          refine y0 rfl (o_loadS rfl rfl rfl Ty.a35 rfl) ?_
          refine y0 rfl (o_move (d := .int .i64 s18) rfl) ?_
          refine y0 rfl (o_ixL (f := r06_Cell.Pv) (cs := r06_Cell.Pc v27) hv20 rfl rfl Ty.e35 Ty.s87 rfl rfl) ?_
          refine y0 rfl (o_fieldAddrR rfl Ty.f87_1 rfl) ?_
          refine y0 rfl (o_loadRS rfl Ty.a3 rfl) ?_
          obtain ⟨v28, hv21, h⟩ := bindE h
          refine y0 rfl (o_call (ds := [.int .i64 s18, .int .i64 v27.Gen]) rfl Ty.k85 rfl (r01_Pack_ok hv21)) ?_
          refine y0 rfl (o_bI (f := (PV.int .i64)) (l := [v28]) rfl Ty.e27 Ty.s3 Ty.z3 rfl rfl (Nat.le_of_ble_eq_true rfl) rfl rfl) ?_
          obtain ⟨v29, hv22, h⟩ := bindE h
          refine y_app rfl (o_apR (f := (PV.int .i64)) hv22 rfl rfl rfl rfl rfl rfl (.inl ⟨_, rfl, rfl⟩) Ty.e27 Ty.s3 Ty.b3 Ty.z3 rfl (fun _ => rfl)) rfl rfl rfl ?_
          refine y0 rfl (o_assign (d := .sl 30) rfl) ?_
          refine y_nil ?_
          exact ⟨rfl, v29, h, (Wk.trans (wk_frz _ [30]) (wk_st _ _ ⟨rfl, rfl, rfl, rfl, rfl, rfl, rfl, rfl, rfl, trivial⟩ ⟨rowLe_same rfl rfl rfl (fun _ => rfl) rfl rfl rfl, rowLe_same rfl rfl rfl (fun q => nomatch q) rfl rfl rfl, trivial⟩))⟩
        · have h := ifF h hc
          refine pw_skip ?_
          exact ⟨rfl, s19, h, (Wk.trans (wk_frz _ [910003]) (wk_stP (fun l => if l = 30 then 910003 else l) _ _ ⟨rfl, rfl, rfl, rfl, rfl, rfl, rfl, rfl, rfl, trivial⟩ ⟨rowLe_ren rfl rfl rfl (fun _ => rfl) rfl rfl rfl, rowLe_ren rfl rfl rfl (fun q => nomatch q) rfl rfl rfl, trivial⟩ rfl))⟩
    · have h := ifF h hc
      refine pw_exit ?_
      refine thenQ_exit ?_
      refine thenQ_exit ?_
      refine blockQ_exit ?_
      have he := hx15 _ (Option.some.inj h).symm
      have h := hk14
      rw [← he] at h
      exact ⟨rfl, s19, h, (Wk.trans (wk_frz _ [910003]) (wk_st _ _ ⟨rfl, rfl, rfl, rfl, rfl, rfl, trivial⟩ ⟨rowLe_same rfl rfl rfl (fun _ => rfl) rfl rfl rfl, rowLe_same rfl rfl rfl (fun q => nomatch q) rfl rfl rfl, trivial⟩))⟩

set_option maxHeartbeats 4000000 in
theorem r07_Times_ok {a0 : List Int} {a1 : Int} {r : Int} (h : r07_Times a0 a1 = some r) : PCalls Try.prog 43 [.lst false (List.map (PV.int .i64) a0), .int .i64 a1] (.int .i64 r) := by
  unfold r07_Times at h
  refine pc_intro (N := 26) Try.func43 rfl rfl (Nat.le_of_ble_eq_true rfl) fun w0 imm0 => ?_
  refine sr (by kernel_rfl) ?_
  refine y0 rfl (o_assign (d := .int .i64 0) rfl) ?_
  refine y_nil ?_
  refine sr (by kernel_rfl) ?_
  refine y0 rfl (o_assign (d := .int .i64 0) rfl) ?_
  refine y_nil ?_
  obtain ⟨κ10, hκ7, h⟩ := jnE h
  refine pw_jn0 (κ := κ10) (r := r) (fun (j11 : Int) => St.of [(5, .int .i64 j11)] []) (fun j11 h => ?_) ?_
  · subst hκ7
    refine sr (by kernel_rfl) ?_
    refine y0 rfl (o_move (d := .int .i64 j11) rfl) ?_
    refine y0 rfl (o_assign (d := .int .i64 j11) rfl) ?_
    refine y_nil ?_
    refine pw_ret ?_
    obtain rfl := Option.some.inj h
    exact ⟨rfl, [_], ⟨rfl, trivial⟩, rfl, by first | exact .inl rfl | exact .inr rfl⟩
  · skip
    refine sr (by kernel_rfl) ?_
    refine y0 rfl (o_assign (d := .int .i64 0) rfl) ?_
    refine y_nil ?_
    refine pw_block ?_
    obtain ⟨e12, hl8, hk9⟩ := bindE h
    refine pw_lp0 (fun (q : Int × Int) => St.of [(0, .lst false (List.map (PV.int .i64) a0)), (1, .int .i64 a1), (5, .int .i64 q.1), (6, .int .i64 q.2)] []) hl8 (wk_st _ _ ⟨rfl, rfl, rfl, rfl, rfl, rfl, rfl, rfl, rfl, rfl, rfl, rfl, trivial⟩ trivial) (fun q16 x15 h hx10 => ?_)
    obtain ⟨s13, s14⟩ := q16
    refine pw_seq ?_
    refine sr (by kernel_rfl) ?_
    refine y0 rfl (o_move (d := .int .i64 s14) rfl) ?_
    refine y0 rfl (o_move (d := .lst false (List.map (PV.int .i64) a0)) rfl) ?_
    refine y0 rfl (o_lnL (f := (PV.int .i64)) rfl Ty.e27) ?_
    refine y0 rfl (o_cmp rfl rfl rfl) ?_
    refine y_nil ?_
    refine pw_cond (decide (s14 < (a0.length : Int))) rfl (fun hc => ?_) (fun hc => ?_)
    · have h := ifT h hc
      refine pw_skip ?_
      obtain ⟨κ18, hκ12, h⟩ := jnE h
      refine pw_jn0 (κ := κ18) (r := x15) (fun (j19 : Int) => St.of [(0, .lst false (List.map (PV.int .i64) a0)), (1, .int .i64 a1), (5, .int .i64 j19), (6, .int .i64 s14)] []) (fun j19 h => ?_) ?_
      · subst hκ12
        refine sr1 (by kernel_rfl) ?_
        refine y0 rfl (o_move (d := .int .i64 s14) rfl) ?_
        refine y0 rfl (o_ari rfl rfl rfl) ?_
        refine y0 rfl (o_assign (d := .int .i64 (w64 (s14 + 1))) rfl) ?_
        refine y_nil ?_
        exact ⟨rfl, (j19, w64 (s14 + 1)), (Option.some.inj h).symm, (wk_st _ _ ⟨rfl, rfl, rfl, rfl, rfl, rfl, rfl, rfl, rfl, rfl, rfl, rfl, trivial⟩ trivial)⟩
      · skip
        refine pw_block ?_
        refine sr (by kernel_rfl) ?_
        refine y0 rfl (o_move (d := .lst false (List.map (PV.int .i64) a0)) rfl) ?_
        refine y0 rfl (o_move (d := .int .i64 s14) rfl) ?_
        obtain ⟨v20, hv13, h⟩ := bindE h
        refine y0 rfl (o_ixL (f := (PV.int .i64)) (cs := [.int .i64 v20]) hv13 rfl rfl Ty.e27 Ty.s3 rfl rfl) ?_
        refine y0 rfl (o_loadRS rfl Ty.a3 rfl) ?_
        refine y0 rfl (o_move (d := .int .i64 a1) rfl) ?_
        refine y0 rfl (o_cmp rfl rfl rfl) ?_
        refine y0 rfl (o_move (d := .bool (v20 == a1)) rfl) ?_
        refine y_if (g := ((v20 == a1) == true)) rfl (fun hg => o_move (d := .int .i64 a1) rfl) ?_
        refine y_if (g := ((v20 == a1) == true)) rfl (fun hg => o_cmp (ct hg) rfl rfl) ?_
        refine y0 rfl (pk_and rfl rfl rfl (fun q => eqT q)) ?_
        refine y_nil ?_
        refine pw_cond ((v20 == a1) && (a1 != 0)) rfl (fun hc => ?_) (fun hc => ?_)
        · have h := ifT h hc
          refine sr1 (by kernel_rfl) ?_
          refine y0 rfl (o_move (d := .int .i64 s13) rfl) ?_
          refine y0 rfl (o_ari rfl rfl rfl) ?_
          refine y0 rfl (o_assign (d := .int .i64 (w64 (s13 + 1))) rfl) ?_
          refine y_nil ?_
          exact ⟨rfl, w64 (s13 + 1), h, (wk_st _ _ ⟨rfl, rfl, rfl, rfl, rfl, rfl, rfl, rfl, rfl, rfl, rfl, rfl, trivial⟩ trivial)⟩
        · have h := ifF h hc
          refine pw_skip ?_
          exact ⟨rfl, s13, h, (wk_st _ _ ⟨rfl, rfl, rfl, rfl, rfl, rfl, rfl, rfl, rfl, rfl, rfl, rfl, trivial⟩ trivial)⟩
    · have h := ifF h hc
      refine pw_exit ?_
      refine thenQ_exit ?_
      refine thenQ_exit ?_
      refine blockQ_exit ?_
      have he := hx10 _ (Option.some.inj h).symm
      have h := hk9
      rw [← he] at h
      exact ⟨rfl, s13, h, (wk_st _ _ ⟨rfl, rfl, rfl, trivial⟩ trivial)⟩

set_option maxHeartbeats 4000000 in
theorem r08_Has_ok {a0 : List Int} {a1 : Int} {r : Bool} (h : r08_Has a0 a1 = some r) : PCalls Try.prog 95 [.lst false (List.map (PV.int .i64) a0), .int .i64 a1] (.bool r) := by
  unfold r08_Has at h
  refine pc_intro (N := 9) Try.func95 rfl rfl (Nat.le_of_ble_eq_true rfl) fun w0 imm0 => ?_
  refine sr (by kernel_rfl) ?_
  refine y0 rfl (o_assign (d := .bool false) rfl) ?_
  refine y_nil ?_
  refine sr (by kernel_rfl) ?_
  refine y0 rfl (o_move (d := .lst false (List.map (PV.int .i64) a0)) rfl) ?_
  refine y0 rfl (o_move (d := .int .i64 a1) rfl) ?_
  obtain ⟨v1, hv1, h⟩ := bindE h
  refine y0 rfl (o_call (ds := [.lst false (List.map (PV.int .i64) a0), .int .i64 a1]) rfl Ty.k43 rfl (r07_Times_ok hv1)) ?_
  refine y0 rfl (o_cmp rfl rfl rfl) ?_
  refine y0 rfl (o_assign (d := .bool (decide (v1 > 0))) rfl) ?_
  refine y_nil ?_
  refine pw_ret ?_
  obtain rfl := Option.some.inj h
  exact ⟨rfl, [_], ⟨rfl, trivial⟩, rfl, by first | exact .inl rfl | exact .inr rfl⟩

set_option maxHeartbeats 4000000 in
theorem r08_those_ok {a0 : List Int} {a1 : List Int} {a2 : Bool} {r : List Int} (h : r08_those a0 a1 a2 = some r) : PCalls Try.prog 92 [.lst false (List.map (PV.int .i64) a0), .lst false (List.map (PV.int .i64) a1), .bool a2] (.lst false (List.map (PV.int .i64) r)) := by
  unfold r08_those at h
  refine pc_intro (N := 32) Try.func92 rfl rfl (Nat.le_of_ble_eq_true rfl) fun w0 imm0 => ?_
  refine sr (by kernel_rfl) ?_
  refine y0 rfl (o_assign (d := .lst true (List.map (PV.int .i64) [])) rfl) ?_
  refine y_nil ?_
  refine sr (by kernel_rfl) ?_
  refine y0 rfl (o_nslice rfl Ty.e27 Ty.s3) ?_
  refine y0 rfl (o_assign (d := .lst true (List.map (PV.int .i64) [])) rfl) ?_
  refine y_nil ?_
  obtain ⟨κ14, hκ11, h⟩ := jnE h
  refine pw_jn0 (κ := κ14) (r := r) (fun (j15 : List Int) => St.of [(7, .sl 910007)] [(910007, ⟨List.map (PV.int .i64) j15, (List.map (PV.int .i64) j15).length, true, 1, true⟩)]) (fun j15 h => ?_) ?_
  · subst hκ11
    refine sr (by kernel_rfl) ?_
    refine y0 rfl (o_move (d := .sl 910007) rfl) ?_
    refine y0 rfl (o_assign (d := .sl 910007) rfl) ?_
    refine y_nil ?_
    refine pw_ret ?_
    obtain rfl := Option.some.inj h
    exact ⟨rfl, [_], ⟨rfl, trivial⟩, rfl, by first | exact .inl rfl | exact .inr rfl⟩
  · skip
    refine sr (by kernel_rfl) ?_
    refine y0 rfl (o_assign (d := .int .i64 0) rfl) ?_
    refine y_nil ?_
    refine pw_block ?_
    obtain ⟨e16, hl12, hk13⟩ := bindE h
    refine pw_lp0 (fun (q : Int × (List Int)) => St.of [(0, .lst false (List.map (PV.int .i64) a0)), (1, .lst false (List.map (PV.int .i64) a1)), (2, .bool a2), (7, .sl 910007), (8, .int .i64 q.1)] [(910007, ⟨List.map (PV.int .i64) q.2, (List.map (PV.int .i64) q.2).length, true, 1, true⟩)]) hl12 (Wk.trans (wk_nil (t := 7) (l := 920007) (z := 1) rfl rfl) (wk_stP (fun l => if l = 910007 then 920007 else l) _ _ ⟨rfl, rfl, rfl, rfl, rfl, rfl, rfl, rfl, rfl, rfl, rfl, rfl, rfl, rfl, rfl, trivial⟩ ⟨rowLe_ren rfl rfl rfl (fun _ => rfl) rfl rfl rfl, trivial⟩ rfl)) (fun q20 x19 h hx14 => ?_)
    obtain ⟨s17, s18⟩ := q20
    refine pw_seq ?_
    refine sr (by kernel_rfl) ?_
    refine y0 rfl (o_move (d := .int .i64 s17) rfl) ?_
    refine y0 rfl (o_move (d := .lst false (List.map (PV.int .i64) a0)) rfl) ?_
    refine y0 rfl (o_lnL (f := (PV.int .i64)) rfl Ty.e27) ?_
    refine y0 rfl (o_cmp rfl rfl rfl) ?_
    refine y_nil ?_
    refine pw_cond (decide (s17 < (a0.length : Int))) rfl (fun hc => ?_) (fun hc => ?_)
    · have h := ifT h hc
      refine pw_skip ?_
      obtain ⟨κ24, hκ18, h⟩ := jnE h
      refine pw_jn0 (κ := κ24) (r := x19) (fun (j25 : List Int) => St.of [(0, .lst false (List.map (PV.int .i64) a0)), (1, .lst false (List.map (PV.int .i64) a1)), (2, .bool a2), (7, .sl 30), (8, .int .i64 s17)] [(30, ⟨List.map (PV.int .i64) j25, (List.map (PV.int .i64) j25).length, true, 1, true⟩)]) (fun j25 h => ?_) ?_
      · subst hκ18
        refine sr1 (by kernel_rfl) ?_
        refine y0 rfl (o_move (d := .int .i64 s17) rfl) ?_
        refine y0 rfl (o_ari rfl rfl rfl) ?_
        refine y0 rfl (o_assign (d := .int .i64 (w64 (s17 + 1))) rfl) ?_
        refine y_nil ?_
        exact ⟨rfl, (w64 (s17 + 1), j25), (Option.some.inj h).symm, (Wk.trans (wk_frz _ [30]) (wk_stP (fun l => if l = 910007 then 30 else l) _ _ ⟨rfl, rfl, rfl, rfl, rfl, rfl, rfl, rfl, rfl, rfl, rfl, rfl, rfl, rfl, rfl, trivial⟩ ⟨rowLe_ren rfl rfl rfl (fun _ => rfl) rfl rfl rfl, trivial⟩ rfl))⟩
      · skip
        refine pw_block ?_
        refine sr (by kernel_rfl) ?_
        refine y0 rfl (o_move (d := .lst false (List.map (PV.int .i64) a1)) rfl) ?_
        refine y0 rfl (o_move (d := .lst false (List.map (PV.int .i64) a0)) rfl) ?_
        refine y0 rfl (o_move (d := .int .i64 s17) rfl) ?_
        obtain ⟨v26, hv19, h⟩ := bindE h
        refine y0 rfl (o_ixL (f := (PV.int .i64)) (cs := [.int .i64 v26]) hv19 rfl rfl Ty.e27 Ty.s3 rfl rfl) ?_
        refine y0 rfl (o_loadRS rfl Ty.a3 rfl) ?_
        obtain ⟨v27, hv20, h⟩ := bindE h
        refine y0 rfl (o_call (ds := [.lst false (List.map (PV.int .i64) a1), .int .i64 v26]) rfl Ty.k95 rfl (r08_Has_ok hv20)) ?_
        refine y0 rfl (o_move (d := .bool a2) rfl) ?_
        refine y0 rfl (o_eqB rfl rfl Ty.u4 rfl) ?_
        refine y_nil ?_
        refine pw_cond (v27 == a2) rfl (fun hc => ?_) (fun hc => ?_)
        · have h := ifT h hc
          refine sr1 (by kernel_rfl) ?_
          refine y0 rfl (o_move (d := .sl 910007) rfl) ?_
          refine y0 rfl (o_move (d := .lst false (List.map (PV.int .i64) a0)) rfl) ?_
          refine y0 rfl (o_move (d := .int .i64 s17) rfl) ?_
          refine y0 rfl (o_ixL (f := (PV.int .i64)) (cs := [.int .i64 v26]) hv19 rfl rfl Ty.e27 Ty.s3 rfl rfl) ?_
          refine y0 rfl (o_loadRS rfl Ty.a3 rfl) ?_
          refine y0 rfl (o_bI (f := (PV.int .i64)) (l := [v26]) rfl Ty.e27 Ty.s3 Ty.z3 rfl rfl (Nat.le_of_ble_eq_true rfl) rfl rfl) ?_
          obtain ⟨v28, hv21, h⟩ := bindE h
          refine y_app rfl (o_apR (f := (PV.int .i64)) hv21 rfl rfl rfl rfl rfl rfl (.inl ⟨_, rfl, rfl⟩) Ty.e27 Ty.s3 Ty.b3 Ty.z3 rfl (fun _ => rfl)) rfl rfl rfl ?_
          refine y0 rfl (o_assign (d := .sl 30) rfl) ?_
          refine y_nil ?_
          exact ⟨rfl, v28, h, (Wk.trans (wk_frz _ [30]) (wk_st _ _ ⟨rfl, rfl, rfl, rfl, rfl, rfl, rfl, rfl, rfl, rfl, rfl, rfl, rfl, rfl, rfl, trivial⟩ ⟨rowLe_same rfl rfl rfl (fun _ => rfl) rfl rfl rfl, trivial⟩))⟩
        · have h := ifF h hc
          refine pw_skip ?_
          exact ⟨rfl, s18, h, (Wk.trans (wk_frz _ [910007]) (wk_stP (fun l => if l = 30 then 910007 else l) _ _ ⟨rfl, rfl, rfl, rfl, rfl, rfl, rfl, rfl, rfl, rfl, rfl, rfl, rfl, rfl, rfl, trivial⟩ ⟨rowLe_ren rfl rfl rfl (fun _ => rfl) rfl rfl rfl, trivial⟩ rfl))⟩
    · have h := ifF h hc
      refine pw_exit ?_
      refine thenQ_exit ?_
      refine thenQ_exit ?_
      refine blockQ_exit ?_
      have he := hx14 _ (Option.some.inj h).symm
      have h := hk13
      rw [← he] at h
      exact ⟨rfl, s18, h, (Wk.trans (wk_frz _ [910007]) (wk_st _ _ ⟨rfl, rfl, rfl, trivial⟩ ⟨rowLe_same rfl rfl rfl (fun _ => rfl) rfl rfl rfl, trivial⟩))⟩

set_option maxHeartbeats 4000000 in
theorem r03_Get_ok {a0 : r03_Slab} {a1 : Int} {r : Int × Int} (h : r03_Get a0 a1 = some r) : PCalls Try.prog 113 [r03_Slab.Pv a0, .int .i64 a1] (.tup [.int .i64 r.1, .int .i64 r.2]) := by
  unfold r03_Get at h
  refine pc_intro (N := 30) Try.func113 rfl rfl (Nat.le_of_ble_eq_true rfl) fun w0 imm0 => ?_
  refine sr (by kernel_rfl) ?_
  refine y1 rfl (o_box (d := r03_Slab.Pv a0) (z := 2) (cl := true) rfl rfl rfl rfl rfl) rfl ?_
  refine y0 rfl (o_assign (d := .int .i64 0) rfl) ?_
  refine y0 rfl (o_assign (d := .int .i64 0) rfl) ?_
  refine y_nil ?_
  refine sr (by kernel_rfl) ?_
  refine y0 rfl (o_loadA (cs := r03_Slab.Pc a0) rfl rfl rfl Ty.a81 Ty.s81 (Nat.le_of_ble_eq_true rfl) rfl) ?_
  refine y0 rfl (o_move (d := .int .i64 a1) rfl) ?_
  obtain ⟨v1, hv1, h⟩ := bindE h
  refine y0 rfl (o_call (ds := [r03_Slab.Pv a0, .int .i64 a1]) rfl Ty.k61 rfl (r03_Find_ok hv1)) ?_
  refine y0 rfl (o_move (d := .tup [.int .i64 v1.1, .int .i64 v1.2]) rfl) ?_
  refine y0 rfl (o_extract rfl rfl) ?_
  refine y0 rfl (o_extract rfl rfl) ?_
  refine y0 rfl (o_assign (d := .int .i64 v1.1) rfl) ?_
  refine y0 rfl (o_assign (d := .int .i64 v1.2) rfl) ?_
  refine y_nil ?_
  refine pw_seq ?_
  refine sr (by kernel_rfl) ?_
  refine y0 rfl (o_move (d := .int .i64 v1.2) rfl) ?_
  refine y0 rfl (o_cmp rfl rfl rfl) ?_
  refine y_nil ?_
  refine pw_cond (v1.2 != 0) rfl (fun hc => ?_) (fun hc => ?_)
  · have h := ifT h hc
    refine sr (by kernel_rfl) ?_
    refine y0 rfl (o_move (d := .int .i64 v1.2) rfl) ?_
    refine y0 rfl (o_assign (d := .int .i64 0) rfl) ?_
    refine y0 rfl (o_assign (d := .int .i64 v1.2) rfl) ?_
    refine y_nil ?_
    refine pw_ret ?_
    obtain rfl := Option.some.inj h
    exact ⟨rfl, [_, _], ⟨rfl, ⟨rfl, trivial⟩⟩, rfl, by first | exact .inl rfl | exact .inr rfl⟩
  · have h := ifF h hc
    refine pw_skip ?_
    refine pw_seq ?_
    refine sr (by kernel_rfl) ?_
    refine y0 rfl (o_fieldAddrP (k := 0) rfl Ty.f81_0 rfl) ?_
    refine y0 rfl (o_loadS rfl rfl rfl Ty.a79 rfl) ?_
    refine y0 rfl (o_move (d := .int .i64 v1.1) rfl) ?_
    obtain ⟨v2, hv2, h⟩ := bindE h
    refine y0 rfl (o_ixL (f := r03_Cell.Pv) (cs := r03_Cell.Pc v2) hv2 rfl rfl Ty.e79 Ty.s123 rfl rfl) ?_
    refine y0 rfl (o_fieldAddrR rfl Ty.f123_0 rfl) ?_
    refine y0 rfl (o_loadRS rfl Ty.a3 rfl) ?_
    refine y0 rfl (o_cmp rfl rfl rfl) ?_
    refine y_nil ?_
    refine pw_cond (v2.State == 2) rfl (fun hc => ?_) (fun hc => ?_)
    · have h := ifT h hc
      refine sr (by kernel_rfl) ?_
      refine y0 rfl (o_assign (d := .int .i64 0) rfl) ?_
      refine y0 rfl (o_assign (d := .int .i64 3) rfl) ?_
      refine y_nil ?_
      refine pw_ret ?_
      obtain rfl := Option.some.inj h
      exact ⟨rfl, [_, _], ⟨rfl, ⟨rfl, trivial⟩⟩, rfl, by first | exact .inl rfl | exact .inr rfl⟩
    · have h := ifF h hc
      refine pw_skip ?_
      refine sr (by kernel_rfl) ?_
      refine y0 rfl (o_fieldAddrP (k := 0) rfl Ty.f81_0 rfl) ?_
      refine y0 rfl (o_loadS rfl rfl rfl Ty.a79 rfl) ?_
      refine y0 rfl (o_move (d := .int .i64 v1.1) rfl) ?_
      refine y0 rfl (o_ixL (f := r03_Cell.Pv) (cs := r03_Cell.Pc v2) hv2 rfl rfl Ty.e79 Ty.s123 rfl rfl) ?_
      refine y0 rfl (o_fieldAddrR rfl Ty.f123_2 rfl) ?_
      refine y0 rfl (o_loadRS rfl Ty.a3 rfl) ?_
      refine y0 rfl (o_assign (d := .int .i64 v2.Val) rfl) ?_
      refine y0 rfl (o_assign (d := .int .i64 0) rfl) ?_
      refine y_nil ?_
      refine pw_ret ?_
      obtain rfl := Option.some.inj h
      exact ⟨rfl, [_, _], ⟨rfl, ⟨rfl, trivial⟩⟩, rfl, by first | exact .inl rfl | exact .inr rfl⟩

set_option maxHeartbeats 4000000 in
theorem r06_Get_ok {a0 : r06_Store} {a1 : Int} {r : r06_Obj × Int} (h : r06_Get a0 a1 = some r) : PCalls Try.prog 81 [r06_Store.Pv a0, .int .i64 a1] (.tup [r06_Obj.Pv r.1, .int .i64 r.2]) := by
  unfold r06_Get at h
  refine pc_intro (N := 25) Try.func81 rfl rfl (Nat.le_of_ble_eq_true rfl) fun w0 imm0 => ?_
  refine sr (by kernel_rfl) ?_
  refine y1 rfl (o_box (d := r06_Store.Pv a0) (z := 3) (cl := true) rfl rfl rfl rfl rfl) rfl ?_
  refine y1 rfl (o_alloc (d := .agg [.int .i64 0, .int .i64 0, .int .i64 0, .int .i64 0, .bool false, .lst true (List.map (PV.int .i64) [])]) (z := 6) rfl Ty.z41 rfl rfl rfl) rfl ?_
  refine y0 rfl (o_assign (d := .int .i64 0) rfl) ?_
  refine y_nil ?_
  refine sr (by kernel_rfl) ?_
  refine y0 rfl (o_loadA (cs := r06_Store.Pc a0) rfl rfl rfl Ty.a37 Ty.s37 (Nat.le_of_ble_eq_true rfl) rfl) ?_
  obtain ⟨v1, hv1, h⟩ := bindE h
  refine yc rfl (o_callF (ls := []) (ds := [r06_Store.Pv a0]) rfl Ty.k62 rfl (r06_Plain_ok hv1)) ?_
  refine y0 rfl (o_move (d := .int .i64 a1) rfl) ?_
  obtain ⟨v2, hv2, h⟩ := bindE h
  refine y0 rfl (o_call (ds := [r03_Slab.Pv v1, .int .i64 a1]) rfl Ty.k113 rfl (r03_Get_ok hv2)) ?_
  refine y0 rfl (o_move (d := .tup [.int .i64 v2.1, .int .i64 v2.2]) rfl) ?_
  refine y0 rfl (o_extract rfl rfl) ?_
  refine y0 rfl (o_extract rfl rfl) ?_
  refine y0 rfl (o_assign (d := .int .i64 v2.1) rfl) ?_
  refine y0 rfl (o_assign (d := .int .i64 v2.2) rfl) ?_
  refine y_nil ?_
  refine pw_seq ?_
  refine sr (by kernel_rfl) ?_
  refine y0 rfl (o_move (d := .int .i64 v2.2) rfl) ?_
  refine y0 rfl (o_cmp rfl rfl rfl) ?_
  refine y_nil ?_
  refine pw_cond (v2.2 != 0) rfl (fun hc => ?_) (fun hc => ?_)
  · have h := ifT h hc
    refine sr (by kernel_rfl) ?_
    refine y0 rfl (o_build (cs := [.int .i64 0, .int .i64 0, .int .i64 0, .int .i64 0, .bool false, .lst true (List.map (PV.int .i64) [])]) rfl Ty.p41 Ty.z41 rfl rfl rfl) ?_
    refine y0 rfl (o_move (d := .int .i64 v2.2) rfl) ?_
    refine y_sto (x' := .agg [.int .i64 0, .int .i64 0, .int .i64 0, .int .i64 0, .bool false, .lst true (List.map (PV.int .i64) [])]) (cl' := true) rfl rfl (.inl rfl) Ty.s41 ?_
    refine y0 rfl (o_assign (d := .int .i64 v2.2) rfl) ?_
    refine y_nil ?_
    refine pw_ret ?_
    obtain rfl := Option.some.inj h
    exact ⟨rfl, [_, _], ⟨o_loadA rfl rfl rfl Ty.a41 Ty.s41 (Nat.le_of_ble_eq_true rfl) rfl, ⟨rfl, trivial⟩⟩, rfl, by first | exact .inl rfl | exact .inr rfl⟩
  · have h := ifF h hc
    refine pw_skip ?_
    refine sr (by kernel_rfl) ?_
    refine y0 rfl (o_fieldAddrP (k := 0) rfl Ty.f37_0 rfl) ?_
    refine y0 rfl (o_loadS rfl rfl rfl Ty.a35 rfl) ?_
    refine y0 rfl (o_move (d := .int .i64 v2.1) rfl) ?_
    obtain ⟨v3, hv3, h⟩ := bindE h
    refine y0 rfl (o_ixL (f := r06_Cell.Pv) (cs := r06_Cell.Pc v3) hv3 rfl rfl Ty.e35 Ty.s87 rfl rfl) ?_
    refine y0 rfl (o_fieldAddrR rfl Ty.f87_2 rfl) ?_
    refine y0 rfl (o_loadRA (cs := r06_Obj.Pc v3.Val) rfl Ty.a41 Ty.s41 (Nat.le_of_ble_eq_true rfl) rfl) ?_
    refine y_sto (x' := r06_Obj.Pv v3.Val) (cl' := true) rfl rfl (.inr rfl) Ty.s41 ?_
    refine y0 rfl (o_assign (d := .int .i64 0) rfl) ?_
    refine y_nil ?_
    refine pw_ret ?_
    obtain rfl := Option.some.inj h
    exact ⟨rfl, [_, _], ⟨o_loadA rfl rfl rfl Ty.a41 Ty.s41 (Nat.le_of_ble_eq_true rfl) rfl, ⟨rfl, trivial⟩⟩, rfl, by first | exact .inl rfl | exact .inr rfl⟩

set_option maxHeartbeats 4000000 in
theorem r05_Names_ok {a0 : List Int} {r : List Int} (h : r05_Names a0 = some r) : PCalls Try.prog 82 [.lst false (List.map (PV.int .i64) a0)] (.lst false (List.map (PV.int .i64) r)) := by
  unfold r05_Names at h
  refine pc_intro (N := 25) Try.func82 rfl rfl (Nat.le_of_ble_eq_true rfl) fun w0 imm0 => ?_
  refine sr (by kernel_rfl) ?_
  refine y0 rfl (o_assign (d := .lst true (List.map (PV.int .i64) [])) rfl) ?_
  refine y_nil ?_
  refine sr (by kernel_rfl) ?_
  refine y0 rfl (o_nslice rfl Ty.e27 Ty.s3) ?_
  refine y0 rfl (o_assign (d := .lst true (List.map (PV.int .i64) [])) rfl) ?_
  refine y_nil ?_
  obtain ⟨κ12, hκ9, h⟩ := jnE h
  refine pw_jn0 (κ := κ12) (r := r) (fun (j13 : List Int) => St.of [(3, .sl 910003)] [(910003, ⟨List.map (PV.int .i64) j13, (List.map (PV.int .i64) j13).length, true, 1, true⟩)]) (fun j13 h => ?_) ?_
  · subst hκ9
    refine sr (by kernel_rfl) ?_
    refine y0 rfl (o_move (d := .sl 910003) rfl) ?_
    refine y0 rfl (o_assign (d := .sl 910003) rfl) ?_
    refine y_nil ?_
    refine pw_ret ?_
    obtain rfl := Option.some.inj h
    exact ⟨rfl, [_], ⟨rfl, trivial⟩, rfl, by first | exact .inl rfl | exact .inr rfl⟩
  · skip
    refine sr (by kernel_rfl) ?_
    refine y0 rfl (o_assign (d := .int .i64 0) rfl) ?_
    refine y_nil ?_
    refine pw_block ?_
    obtain ⟨e14, hl10, hk11⟩ := bindE h
    refine pw_lp0 (fun (q : Int × (List Int)) => St.of [(0, .lst false (List.map (PV.int .i64) a0)), (3, .sl 910003), (4, .int .i64 q.1)] [(910003, ⟨List.map (PV.int .i64) q.2, (List.map (PV.int .i64) q.2).length, true, 1, true⟩)]) hl10 (Wk.trans (wk_nil (t := 3) (l := 920003) (z := 1) rfl rfl) (wk_stP (fun l => if l = 910003 then 920003 else l) _ _ ⟨rfl, rfl, rfl, rfl, rfl, rfl, rfl, rfl, rfl, trivial⟩ ⟨rowLe_ren rfl rfl rfl (fun _ => rfl) rfl rfl rfl, trivial⟩ rfl)) (fun q18 x17 h hx12 => ?_)
    obtain ⟨s15, s16⟩ := q18
    refine pw_seq ?_
    refine sr (by kernel_rfl) ?_
    refine y0 rfl (o_move (d := .int .i64 s15) rfl) ?_
    refine y0 rfl (o_move (d := .lst false (List.map (PV.int .i64) a0)) rfl) ?_
    refine y0 rfl (o_lnL (f := (PV.int .i64)) rfl Ty.e27) ?_
    refine y0 rfl (o_cmp rfl rfl rfl) ?_
    refine y_nil ?_
    refine pw_cond (decide (s15 < (a0.length : Int))) rfl (fun hc => ?_) (fun hc => ?_)
    · have h := ifT h hc
      refine pw_skip ?_
      obtain ⟨κ21, hκ15, h⟩ := jnE h
      refine pw_jn0 (κ := κ21) (r := x17) (fun (j22 : List Int) => St.of [(0, .lst false (List.map (PV.int .i64) a0)), (3, .sl 23), (4, .int .i64 s15)] [(23, ⟨List.map (PV.int .i64) j22, (List.map (PV.int .i64) j22).length, true, 1, true⟩)]) (fun j22 h => ?_) ?_
      · subst hκ15
        refine sr1 (by kernel_rfl) ?_
        refine y0 rfl (o_move (d := .int .i64 s15) rfl) ?_
        refine y0 rfl (o_ari rfl rfl rfl) ?_
        refine y0 rfl (o_assign (d := .int .i64 (w64 (s15 + 1))) rfl) ?_
        refine y_nil ?_
        exact ⟨rfl, (w64 (s15 + 1), j22), (Option.some.inj h).symm, (Wk.trans (wk_frz _ [23]) (wk_stP (fun l => if l = 910003 then 23 else l) _ _ ⟨rfl, rfl, rfl, rfl, rfl, rfl, rfl, rfl, rfl, trivial⟩ ⟨rowLe_ren rfl rfl rfl (fun _ => rfl) rfl rfl rfl, trivial⟩ rfl))⟩
      · skip
        refine pw_block ?_
        refine sr (by kernel_rfl) ?_
        refine y0 rfl (o_move (d := .lst false (List.map (PV.int .i64) a0)) rfl) ?_
        refine y0 rfl (o_move (d := .int .i64 s15) rfl) ?_
        obtain ⟨v23, hv16, h⟩ := bindE h
        refine y0 rfl (o_ixL (f := (PV.int .i64)) (cs := [.int .i64 v23]) hv16 rfl rfl Ty.e27 Ty.s3 rfl rfl) ?_
        refine y0 rfl (o_loadRS rfl Ty.a3 rfl) ?_
        refine y0 rfl (o_cmp rfl rfl rfl) ?_
        refine y_nil ?_
        refine pw_cond (v23 != 0) rfl (fun hc => ?_) (fun hc => ?_)
        · have h := ifT h hc
          refine sr1 (by kernel_rfl) ?_
          refine y0 rfl (o_move (d := .sl 910003) rfl) ?_
          refine y0 rfl (o_move (d := .lst false (List.map (PV.int .i64) a0)) rfl) ?_
          refine y0 rfl (o_move (d := .int .i64 s15) rfl) ?_
          refine y0 rfl (o_ixL (f := (PV.int .i64)) (cs := [.int .i64 v23]) hv16 rfl rfl Ty.e27 Ty.s3 rfl rfl) ?_
          refine y0 rfl (o_loadRS rfl Ty.a3 rfl) ?_
          refine y0 rfl (o_bI (f := (PV.int .i64)) (l := [v23]) rfl Ty.e27 Ty.s3 Ty.z3 rfl rfl (Nat.le_of_ble_eq_true rfl) rfl rfl) ?_
          obtain ⟨v24, hv17, h⟩ := bindE h
          refine y_app rfl (o_apR (f := (PV.int .i64)) hv17 rfl rfl rfl rfl rfl rfl (.inl ⟨_, rfl, rfl⟩) Ty.e27 Ty.s3 Ty.b3 Ty.z3 rfl (fun _ => rfl)) rfl rfl rfl ?_
          refine y0 rfl (o_assign (d := .sl 23) rfl) ?_
          refine y_nil ?_
          exact ⟨rfl, v24, h, (Wk.trans (wk_frz _ [23]) (wk_st _ _ ⟨rfl, rfl, rfl, rfl, rfl, rfl, rfl, rfl, rfl, trivial⟩ ⟨rowLe_same rfl rfl rfl (fun _ => rfl) rfl rfl rfl, trivial⟩))⟩
        · have h := ifF h hc
          refine pw_skip ?_
          exact ⟨rfl, s16, h, (Wk.trans (wk_frz _ [910003]) (wk_stP (fun l => if l = 23 then 910003 else l) _ _ ⟨rfl, rfl, rfl, rfl, rfl, rfl, rfl, rfl, rfl, trivial⟩ ⟨rowLe_ren rfl rfl rfl (fun _ => rfl) rfl rfl rfl, trivial⟩ rfl))⟩
    · have h := ifF h hc
      refine pw_exit ?_
      refine thenQ_exit ?_
      refine thenQ_exit ?_
      refine blockQ_exit ?_
      have he := hx12 _ (Option.some.inj h).symm
      have h := hk11
      rw [← he] at h
      exact ⟨rfl, s16, h, (Wk.trans (wk_frz _ [910003]) (wk_st _ _ ⟨rfl, rfl, rfl, trivial⟩ ⟨rowLe_same rfl rfl rfl (fun _ => rfl) rfl rfl rfl, trivial⟩))⟩

set_option maxHeartbeats 4000000 in
theorem r07_Out_ok {a0 : r06_Store} {a1 : Int} {r : List Int} (h : r07_Out a0 a1 = some r) : PCalls Try.prog 37 [r06_Store.Pv a0, .int .i64 a1] (.lst false (List.map (PV.int .i64) r)) := by
  unfold r07_Out at h
  refine pc_intro (N := 18) Try.func37 rfl rfl (Nat.le_of_ble_eq_true rfl) fun w0 imm0 => ?_
  refine sr (by kernel_rfl) ?_
  refine y1 rfl (o_box (d := r06_Store.Pv a0) (z := 3) (cl := true) rfl rfl rfl rfl rfl) rfl ?_
  refine y0 rfl (o_assign (d := .lst true (List.map (PV.int .i64) [])) rfl) ?_
  refine y_nil ?_
  refine sr (by kernel_rfl) ?_
  refine y0 rfl (o_loadA (cs := r06_Store.Pc a0) rfl rfl rfl Ty.a37 Ty.s37 (Nat.le_of_ble_eq_true rfl) rfl) ?_
  refine y0 rfl (o_move (d := .int .i64 a1) rfl) ?_
  obtain ⟨v1, hv1, h⟩ := bindE h
  refine yc rfl (o_callF (ls := []) (ds := [r06_Store.Pv a0, .int .i64 a1]) rfl Ty.k81 rfl (r06_Get_ok hv1)) ?_
  refine y0 rfl (o_move (d := .tup [r06_Obj.Pv v1.1, .int .i64 v1.2]) rfl) ?_
  refine y0 rfl (o_extract rfl rfl) ?_
  refine y0 rfl (o_extract rfl rfl) ?_
  refine y1 rfl (o_alloc (d := .agg [.int .i64 0, .int .i64 0, .int .i64 0, .int .i64 0, .bool false, .lst true (List.map (PV.int .i64) [])]) (z := 6) rfl Ty.z41 rfl rfl rfl) rfl ?_
  refine y_sto (x' := r06_Obj.Pv v1.1) (cl' := true) rfl rfl (.inr rfl) Ty.s41 ?_
  refine y0 rfl (o_assign (d := .int .i64 v1.2) rfl) ?_
  refine y_nil ?_
  refine pw_seq ?_
  refine sr (by kernel_rfl) ?_
  refine y0 rfl (o_move (d := .int .i64 v1.2) rfl) ?_
  refine y0 rfl (o_cmp rfl rfl rfl) ?_
  refine y_nil ?_
  refine pw_cond (v1.2 != 0) rfl (fun hc => ?_) (fun hc => ?_)
  · have h := ifT h hc
    refine sr (by kernel_rfl) ?_
    refine y0 rfl (o_assign (d := .lst true (List.map (PV.int .i64) [])) rfl) ?_
    refine y_nil ?_
    refine pw_ret ?_
    obtain rfl := Option.some.inj h
    exact ⟨rfl, [_], ⟨rfl, trivial⟩, rfl, by first | exact .inl rfl | exact .inr rfl⟩
  · have h := ifF h hc
    refine pw_skip ?_
    refine sr (by kernel_rfl) ?_
    refine y0 rfl (o_fieldAddrP (k := 5) rfl Ty.f41_5 rfl) ?_
    refine y0 rfl (o_loadS rfl rfl rfl Ty.a27 rfl) ?_
    obtain ⟨v2, hv2, h⟩ := bindE h
    refine yc rfl (o_callF (ls := []) (ds := [.lst false (List.map (PV.int .i64) v1.1.Fields)]) rfl Ty.k82 rfl (r05_Names_ok hv2)) ?_
    refine y0 rfl (o_assign (d := .lst false (List.map (PV.int .i64) v2)) rfl) ?_
    refine y_nil ?_
    refine pw_ret ?_
    obtain rfl := Option.some.inj h
    exact ⟨rfl, [_], ⟨rfl, trivial⟩, rfl, by first | exact .inl rfl | exact .inr rfl⟩

set_option maxHeartbeats 4000000 in
theorem r08_From_ok {a0 : r06_Store} {a1 : List Int} {r : List Int} (h : r08_From a0 a1 = some r) : PCalls Try.prog 51 [r06_Store.Pv a0, .lst false (List.map (PV.int .i64) a1)] (.lst false (List.map (PV.int .i64) r)) := by
  unfold r08_From at h
  refine pc_intro (N := 42) Try.func51 rfl rfl (Nat.le_of_ble_eq_true rfl) fun w0 imm0 => ?_
  refine sr (by kernel_rfl) ?_
  refine y1 rfl (o_box (d := r06_Store.Pv a0) (z := 3) (cl := true) rfl rfl rfl rfl rfl) rfl ?_
  refine y0 rfl (o_assign (d := .lst true (List.map (PV.int .i64) [])) rfl) ?_
  refine y_nil ?_
  refine sr (by kernel_rfl) ?_
  refine y0 rfl (o_loadA (cs := r06_Store.Pc a0) rfl rfl rfl Ty.a37 Ty.s37 (Nat.le_of_ble_eq_true rfl) rfl) ?_
  obtain ⟨v1, hv1, h⟩ := bindE h
  refine yc rfl (o_callF (ls := []) (ds := [r06_Store.Pv a0]) rfl Ty.k46 rfl (r06_Live_ok hv1)) ?_
  refine y0 rfl (o_assign (d := .lst false (List.map (PV.int .i64) v1)) rfl) ?_
  refine y_nil ?_
  refine sr (by kernel_rfl) ?_
  refine y0 rfl (o_move (d := .lst false (List.map (PV.int .i64) v1)) rfl) ?_
  refine y0 rfl (o_move (d := .lst false (List.map (PV.int .i64) a1)) rfl) ?_
  obtain ⟨v2, hv2, h⟩ := bindE h
  refine yc rfl (o_callF (ls := []) (ds := [.lst false (List.map (PV.int .i64) v1), .lst false (List.map (PV.int .i64) a1), .bool true]) rfl Ty.k92 rfl (r08_those_ok hv2)) ?_
  refine y0 rfl (o_assign (d := .lst false (List.map (PV.int .i64) v2)) rfl) ?_
  refine y_nil ?_
  obtain ⟨κ50, hκ37, h⟩ := jnE h
  refine pw_jn0 (κ := κ50) (r := r) (fun (j51 : List Int) => St.of [(6, .lst false (List.map (PV.int .i64) j51))] []) (fun j51 h => ?_) ?_
  · subst hκ37
    refine sr (by kernel_rfl) ?_
    refine y0 rfl (o_move (d := .lst false (List.map (PV.int .i64) j51)) rfl) ?_
    refine y0 rfl (o_assign (d := .lst false (List.map (PV.int .i64) j51)) rfl) ?_
    refine y_nil ?_
    refine pw_ret ?_
    obtain rfl := Option.some.inj h
    exact ⟨rfl, [_], ⟨rfl, trivial⟩, rfl, by first | exact .inl rfl | exact .inr rfl⟩
  · skip
    refine sr (by kernel_rfl) ?_
    refine y0 rfl (o_assign (d := .int .i64 0) rfl) ?_
    refine y_nil ?_
    refine pw_block ?_
    obtain ⟨e52, hl38, hk39⟩ := bindE h
    refine pw_lp0 (fun (q : (List Int) × Int) => St.of [(2, .ptr 2 0 0), (5, .lst false (List.map (PV.int .i64) v1)), (6, .lst false (List.map (PV.int .i64) q.1)), (7, .int .i64 q.2)] [(2, ⟨[r06_Store.Pv a0], 0, false, 3, true⟩)]) hl38 (wk_st _ _ ⟨rfl, rfl, rfl, rfl, rfl, rfl, rfl, rfl, rfl, rfl, rfl, rfl, trivial⟩ ⟨rowLe_same rfl rfl rfl (fun q => nomatch q) rfl rfl rfl, trivial⟩) (fun q56 x55 h hx40 => ?_)
    obtain ⟨s53, s54⟩ := q56
    refine pw_seq ?_
    refine sr (by kernel_rfl) ?_
    refine y0 rfl (o_move (d := .int .i64 s54) rfl) ?_
    refine y0 rfl (o_move (d := .lst false (List.map (PV.int .i64) v1)) rfl) ?_
    refine y0 rfl (o_lnL (f := (PV.int .i64)) rfl Ty.e27) ?_
    refine y0 rfl (o_cmp rfl rfl rfl) ?_
    refine y_nil ?_
    refine pw_cond (decide (s54 < (v1.length : Int))) rfl (fun hc => ?_) (fun hc => ?_)
    · have h := ifT h hc
      refine pw_skip ?_
      obtain ⟨κ77, hκ56, h⟩ := jnE h
      refine pw_jn0 (κ := κ77) (r := x55) (fun (j78 : List Int) => St.of [(2, .ptr 2 0 0), (5, .lst false (List.map (PV.int .i64) v1)), (6, .lst false (List.map (PV.int .i64) j78)), (7, .int .i64 s54)] [(2, ⟨[r06_Store.Pv a0], 0, false, 3, true⟩)]) (fun j78 h => ?_) ?_
      · subst hκ56
        refine sr1 (by kernel_rfl) ?_
        refine y0 rfl (o_move (d := .int .i64 s54) rfl) ?_
        refine y0 rfl (o_ari rfl rfl rfl) ?_
        refine y0 rfl (o_assign (d := .int .i64 (w64 (s54 + 1))) rfl) ?_
        refine y_nil ?_
        exact ⟨rfl, (j78, w64 (s54 + 1)), (Option.some.inj h).symm, (wk_st _ _ ⟨rfl, rfl, rfl, rfl, rfl, rfl, rfl, rfl, rfl, rfl, rfl, rfl, trivial⟩ ⟨rowLe_same rfl rfl rfl (fun q => nomatch q) rfl rfl rfl, trivial⟩)⟩
      · skip
        refine pw_block ?_
        refine sr (by kernel_rfl) ?_
        refine y0 rfl (o_nslice rfl Ty.e27 Ty.s3) ?_
        refine y0 rfl (o_move (d := .lst false (List.map (PV.int .i64) s53)) rfl) ?_
        obtain ⟨v79, hv57, h⟩ := bindE h
        refine y1 rfl (o_apT (f := (PV.int .i64)) hv57 rfl rfl (.inl ⟨_, rfl, rfl⟩) Ty.e27 Ty.s3 Ty.b3 Ty.z3 rfl (fun _ => rfl)) rfl ?_
        refine y0 rfl (o_assign (d := .sl 23) rfl) ?_
        refine y_nil ?_
        obtain ⟨κ88, hκ64, h⟩ := jnE h
        refine pw_jn0 (κ := κ88) (r := x55) (fun (j89 : List Int) => St.of [(2, .ptr 2 0 0), (5, .lst false (List.map (PV.int .i64) v1)), (7, .int .i64 s54), (8, .sl 23)] [(23, ⟨List.map (PV.int .i64) j89, (List.map (PV.int .i64) j89).length, true, 1, true⟩), (2, ⟨[r06_Store.Pv a0], 0, false, 3, true⟩)]) (fun j89 h => ?_) ?_
        · subst hκ64
          refine sr1 (by kernel_rfl) ?_
          refine y0 rfl (o_move (d := .lst false (List.map (PV.int .i64) v1)) rfl) ?_
          refine y0 rfl (o_move (d := .sl 23) rfl) ?_
          obtain ⟨v90, hv65, h⟩ := bindE h
          refine ycL rfl (o_callF (ls := [23]) (ds := [.lst false (List.map (PV.int .i64) v1), .sl 23, .bool true]) rfl Ty.k92 rfl (r08_those_ok hv65)) rfl ?_
          refine y0 rfl (o_assign (d := .lst false (List.map (PV.int .i64) v90)) rfl) ?_
          refine y_nil ?_
          exact ⟨rfl, v90, h, (wk_st _ _ ⟨rfl, rfl, rfl, rfl, rfl, rfl, rfl, rfl, rfl, rfl, rfl, rfl, trivial⟩ ⟨rowLe_same rfl rfl rfl (fun q => nomatch q) rfl rfl rfl, trivial⟩)⟩
        · skip
          refine sr (by kernel_rfl) ?_
          refine y0 rfl (o_assign (d := .int .i64 0) rfl) ?_
          refine y_nil ?_
          refine pw_block ?_
          obtain ⟨e91, hl66, hk67⟩ := bindE h
          refine pw_lp0 (fun (q : Int × (List Int)) => St.of [(2, .ptr 2 0 0), (5, .lst false (List.map (PV.int .i64) v1)), (6, .lst false (List.map (PV.int .i64) s53)), (7, .int .i64 s54), (8, .sl 23), (9, .int .i64 q.1)] [(23, ⟨List.map (PV.int .i64) q.2, (List.map (PV.int .i64) q.2).length, true, 1, true⟩), (2, ⟨[r06_Store.Pv a0], 0, false, 3, true⟩)]) hl66 (Wk.trans (wk_frz _ [23]) (wk_st _ _ ⟨rfl, rfl, rfl, rfl, rfl, rfl, rfl, rfl, rfl, rfl, rfl, rfl, rfl, rfl, rfl, rfl, rfl, rfl, trivial⟩ ⟨rowLe_same rfl rfl rfl (fun _ => rfl) rfl rfl rfl, rowLe_same rfl rfl rfl (fun q => nomatch q) rfl rfl rfl, trivial⟩)) (fun q95 x94 h hx68 => ?_)
          obtain ⟨s92, s93⟩ := q95
          refine pw_seq ?_
          refine sr (by kernel_rfl) ?_
          refine y0 rfl (o_move (d := .int .i64 s92) rfl) ?_
          refine y0 rfl (o_move (d := .lst false (List.map (PV.int .i64) s53)) rfl) ?_
          refine y0 rfl (o_lnL (f := (PV.int .i64)) rfl Ty.e27) ?_
          refine y0 rfl (o_cmp rfl rfl rfl) ?_
          refine y_nil ?_
          refine pw_cond (decide (s92 < (s53.length : Int))) rfl (fun hc => ?_) (fun hc => ?_)
          · have h := ifT h hc
            refine pw_skip ?_
            refine pw_seq ?_
            refine pw_block ?_
            refine pw_drw [] Ty.mix (by kernel_rfl) (by kernel_rfl) ?_
            refine d7 rfl (fun _ hN => o_move (d := .sl 23) rfl) rfl ?_
            refine d0 rfl (o_loadA (cs := r06_Store.Pc a0) rfl rfl rfl Ty.a37 Ty.s37 (Nat.le_of_ble_eq_true rfl) rfl) rfl ?_
            refine d7 rfl (fun _ hN => o_move (d := .lst false (List.map (PV.int .i64) s53)) rfl) rfl ?_
            refine d7 rfl (fun _ hN => o_move (d := .int .i64 s92) rfl) rfl ?_
            obtain ⟨v96, hv69, h⟩ := bindE h
            refine d0 rfl (o_ixL (f := (PV.int .i64)) (cs := [.int .i64 v96]) hv69 rfl rfl Ty.e27 Ty.s3 rfl rfl) rfl ?_
            refine d0 rfl (o_loadRS rfl Ty.a3 rfl) rfl ?_
            obtain ⟨v97, hv70, h⟩ := bindE h
            refine d2f rfl (o_callF (ls := []) (ds := [r06_Store.Pv a0, .int .i64 v96]) rfl Ty.k37 rfl (r07_Out_ok hv70)) rfl ?_
            obtain ⟨v98, hv71, h⟩ := bindE h
            refine d3a rfl (o_apR (f := (PV.int .i64)) hv71 rfl rfl rfl rfl rfl rfl (.inl ⟨_, rfl, rfl⟩) Ty.e27 Ty.s3 Ty.b3 Ty.z3 rfl (fun _ => rfl)) rfl rfl rfl rfl rfl ?_
            refine d7 rfl (fun _ hN => o_assign (d := .sl 37) rfl) rfl ?_
            refine d_nil ?_
            refine sr1 (by kernel_rfl) ?_
            refine y0 rfl (o_move (d := .int .i64 s92) rfl) ?_
            refine y0 rfl (o_ari rfl rfl rfl) ?_
            refine y0 rfl (o_assign (d := .int .i64 (w64 (s92 + 1))) rfl) ?_
            refine y_nil ?_
            exact ⟨rfl, (w64 (s92 + 1), v98), (Option.some.inj h).symm, (Wk.trans (wk_frz _ [37]) (wk_stP (fun l => if l = 23 then 37 else l) _ _ ⟨rfl, rfl, rfl, rfl, rfl, rfl, rfl, rfl, rfl, rfl, rfl, rfl, rfl, rfl, rfl, rfl, rfl, rfl, trivial⟩ ⟨rowLe_ren rfl rfl rfl (fun _ => rfl) rfl rfl rfl, rowLe_ren rfl rfl rfl (fun q => nomatch q) rfl rfl rfl, trivial⟩ rfl))⟩
          · have h := ifF h hc
            refine pw_exit ?_
            refine thenQ_exit ?_
            refine thenQ_exit ?_
            refine blockQ_exit ?_
            have he := hx68 _ (Option.some.inj h).symm
            have h := hk67
            rw [← he] at h
            exact ⟨rfl, s93, h, (Wk.trans (wk_frz _ [23]) (wk_st _ _ ⟨rfl, rfl, rfl, rfl, rfl, rfl, rfl, rfl, rfl, rfl, rfl, rfl, trivial⟩ ⟨rowLe_same rfl rfl rfl (fun _ => rfl) rfl rfl rfl, rowLe_same rfl rfl rfl (fun q => nomatch q) rfl rfl rfl, trivial⟩))⟩
    · have h := ifF h hc
      refine pw_exit ?_
      refine thenQ_exit ?_
      refine thenQ_exit ?_
      refine blockQ_exit ?_
      have he := hx40 _ (Option.some.inj h).symm
      have h := hk39
      rw [← he] at h
      exact ⟨rfl, s53, h, (wk_st _ _ ⟨rfl, rfl, rfl, trivial⟩ trivial)⟩

set_option maxHeartbeats 4000000 in
theorem r02_Ints_ok {a0 : List Int} {a1 : List Int} {r : Bool} (h : r02_Ints a0 a1 = some r) : PCalls Try.prog 32 [.lst false (List.map (PV.int .i64) a0), .lst false (List.map (PV.int .i64) a1)] (.bool r) := by
  unfold r02_Ints at h
  refine pc_intro (N := 26) Try.func32 rfl rfl (Nat.le_of_ble_eq_true rfl) fun w0 imm0 => ?_
  refine sr (by kernel_rfl) ?_
  refine y0 rfl (o_assign (d := .bool false) rfl) ?_
  refine y_nil ?_
  refine pw_seq ?_
  refine sr (by kernel_rfl) ?_
  refine y0 rfl (o_move (d := .lst false (List.map (PV.int .i64) a0)) rfl) ?_
  refine y0 rfl (o_lnL (f := (PV.int .i64)) rfl Ty.e27) ?_
  refine y0 rfl (o_move (d := .lst false (List.map (PV.int .i64) a1)) rfl) ?_
  refine y0 rfl (o_lnL (f := (PV.int .i64)) rfl Ty.e27) ?_
  refine y0 rfl (o_cmp rfl rfl rfl) ?_
  refine y_nil ?_
  refine pw_cond ((a0.length : Int) != (a1.length : Int)) rfl (fun hc => ?_) (fun hc => ?_)
  · have h := ifT h hc
    refine sr (by kernel_rfl) ?_
    refine y0 rfl (o_assign (d := .bool false) rfl) ?_
    refine y_nil ?_
    refine pw_ret ?_
    obtain rfl := Option.some.inj h
    exact ⟨rfl, [_], ⟨rfl, trivial⟩, rfl, by first | exact .inl rfl | exact .inr rfl⟩
  · have h := ifF h hc
    refine pw_skip ?_
    obtain ⟨κ6, hκ6, h⟩ := jnE h
    refine pw_jn0 (κ := κ6) (r := r) (fun (_ : Unit) => St.of [] []) (fun q7 h => ?_) ?_
    · subst hκ6
      refine sr (by kernel_rfl) ?_
      refine y0 rfl (o_assign (d := .bool true) rfl) ?_
      refine y_nil ?_
      refine pw_ret ?_
      obtain rfl := Option.some.inj h
      exact ⟨rfl, [_], ⟨rfl, trivial⟩, rfl, by first | exact .inl rfl | exact .inr rfl⟩
    · skip
      refine sr (by kernel_rfl) ?_
      refine y0 rfl (o_assign (d := .int .i64 0) rfl) ?_
      refine y_nil ?_
      refine pw_block ?_
      obtain ⟨e8, hl7, hk8⟩ := bindE h
      refine pw_lp0 (fun (s9 : Int) => St.of [(0, .lst false (List.map (PV.int .i64) a0)), (1, .lst false (List.map (PV.int .i64) a1)), (5, .int .i64 s9)] []) hl7 (wk_st _ _ ⟨rfl, rfl, rfl, rfl, rfl, rfl, rfl, rfl, rfl, trivial⟩ trivial) (fun s9 x10 h hx9 => ?_)
      refine pw_seq ?_
      refine sr (by kernel_rfl) ?_
      refine y0 rfl (o_move (d := .int .i64 s9) rfl) ?_
      refine y0 rfl (o_move (d := .lst false (List.map (PV.int .i64) a0)) rfl) ?_
      refine y0 rfl (o_lnL (f := (PV.int .i64)) rfl Ty.e27) ?_
      refine y0 rfl (o_cmp rfl rfl rfl) ?_
      refine y_nil ?_
      refine pw_cond (decide (s9 < (a0.length : Int))) rfl (fun hc => ?_) (fun hc => ?_)
      · have h := ifT h hc
        refine pw_skip ?_
        refine pw_seq ?_
        refine pw_block ?_
        refine dr [] Ty.mix (by kernel_rfl) (by kernel_rfl) ?_
        refine d7 rfl (fun _ hN => o_move (d := .lst false (List.map (PV.int .i64) a0)) rfl) rfl ?_
        refine d7 rfl (fun _ hN => o_move (d := .int .i64 s9) rfl) rfl ?_
        obtain ⟨v11, hv10, h⟩ := bindE h
        refine d0 rfl (o_ixL (f := (PV.int .i64)) (cs := [.int .i64 v11]) hv10 rfl rfl Ty.e27 Ty.s3 rfl rfl) rfl ?_
        refine d0 rfl (o_loadRS rfl Ty.a3 rfl) rfl ?_
        refine d7 rfl (fun _ hN => o_move (d := .lst false (List.map (PV.int .i64) a1)) rfl) rfl ?_
        refine d7 rfl (fun _ hN => o_move (d := .int .i64 s9) rfl) rfl ?_
        obtain ⟨v12, hv11, h⟩ := bindE h
        refine d0 rfl (o_ixL (f := (PV.int .i64)) (cs := [.int .i64 v12]) hv11 rfl rfl Ty.e27 Ty.s3 rfl rfl) rfl ?_
        refine d0 rfl (o_loadRS rfl Ty.a3 rfl) rfl ?_
        refine d7 rfl (fun _ hN => o_cmp rfl rfl rfl) rfl ?_
        refine d_nil ?_
        refine pw_cond (v11 != v12) rfl (fun hc => ?_) (fun hc => ?_)
        · have h := ifT h hc
          refine sr (by kernel_rfl) ?_
          refine y0 rfl (o_assign (d := .bool false) rfl) ?_
          refine y_nil ?_
          refine pw_ret ?_
          have he := hx9 _ (Option.some.inj h).symm
          have h := hk8
          rw [← he] at h
          obtain rfl := Option.some.inj h
          exact ⟨rfl, [_], ⟨rfl, trivial⟩, rfl, by first | exact .inl rfl | exact .inr rfl⟩
        · have h := ifF h hc
          refine pw_skip ?_
          refine sr1 (by kernel_rfl) ?_
          refine y0 rfl (o_move (d := .int .i64 s9) rfl) ?_
          refine y0 rfl (o_ari rfl rfl rfl) ?_
          refine y0 rfl (o_assign (d := .int .i64 (w64 (s9 + 1))) rfl) ?_
          refine y_nil ?_
          exact ⟨rfl, w64 (s9 + 1), (Option.some.inj h).symm, (wk_st _ _ ⟨rfl, rfl, rfl, rfl, rfl, rfl, rfl, rfl, rfl, trivial⟩ trivial)⟩
      · have h := ifF h hc
        refine pw_exit ?_
        refine thenQ_exit ?_
        refine thenQ_exit ?_
        refine blockQ_exit ?_
        have he := hx9 _ (Option.some.inj h).symm
        have h := hk8
        rw [← he] at h
        exact ⟨rfl, (), h, (wk_st _ _ trivial trivial)⟩

set_option maxHeartbeats 4000000 in
theorem r08_Lost_ok {a0 : r06_Store} {a1 : List Int} {r : List Int} (h : r08_Lost a0 a1 = some r) : PCalls Try.prog 53 [r06_Store.Pv a0, .lst false (List.map (PV.int .i64) a1)] (.lst false (List.map (PV.int .i64) r)) := by
  unfold r08_Lost at h
  refine pc_intro (N := 11) Try.func53 rfl rfl (Nat.le_of_ble_eq_true rfl) fun w0 imm0 => ?_
  refine sr (by kernel_rfl) ?_
  refine y1 rfl (o_box (d := r06_Store.Pv a0) (z := 3) (cl := true) rfl rfl rfl rfl rfl) rfl ?_
  refine y0 rfl (o_assign (d := .lst true (List.map (PV.int .i64) [])) rfl) ?_
  refine y_nil ?_
  refine dr [] Ty.mix (by kernel_rfl) (by kernel_rfl) ?_
  refine d0 rfl (o_loadA (cs := r06_Store.Pc a0) rfl rfl rfl Ty.a37 Ty.s37 (Nat.le_of_ble_eq_true rfl) rfl) rfl ?_
  obtain ⟨v1, hv1, h⟩ := bindE h
  refine d2f rfl (o_callF (ls := []) (ds := [r06_Store.Pv a0]) rfl Ty.k46 rfl (r06_Live_ok hv1)) rfl ?_
  refine d0 rfl (o_loadA (cs := r06_Store.Pc a0) rfl rfl rfl Ty.a37 Ty.s37 (Nat.le_of_ble_eq_true rfl) rfl) rfl ?_
  refine d7 rfl (fun _ hN => o_move (d := .lst false (List.map (PV.int .i64) a1)) rfl) rfl ?_
  obtain ⟨v2, hv2, h⟩ := bindE h
  refine d2f rfl (o_callF (ls := []) (ds := [r06_Store.Pv a0, .lst false (List.map (PV.int .i64) a1)]) rfl Ty.k51 rfl (r08_From_ok hv2)) rfl ?_
  obtain ⟨v3, hv3, h⟩ := bindE h
  refine d2f rfl (o_callF (ls := []) (ds := [.lst false (List.map (PV.int .i64) v1), .lst false (List.map (PV.int .i64) v2), .bool false]) rfl Ty.k92 rfl (r08_those_ok hv3)) rfl ?_
  refine d7 rfl (fun _ hN => o_assign (d := .lst false (List.map (PV.int .i64) v3)) rfl) rfl ?_
  refine d_nil ?_
  refine pw_ret ?_
  obtain rfl := Option.some.inj h
  exact ⟨rfl, [_], ⟨rfl, trivial⟩, rfl, by first | exact .inl rfl | exact .inr rfl⟩

set_option maxHeartbeats 4000000 in
theorem r08_Is_ok {a0 : r06_Store} {a1 : Int} {a2 : Int} {r : Bool} (h : r08_Is a0 a1 a2 = some r) : PCalls Try.prog 55 [r06_Store.Pv a0, .int .i64 a1, .int .i64 a2] (.bool r) := by
  unfold r08_Is at h
  refine pc_intro (N := 13) Try.func55 rfl rfl (Nat.le_of_ble_eq_true rfl) fun w0 imm0 => ?_
  refine sr (by kernel_rfl) ?_
  refine y1 rfl (o_box (d := r06_Store.Pv a0) (z := 3) (cl := true) rfl rfl rfl rfl rfl) rfl ?_
  refine y0 rfl (o_assign (d := .bool false) rfl) ?_
  refine y_nil ?_
  refine sr (by kernel_rfl) ?_
  refine y0 rfl (o_loadA (cs := r06_Store.Pc a0) rfl rfl rfl Ty.a37 Ty.s37 (Nat.le_of_ble_eq_true rfl) rfl) ?_
  refine y0 rfl (o_move (d := .int .i64 a1) rfl) ?_
  refine y0 rfl (o_bI (f := (PV.int .i64)) (l := [a1]) rfl Ty.e27 Ty.s3 Ty.z3 rfl rfl (Nat.le_of_ble_eq_true rfl) rfl rfl) ?_
  obtain ⟨v1, hv1, h⟩ := bindE h
  refine yc rfl (o_callF (ls := []) (ds := [r06_Store.Pv a0, .lst true (List.map (PV.int .i64) [a1])]) rfl Ty.k51 rfl (r08_From_ok hv1)) ?_
  refine y0 rfl (o_move (d := .int .i64 a2) rfl) ?_
  obtain ⟨v2, hv2, h⟩ := bindE h
  refine y0 rfl (o_call (ds := [.lst false (List.map (PV.int .i64) v1), .int .i64 a2]) rfl Ty.k95 rfl (r08_Has_ok hv2)) ?_
  refine y0 rfl (o_assign (d := .bool v2) rfl) ?_
  refine y_nil ?_
  refine pw_ret ?_
  obtain rfl := Option.some.inj h
  exact ⟨rfl, [_], ⟨rfl, trivial⟩, rfl, by first | exact .inl rfl | exact .inr rfl⟩

set_option maxHeartbeats 4000000 in
theorem r08_Closed_ok {a0 : r06_Store} {a1 : List Int} {r : Bool} (h : r08_Closed a0 a1 = some r) : PCalls Try.prog 57 [r06_Store.Pv a0, .lst false (List.map (PV.int .i64) a1)] (.bool r) := by
  unfold r08_Closed at h
  refine pc_intro (N := 42) Try.func57 rfl rfl (Nat.le_of_ble_eq_true rfl) fun w0 imm0 => ?_
  refine sr (by kernel_rfl) ?_
  refine y1 rfl (o_box (d := r06_Store.Pv a0) (z := 3) (cl := true) rfl rfl rfl rfl rfl) rfl ?_
  refine y0 rfl (o_assign (d := .bool false) rfl) ?_
  refine y_nil ?_
  refine sr (by kernel_rfl) ?_
  refine y0 rfl (o_loadA (cs := r06_Store.Pc a0) rfl rfl rfl Ty.a37 Ty.s37 (Nat.le_of_ble_eq_true rfl) rfl) ?_
  obtain ⟨v1, hv1, h⟩ := bindE h
  refine yc rfl (o_callF (ls := []) (ds := [r06_Store.Pv a0]) rfl Ty.k46 rfl (r06_Live_ok hv1)) ?_
  refine y0 rfl (o_assign (d := .lst false (List.map (PV.int .i64) v1)) rfl) ?_
  refine y_nil ?_
  refine sr (by kernel_rfl) ?_
  refine y0 rfl (o_move (d := .lst false (List.map (PV.int .i64) v1)) rfl) ?_
  refine y0 rfl (o_move (d := .lst false (List.map (PV.int .i64) a1)) rfl) ?_
  obtain ⟨v2, hv2, h⟩ := bindE h
  refine yc rfl (o_callF (ls := []) (ds := [.lst false (List.map (PV.int .i64) v1), .lst false (List.map (PV.int .i64) a1), .bool true]) rfl Ty.k92 rfl (r08_those_ok hv2)) ?_
  refine y0 rfl (o_assign (d := .lst false (List.map (PV.int .i64) v2)) rfl) ?_
  refine y_nil ?_
  obtain ⟨κ24, hκ23, h⟩ := jnE h
  refine pw_jn0 (κ := κ24) (r := r) (fun (_ : Unit) => St.of [] []) (fun q25 h => ?_) ?_
  · subst hκ23
    refine sr (by kernel_rfl) ?_
    refine y0 rfl (o_assign (d := .bool true) rfl) ?_
    refine y_nil ?_
    refine pw_ret ?_
    obtain rfl := Option.some.inj h
    exact ⟨rfl, [_], ⟨rfl, trivial⟩, rfl, by first | exact .inl rfl | exact .inr rfl⟩
  · skip
    refine sr (by kernel_rfl) ?_
    refine y0 rfl (o_assign (d := .int .i64 0) rfl) ?_
    refine y_nil ?_
    refine pw_block ?_
    obtain ⟨e26, hl24, hk25⟩ := bindE h
    refine pw_lp0 (fun (s27 : Int) => St.of [(1, .lst false (List.map (PV.int .i64) a1)), (2, .ptr 2 0 0), (5, .lst false (List.map (PV.int .i64) v1)), (6, .lst false (List.map (PV.int .i64) v2)), (7, .int .i64 s27)] [(2, ⟨[r06_Store.Pv a0], 0, false, 3, true⟩)]) hl24 (wk_st _ _ ⟨rfl, rfl, rfl, rfl, rfl, rfl, rfl, rfl, rfl, rfl, rfl, rfl, rfl, rfl, rfl, trivial⟩ ⟨rowLe_same rfl rfl rfl (fun q => nomatch q) rfl rfl rfl, trivial⟩) (fun s27 x28 h hx26 => ?_)
    refine pw_seq ?_
    refine sr (by kernel_rfl) ?_
    refine y0 rfl (o_move (d := .int .i64 s27) rfl) ?_
    refine y0 rfl (o_move (d := .lst false (List.map (PV.int .i64) v2)) rfl) ?_
    refine y0 rfl (o_lnL (f := (PV.int .i64)) rfl Ty.e27) ?_
    refine y0 rfl (o_cmp rfl rfl rfl) ?_
    refine y_nil ?_
    refine pw_cond (decide (s27 < (v2.length : Int))) rfl (fun hc => ?_) (fun hc => ?_)
    · have h := ifT h hc
      refine pw_skip ?_
      obtain ⟨κ37, hκ35, h⟩ := jnE h
      refine pw_jn0 (κ := κ37) (r := x28) (fun (_ : Unit) => St.of [(1, .lst false (List.map (PV.int .i64) a1)), (2, .ptr 2 0 0), (5, .lst false (List.map (PV.int .i64) v1)), (6, .lst false (List.map (PV.int .i64) v2)), (7, .int .i64 s27)] [(2, ⟨[r06_Store.Pv a0], 0, false, 3, true⟩)]) (fun q38 h => ?_) ?_
      · subst hκ35
        refine sr1 (by kernel_rfl) ?_
        refine y0 rfl (o_move (d := .int .i64 s27) rfl) ?_
        refine y0 rfl (o_ari rfl rfl rfl) ?_
        refine y0 rfl (o_assign (d := .int .i64 (w64 (s27 + 1))) rfl) ?_
        refine y_nil ?_
        exact ⟨rfl, w64 (s27 + 1), (Option.some.inj h).symm, (wk_st _ _ ⟨rfl, rfl, rfl, rfl, rfl, rfl, rfl, rfl, rfl, rfl, rfl, rfl, rfl, rfl, rfl, trivial⟩ ⟨rowLe_same rfl rfl rfl (fun q => nomatch q) rfl rfl rfl, trivial⟩)⟩
      · skip
        refine pw_block ?_
        refine dr [] Ty.mix (by kernel_rfl) (by kernel_rfl) ?_
        refine d7 rfl (fun _ hN => o_move (d := .lst false (List.map (PV.int .i64) v1)) rfl) rfl ?_
        refine d0 rfl (o_loadA (cs := r06_Store.Pc a0) rfl rfl rfl Ty.a37 Ty.s37 (Nat.le_of_ble_eq_true rfl) rfl) rfl ?_
        refine d7 rfl (fun _ hN => o_move (d := .lst false (List.map (PV.int .i64) v2)) rfl) rfl ?_
        refine d7 rfl (fun _ hN => o_move (d := .int .i64 s27) rfl) rfl ?_
        obtain ⟨v39, hv36, h⟩ := bindE h
        refine d0 rfl (o_ixL (f := (PV.int .i64)) (cs := [.int .i64 v39]) hv36 rfl rfl Ty.e27 Ty.s3 rfl rfl) rfl ?_
        refine d0 rfl (o_loadRS rfl Ty.a3 rfl) rfl ?_
        obtain ⟨v40, hv37, h⟩ := bindE h
        refine d2f rfl (o_callF (ls := []) (ds := [r06_Store.Pv a0, .int .i64 v39]) rfl Ty.k37 rfl (r07_Out_ok hv37)) rfl ?_
        obtain ⟨v41, hv38, h⟩ := bindE h
        refine d2f rfl (o_callF (ls := []) (ds := [.lst false (List.map (PV.int .i64) v1), .lst false (List.map (PV.int .i64) v40), .bool true]) rfl Ty.k92 rfl (r08_those_ok hv38)) rfl ?_
        refine d7 rfl (fun _ hN => o_assign (d := .lst false (List.map (PV.int .i64) v41)) rfl) rfl ?_
        refine d_nil ?_
        refine sr (by kernel_rfl) ?_
        refine y0 rfl (o_assign (d := .int .i64 0) rfl) ?_
        refine y_nil ?_
        refine pw_block ?_
        obtain ⟨e42, hl39, hk40⟩ := bindE h
        refine pw_lp0 (fun (s43 : Int) => St.of [(1, .lst false (List.map (PV.int .i64) a1)), (2, .ptr 2 0 0), (5, .lst false (List.map (PV.int .i64) v1)), (6, .lst false (List.map (PV.int .i64) v2)), (7, .int .i64 s27), (8, .lst false (List.map (PV.int .i64) v41)), (9, .int .i64 s43)] [(2, ⟨[r06_Store.Pv a0], 0, false, 3, true⟩)]) hl39 (wk_st _ _ ⟨rfl, rfl, rfl, rfl, rfl, rfl, rfl, rfl, rfl, rfl, rfl, rfl, rfl, rfl, rfl, rfl, rfl, rfl, rfl, rfl, rfl, trivial⟩ ⟨rowLe_same rfl rfl rfl (fun q => nomatch q) rfl rfl rfl, trivial⟩) (fun s43 x44 h hx41 => ?_)
        refine pw_seq ?_
        refine sr (by kernel_rfl) ?_
        refine y0 rfl (o_move (d := .int .i64 s43) rfl) ?_
        refine y0 rfl (o_move (d := .lst false (List.map (PV.int .i64) v41)) rfl) ?_
        refine y0 rfl (o_lnL (f := (PV.int .i64)) rfl Ty.e27) ?_
        refine y0 rfl (o_cmp rfl rfl rfl) ?_
        refine y_nil ?_
        refine pw_cond (decide (s43 < (v41.length : Int))) rfl (fun hc => ?_) (fun hc => ?_)
        · have h := ifT h hc
          refine pw_skip ?_
          refine pw_seq ?_
          refine pw_block ?_
          refine sr (by kernel_rfl) ?_
          refine y0 rfl (o_move (d := .lst false (List.map (PV.int .i64) a1)) rfl) ?_
          refine y0 rfl (o_move (d := .lst false (List.map (PV.int .i64) v41)) rfl) ?_
          refine y0 rfl (o_move (d := .int .i64 s43) rfl) ?_
          obtain ⟨v45, hv42, h⟩ := bindE h
          refine y0 rfl (o_ixL (f := (PV.int .i64)) (cs := [.int .i64 v45]) hv42 rfl rfl Ty.e27 Ty.s3 rfl rfl) ?_
          refine y0 rfl (o_loadRS rfl Ty.a3 rfl) ?_
          obtain ⟨v46, hv43, h⟩ := bindE h
          refine y0 rfl (o_call (ds := [.lst false (List.map (PV.int .i64) a1), .int .i64 v45]) rfl Ty.k95 rfl (r08_Has_ok hv43)) ?_
          refine y0 rfl (o_not rfl rfl) ?_
          refine y_nil ?_
          refine pw_cond (!v46) rfl (fun hc => ?_) (fun hc => ?_)
          · have h := ifT h hc
            refine sr (by kernel_rfl) ?_
            refine y0 rfl (o_assign (d := .bool false) rfl) ?_
            refine y_nil ?_
            refine pw_ret ?_
            have he := hx41 _ (Option.some.inj h).symm
            have h := hk40
            rw [← he] at h
            have he := hx26 _ (Option.some.inj h).symm
            have h := hk25
            rw [← he] at h
            obtain rfl := Option.some.inj h
            exact ⟨rfl, [_], ⟨rfl, trivial⟩, rfl, by first | exact .inl rfl | exact .inr rfl⟩
          · have h := ifF h hc
            refine pw_skip ?_
            refine sr1 (by kernel_rfl) ?_
            refine y0 rfl (o_move (d := .int .i64 s43) rfl) ?_
            refine y0 rfl (o_ari rfl rfl rfl) ?_
            refine y0 rfl (o_assign (d := .int .i64 (w64 (s43 + 1))) rfl) ?_
            refine y_nil ?_
            exact ⟨rfl, w64 (s43 + 1), (Option.some.inj h).symm, (wk_st _ _ ⟨rfl, rfl, rfl, rfl, rfl, rfl, rfl, rfl, rfl, rfl, rfl, rfl, rfl, rfl, rfl, rfl, rfl, rfl, rfl, rfl, rfl, trivial⟩ ⟨rowLe_same rfl rfl rfl (fun q => nomatch q) rfl rfl rfl, trivial⟩)⟩
        · have h := ifF h hc
          refine pw_exit ?_
          refine thenQ_exit ?_
          refine thenQ_exit ?_
          refine blockQ_exit ?_
          have he := hx41 _ (Option.some.inj h).symm
          have h := hk40
          rw [← he] at h
          exact ⟨rfl, (), h, (wk_st _ _ ⟨rfl, rfl, rfl, rfl, rfl, rfl, rfl, rfl, rfl, rfl, rfl, rfl, rfl, rfl, rfl, trivial⟩ ⟨rowLe_same rfl rfl rfl (fun q => nomatch q) rfl rfl rfl, trivial⟩)⟩
    · have h := ifF h hc
      refine pw_exit ?_
      refine thenQ_exit ?_
      refine thenQ_exit ?_
      refine blockQ_exit ?_
      have he := hx26 _ (Option.some.inj h).symm
      have h := hk25
      rw [← he] at h
      exact ⟨rfl, (), h, (wk_st _ _ trivial trivial)⟩

set_option maxHeartbeats 4000000 in
theorem w08_ReachTells_ok {a0 : store_Store} {a1 : List Int} {a2 : Int} {a3 : Int} {r : Bool} (h : w08_ReachTells a0 a1 a2 a3 = some r) : PCalls Try.prog 11 [store_Store.Pv a0, .lst false (List.map (PV.int .i64) a1), .int .i64 a2, .int .i64 a3] (.bool r) := by
  unfold w08_ReachTells at h
  refine pc_intro (N := 61) Try.func11 rfl rfl (Nat.le_of_ble_eq_true rfl) fun w0 imm0 => ?_
  refine sr (by kernel_rfl) ?_
  refine y1 rfl (o_box (d := store_Store.Pv a0) (z := 3) (cl := true) rfl rfl rfl rfl rfl) rfl ?_
  refine y0 rfl (o_assign (d := .bool false) rfl) ?_
  refine y_nil ?_
  refine pw_seq ?_
  refine sr (by kernel_rfl) ?_
  refine y0 rfl (o_loadA (cs := store_Store.Pc a0) rfl rfl rfl Ty.a26 Ty.s26 (Nat.le_of_ble_eq_true rfl) rfl) ?_
  obtain ⟨v1, hv1, h⟩ := bindE h
  refine y0 rfl (o_call (ds := [store_Store.Pv a0]) rfl Ty.k47 rfl (w08_right_ok hv1)) ?_
  refine y0 rfl (o_not rfl rfl) ?_
  refine y0 rfl (o_move (d := .bool (!v1)) rfl) ?_
  refine y_if (g := ((!v1) == false)) rfl (fun hg => o_move (d := .lst false (List.map (PV.int .i64) a1)) rfl) ?_
  refine y_if (g := ((!v1) == false)) rfl (fun hg => o_lnL (f := (PV.int .i64)) (ct hg) Ty.e27) ?_
  refine y_if (g := ((!v1) == false)) rfl (fun hg => o_cmp (ct hg) rfl rfl) ?_
  refine y0 rfl (pk_or rfl rfl rfl (fun q => eqF q)) ?_
  refine y0 rfl (o_move (d := .bool ((!v1) || (decide ((a1.length : Int) > 50)))) rfl) ?_
  obtain ⟨v2, hv2, h⟩ := bindE h
  refine y_if (g := (((!v1) || (decide ((a1.length : Int) > 50))) == false)) rfl (fun hg => o_call (ds := []) rfl Ty.k48 rfl (w08_shown_ok (onlyE hv2 hg))) ?_
  refine y_if (g := (((!v1) || (decide ((a1.length : Int) > 50))) == false)) rfl (fun hg => o_not (ct hg) rfl) ?_
  refine y0 rfl (pk_or rfl rfl rfl (fun q => eqF q)) ?_
  refine y_nil ?_
  refine pw_cond (((!v1) || (decide ((a1.length : Int) > 50))) || (!v2)) rfl (fun hc => ?_) (fun hc => ?_)
  · have h := ifT h hc
    refine sr (by kernel_rfl) ?_
    obtain ⟨v3, hv3, h⟩ := bindE h
    refine y0 rfl (o_call (ds := []) rfl Ty.k48 rfl (w08_shown_ok hv3)) ?_
    refine y0 rfl (o_assign (d := .bool v3) rfl) ?_
    refine y_nil ?_
    refine pw_ret ?_
    obtain rfl := Option.some.inj h
    exact ⟨rfl, [_], ⟨rfl, trivial⟩, rfl, by first | exact .inl rfl | exact .inr rfl⟩
  · have h := ifF h hc
    refine pw_skip ?_
    refine sr (by kernel_rfl) ?_
    refine y0 rfl (o_loadA (cs := store_Store.Pc a0) rfl rfl rfl Ty.a26 Ty.s26 (Nat.le_of_ble_eq_true rfl) rfl) ?_
    obtain ⟨v4, hv4, h⟩ := bindE h
    refine yc rfl (o_callF (ls := []) (ds := [store_Store.Pv a0]) rfl Ty.k49 rfl (w08_its_ok hv4)) ?_
    refine y1 rfl (o_alloc (d := .agg [.lst true (List.map r06_Cell.Pv []), .int .i64 0, .int .i64 0]) (z := 3) rfl Ty.z37 rfl rfl rfl) rfl ?_
    refine y_sto (x' := r06_Store.Pv v4) (cl' := true) rfl rfl (.inr rfl) Ty.s37 ?_
    refine y_nil ?_
    refine dr [] Ty.mix (by kernel_rfl) (by kernel_rfl) ?_
    refine d0 rfl (o_loadA (cs := store_Store.Pc a0) rfl rfl rfl Ty.a26 Ty.s26 (Nat.le_of_ble_eq_true rfl) rfl) rfl ?_
    refine d7 rfl (fun _ hN => o_move (d := .lst false (List.map (PV.int .i64) a1)) rfl) rfl ?_
    obtain ⟨v5, hv5, h⟩ := bindE h
    refine d2f rfl (o_callF (ls := []) (ds := [store_Store.Pv a0, .lst false (List.map (PV.int .i64) a1)]) rfl Ty.k50 rfl (reach_From_ok hv5)) rfl ?_
    refine d0 rfl (o_loadA (cs := r06_Store.Pc v4) rfl rfl rfl Ty.a37 Ty.s37 (Nat.le_of_ble_eq_true rfl) rfl) rfl ?_
    refine d7 rfl (fun _ hN => o_move (d := .lst false (List.map (PV.int .i64) a1)) rfl) rfl ?_
    obtain ⟨v6, hv6, h⟩ := bindE h
    refine d2f rfl (o_callF (ls := []) (ds := [r06_Store.Pv v4, .lst false (List.map (PV.int .i64) a1)]) rfl Ty.k51 rfl (r08_From_ok hv6)) rfl ?_
    obtain ⟨v7, hv7, h⟩ := bindE h
    refine d2 rfl (o_call (ds := [.lst false (List.map (PV.int .i64) v5), .lst false (List.map (PV.int .i64) v6)]) rfl Ty.k32 rfl (r02_Ints_ok hv7)) rfl ?_
    refine d7 rfl (fun _ hN => o_move (d := .bool v7) rfl) rfl ?_
    refine d_if0 (g := (v7 == true)) rfl (fun hg => o_loadA (cs := store_Store.Pc a0) rfl rfl rfl Ty.a26 Ty.s26 (Nat.le_of_ble_eq_true rfl) rfl) rfl ?_
    refine d_if7 (g := (v7 == true)) rfl (fun hg _ hN => o_move (d := .lst false (List.map (PV.int .i64) a1)) rfl) rfl ?_
    obtain ⟨v8, hv8, h⟩ := bindE h
    refine d_if2f (g := (v7 == true)) rfl (fun hg => o_callF (ls := []) (ds := [store_Store.Pv a0, .lst false (List.map (PV.int .i64) a1)]) rfl Ty.k52 (consE (ct hg) (consE (ct hg) rfl)) (reach_Lost_ok (onlyE hv8 hg))) rfl ?_
    refine d_if0 (g := (v7 == true)) rfl (fun hg => o_loadA (cs := r06_Store.Pc v4) rfl rfl rfl Ty.a37 Ty.s37 (Nat.le_of_ble_eq_true rfl) rfl) rfl ?_
    refine d_if7 (g := (v7 == true)) rfl (fun hg _ hN => o_move (d := .lst false (List.map (PV.int .i64) a1)) rfl) rfl ?_
    obtain ⟨v9, hv9, h⟩ := bindE h
    refine d_if2f (g := (v7 == true)) rfl (fun hg => o_callF (ls := []) (ds := [r06_Store.Pv v4, .lst false (List.map (PV.int .i64) a1)]) rfl Ty.k53 (consE (ct hg) (consE (ct hg) rfl)) (r08_Lost_ok (onlyE hv9 hg))) rfl ?_
    obtain ⟨v10, hv10, h⟩ := bindE h
    refine d_if2 (g := (v7 == true)) rfl (fun hg => o_call (ds := [.lst false (List.map (PV.int .i64) v8), .lst false (List.map (PV.int .i64) v9)]) rfl Ty.k32 (consE (ct hg) (consE (ct hg) rfl)) (r02_Ints_ok (onlyE hv10 hg))) rfl ?_
    refine d7 rfl (fun _ hN => pk_and rfl rfl rfl (fun q => eqT q)) rfl ?_
    refine d7 rfl (fun _ hN => o_move (d := .bool (v7 && v10)) rfl) rfl ?_
    refine d_if0 (g := ((v7 && v10) == true)) rfl (fun hg => o_loadA (cs := store_Store.Pc a0) rfl rfl rfl Ty.a26 Ty.s26 (Nat.le_of_ble_eq_true rfl) rfl) rfl ?_
    refine d_if7 (g := ((v7 && v10) == true)) rfl (fun hg _ hN => o_move (d := .int .i64 a2) rfl) rfl ?_
    refine d_if7 (g := ((v7 && v10) == true)) rfl (fun hg _ hN => o_move (d := .int .i64 a3) rfl) rfl ?_
    obtain ⟨v11, hv11, h⟩ := bindE h
    refine d_if2 (g := ((v7 && v10) == true)) rfl (fun hg => o_call (ds := [store_Store.Pv a0, .int .i64 a2, .int .i64 a3]) rfl Ty.k54 (consE (ct hg) (consE (ct hg) (consE (ct hg) rfl))) (reach_Is_ok (onlyE hv11 hg))) rfl ?_
    refine d_if0 (g := ((v7 && v10) == true)) rfl (fun hg => o_loadA (cs := r06_Store.Pc v4) rfl rfl rfl Ty.a37 Ty.s37 (Nat.le_of_ble_eq_true rfl) rfl) rfl ?_
    refine d_if7 (g := ((v7 && v10) == true)) rfl (fun hg _ hN => o_move (d := .int .i64 a2) rfl) rfl ?_
    refine d_if7 (g := ((v7 && v10) == true)) rfl (fun hg _ hN => o_move (d := .int .i64 a3) rfl) rfl ?_
    obtain ⟨v12, hv12, h⟩ := bindE h
    refine d_if2 (g := ((v7 && v10) == true)) rfl (fun hg => o_call (ds := [r06_Store.Pv v4, .int .i64 a2, .int .i64 a3]) rfl Ty.k55 (consE (ct hg) (consE (ct hg) (consE (ct hg) rfl))) (r08_Is_ok (onlyE hv12 hg))) rfl ?_
    refine d_if7 (g := ((v7 && v10) == true)) rfl (fun hg _ hN => o_eqB (ct hg) (ct hg) Ty.u4 rfl) rfl ?_
    refine d7 rfl (fun _ hN => pk_and rfl rfl rfl (fun q => eqT q)) rfl ?_
    refine d7 rfl (fun _ hN => o_move (d := .bool ((v7 && v10) && (v11 == v12))) rfl) rfl ?_
    refine d_if0 (g := (((v7 && v10) && (v11 == v12)) == true)) rfl (fun hg => o_loadA (cs := store_Store.Pc a0) rfl rfl rfl Ty.a26 Ty.s26 (Nat.le_of_ble_eq_true rfl) rfl) rfl ?_
    refine d_if7 (g := (((v7 && v10) && (v11 == v12)) == true)) rfl (fun hg _ hN => o_move (d := .lst false (List.map (PV.int .i64) a1)) rfl) rfl ?_
    obtain ⟨v13, hv13, h⟩ := bindE h
    refine d_if2 (g := (((v7 && v10) && (v11 == v12)) == true)) rfl (fun hg => o_call (ds := [store_Store.Pv a0, .lst false (List.map (PV.int .i64) a1)]) rfl Ty.k56 (consE (ct hg) (consE (ct hg) rfl)) (reach_Closed_ok (onlyE hv13 hg))) rfl ?_
    refine d_if0 (g := (((v7 && v10) && (v11 == v12)) == true)) rfl (fun hg => o_loadA (cs := r06_Store.Pc v4) rfl rfl rfl Ty.a37 Ty.s37 (Nat.le_of_ble_eq_true rfl) rfl) rfl ?_
    refine d_if7 (g := (((v7 && v10) && (v11 == v12)) == true)) rfl (fun hg _ hN => o_move (d := .lst false (List.map (PV.int .i64) a1)) rfl) rfl ?_
    obtain ⟨v14, hv14, h⟩ := bindE h
    refine d_if2 (g := (((v7 && v10) && (v11 == v12)) == true)) rfl (fun hg => o_call (ds := [r06_Store.Pv v4, .lst false (List.map (PV.int .i64) a1)]) rfl Ty.k57 (consE (ct hg) (consE (ct hg) rfl)) (r08_Closed_ok (onlyE hv14 hg))) rfl ?_
    refine d_if7 (g := (((v7 && v10) && (v11 == v12)) == true)) rfl (fun hg _ hN => o_eqB (ct hg) (ct hg) Ty.u4 rfl) rfl ?_
    refine d7 rfl (fun _ hN => pk_and rfl rfl rfl (fun q => eqT q)) rfl ?_
    refine d7 rfl (fun _ hN => o_assign (d := .bool (((v7 && v10) && (v11 == v12)) && (v13 == v14))) rfl) rfl ?_
    refine d_nil ?_
    refine pw_ret ?_
    obtain rfl := Option.some.inj h
    exact ⟨rfl, [_], ⟨rfl, trivial⟩, rfl, by first | exact .inl rfl | exact .inr rfl⟩

set_option maxHeartbeats 4000000 in
theorem w08_ReachLeast_ok {a0 : store_Store} {a1 : List Int} {a2 : List Int} {r : Bool} (h : w08_ReachLeast a0 a1 a2 = some r) : PCalls Try.prog 12 [store_Store.Pv a0, .lst false (List.map (PV.int .i64) a1), .lst false (List.map (PV.int .i64) a2)] (.bool r) := by
  unfold w08_ReachLeast at h
  refine pc_intro (N := 96) Try.func12 rfl rfl (Nat.le_of_ble_eq_true rfl) fun w0 imm0 => ?_
  refine sr (by kernel_rfl) ?_
  refine y1 rfl (o_box (d := store_Store.Pv a0) (z := 3) (cl := true) rfl rfl rfl rfl rfl) rfl ?_
  refine y0 rfl (o_assign (d := .bool false) rfl) ?_
  refine y_nil ?_
  refine pw_seq ?_
  refine sr (by kernel_rfl) ?_
  refine y0 rfl (o_loadA (cs := store_Store.Pc a0) rfl rfl rfl Ty.a26 Ty.s26 (Nat.le_of_ble_eq_true rfl) rfl) ?_
  obtain ⟨v1, hv1, h⟩ := bindE h
  refine y0 rfl (o_call (ds := [store_Store.Pv a0]) rfl Ty.k47 rfl (w08_right_ok hv1)) ?_
  refine y0 rfl (o_not rfl rfl) ?_
  refine y0 rfl (o_move (d := .bool (!v1)) rfl) ?_
  refine y_if (g := ((!v1) == false)) rfl (fun hg => o_move (d := .lst false (List.map (PV.int .i64) a1)) rfl) ?_
  refine y_if (g := ((!v1) == false)) rfl (fun hg => o_lnL (f := (PV.int .i64)) (ct hg) Ty.e27) ?_
  refine y_if (g := ((!v1) == false)) rfl (fun hg => o_cmp (ct hg) rfl rfl) ?_
  refine y0 rfl (pk_or rfl rfl rfl (fun q => eqF q)) ?_
  refine y0 rfl (o_move (d := .bool ((!v1) || (decide ((a1.length : Int) > 50)))) rfl) ?_
  refine y_if (g := (((!v1) || (decide ((a1.length : Int) > 50))) == false)) rfl (fun hg => o_move (d := .lst false (List.map (PV.int .i64) a2)) rfl) ?_
  refine y_if (g := (((!v1) || (decide ((a1.length : Int) > 50))) == false)) rfl (fun hg => o_lnL (f := (PV.int .i64)) (ct hg) Ty.e27) ?_
  refine y_if (g := (((!v1) || (decide ((a1.length : Int) > 50))) == false)) rfl (fun hg => o_cmp (ct hg) rfl rfl) ?_
  refine y0 rfl (pk_or rfl rfl rfl (fun q => eqF q)) ?_
  refine y0 rfl (o_move (d := .bool (((!v1) || (decide ((a1.length : Int) > 50))) || (decide ((a2.length : Int) > 50)))) rfl) ?_
  obtain ⟨v2, hv2, h⟩ := bindE h
  refine y_if (g := ((((!v1) || (decide ((a1.length : Int) > 50))) || (decide ((a2.length : Int) > 50))) == false)) rfl (fun hg => o_call (ds := []) rfl Ty.k48 rfl (w08_shown_ok (onlyE hv2 hg))) ?_
  refine y_if (g := ((((!v1) || (decide ((a1.length : Int) > 50))) || (decide ((a2.length : Int) > 50))) == false)) rfl (fun hg => o_not (ct hg) rfl) ?_
  refine y0 rfl (pk_or rfl rfl rfl (fun q => eqF q)) ?_
  refine y_nil ?_
  refine pw_cond ((((!v1) || (decide ((a1.length : Int) > 50))) || (decide ((a2.length : Int) > 50))) || (!v2)) rfl (fun hc => ?_) (fun hc => ?_)
  · have h := ifT h hc
    refine sr (by kernel_rfl) ?_
    obtain ⟨v3, hv3, h⟩ := bindE h
    refine y0 rfl (o_call (ds := []) rfl Ty.k48 rfl (w08_shown_ok hv3)) ?_
    refine y0 rfl (o_assign (d := .bool v3) rfl) ?_
    refine y_nil ?_
    refine pw_ret ?_
    obtain rfl := Option.some.inj h
    exact ⟨rfl, [_], ⟨rfl, trivial⟩, rfl, by first | exact .inl rfl | exact .inr rfl⟩
  · have h := ifF h hc
    refine pw_skip ?_
    refine sr (by kernel_rfl) ?_
    refine y0 rfl (o_loadA (cs := store_Store.Pc a0) rfl rfl rfl Ty.a26 Ty.s26 (Nat.le_of_ble_eq_true rfl) rfl) ?_
    refine y0 rfl (o_move (d := .lst false (List.map (PV.int .i64) a1)) rfl) ?_
    obtain ⟨v4, hv4, h⟩ := bindE h
    refine yc rfl (o_callF (ls := []) (ds := [store_Store.Pv a0, .lst false (List.map (PV.int .i64) a1)]) rfl Ty.k50 rfl (reach_From_ok hv4)) ?_
    refine y0 rfl (o_assign (d := .lst false (List.map (PV.int .i64) v4)) rfl) ?_
    refine y_nil ?_
    refine pw_seq ?_
    refine sr (by kernel_rfl) ?_
    refine y0 rfl (o_loadA (cs := store_Store.Pc a0) rfl rfl rfl Ty.a26 Ty.s26 (Nat.le_of_ble_eq_true rfl) rfl) ?_
    obtain ⟨v5, hv5, h⟩ := bindE h
    refine yc rfl (o_callF (ls := []) (ds := [store_Store.Pv a0]) rfl Ty.k49 rfl (w08_its_ok hv5)) ?_
    refine y0 rfl (o_move (d := .lst false (List.map (PV.int .i64) v4)) rfl) ?_
    obtain ⟨v6, hv6, h⟩ := bindE h
    refine y0 rfl (o_call (ds := [r06_Store.Pv v5, .lst false (List.map (PV.int .i64) v4)]) rfl Ty.k57 rfl (r08_Closed_ok hv6)) ?_
    refine y0 rfl (o_not rfl rfl) ?_
    refine y0 rfl (o_move (d := .bool (!v6)) rfl) ?_
    refine y_if (g := ((!v6) == false)) rfl (fun hg => o_move (d := .lst false (List.map (PV.int .i64) v4)) rfl) ?_
    refine y_if (g := ((!v6) == false)) rfl (fun hg => o_lnL (f := (PV.int .i64)) (ct hg) Ty.e27) ?_
    refine y_if (g := ((!v6) == false)) rfl (fun hg => o_cmp (ct hg) rfl rfl) ?_
    refine y0 rfl (pk_or rfl rfl rfl (fun q => eqF q)) ?_
    refine y_nil ?_
    refine pw_cond ((!v6) || (decide ((v4.length : Int) > 24))) rfl (fun hc => ?_) (fun hc => ?_)
    · have h := ifT h hc
      refine sr (by kernel_rfl) ?_
      refine y0 rfl (o_assign (d := .bool false) rfl) ?_
      refine y_nil ?_
      refine pw_ret ?_
      obtain rfl := Option.some.inj h
      exact ⟨rfl, [_], ⟨rfl, trivial⟩, rfl, by first | exact .inl rfl | exact .inr rfl⟩
    · have h := ifF h hc
      refine pw_skip ?_
      refine sr (by kernel_rfl) ?_
      refine y0 rfl (o_loadA (cs := store_Store.Pc a0) rfl rfl rfl Ty.a26 Ty.s26 (Nat.le_of_ble_eq_true rfl) rfl) ?_
      refine yc rfl (o_callF (ls := []) (ds := [store_Store.Pv a0]) rfl Ty.k49 rfl (w08_its_ok hv5)) ?_
      obtain ⟨v7, hv7, h⟩ := bindE h
      refine yc rfl (o_callF (ls := []) (ds := [r06_Store.Pv v5]) rfl Ty.k46 rfl (r06_Live_ok hv7)) ?_
      refine y0 rfl (o_assign (d := .lst false (List.map (PV.int .i64) v7)) rfl) ?_
      refine y_nil ?_
      refine sr (by kernel_rfl) ?_
      refine y0 rfl (o_loadA (cs := store_Store.Pc a0) rfl rfl rfl Ty.a26 Ty.s26 (Nat.le_of_ble_eq_true rfl) rfl) ?_
      refine yc rfl (o_callF (ls := []) (ds := [store_Store.Pv a0]) rfl Ty.k49 rfl (w08_its_ok hv5)) ?_
      refine y0 rfl (o_move (d := .lst false (List.map (PV.int .i64) a2)) rfl) ?_
      obtain ⟨v8, hv8, h⟩ := bindE h
      refine y0 rfl (o_call (ds := [r06_Store.Pv v5, .lst false (List.map (PV.int .i64) a2)]) rfl Ty.k57 rfl (r08_Closed_ok hv8)) ?_
      refine y0 rfl (o_assign (d := .bool v8) rfl) ?_
      refine y_nil ?_
      obtain ⟨κ24, hκ21, h⟩ := jnE h
      refine pw_jn0 (κ := κ24) (r := r) (fun (j25 : Bool) => St.of [(2, .lst false (List.map (PV.int .i64) a2)), (7, .lst false (List.map (PV.int .i64) v4)), (9, .bool j25)] []) (fun j25 h => ?_) ?_
      · subst hκ21
        obtain ⟨κ31, hκ27, h⟩ := jnE h
        refine pw_jn0 (κ := κ31) (r := r) (fun (_ : Unit) => St.of [] []) (fun q32 h => ?_) ?_
        · subst hκ27
          refine sr (by kernel_rfl) ?_
          refine y0 rfl (o_assign (d := .bool true) rfl) ?_
          refine y_nil ?_
          refine pw_ret ?_
          obtain rfl := Option.some.inj h
          exact ⟨rfl, [_], ⟨rfl, trivial⟩, rfl, by first | exact .inl rfl | exact .inr rfl⟩
        · skip
          refine sr (by kernel_rfl) ?_
          refine y0 rfl (o_assign (d := .int .i64 0) rfl) ?_
          refine y_nil ?_
          refine pw_block ?_
          obtain ⟨e33, hl28, hk29⟩ := bindE h
          refine pw_lp0 (fun (s34 : Int) => St.of [(2, .lst false (List.map (PV.int .i64) a2)), (7, .lst false (List.map (PV.int .i64) v4)), (9, .bool j25), (11, .int .i64 s34)] []) hl28 (wk_st _ _ ⟨rfl, rfl, rfl, rfl, rfl, rfl, rfl, rfl, rfl, rfl, rfl, rfl, trivial⟩ trivial) (fun s34 x35 h hx30 => ?_)
          refine pw_seq ?_
          refine sr (by kernel_rfl) ?_
          refine y0 rfl (o_move (d := .int .i64 s34) rfl) ?_
          refine y0 rfl (o_move (d := .lst false (List.map (PV.int .i64) v4)) rfl) ?_
          refine y0 rfl (o_lnL (f := (PV.int .i64)) rfl Ty.e27) ?_
          refine y0 rfl (o_cmp rfl rfl rfl) ?_
          refine y_nil ?_
          refine pw_cond (decide (s34 < (v4.length : Int))) rfl (fun hc => ?_) (fun hc => ?_)
          · have h := ifT h hc
            refine pw_skip ?_
            refine pw_seq ?_
            refine pw_block ?_
            refine sr (by kernel_rfl) ?_
            refine y0 rfl (o_move (d := .bool j25) rfl) ?_
            refine y0 rfl (o_move (d := .bool j25) rfl) ?_
            refine y_if (g := (j25 == true)) rfl (fun hg => o_move (d := .lst false (List.map (PV.int .i64) a2)) rfl) ?_
            refine y_if (g := (j25 == true)) rfl (fun hg => o_move (d := .lst false (List.map (PV.int .i64) v4)) rfl) ?_
            refine y_if (g := (j25 == true)) rfl (fun hg => o_move (d := .int .i64 s34) rfl) ?_
            obtain ⟨v36, hv31, h⟩ := bindE h
            refine y_if (g := (j25 == true)) rfl (fun hg => o_ixL (f := (PV.int .i64)) (cs := [.int .i64 v36]) (onlyE hv31 hg) (ct hg) (ct hg) Ty.e27 Ty.s3 rfl rfl) ?_
            refine y_if (g := (j25 == true)) rfl (fun hg => o_loadRS (ct hg) Ty.a3 rfl) ?_
            obtain ⟨v37, hv32, h⟩ := bindE h
            refine y_if (g := (j25 == true)) rfl (fun hg => o_call (ds := [.lst false (List.map (PV.int .i64) a2), .int .i64 v36]) rfl Ty.k43 (consE (ct hg) (consE (ct hg) rfl)) (r07_Times_ok (onlyE hv32 hg))) ?_
            refine y_if (g := (j25 == true)) rfl (fun hg => o_cmp (ct hg) rfl rfl) ?_
            refine y0 rfl (pk_and rfl rfl rfl (fun q => eqT q)) ?_
            refine y_nil ?_
            refine pw_cond (j25 && (v37 == 0)) rfl (fun hc => ?_) (fun hc => ?_)
            · have h := ifT h hc
              refine sr (by kernel_rfl) ?_
              refine y0 rfl (o_assign (d := .bool false) rfl) ?_
              refine y_nil ?_
              refine pw_ret ?_
              have he := hx30 _ (Option.some.inj h).symm
              have h := hk29
              rw [← he] at h
              obtain rfl := Option.some.inj h
              exact ⟨rfl, [_], ⟨rfl, trivial⟩, rfl, by first | exact .inl rfl | exact .inr rfl⟩
            · have h := ifF h hc
              refine pw_skip ?_
              refine sr1 (by kernel_rfl) ?_
              refine y0 rfl (o_move (d := .int .i64 s34) rfl) ?_
              refine y0 rfl (o_ari rfl rfl rfl) ?_
              refine y0 rfl (o_assign (d := .int .i64 (w64 (s34 + 1))) rfl) ?_
              refine y_nil ?_
              exact ⟨rfl, w64 (s34 + 1), (Option.some.inj h).symm, (wk_st _ _ ⟨rfl, rfl, rfl, rfl, rfl, rfl, rfl, rfl, rfl, rfl, rfl, rfl, trivial⟩ trivial)⟩
          · have h := ifF h hc
            refine pw_exit ?_
            refine thenQ_exit ?_
            refine thenQ_exit ?_
            refine blockQ_exit ?_
            have he := hx30 _ (Option.some.inj h).symm
            have h := hk29
            rw [← he] at h
            exact ⟨rfl, (), h, (wk_st _ _ trivial trivial)⟩
      · skip
        refine sr (by kernel_rfl) ?_
        refine y0 rfl (o_assign (d := .int .i64 0) rfl) ?_
        refine y_nil ?_
        refine pw_block ?_
        obtain ⟨e38, hl33, hk34⟩ := bindE h
        refine pw_lp0 (fun (q : Bool × Int) => St.of [(1, .lst false (List.map (PV.int .i64) a1)), (2, .lst false (List.map (PV.int .i64) a2)), (7, .lst false (List.map (PV.int .i64) v4)), (8, .lst false (List.map (PV.int .i64) v7)), (9, .bool q.1), (10, .int .i64 q.2)] []) hl33 (wk_st _ _ ⟨rfl, rfl, rfl, rfl, rfl, rfl, rfl, rfl, rfl, rfl, rfl, rfl, rfl, rfl, rfl, rfl, rfl, rfl, trivial⟩ trivial) (fun q42 x41 h hx35 => ?_)
        obtain ⟨s39, s40⟩ := q42
        refine pw_seq ?_
        refine sr (by kernel_rfl) ?_
        refine y0 rfl (o_move (d := .int .i64 s40) rfl) ?_
        refine y0 rfl (o_move (d := .lst false (List.map (PV.int .i64) v7)) rfl) ?_
        refine y0 rfl (o_lnL (f := (PV.int .i64)) rfl Ty.e27) ?_
        refine y0 rfl (o_cmp rfl rfl rfl) ?_
        refine y_nil ?_
        refine pw_cond (decide (s40 < (v7.length : Int))) rfl (fun hc => ?_) (fun hc => ?_)
        · have h := ifT h hc
          refine pw_skip ?_
          obtain ⟨κ47, hκ40, h⟩ := jnE h
          refine pw_jn0 (κ := κ47) (r := x41) (fun (j48 : Bool) => St.of [(1, .lst false (List.map (PV.int .i64) a1)), (2, .lst false (List.map (PV.int .i64) a2)), (7, .lst false (List.map (PV.int .i64) v4)), (8, .lst false (List.map (PV.int .i64) v7)), (9, .bool j48), (10, .int .i64 s40)] []) (fun j48 h => ?_) ?_
          · subst hκ40
            refine sr1 (by kernel_rfl) ?_
            refine y0 rfl (o_move (d := .int .i64 s40) rfl) ?_
            refine y0 rfl (o_ari rfl rfl rfl) ?_
            refine y0 rfl (o_assign (d := .int .i64 (w64 (s40 + 1))) rfl) ?_
            refine y_nil ?_
            exact ⟨rfl, (j48, w64 (s40 + 1)), (Option.some.inj h).symm, (wk_st _ _ ⟨rfl, rfl, rfl, rfl, rfl, rfl, rfl, rfl, rfl, rfl, rfl, rfl, rfl, rfl, rfl, rfl, rfl, rfl, trivial⟩ trivial)⟩
          · skip
            refine pw_block ?_
            refine sr (by kernel_rfl) ?_
            refine y0 rfl (o_move (d := .lst false (List.map (PV.int .i64) a1)) rfl) ?_
            refine y0 rfl (o_move (d := .lst false (List.map (PV.int .i64) v7)) rfl) ?_
            refine y0 rfl (o_move (d := .int .i64 s40) rfl) ?_
            obtain ⟨v49, hv41, h⟩ := bindE h
            refine y0 rfl (o_ixL (f := (PV.int .i64)) (cs := [.int .i64 v49]) hv41 rfl rfl Ty.e27 Ty.s3 rfl rfl) ?_
            refine y0 rfl (o_loadRS rfl Ty.a3 rfl) ?_
            obtain ⟨v50, hv42, h⟩ := bindE h
            refine y0 rfl (o_call (ds := [.lst false (List.map (PV.int .i64) a1), .int .i64 v49]) rfl Ty.k43 rfl (r07_Times_ok hv42)) ?_
            refine y0 rfl (o_cmp rfl rfl rfl) ?_
            refine y_nil ?_
            refine pw_cond (decide (v50 > 0)) rfl (fun hc => ?_) (fun hc => ?_)
            · have h := ifT h hc
              refine pw_seq ?_
              refine sr (by kernel_rfl) ?_
              refine y0 rfl (o_move (d := .lst false (List.map (PV.int .i64) v4)) rfl) ?_
              refine y0 rfl (o_move (d := .lst false (List.map (PV.int .i64) v7)) rfl) ?_
              refine y0 rfl (o_move (d := .int .i64 s40) rfl) ?_
              refine y0 rfl (o_ixL (f := (PV.int .i64)) (cs := [.int .i64 v49]) hv41 rfl rfl Ty.e27 Ty.s3 rfl rfl) ?_
              refine y0 rfl (o_loadRS rfl Ty.a3 rfl) ?_
              obtain ⟨v51, hv43, h⟩ := bindE h
              refine y0 rfl (o_call (ds := [.lst false (List.map (PV.int .i64) v4), .int .i64 v49]) rfl Ty.k43 rfl (r07_Times_ok hv43)) ?_
              refine y0 rfl (o_cmp rfl rfl rfl) ?_
              refine y_nil ?_
              refine pw_cond (v51 != 1) rfl (fun hc => ?_) (fun hc => ?_)
              · have h := ifT h hc
                refine sr (by kernel_rfl) ?_
                refine y0 rfl (o_assign (d := .bool false) rfl) ?_
                refine y_nil ?_
                refine pw_ret ?_
                have he := hx35 _ (Option.some.inj h).symm
                have h := hk34
                rw [← he] at h
                obtain rfl := Option.some.inj h
                exact ⟨rfl, [_], ⟨rfl, trivial⟩, rfl, by first | exact .inl rfl | exact .inr rfl⟩
              · have h := ifF h hc
                refine pw_skip ?_
                refine sr1 (by kernel_rfl) ?_
                refine y0 rfl (o_move (d := .bool s39) rfl) ?_
                refine y0 rfl (o_move (d := .bool s39) rfl) ?_
                refine y_if (g := (s39 == true)) rfl (fun hg => o_move (d := .lst false (List.map (PV.int .i64) a2)) rfl) ?_
                refine y_if (g := (s39 == true)) rfl (fun hg => o_move (d := .lst false (List.map (PV.int .i64) v7)) rfl) ?_
                refine y_if (g := (s39 == true)) rfl (fun hg => o_move (d := .int .i64 s40) rfl) ?_
                refine y_if (g := (s39 == true)) rfl (fun hg => o_ixL (f := (PV.int .i64)) (cs := [.int .i64 v49]) hv41 (ct hg) (ct hg) Ty.e27 Ty.s3 rfl rfl) ?_
                refine y_if (g := (s39 == true)) rfl (fun hg => o_loadRS (ct hg) Ty.a3 rfl) ?_
                obtain ⟨v52, hv44, h⟩ := bindE h
                refine y_if (g := (s39 == true)) rfl (fun hg => o_call (ds := [.lst false (List.map (PV.int .i64) a2), .int .i64 v49]) rfl Ty.k43 (consE (ct hg) (consE (ct hg) rfl)) (r07_Times_ok (onlyE hv44 hg))) ?_
                refine y_if (g := (s39 == true)) rfl (fun hg => o_cmp (ct hg) rfl rfl) ?_
                refine y0 rfl (pk_and rfl rfl rfl (fun q => eqT q)) ?_
                refine y0 rfl (o_assign (d := .bool (s39 && (decide (v52 > 0)))) rfl) ?_
                refine y_nil ?_
                exact ⟨rfl, (s39 && (decide (v52 > 0))), h, (wk_st _ _ ⟨rfl, rfl, rfl, rfl, rfl, rfl, rfl, rfl, rfl, rfl, rfl, rfl, rfl, rfl, rfl, rfl, rfl, rfl, trivial⟩ trivial)⟩
            · have h := ifF h hc
              refine pw_skip ?_
              exact ⟨rfl, s39, h, (wk_st _ _ ⟨rfl, rfl, rfl, rfl, rfl, rfl, rfl, rfl, rfl, rfl, rfl, rfl, rfl, rfl, rfl, rfl, rfl, rfl, trivial⟩ trivial)⟩
        · have h := ifF h hc
          refine pw_exit ?_
          refine thenQ_exit ?_
          refine thenQ_exit ?_
          refine blockQ_exit ?_
          have he := hx35 _ (Option.some.inj h).symm
          have h := hk34
          rw [← he] at h
          exact ⟨rfl, s39, h, (wk_st _ _ ⟨rfl, rfl, rfl, rfl, rfl, rfl, rfl, rfl, rfl, trivial⟩ trivial)⟩

set_option maxHeartbeats 4000000 in
theorem w08_ReachParts_ok {a0 : store_Store} {a1 : List Int} {r : Bool} (h : w08_ReachParts a0 a1 = some r) : PCalls Try.prog 13 [store_Store.Pv a0, .lst false (List.map (PV.int .i64) a1)] (.bool r) := by
  unfold w08_ReachParts at h
  refine pc_intro (N := 71) Try.func13 rfl rfl (Nat.le_of_ble_eq_true rfl) fun w0 imm0 => ?_
  refine sr (by kernel_rfl) ?_
  refine y1 rfl (o_box (d := store_Store.Pv a0) (z := 3) (cl := true) rfl rfl rfl rfl rfl) rfl ?_
  refine y0 rfl (o_assign (d := .bool false) rfl) ?_
  refine y_nil ?_
  refine pw_seq ?_
  refine sr (by kernel_rfl) ?_
  refine y0 rfl (o_loadA (cs := store_Store.Pc a0) rfl rfl rfl Ty.a26 Ty.s26 (Nat.le_of_ble_eq_true rfl) rfl) ?_
  obtain ⟨v1, hv1, h⟩ := bindE h
  refine y0 rfl (o_call (ds := [store_Store.Pv a0]) rfl Ty.k47 rfl (w08_right_ok hv1)) ?_
  refine y0 rfl (o_not rfl rfl) ?_
  refine y0 rfl (o_move (d := .bool (!v1)) rfl) ?_
  refine y_if (g := ((!v1) == false)) rfl (fun hg => o_move (d := .lst false (List.map (PV.int .i64) a1)) rfl) ?_
  refine y_if (g := ((!v1) == false)) rfl (fun hg => o_lnL (f := (PV.int .i64)) (ct hg) Ty.e27) ?_
  refine y_if (g := ((!v1) == false)) rfl (fun hg => o_cmp (ct hg) rfl rfl) ?_
  refine y0 rfl (pk_or rfl rfl rfl (fun q => eqF q)) ?_
  refine y0 rfl (o_move (d := .bool ((!v1) || (decide ((a1.length : Int) > 50)))) rfl) ?_
  obtain ⟨v2, hv2, h⟩ := bindE h
  refine y_if (g := (((!v1) || (decide ((a1.length : Int) > 50))) == false)) rfl (fun hg => o_call (ds := []) rfl Ty.k48 rfl (w08_shown_ok (onlyE hv2 hg))) ?_
  refine y_if (g := (((!v1) || (decide ((a1.length : Int) > 50))) == false)) rfl (fun hg => o_not (ct hg) rfl) ?_
  refine y0 rfl (pk_or rfl rfl rfl (fun q => eqF q)) ?_
  refine y_nil ?_
  refine pw_cond (((!v1) || (decide ((a1.length : Int) > 50))) || (!v2)) rfl (fun hc => ?_) (fun hc => ?_)
  · have h := ifT h hc
    refine sr (by kernel_rfl) ?_
    obtain ⟨v3, hv3, h⟩ := bindE h
    refine y0 rfl (o_call (ds := []) rfl Ty.k48 rfl (w08_shown_ok hv3)) ?_
    refine y0 rfl (o_assign (d := .bool v3) rfl) ?_
    refine y_nil ?_
    refine pw_ret ?_
    obtain rfl := Option.some.inj h
    exact ⟨rfl, [_], ⟨rfl, trivial⟩, rfl, by first | exact .inl rfl | exact .inr rfl⟩
  · have h := ifF h hc
    refine pw_skip ?_
    refine sr (by kernel_rfl) ?_
    refine y0 rfl (o_loadA (cs := store_Store.Pc a0) rfl rfl rfl Ty.a26 Ty.s26 (Nat.le_of_ble_eq_true rfl) rfl) ?_
    refine y0 rfl (o_move (d := .lst false (List.map (PV.int .i64) a1)) rfl) ?_
    obtain ⟨v4, hv4, h⟩ := bindE h
    refine yc rfl (o_callF (ls := []) (ds := [store_Store.Pv a0, .lst false (List.map (PV.int .i64) a1)]) rfl Ty.k50 rfl (reach_From_ok hv4)) ?_
    refine y0 rfl (o_assign (d := .lst false (List.map (PV.int .i64) v4)) rfl) ?_
    refine y_nil ?_
    refine sr (by kernel_rfl) ?_
    refine y0 rfl (o_loadA (cs := store_Store.Pc a0) rfl rfl rfl Ty.a26 Ty.s26 (Nat.le_of_ble_eq_true rfl) rfl) ?_
    refine y0 rfl (o_move (d := .lst false (List.map (PV.int .i64) a1)) rfl) ?_
    obtain ⟨v5, hv5, h⟩ := bindE h
    refine yc rfl (o_callF (ls := []) (ds := [store_Store.Pv a0, .lst false (List.map (PV.int .i64) a1)]) rfl Ty.k52 rfl (reach_Lost_ok hv5)) ?_
    refine y0 rfl (o_assign (d := .lst false (List.map (PV.int .i64) v5)) rfl) ?_
    refine y_nil ?_
    refine sr (by kernel_rfl) ?_
    refine y0 rfl (o_loadA (cs := store_Store.Pc a0) rfl rfl rfl Ty.a26 Ty.s26 (Nat.le_of_ble_eq_true rfl) rfl) ?_
    obtain ⟨v6, hv6, h⟩ := bindE h
    refine yc rfl (o_callF (ls := []) (ds := [store_Store.Pv a0]) rfl Ty.k49 rfl (w08_its_ok hv6)) ?_
    obtain ⟨v7, hv7, h⟩ := bindE h
    refine yc rfl (o_callF (ls := []) (ds := [r06_Store.Pv v6]) rfl Ty.k46 rfl (r06_Live_ok hv7)) ?_
    refine y0 rfl (o_assign (d := .lst false (List.map (PV.int .i64) v7)) rfl) ?_
    refine y_nil ?_
    refine pw_seq ?_
    refine sr (by kernel_rfl) ?_
    refine y0 rfl (o_move (d := .lst false (List.map (PV.int .i64) v4)) rfl) ?_
    refine y0 rfl (o_lnL (f := (PV.int .i64)) rfl Ty.e27) ?_
    refine y0 rfl (o_move (d := .lst false (List.map (PV.int .i64) v5)) rfl) ?_
    refine y0 rfl (o_lnL (f := (PV.int .i64)) rfl Ty.e27) ?_
    refine y0 rfl (o_ari rfl rfl rfl) ?_
    refine y0 rfl (o_move (d := .lst false (List.map (PV.int .i64) v7)) rfl) ?_
    refine y0 rfl (o_lnL (f := (PV.int .i64)) rfl Ty.e27) ?_
    refine y0 rfl (o_cmp rfl rfl rfl) ?_
    refine y_nil ?_
    refine pw_cond ((w64 ((v4.length : Int) + (v5.length : Int))) != (v7.length : Int)) rfl (fun hc => ?_) (fun hc => ?_)
    · have h := ifT h hc
      refine sr (by kernel_rfl) ?_
      refine y0 rfl (o_assign (d := .bool false) rfl) ?_
      refine y_nil ?_
      refine pw_ret ?_
      obtain rfl := Option.some.inj h
      exact ⟨rfl, [_], ⟨rfl, trivial⟩, rfl, by first | exact .inl rfl | exact .inr rfl⟩
    · have h := ifF h hc
      refine pw_skip ?_
      obtain ⟨κ14, hκ14, h⟩ := jnE h
      refine pw_jn0 (κ := κ14) (r := r) (fun (_ : Unit) => St.of [(2, .ptr 2 0 0), (5, .lst false (List.map (PV.int .i64) v4)), (6, .lst false (List.map (PV.int .i64) v5))] [(2, ⟨[store_Store.Pv a0], 0, false, 3, true⟩)]) (fun q15 h => ?_) ?_
      · subst hκ14
        refine sr (by kernel_rfl) ?_
        refine y0 rfl (o_loadA (cs := store_Store.Pc a0) rfl rfl rfl Ty.a26 Ty.s26 (Nat.le_of_ble_eq_true rfl) rfl) ?_
        refine y0 rfl (o_move (d := .lst false (List.map (PV.int .i64) v4)) rfl) ?_
        obtain ⟨v16, hv15, h⟩ := bindE h
        refine yc rfl (o_callF (ls := []) (ds := [store_Store.Pv a0, .lst false (List.map (PV.int .i64) v4)]) rfl Ty.k50 rfl (reach_From_ok hv15)) ?_
        refine y0 rfl (o_move (d := .lst false (List.map (PV.int .i64) v4)) rfl) ?_
        obtain ⟨v17, hv16, h⟩ := bindE h
        refine y0 rfl (o_call (ds := [.lst false (List.map (PV.int .i64) v16), .lst false (List.map (PV.int .i64) v4)]) rfl Ty.k32 rfl (r02_Ints_ok hv16)) ?_
        refine y0 rfl (o_move (d := .bool v17) rfl) ?_
        refine y_if (g := (v17 == true)) rfl (fun hg => o_loadA (cs := store_Store.Pc a0) rfl rfl rfl Ty.a26 Ty.s26 (Nat.le_of_ble_eq_true rfl) rfl) ?_
        refine y_if (g := (v17 == true)) rfl (fun hg => o_move (d := .lst false (List.map (PV.int .i64) v4)) rfl) ?_
        obtain ⟨v18, hv17, h⟩ := bindE h
        refine y_ifc (g := (v17 == true)) rfl (fun hg => o_callF (ls := []) (ds := [store_Store.Pv a0, .lst false (List.map (PV.int .i64) v4)]) rfl Ty.k52 (consE (ct hg) (consE (ct hg) rfl)) (reach_Lost_ok (onlyE hv17 hg))) ?_
        refine y_if (g := (v17 == true)) rfl (fun hg => o_move (d := .lst false (List.map (PV.int .i64) v5)) rfl) ?_
        obtain ⟨v19, hv18, h⟩ := bindE h
        refine y_if (g := (v17 == true)) rfl (fun hg => o_call (ds := [.lst false (List.map (PV.int .i64) v18), .lst false (List.map (PV.int .i64) v5)]) rfl Ty.k32 (consE (ct hg) (consE (ct hg) rfl)) (r02_Ints_ok (onlyE hv18 hg))) ?_
        refine y0 rfl (pk_and rfl rfl rfl (fun q => eqT q)) ?_
        refine y0 rfl (o_assign (d := .bool (v17 && v19)) rfl) ?_
        refine y_nil ?_
        refine pw_ret ?_
        obtain rfl := Option.some.inj h
        exact ⟨rfl, [_], ⟨rfl, trivial⟩, rfl, by first | exact .inl rfl | exact .inr rfl⟩
      · skip
        refine sr (by kernel_rfl) ?_
        refine y0 rfl (o_assign (d := .int .i64 0) rfl) ?_
        refine y_nil ?_
        refine pw_block ?_
        obtain ⟨e20, hl19, hk20⟩ := bindE h
        refine pw_lp0 (fun (s21 : Int) => St.of [(2, .ptr 2 0 0), (5, .lst false (List.map (PV.int .i64) v4)), (6, .lst false (List.map (PV.int .i64) v5)), (7, .lst false (List.map (PV.int .i64) v7)), (8, .int .i64 s21)] [(2, ⟨[store_Store.Pv a0], 0, false, 3, true⟩)]) hl19 (wk_st _ _ ⟨rfl, rfl, rfl, rfl, rfl, rfl, rfl, rfl, rfl, rfl, rfl, rfl, rfl, rfl, rfl, trivial⟩ ⟨rowLe_same rfl rfl rfl (fun q => nomatch q) rfl rfl rfl, trivial⟩) (fun s21 x22 h hx21 => ?_)
        refine pw_seq ?_
        refine sr (by kernel_rfl) ?_
        refine y0 rfl (o_move (d := .int .i64 s21) rfl) ?_
        refine y0 rfl (o_move (d := .lst false (List.map (PV.int .i64) v7)) rfl) ?_
        refine y0 rfl (o_lnL (f := (PV.int .i64)) rfl Ty.e27) ?_
        refine y0 rfl (o_cmp rfl rfl rfl) ?_
        refine y_nil ?_
        refine pw_cond (decide (s21 < (v7.length : Int))) rfl (fun hc => ?_) (fun hc => ?_)
        · have h := ifT h hc
          refine pw_skip ?_
          refine pw_seq ?_
          refine pw_block ?_
          refine dr [] Ty.mix (by kernel_rfl) (by kernel_rfl) ?_
          refine d7 rfl (fun _ hN => o_move (d := .lst false (List.map (PV.int .i64) v4)) rfl) rfl ?_
          refine d7 rfl (fun _ hN => o_move (d := .lst false (List.map (PV.int .i64) v7)) rfl) rfl ?_
          refine d7 rfl (fun _ hN => o_move (d := .int .i64 s21) rfl) rfl ?_
          obtain ⟨v23, hv22, h⟩ := bindE h
          refine d0 rfl (o_ixL (f := (PV.int .i64)) (cs := [.int .i64 v23]) hv22 rfl rfl Ty.e27 Ty.s3 rfl rfl) rfl ?_
          refine d0 rfl (o_loadRS rfl Ty.a3 rfl) rfl ?_
          obtain ⟨v24, hv23, h⟩ := bindE h
          refine d2 rfl (o_call (ds := [.lst false (List.map (PV.int .i64) v4), .int .i64 v23]) rfl Ty.k43 rfl (r07_Times_ok hv23)) rfl ?_
          refine d7 rfl (fun _ hN => o_move (d := .lst false (List.map (PV.int .i64) v5)) rfl) rfl ?_
          refine d7 rfl (fun _ hN => o_move (d := .lst false (List.map (PV.int .i64) v7)) rfl) rfl ?_
          refine d7 rfl (fun _ hN => o_move (d := .int .i64 s21) rfl) rfl ?_
          refine d0 rfl (o_ixL (f := (PV.int .i64)) (cs := [.int .i64 v23]) hv22 rfl rfl Ty.e27 Ty.s3 rfl rfl) rfl ?_
          refine d0 rfl (o_loadRS rfl Ty.a3 rfl) rfl ?_
          obtain ⟨v25, hv24, h⟩ := bindE h
          refine d2 rfl (o_call (ds := [.lst false (List.map (PV.int .i64) v5), .int .i64 v23]) rfl Ty.k43 rfl (r07_Times_ok hv24)) rfl ?_
          refine d7 rfl (fun _ hN => o_ari rfl rfl rfl) rfl ?_
          refine d7 rfl (fun _ hN => o_cmp rfl rfl rfl) rfl ?_
          refine d_nil ?_
          refine pw_cond ((w64 (v24 + v25)) != 1) rfl (fun hc => ?_) (fun hc => ?_)
          · have h := ifT h hc
            refine sr (by kernel_rfl) ?_
            refine y0 rfl (o_assign (d := .bool false) rfl) ?_
            refine y_nil ?_
            refine pw_ret ?_
            have he := hx21 _ (Option.some.inj h).symm
            have h := hk20
            rw [← he] at h
            obtain rfl := Option.some.inj h
            exact ⟨rfl, [_], ⟨rfl, trivial⟩, rfl, by first | exact .inl rfl | exact .inr rfl⟩
          · have h := ifF h hc
            refine pw_skip ?_
            refine sr1 (by kernel_rfl) ?_
            refine y0 rfl (o_move (d := .int .i64 s21) rfl) ?_
            refine y0 rfl (o_ari rfl rfl rfl) ?_
            refine y0 rfl (o_assign (d := .int .i64 (w64 (s21 + 1))) rfl) ?_
            refine y_nil ?_
            exact ⟨rfl, w64 (s21 + 1), (Option.some.inj h).symm, (wk_st _ _ ⟨rfl, rfl, rfl, rfl, rfl, rfl, rfl, rfl, rfl, rfl, rfl, rfl, rfl, rfl, rfl, trivial⟩ ⟨rowLe_same rfl rfl rfl (fun q => nomatch q) rfl rfl rfl, trivial⟩)⟩
        · have h := ifF h hc
          refine pw_exit ?_
          refine thenQ_exit ?_
          refine thenQ_exit ?_
          refine blockQ_exit ?_
          have he := hx21 _ (Option.some.inj h).symm
          have h := hk20
          rw [← he] at h
          exact ⟨rfl, (), h, (wk_st _ _ ⟨rfl, rfl, rfl, rfl, rfl, rfl, rfl, rfl, rfl, trivial⟩ ⟨rowLe_same rfl rfl rfl (fun q => nomatch q) rfl rfl rfl, trivial⟩)⟩

set_option maxHeartbeats 4000000 in
theorem w08_ReachMore_ok {a0 : store_Store} {a1 : List Int} {a2 : List Int} {r : Bool} (h : w08_ReachMore a0 a1 a2 = some r) : PCalls Try.prog 14 [store_Store.Pv a0, .lst false (List.map (PV.int .i64) a1), .lst false (List.map (PV.int .i64) a2)] (.bool r) := by
  unfold w08_ReachMore at h
  refine pc_intro (N := 86) Try.func14 rfl rfl (Nat.le_of_ble_eq_true rfl) fun w0 imm0 => ?_
  refine sr (by kernel_rfl) ?_
  refine y1 rfl (o_box (d := store_Store.Pv a0) (z := 3) (cl := true) rfl rfl rfl rfl rfl) rfl ?_
  refine y0 rfl (o_assign (d := .bool false) rfl) ?_
  refine y_nil ?_
  refine pw_seq ?_
  refine sr (by kernel_rfl) ?_
  refine y0 rfl (o_loadA (cs := store_Store.Pc a0) rfl rfl rfl Ty.a26 Ty.s26 (Nat.le_of_ble_eq_true rfl) rfl) ?_
  obtain ⟨v1, hv1, h⟩ := bindE h
  refine y0 rfl (o_call (ds := [store_Store.Pv a0]) rfl Ty.k47 rfl (w08_right_ok hv1)) ?_
  refine y0 rfl (o_not rfl rfl) ?_
  refine y0 rfl (o_move (d := .bool (!v1)) rfl) ?_
  refine y_if (g := ((!v1) == false)) rfl (fun hg => o_move (d := .lst false (List.map (PV.int .i64) a1)) rfl) ?_
  refine y_if (g := ((!v1) == false)) rfl (fun hg => o_lnL (f := (PV.int .i64)) (ct hg) Ty.e27) ?_
  refine y_if (g := ((!v1) == false)) rfl (fun hg => o_cmp (ct hg) rfl rfl) ?_
  refine y0 rfl (pk_or rfl rfl rfl (fun q => eqF q)) ?_
  refine y0 rfl (o_move (d := .bool ((!v1) || (decide ((a1.length : Int) > 50)))) rfl) ?_
  refine y_if (g := (((!v1) || (decide ((a1.length : Int) > 50))) == false)) rfl (fun hg => o_move (d := .lst false (List.map (PV.int .i64) a2)) rfl) ?_
  refine y_if (g := (((!v1) || (decide ((a1.length : Int) > 50))) == false)) rfl (fun hg => o_lnL (f := (PV.int .i64)) (ct hg) Ty.e27) ?_
  refine y_if (g := (((!v1) || (decide ((a1.length : Int) > 50))) == false)) rfl (fun hg => o_cmp (ct hg) rfl rfl) ?_
  refine y0 rfl (pk_or rfl rfl rfl (fun q => eqF q)) ?_
  refine y0 rfl (o_move (d := .bool (((!v1) || (decide ((a1.length : Int) > 50))) || (decide ((a2.length : Int) > 50)))) rfl) ?_
  obtain ⟨v2, hv2, h⟩ := bindE h
  refine y_if (g := ((((!v1) || (decide ((a1.length : Int) > 50))) || (decide ((a2.length : Int) > 50))) == false)) rfl (fun hg => o_call (ds := []) rfl Ty.k48 rfl (w08_shown_ok (onlyE hv2 hg))) ?_
  refine y_if (g := ((((!v1) || (decide ((a1.length : Int) > 50))) || (decide ((a2.length : Int) > 50))) == false)) rfl (fun hg => o_not (ct hg) rfl) ?_
  refine y0 rfl (pk_or rfl rfl rfl (fun q => eqF q)) ?_
  refine y_nil ?_
  refine pw_cond ((((!v1) || (decide ((a1.length : Int) > 50))) || (decide ((a2.length : Int) > 50))) || (!v2)) rfl (fun hc => ?_) (fun hc => ?_)
  · have h := ifT h hc
    refine sr (by kernel_rfl) ?_
    obtain ⟨v3, hv3, h⟩ := bindE h
    refine y0 rfl (o_call (ds := []) rfl Ty.k48 rfl (w08_shown_ok hv3)) ?_
    refine y0 rfl (o_assign (d := .bool v3) rfl) ?_
    refine y_nil ?_
    refine pw_ret ?_
    obtain rfl := Option.some.inj h
    exact ⟨rfl, [_], ⟨rfl, trivial⟩, rfl, by first | exact .inl rfl | exact .inr rfl⟩
  · have h := ifF h hc
    refine pw_skip ?_
    refine sr (by kernel_rfl) ?_
    refine y0 rfl (o_loadA (cs := store_Store.Pc a0) rfl rfl rfl Ty.a26 Ty.s26 (Nat.le_of_ble_eq_true rfl) rfl) ?_
    refine y0 rfl (o_move (d := .lst false (List.map (PV.int .i64) a1)) rfl) ?_
    obtain ⟨v4, hv4, h⟩ := bindE h
    refine yc rfl (o_callF (ls := []) (ds := [store_Store.Pv a0, .lst false (List.map (PV.int .i64) a1)]) rfl Ty.k50 rfl (reach_From_ok hv4)) ?_
    refine y0 rfl (o_assign (d := .lst false (List.map (PV.int .i64) v4)) rfl) ?_
    refine y_nil ?_
    refine sr (by kernel_rfl) ?_
    refine y0 rfl (o_loadA (cs := store_Store.Pc a0) rfl rfl rfl Ty.a26 Ty.s26 (Nat.le_of_ble_eq_true rfl) rfl) ?_
    refine y0 rfl (o_move (d := .lst false (List.map (PV.int .i64) a2)) rfl) ?_
    obtain ⟨v5, hv5, h⟩ := bindE h
    refine yc rfl (o_callF (ls := []) (ds := [store_Store.Pv a0, .lst false (List.map (PV.int .i64) a2)]) rfl Ty.k50 rfl (reach_From_ok hv5)) ?_
    refine y0 rfl (o_assign (d := .lst false (List.map (PV.int .i64) v5)) rfl) ?_
    refine y_nil ?_
    refine dr [6] Ty.mix (by kernel_rfl) (by kernel_rfl) ?_
    refine d0 rfl (o_loadA (cs := store_Store.Pc a0) rfl rfl rfl Ty.a26 Ty.s26 (Nat.le_of_ble_eq_true rfl) rfl) rfl ?_
    refine d1n rfl (o_nslice rfl Ty.e27 Ty.s3) rfl ?_
    refine d7 rfl (fun _ hN => o_move (d := .lst false (List.map (PV.int .i64) a1)) rfl) rfl ?_
    obtain ⟨v6, hv6, h⟩ := bindE h
    refine d3 rfl (o_apT (f := (PV.int .i64)) hv6 rfl rfl (.inl ⟨_, rfl, rfl⟩) Ty.e27 Ty.s3 Ty.b3 Ty.z3 rfl (fun _ => rfl)) rfl rfl rfl ?_
    refine d7 rfl (fun _ hN => o_move (d := .lst false (List.map (PV.int .i64) a2)) rfl) rfl ?_
    obtain ⟨v7, hv7, h⟩ := bindE h
    refine d3a rfl (o_apR (f := (PV.int .i64)) hv7 rfl rfl rfl rfl rfl rfl (.inl ⟨_, rfl, rfl⟩) Ty.e27 Ty.s3 Ty.b3 Ty.z3 rfl (fun _ => rfl)) rfl rfl rfl rfl rfl ?_
    obtain ⟨v8, hv8, h⟩ := bindE h
    refine d5f rfl (o_callF (ls := [42]) (ds := [store_Store.Pv a0, .sl 42]) rfl Ty.k50 rfl (reach_From_ok hv8)) rfl rfl ?_
    refine d7 rfl (fun _ hN => o_assign (d := .lst false (List.map (PV.int .i64) v8)) rfl) rfl ?_
    refine d_nil ?_
    refine sr (by kernel_rfl) ?_
    refine y0 rfl (o_loadA (cs := store_Store.Pc a0) rfl rfl rfl Ty.a26 Ty.s26 (Nat.le_of_ble_eq_true rfl) rfl) ?_
    obtain ⟨v9, hv9, h⟩ := bindE h
    refine yc rfl (o_callF (ls := []) (ds := [store_Store.Pv a0]) rfl Ty.k49 rfl (w08_its_ok hv9)) ?_
    obtain ⟨v10, hv10, h⟩ := bindE h
    refine yc rfl (o_callF (ls := []) (ds := [r06_Store.Pv v9]) rfl Ty.k46 rfl (r06_Live_ok hv10)) ?_
    refine y0 rfl (o_assign (d := .lst false (List.map (PV.int .i64) v10)) rfl) ?_
    refine y_nil ?_
    obtain ⟨κ18, hκ18, h⟩ := jnE h
    refine pw_jn0 (κ := κ18) (r := r) (fun (_ : Unit) => St.of [(7, .lst false (List.map (PV.int .i64) v4)), (8, .lst false (List.map (PV.int .i64) v5)), (9, .lst false (List.map (PV.int .i64) v8))] []) (fun q19 h => ?_) ?_
    · subst hκ18
      refine sr (by kernel_rfl) ?_
      refine y0 rfl (o_move (d := .lst false (List.map (PV.int .i64) v8)) rfl) ?_
      refine y0 rfl (o_lnL (f := (PV.int .i64)) rfl Ty.e27) ?_
      refine y0 rfl (o_move (d := .lst false (List.map (PV.int .i64) v4)) rfl) ?_
      refine y0 rfl (o_lnL (f := (PV.int .i64)) rfl Ty.e27) ?_
      refine y0 rfl (o_move (d := .lst false (List.map (PV.int .i64) v5)) rfl) ?_
      refine y0 rfl (o_lnL (f := (PV.int .i64)) rfl Ty.e27) ?_
      refine y0 rfl (o_ari rfl rfl rfl) ?_
      refine y0 rfl (o_cmp rfl rfl rfl) ?_
      refine y0 rfl (o_assign (d := .bool (decide ((v8.length : Int) ≤ (w64 ((v4.length : Int) + (v5.length : Int)))))) rfl) ?_
      refine y_nil ?_
      refine pw_ret ?_
      obtain rfl := Option.some.inj h
      exact ⟨rfl, [_], ⟨rfl, trivial⟩, rfl, by first | exact .inl rfl | exact .inr rfl⟩
    · skip
      refine sr (by kernel_rfl) ?_
      refine y0 rfl (o_assign (d := .int .i64 0) rfl) ?_
      refine y_nil ?_
      refine pw_block ?_
      obtain ⟨e20, hl19, hk20⟩ := bindE h
      refine pw_lp0 (fun (s21 : Int) => St.of [(7, .lst false (List.map (PV.int .i64) v4)), (8, .lst false (List.map (PV.int .i64) v5)), (9, .lst false (List.map (PV.int .i64) v8)), (10, .lst false (List.map (PV.int .i64) v10)), (11, .int .i64 s21)] []) hl19 (wk_st _ _ ⟨rfl, rfl, rfl, rfl, rfl, rfl, rfl, rfl, rfl, rfl, rfl, rfl, rfl, rfl, rfl, trivial⟩ trivial) (fun s21 x22 h hx21 => ?_)
      refine pw_seq ?_
      refine sr (by kernel_rfl) ?_
      refine y0 rfl (o_move (d := .int .i64 s21) rfl) ?_
      refine y0 rfl (o_move (d := .lst false (List.map (PV.int .i64) v10)) rfl) ?_
      refine y0 rfl (o_lnL (f := (PV.int .i64)) rfl Ty.e27) ?_
      refine y0 rfl (o_cmp rfl rfl rfl) ?_
      refine y_nil ?_
      refine pw_cond (decide (s21 < (v10.length : Int))) rfl (fun hc => ?_) (fun hc => ?_)
      · have h := ifT h hc
        refine pw_skip ?_
        refine pw_seq ?_
        refine pw_block ?_
        refine sr (by kernel_rfl) ?_
        refine y0 rfl (o_move (d := .lst false (List.map (PV.int .i64) v4)) rfl) ?_
        refine y0 rfl (o_move (d := .lst false (List.map (PV.int .i64) v10)) rfl) ?_
        refine y0 rfl (o_move (d := .int .i64 s21) rfl) ?_
        obtain ⟨v23, hv22, h⟩ := bindE h
        refine y0 rfl (o_ixL (f := (PV.int .i64)) (cs := [.int .i64 v23]) hv22 rfl rfl Ty.e27 Ty.s3 rfl rfl) ?_
        refine y0 rfl (o_loadRS rfl Ty.a3 rfl) ?_
        obtain ⟨v24, hv23, h⟩ := bindE h
        refine y0 rfl (o_call (ds := [.lst false (List.map (PV.int .i64) v4), .int .i64 v23]) rfl Ty.k43 rfl (r07_Times_ok hv23)) ?_
        refine y0 rfl (o_cmp rfl rfl rfl) ?_
        refine y0 rfl (o_move (d := .bool (decide (v24 > 0))) rfl) ?_
        refine y_if (g := ((decide (v24 > 0)) == false)) rfl (fun hg => o_move (d := .lst false (List.map (PV.int .i64) v5)) rfl) ?_
        refine y_if (g := ((decide (v24 > 0)) == false)) rfl (fun hg => o_move (d := .lst false (List.map (PV.int .i64) v10)) rfl) ?_
        refine y_if (g := ((decide (v24 > 0)) == false)) rfl (fun hg => o_move (d := .int .i64 s21) rfl) ?_
        refine y_if (g := ((decide (v24 > 0)) == false)) rfl (fun hg => o_ixL (f := (PV.int .i64)) (cs := [.int .i64 v23]) hv22 (ct hg) (ct hg) Ty.e27 Ty.s3 rfl rfl) ?_
        refine y_if (g := ((decide (v24 > 0)) == false)) rfl (fun hg => o_loadRS (ct hg) Ty.a3 rfl) ?_
        obtain ⟨v25, hv24, h⟩ := bindE h
        refine y_if (g := ((decide (v24 > 0)) == false)) rfl (fun hg => o_call (ds := [.lst false (List.map (PV.int .i64) v5), .int .i64 v23]) rfl Ty.k43 (consE (ct hg) (consE (ct hg) rfl)) (r07_Times_ok (onlyE hv24 hg))) ?_
        refine y_if (g := ((decide (v24 > 0)) == false)) rfl (fun hg => o_cmp (ct hg) rfl rfl) ?_
        refine y0 rfl (pk_or rfl rfl rfl (fun q => eqF q)) ?_
        refine y0 rfl (o_assign (d := .bool ((decide (v24 > 0)) || (decide (v25 > 0)))) rfl) ?_
        refine y_nil ?_
        refine sr (by kernel_rfl) ?_
        refine y0 rfl (o_move (d := .bool ((decide (v24 > 0)) || (decide (v25 > 0)))) rfl) ?_
        refine y0 rfl (o_move (d := .lst false (List.map (PV.int .i64) v8)) rfl) ?_
        refine y0 rfl (o_move (d := .lst false (List.map (PV.int .i64) v10)) rfl) ?_
        refine y0 rfl (o_move (d := .int .i64 s21) rfl) ?_
        refine y0 rfl (o_ixL (f := (PV.int .i64)) (cs := [.int .i64 v23]) hv22 rfl rfl Ty.e27 Ty.s3 rfl rfl) ?_
        refine y0 rfl (o_loadRS rfl Ty.a3 rfl) ?_
        obtain ⟨v26, hv25, h⟩ := bindE h
        refine y0 rfl (o_call (ds := [.lst false (List.map (PV.int .i64) v8), .int .i64 v23]) rfl Ty.k43 rfl (r07_Times_ok hv25)) ?_
        refine y0 rfl (o_cmp rfl rfl rfl) ?_
        refine y0 rfl (o_neB rfl rfl Ty.u4 rfl) ?_
        refine y_nil ?_
        refine pw_cond (((decide (v24 > 0)) || (decide (v25 > 0))) != (decide (v26 > 0))) rfl (fun hc => ?_) (fun hc => ?_)
        · have h := ifT h hc
          refine sr (by kernel_rfl) ?_
          refine y0 rfl (o_assign (d := .bool false) rfl) ?_
          refine y_nil ?_
          refine pw_ret ?_
          have he := hx21 _ (Option.some.inj h).symm
          have h := hk20
          rw [← he] at h
          obtain rfl := Option.some.inj h
          exact ⟨rfl, [_], ⟨rfl, trivial⟩, rfl, by first | exact .inl rfl | exact .inr rfl⟩
        · have h := ifF h hc
          refine pw_skip ?_
          refine sr1 (by kernel_rfl) ?_
          refine y0 rfl (o_move (d := .int .i64 s21) rfl) ?_
          refine y0 rfl (o_ari rfl rfl rfl) ?_
          refine y0 rfl (o_assign (d := .int .i64 (w64 (s21 + 1))) rfl) ?_
          refine y_nil ?_
          exact ⟨rfl, w64 (s21 + 1), (Option.some.inj h).symm, (wk_st _ _ ⟨rfl, rfl, rfl, rfl, rfl, rfl, rfl, rfl, rfl, rfl, rfl, rfl, rfl, rfl, rfl, trivial⟩ trivial)⟩
      · have h := ifF h hc
        refine pw_exit ?_
        refine thenQ_exit ?_
        refine thenQ_exit ?_
        refine blockQ_exit ?_
        have he := hx21 _ (Option.some.inj h).symm
        have h := hk20
        rw [← he] at h
        exact ⟨rfl, (), h, (wk_st _ _ ⟨rfl, rfl, rfl, rfl, rfl, rfl, rfl, rfl, rfl, trivial⟩ trivial)⟩

set_option maxHeartbeats 4000000 in
theorem w08_ReachSteps_ok {a0 : store_Store} {a1 : Int} {a2 : Int} {a3 : Int} {r : Bool} (h : w08_ReachSteps a0 a1 a2 a3 = some r) : PCalls Try.prog 15 [store_Store.Pv a0, .int .i64 a1, .int .i64 a2, .int .i64 a3] (.bool r) := by
  unfold w08_ReachSteps at h
  refine pc_intro (N := 50) Try.func15 rfl rfl (Nat.le_of_ble_eq_true rfl) fun w0 imm0 => ?_
  refine sr (by kernel_rfl) ?_
  refine y1 rfl (o_box (d := store_Store.Pv a0) (z := 3) (cl := true) rfl rfl rfl rfl rfl) rfl ?_
  refine y0 rfl (o_assign (d := .bool false) rfl) ?_
  refine y_nil ?_
  refine pw_seq ?_
  refine sr (by kernel_rfl) ?_
  refine y0 rfl (o_loadA (cs := store_Store.Pc a0) rfl rfl rfl Ty.a26 Ty.s26 (Nat.le_of_ble_eq_true rfl) rfl) ?_
  obtain ⟨v1, hv1, h⟩ := bindE h
  refine y0 rfl (o_call (ds := [store_Store.Pv a0]) rfl Ty.k47 rfl (w08_right_ok hv1)) ?_
  refine y0 rfl (o_not rfl rfl) ?_
  refine y0 rfl (o_move (d := .bool (!v1)) rfl) ?_
  obtain ⟨v2, hv2, h⟩ := bindE h
  refine y_if (g := ((!v1) == false)) rfl (fun hg => o_call (ds := []) rfl Ty.k48 rfl (w08_shown_ok (onlyE hv2 hg))) ?_
  refine y_if (g := ((!v1) == false)) rfl (fun hg => o_not (ct hg) rfl) ?_
  refine y0 rfl (pk_or rfl rfl rfl (fun q => eqF q)) ?_
  refine y_nil ?_
  refine pw_cond ((!v1) || (!v2)) rfl (fun hc => ?_) (fun hc => ?_)
  · have h := ifT h hc
    refine sr (by kernel_rfl) ?_
    obtain ⟨v3, hv3, h⟩ := bindE h
    refine y0 rfl (o_call (ds := []) rfl Ty.k48 rfl (w08_shown_ok hv3)) ?_
    refine y0 rfl (o_assign (d := .bool v3) rfl) ?_
    refine y_nil ?_
    refine pw_ret ?_
    obtain rfl := Option.some.inj h
    exact ⟨rfl, [_], ⟨rfl, trivial⟩, rfl, by first | exact .inl rfl | exact .inr rfl⟩
  · have h := ifF h hc
    refine pw_skip ?_
    refine sr (by kernel_rfl) ?_
    refine y0 rfl (o_loadA (cs := store_Store.Pc a0) rfl rfl rfl Ty.a26 Ty.s26 (Nat.le_of_ble_eq_true rfl) rfl) ?_
    obtain ⟨v4, hv4, h⟩ := bindE h
    refine yc rfl (o_callF (ls := []) (ds := [store_Store.Pv a0]) rfl Ty.k49 rfl (w08_its_ok hv4)) ?_
    obtain ⟨v5, hv5, h⟩ := bindE h
    refine yc rfl (o_callF (ls := []) (ds := [r06_Store.Pv v4]) rfl Ty.k46 rfl (r06_Live_ok hv5)) ?_
    refine y0 rfl (o_move (d := .int .i64 a1) rfl) ?_
    obtain ⟨v6, hv6, h⟩ := bindE h
    refine y0 rfl (o_call (ds := [.lst false (List.map (PV.int .i64) v5), .int .i64 a1]) rfl Ty.k43 rfl (r07_Times_ok hv6)) ?_
    refine y0 rfl (o_cmp rfl rfl rfl) ?_
    refine y0 rfl (o_assign (d := .bool (decide (v6 > 0))) rfl) ?_
    refine y_nil ?_
    refine sr (by kernel_rfl) ?_
    refine y0 rfl (o_loadA (cs := store_Store.Pc a0) rfl rfl rfl Ty.a26 Ty.s26 (Nat.le_of_ble_eq_true rfl) rfl) ?_
    refine y0 rfl (o_move (d := .int .i64 a1) rfl) ?_
    refine y0 rfl (o_move (d := .int .i64 a2) rfl) ?_
    obtain ⟨v7, hv7, h⟩ := bindE h
    refine y0 rfl (o_call (ds := [store_Store.Pv a0, .int .i64 a1, .int .i64 a2]) rfl Ty.k54 rfl (reach_Is_ok hv7)) ?_
    refine y0 rfl (o_not rfl rfl) ?_
    refine y0 rfl (o_move (d := .bool (!v7)) rfl) ?_
    refine y_if (g := ((!v7) == false)) rfl (fun hg => o_loadA (cs := store_Store.Pc a0) rfl rfl rfl Ty.a26 Ty.s26 (Nat.le_of_ble_eq_true rfl) rfl) ?_
    refine y_if (g := ((!v7) == false)) rfl (fun hg => o_move (d := .int .i64 a2) rfl) ?_
    refine y_if (g := ((!v7) == false)) rfl (fun hg => o_move (d := .int .i64 a3) rfl) ?_
    obtain ⟨v8, hv8, h⟩ := bindE h
    refine y_if (g := ((!v7) == false)) rfl (fun hg => o_call (ds := [store_Store.Pv a0, .int .i64 a2, .int .i64 a3]) rfl Ty.k54 (consE (ct hg) (consE (ct hg) (consE (ct hg) rfl))) (reach_Is_ok (onlyE hv8 hg))) ?_
    refine y_if (g := ((!v7) == false)) rfl (fun hg => o_not (ct hg) rfl) ?_
    refine y0 rfl (pk_or rfl rfl rfl (fun q => eqF q)) ?_
    refine y0 rfl (o_move (d := .bool ((!v7) || (!v8))) rfl) ?_
    refine y_if (g := (((!v7) || (!v8)) == false)) rfl (fun hg => o_loadA (cs := store_Store.Pc a0) rfl rfl rfl Ty.a26 Ty.s26 (Nat.le_of_ble_eq_true rfl) rfl) ?_
    refine y_if (g := (((!v7) || (!v8)) == false)) rfl (fun hg => o_move (d := .int .i64 a1) rfl) ?_
    refine y_if (g := (((!v7) || (!v8)) == false)) rfl (fun hg => o_move (d := .int .i64 a3) rfl) ?_
    obtain ⟨v9, hv9, h⟩ := bindE h
    refine y_if (g := (((!v7) || (!v8)) == false)) rfl (fun hg => o_call (ds := [store_Store.Pv a0, .int .i64 a1, .int .i64 a3]) rfl Ty.k54 (consE (ct hg) (consE (ct hg) (consE (ct hg) rfl))) (reach_Is_ok (onlyE hv9 hg))) ?_
    refine y0 rfl (pk_or rfl rfl rfl (fun q => eqF q)) ?_
    refine y0 rfl (o_move (d := .bool (((!v7) || (!v8)) || v9)) rfl) ?_
    refine y_if (g := ((((!v7) || (!v8)) || v9) == true)) rfl (fun hg => o_loadA (cs := store_Store.Pc a0) rfl rfl rfl Ty.a26 Ty.s26 (Nat.le_of_ble_eq_true rfl) rfl) ?_
    refine y_if (g := ((((!v7) || (!v8)) || v9) == true)) rfl (fun hg => o_move (d := .int .i64 a1) rfl) ?_
    refine y_if (g := ((((!v7) || (!v8)) || v9) == true)) rfl (fun hg => o_move (d := .int .i64 a1) rfl) ?_
    obtain ⟨v10, hv10, h⟩ := bindE h
    refine y_if (g := ((((!v7) || (!v8)) || v9) == true)) rfl (fun hg => o_call (ds := [store_Store.Pv a0, .int .i64 a1, .int .i64 a1]) rfl Ty.k54 (consE (ct hg) (consE (ct hg) (consE (ct hg) rfl))) (reach_Is_ok (onlyE hv10 hg))) ?_
    refine y_if (g := ((((!v7) || (!v8)) || v9) == true)) rfl (fun hg => o_move (d := .bool (decide (v6 > 0))) rfl) ?_
    refine y_if (g := ((((!v7) || (!v8)) || v9) == true)) rfl (fun hg => o_eqB (ct hg) (ct hg) Ty.u4 rfl) ?_
    refine y0 rfl (pk_and rfl rfl rfl (fun q => eqT q)) ?_
    refine y0 rfl (o_assign (d := .bool ((((!v7) || (!v8)) || v9) && (v10 == (decide (v6 > 0))))) rfl) ?_
    refine y_nil ?_
    refine pw_ret ?_
    obtain rfl := Option.some.inj h
    exact ⟨rfl, [_], ⟨rfl, trivial⟩, rfl, by first | exact .inl rfl | exact .inr rfl⟩

end Go.Proofs.Ytpnajadblhkomaa.Ok
