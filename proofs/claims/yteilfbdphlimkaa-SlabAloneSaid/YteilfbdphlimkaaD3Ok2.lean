/-
  The functions of the program do as the plain functions do.
-/
import Derived.Test.YteilfbdphlimkaaD3Ok1
namespace Go.Proofs.Yteilfbdphlimkaa.Ok
open Go Go.Pw Go.Sh Go.Proofs
set_option linter.unusedVariables false
set_option maxRecDepth 100000
set_option maxHeartbeats 4000000 in
theorem slab_New_string_ok {a0 : Int} {a1 : Int} {r : slab_Slab_string} (h : slab_New_string a0 a1 = some r) : PCalls Try.prog 31 [.int .i64 a0, .int .i64 a1] (slab_Slab_string.Pv r) := by
  unfold slab_New_string at h
  refine pc_intro (N := 24) Try.func31 rfl rfl (Nat.le_of_ble_eq_true rfl) fun w0 imm0 => ?_
  refine sr (by kernel_rfl) ?_
  refine y1 rfl (o_alloc (d := .agg [.lst false (List.map slab_Cell_string.Pv []), .int .i64 0]) (z := 2) rfl Ty.z59 rfl rfl rfl) rfl ?_
  refine y_nil ?_
  refine pw_seq ?_
  refine sr (by kernel_rfl) ?_
  refine y0 rfl (o_move (d := .int .i64 a0) rfl) ?_
  refine y0 rfl (o_cmp rfl rfl rfl) ?_
  refine y0 rfl (o_move (d := .bool (decide (a0 < 0))) rfl) ?_
  refine y_if (g := ((decide (a0 < 0)) == false)) rfl (fun hg => o_move (d := .int .i64 a0) rfl) ?_
  refine y_if (g := ((decide (a0 < 0)) == false)) rfl (fun hg => o_cmp (ct hg) rfl rfl) ?_
  refine y0 rfl (pk_or rfl rfl rfl (fun q => eqF q)) ?_
  refine y0 rfl (o_move (d := .bool ((decide (a0 < 0)) || (decide (a0 > 24)))) rfl) ?_
  refine y_if (g := (((decide (a0 < 0)) || (decide (a0 > 24))) == false)) rfl (fun hg => o_move (d := .int .i64 a1) rfl) ?_
  refine y_if (g := (((decide (a0 < 0)) || (decide (a0 > 24))) == false)) rfl (fun hg => o_cmp (ct hg) rfl rfl) ?_
  refine y0 rfl (pk_or rfl rfl rfl (fun q => eqF q)) ?_
  refine y0 rfl (o_move (d := .bool (((decide (a0 < 0)) || (decide (a0 > 24))) || (decide (a1 < 0)))) rfl) ?_
  refine y_if (g := ((((decide (a0 < 0)) || (decide (a0 > 24))) || (decide (a1 < 0))) == false)) rfl (fun hg => o_move (d := .int .i64 a1) rfl) ?_
  refine y_if (g := ((((decide (a0 < 0)) || (decide (a0 > 24))) || (decide (a1 < 0))) == false)) rfl (fun hg => o_cmp (ct hg) rfl rfl) ?_
  refine y0 rfl (pk_or rfl rfl rfl (fun q => eqF q)) ?_
  refine y_nil ?_
  refine pw_cond ((((decide (a0 < 0)) || (decide (a0 > 24))) || (decide (a1 < 0))) || (decide (a1 > 9))) rfl (fun hc => ?_) (fun hc => ?_)
  · have h := ifT h hc
    refine sr (by kernel_rfl) ?_
    refine y0 rfl (o_build (cs := [.lst false (List.map slab_Cell_string.Pv []), .int .i64 0]) rfl Ty.p59 Ty.z59 rfl rfl rfl) ?_
    refine y_sto (x' := .agg [.lst false (List.map slab_Cell_string.Pv []), .int .i64 0]) (cl' := true) rfl rfl (.inr rfl) Ty.s59 ?_
    refine y_nil ?_
    refine pw_ret ?_
    obtain rfl := Option.some.inj h
    exact ⟨rfl, [_], ⟨o_loadA rfl rfl rfl Ty.a59 Ty.s59 (Nat.le_of_ble_eq_true rfl) rfl, trivial⟩, rfl, by first | exact .inl rfl | exact .inr rfl⟩
  · have h := ifF h hc
    refine pw_skip ?_
    refine sr (by kernel_rfl) ?_
    refine y0 rfl (o_move (d := .int .i64 a0) rfl) ?_
    obtain ⟨v1, hv1, h⟩ := bindE h
    refine y1 rfl (o_mk (f := slab_Cell_string.Pv) hv1 rfl rfl rfl Ty.e57 Ty.s82 Ty.z82 Ty.b82 rfl rfl rfl rfl) rfl ?_
    refine y0 rfl (o_move (d := .int .i64 a1) rfl) ?_
    refine y0 rfl (o_build (cs := [.sl 21, .int .i64 a1]) rfl Ty.p59 Ty.z59 rfl rfl rfl) ?_
    refine y_sto (x' := .agg [.sl 21, .int .i64 a1]) (cl' := false) rfl rfl (.inl rfl) Ty.s59 ?_
    refine y_nil ?_
    refine pw_ret ?_
    obtain rfl := Option.some.inj h
    exact ⟨rfl, [_], ⟨o_loadA rfl rfl rfl Ty.a59 Ty.s59 (Nat.le_of_ble_eq_true rfl) rfl, trivial⟩, rfl, by first | exact .inl rfl | exact .inr rfl⟩

set_option maxHeartbeats 4000000 in
theorem slab_free_string_ok {a0 : slab_Slab_string} {r : slab_Slab_string} (h : slab_free_string a0 = some r) : PCalls Try.prog 45 [slab_Slab_string.Pv a0] (.fn (.func 52) [.rptr (slab_Slab_string.Pc r)]) := by
  unfold slab_free_string at h
  refine pc_intro (N := 4) Try.func45 rfl rfl (Nat.le_of_ble_eq_true rfl) fun w0 imm0 => ?_
  refine sr (by kernel_rfl) ?_
  refine y1 rfl (o_box (d := slab_Slab_string.Pv a0) (z := 2) (cl := true) rfl rfl rfl rfl rfl) rfl ?_
  refine y0 rfl (o_assign (d := .nilfn) rfl) ?_
  refine y_nil ?_
  refine sr (by kernel_rfl) ?_
  refine y0 rfl (o_mkFunc rfl) ?_
  refine y0 rfl (o_assign (d := .fn (.func 52) [.ptr 1 0 0]) rfl) ?_
  refine y_nil ?_
  refine pw_ret ?_
  obtain rfl := Option.some.inj h
  exact ⟨rfl, [_], ⟨rfl, trivial⟩, rfl, by first | exact .inl rfl | exact .inr rfl⟩

set_option maxHeartbeats 4000000 in
theorem slices_Clone_slab_Cell_string_slab_Cell_string_okN {a0 r : List slab_Cell_string} (h : slices_Clone_slab_Cell_string_slab_Cell_string a0 = some r) : PCallsN Try.prog 53 [.lst false (List.map slab_Cell_string.Pv a0)] ⟨List.map slab_Cell_string.Pv r, 0, true, 3, true⟩ := by
  unfold slices_Clone_slab_Cell_string_slab_Cell_string at h
  refine pc_introN (N := 8) Try.func53 rfl rfl (Nat.le_of_ble_eq_true rfl) fun w0 imm0 => ?_
  refine sr (by kernel_rfl) ?_
  refine y0 rfl (o_assign (d := .lst true (List.map slab_Cell_string.Pv [])) rfl) ?_
  refine y_nil ?_
  refine pw_seq ?_
  refine sr (by kernel_rfl) ?_
  refine y0 rfl (o_move (d := .lst false (List.map slab_Cell_string.Pv a0)) rfl) ?_
  refine y_eqnil rfl Ty.e57 fun b hb => ?_
  refine y_nil ?_
  refine pw_cond b rfl (fun hc => ?_) (fun hc => ?_)
  · obtain rfl : a0 = [] := by simpa using hb hc
    refine sr (by kernel_rfl) ?_
    refine y0 rfl (o_assign (d := .lst true (List.map slab_Cell_string.Pv [])) rfl) ?_
    refine y_nil ?_
    refine pw_wk (wk_nil (t := 2) (l := 920000) (z := 3) rfl rfl) ?_
    refine pw_ret ?_
    obtain rfl := Option.some.inj h
    exact ⟨rfl, _, _, rfl, rfl, rfl, rfl⟩
  · refine pw_skip ?_
    refine sr (by kernel_rfl) ?_
    refine y0 rfl (o_nslice rfl Ty.e57 Ty.s82) ?_
    refine y0 rfl (o_move (d := .lst false (List.map slab_Cell_string.Pv a0)) rfl) ?_
    refine y1 rfl (o_apT (f := slab_Cell_string.Pv) h rfl rfl (.inl ⟨_, rfl, rfl⟩) Ty.e57 Ty.s82 Ty.b82 Ty.z82 rfl (fun _ => rfl)) rfl ?_
    refine y0 rfl (o_assign (d := .sl 7) rfl) ?_
    refine y_nil ?_
    refine pw_ret ?_
    exact ⟨rfl, _, _, rfl, rfl, rfl, rfl⟩

set_option maxHeartbeats 4000000 in
theorem slices_Clone_slab_Cell_string_slab_Cell_string_ok {a0 r : List slab_Cell_string} (h : slices_Clone_slab_Cell_string_slab_Cell_string a0 = some r) : PCalls Try.prog 53 [.lst false (List.map slab_Cell_string.Pv a0)] (.lst false (List.map slab_Cell_string.Pv r)) := pcalls_ofN (slices_Clone_slab_Cell_string_slab_Cell_string_okN h) rfl

set_option maxHeartbeats 4000000 in
theorem slab_with_string_ok {a0 : slab_Slab_string} {a1 : Int} {a2 : slab_Cell_string} {r : slab_Slab_string} (h : slab_with_string a0 a1 a2 = some r) : PCalls Try.prog 46 [slab_Slab_string.Pv a0, .int .i64 a1, slab_Cell_string.Pv a2] (slab_Slab_string.Pv r) := by
  unfold slab_with_string at h
  refine pc_intro (N := 17) Try.func46 rfl rfl (Nat.le_of_ble_eq_true rfl) fun w0 imm0 => ?_
  refine sr (by kernel_rfl) ?_
  refine y1 rfl (o_box (d := slab_Slab_string.Pv a0) (z := 2) (cl := true) rfl rfl rfl rfl rfl) rfl ?_
  refine y1 rfl (o_box (d := slab_Cell_string.Pv a2) (z := 3) (cl := true) rfl rfl rfl rfl rfl) rfl ?_
  refine y1 rfl (o_alloc (d := .agg [.lst false (List.map slab_Cell_string.Pv []), .int .i64 0]) (z := 2) rfl Ty.z59 rfl rfl rfl) rfl ?_
  refine y_nil ?_
  refine sr (by kernel_rfl) ?_
  refine y0 rfl (o_fieldAddrP (k := 0) rfl Ty.f59_0 rfl) ?_
  refine y0 rfl (o_loadS rfl rfl rfl Ty.a57 rfl) ?_
  obtain ⟨v1, hv1, h⟩ := bindE h
  refine ycN rfl (o_callN (ls := []) (ds := [.lst false (List.map slab_Cell_string.Pv a0.Cells)]) rfl Ty.k53 rfl (slices_Clone_slab_Cell_string_slab_Cell_string_okN hv1)) rfl rfl ?_
  refine y0 rfl (o_fieldAddrP (k := 0) rfl Ty.f59_0 rfl) ?_
  refine y_sto (x' := .agg [.sl 9, .int .i64 a0.Last]) (cl' := false) rfl rfl (.inl rfl) Ty.s57 ?_
  refine y_nil ?_
  refine sr (by kernel_rfl) ?_
  refine y0 rfl (o_fieldAddrP (k := 0) rfl Ty.f59_0 rfl) ?_
  refine y0 rfl (o_loadS rfl rfl rfl Ty.a57 rfl) ?_
  refine y0 rfl (o_move (d := .int .i64 a1) rfl) ?_
  refine y0 rfl (o_loadA (cs := slab_Cell_string.Pc a2) rfl rfl rfl Ty.a82 Ty.s82 (Nat.le_of_ble_eq_true rfl) rfl) ?_
  obtain ⟨v2, hv2, h⟩ := bindE h
  refine y0 rfl (o_ixR (f := slab_Cell_string.Pv) hv2 rfl rfl rfl rfl Ty.e57 Ty.s82 rfl) ?_
  refine y_stE (f := slab_Cell_string.Pv) (v := a2) hv2 rfl rfl (.inl rfl) Ty.s82 ?_
  refine y_nil ?_
  refine sr (by kernel_rfl) ?_
  refine y0 rfl (o_loadA (cs := [.sl 9, .int .i64 a0.Last]) rfl rfl rfl Ty.a59 Ty.s59 (Nat.le_of_ble_eq_true rfl) rfl) ?_
  refine y_sto (x' := .agg [.sl 9, .int .i64 a0.Last]) (cl' := false) rfl rfl (.inl rfl) Ty.s59 ?_
  refine y_nil ?_
  refine pw_ret ?_
  obtain rfl := Option.some.inj h
  exact ⟨rfl, [_], ⟨o_loadA rfl rfl rfl Ty.a59 Ty.s59 (Nat.le_of_ble_eq_true rfl) rfl, trivial⟩, rfl, by first | exact .inl rfl | exact .inr rfl⟩

set_option maxHeartbeats 4000000 in
theorem slab_Take_string_ok {a0 : slab_Slab_string} {a1 : ByteArray} {r : slab_Slab_string × Int × Int} (h : slab_Take_string a0 a1 = some r) : PCalls Try.prog 32 [slab_Slab_string.Pv a0, .str a1] (.tup [slab_Slab_string.Pv r.1, .int .i64 r.2.1, .int .i64 r.2.2]) := by
  unfold slab_Take_string at h
  refine pc_intro (N := 28) Try.func32 rfl rfl (Nat.le_of_ble_eq_true rfl) fun w0 imm0 => ?_
  refine sr (by kernel_rfl) ?_
  refine y1 rfl (o_box (d := slab_Slab_string.Pv a0) (z := 2) (cl := true) rfl rfl rfl rfl rfl) rfl ?_
  refine y1 rfl (o_box (d := .str a1) (z := 1) (cl := true) rfl rfl rfl rfl rfl) rfl ?_
  refine y1 rfl (o_alloc (d := .agg [.lst false (List.map slab_Cell_string.Pv []), .int .i64 0]) (z := 2) rfl Ty.z59 rfl rfl rfl) rfl ?_
  refine y1 rfl (o_alloc (d := .int .i64 0) (z := 1) rfl Ty.z3 rfl rfl rfl) rfl ?_
  refine y1 rfl (o_alloc (d := .int .i64 0) (z := 1) rfl Ty.z31 rfl rfl rfl) rfl ?_
  refine y_nil ?_
  obtain ⟨κ9, hκ17, h⟩ := jnE h
  refine pw_jn0 (κ := κ9) (r := r) (fun (_ : Unit) => St.of [(2, .ptr 2005 0 0), (4, .ptr 2003 0 0), (5, .ptr 2002 0 0), (6, .ptr 2001 0 0)] [(2001, ⟨[.int .i64 0], 0, false, 1, true⟩), (2002, ⟨[.int .i64 0], 0, false, 1, true⟩), (2003, ⟨[.agg [.lst false (List.map slab_Cell_string.Pv []), .int .i64 0]], 0, false, 2, true⟩), (2005, ⟨[slab_Slab_string.Pv a0], 0, false, 2, true⟩)]) (fun q10 h => ?_) ?_
  · subst hκ17
    refine sr (by kernel_rfl) ?_
    refine y0 rfl (o_loadA (cs := slab_Slab_string.Pc a0) rfl rfl rfl Ty.a59 Ty.s59 (Nat.le_of_ble_eq_true rfl) rfl) ?_
    refine y_sto (x' := slab_Slab_string.Pv a0) (cl' := true) rfl rfl (.inr rfl) Ty.s59 ?_
    refine y_sto (x' := .int .i64 0) (cl' := true) rfl rfl (.inl rfl) Ty.s3 ?_
    refine y_sto (x' := .int .i64 4) (cl' := true) rfl rfl (.inl rfl) Ty.s31 ?_
    refine y_nil ?_
    refine pw_ret ?_
    obtain rfl := Option.some.inj h
    exact ⟨rfl, [_, _, _], ⟨o_loadA rfl rfl rfl Ty.a59 Ty.s59 (Nat.le_of_ble_eq_true rfl) rfl, ⟨o_loadS rfl rfl rfl Ty.a3 rfl, ⟨o_loadS rfl rfl rfl Ty.a31 rfl, trivial⟩⟩⟩, rfl, by first | exact .inl rfl | exact .inr rfl⟩
  · skip
    refine sr (by kernel_rfl) ?_
    refine y0 rfl (o_loadA (cs := slab_Slab_string.Pc a0) rfl rfl rfl Ty.a59 Ty.s59 (Nat.le_of_ble_eq_true rfl) rfl) ?_
    obtain ⟨v11, hv18, h⟩ := bindE h
    refine yc rfl (o_callF (ls := []) (ds := [slab_Slab_string.Pv a0]) rfl Ty.k45 rfl (slab_free_string_ok hv18)) ?_
    refine y_nil ?_
    refine pw_block ?_
    refine pw_wk (wk_stP (fun l => if l = 2006 then 6 else if l = 2007 then 5 else if l = 2008 then 4 else if l = 2009 then 3 else if l = 2010 then 2 else l) [(2, .ptr 2010 0 0), (3, .ptr 2009 0 0), (4, .ptr 2008 0 0), (5, .ptr 2007 0 0), (6, .ptr 2006 0 0), (10, .fn (.func 52) [.rptr (slab_Slab_string.Pc v11)])] [(2006, ⟨[.int .i64 0], 0, false, 1, true⟩), (2007, ⟨[.int .i64 0], 0, false, 1, true⟩), (2008, ⟨[.agg [.lst false (List.map slab_Cell_string.Pv []), .int .i64 0]], 0, false, 2, true⟩), (2009, ⟨[.str a1], 0, false, 1, true⟩), (2010, ⟨[slab_Slab_string.Pv a0], 0, false, 2, true⟩)] ⟨rfl, rfl, rfl, rfl, rfl, rfl, rfl, rfl, rfl, rfl, rfl, rfl, rfl, rfl, rfl, rfl, rfl, rfl, trivial⟩ ⟨rowLe_ren rfl rfl rfl (fun q => nomatch q) rfl rfl rfl, rowLe_ren rfl rfl rfl (fun q => nomatch q) rfl rfl rfl, rowLe_ren rfl rfl rfl (fun q => nomatch q) rfl rfl rfl, rowLe_ren rfl rfl rfl (fun q => nomatch q) rfl rfl rfl, rowLe_ren rfl rfl rfl (fun q => nomatch q) rfl rfl rfl, trivial⟩ rfl) ?_
    refine pw_range (fn := Try.f52) (N1 := 23) rfl Try.func52 rfl rfl (Nat.le_of_ble_eq_true rfl) rfl Ty.k52 rfl rfl (fun l19 e20 o21 hR22 => ?_)
    refine sr (by kernel_rfl) ?_
    refine y0 rfl (o_fieldAddrR rfl Ty.f59_0 rfl) ?_
    refine y0 rfl (o_loadRS rfl Ty.a57 rfl) ?_
    refine y0 rfl (o_lnL (f := slab_Cell_string.Pv) rfl Ty.e57) ?_
    refine y0 rfl (o_move (d := .int .i64 0) rfl) ?_
    refine y_nil ?_
    refine pw_block ?_
    obtain ⟨e12, hl23, hk24⟩ := bindE h
    refine pw_lp0 (fun (s13 : Int) => St.of [(1000002, .ptr 2010 0 0), (1000003, .ptr 2009 0 0), (1000004, .ptr 2008 0 0), (1000005, .ptr 2007 0 0), (1000006, .ptr 2006 0 0), (1000010, .fn (.func 52) [.rptr (slab_Slab_string.Pc v11)]), (0, .fn (.yield l19) []), (6, .lst false (List.map slab_Cell_string.Pv v11.Cells)), (7, .int .i64 (v11.Cells.length : Int)), (8, .int .i64 s13)] [(2006, ⟨[.int .i64 0], 0, false, 1, true⟩), (2007, ⟨[.int .i64 0], 0, false, 1, true⟩), (2008, ⟨[.agg [.lst false (List.map slab_Cell_string.Pv []), .int .i64 0]], 0, false, 2, true⟩), (2009, ⟨[.str a1], 0, false, 1, true⟩), (2010, ⟨[slab_Slab_string.Pv a0], 0, false, 2, true⟩)]) hl23 (wk_st _ _ ⟨rfl, rfl, rfl, rfl, rfl, rfl, rfl, rfl, rfl, rfl, rfl, rfl, rfl, rfl, rfl, rfl, rfl, rfl, rfl, rfl, rfl, rfl, rfl, rfl, rfl, rfl, rfl, rfl, rfl, rfl, trivial⟩ ⟨rowLe_same rfl rfl rfl (fun q => nomatch q) rfl rfl rfl, rowLe_same rfl rfl rfl (fun q => nomatch q) rfl rfl rfl, rowLe_same rfl rfl rfl (fun q => nomatch q) rfl rfl rfl, rowLe_same rfl rfl rfl (fun q => nomatch q) rfl rfl rfl, rowLe_same rfl rfl rfl (fun q => nomatch q) rfl rfl rfl, trivial⟩) (fun s13 x14 h hx25 => ?_)
    refine sr (by kernel_rfl) ?_
    refine y0 rfl (o_cmp rfl rfl rfl) ?_
    refine y_nil ?_
    refine pw_seq ?_
    refine pw_cond (decide (s13 < (v11.Cells.length : Int))) rfl (fun hc => ?_) (fun hc => ?_)
    · have h := ifT h hc
      refine pw_skip ?_
      refine pw_seq ?_
      refine pw_block ?_
      refine sr (by kernel_rfl) ?_
      refine y0 rfl (o_move (d := .int .i64 s13) rfl) ?_
      obtain ⟨v15, hv26, h⟩ := bindE h
      refine y0 rfl (o_ixL (f := slab_Cell_string.Pv) (cs := slab_Cell_string.Pc v15) hv26 rfl rfl Ty.e57 Ty.s82 rfl rfl) ?_
      refine y0 rfl (o_loadRA (cs := slab_Cell_string.Pc v15) rfl Ty.a82 Ty.s82 (Nat.le_of_ble_eq_true rfl) rfl) ?_
      refine y1 rfl (o_alloc (d := .agg [.int .i64 0, .int .i64 0, .str ByteArray.empty]) (z := 3) rfl Ty.z82 rfl rfl rfl) rfl ?_
      refine y0 rfl (o_assign (d := .int .i64 s13) rfl) ?_
      refine y_sto (x' := slab_Cell_string.Pv v15) (cl' := true) rfl rfl (.inl rfl) Ty.s82 ?_
      refine y_nil ?_
      refine sr (by kernel_rfl) ?_
      refine y0 rfl (o_fieldAddrP (k := 0) rfl Ty.f82_0 rfl) ?_
      refine y0 rfl (o_loadS rfl rfl rfl Ty.a3 rfl) ?_
      refine y0 rfl (o_cmp rfl rfl rfl) ?_
      refine y0 rfl (o_move (d := .bool (v15.State == 0)) rfl) ?_
      refine y_if (g := ((v15.State == 0) == true)) rfl (fun hg => o_move (d := .fn (.yield l19) []) rfl) ?_
      refine y_if (g := ((v15.State == 0) == true)) rfl (fun hg => o_move (d := .int .i64 s13) rfl) ?_
      rcases Bool.eq_false_or_eq_true ((v15.State == 0) == true) with hg27 | hg27
      · have h := ifT h hg27
        refine y_wk (wk_st [(1000002, .ptr 2010 0 0), (1000003, .ptr 2009 0 0), (1000004, .ptr 2008 0 0), (1000005, .ptr 2007 0 0), (1000006, .ptr 2006 0 0), (1000010, .fn (.func 52) [.rptr (slab_Slab_string.Pc v11)]), (0, .fn (.yield l19) []), (6, .lst false (List.map slab_Cell_string.Pv v11.Cells)), (7, .int .i64 (v11.Cells.length : Int)), (8, .int .i64 s13), (16, .bool (v15.State == 0)), (17, .fn (.yield l19) []), (18, .int .i64 s13)] [(2006, ⟨[.int .i64 0], 0, false, 1, true⟩), (2007, ⟨[.int .i64 0], 0, false, 1, true⟩), (2008, ⟨[.agg [.lst false (List.map slab_Cell_string.Pv []), .int .i64 0]], 0, false, 2, true⟩), (2009, ⟨[.str a1], 0, false, 1, true⟩), (2010, ⟨[slab_Slab_string.Pv a0], 0, false, 2, true⟩)] ⟨rfl, rfl, rfl, rfl, rfl, rfl, rfl, rfl, rfl, rfl, rfl, rfl, rfl, rfl, rfl, rfl, rfl, rfl, rfl, rfl, rfl, rfl, rfl, rfl, rfl, rfl, rfl, rfl, rfl, rfl, rfl, rfl, rfl, (ct hg27), rfl, rfl, (ct hg27), rfl, rfl, trivial⟩ ⟨rowLe_same rfl rfl rfl (fun q => nomatch q) rfl rfl rfl, rowLe_same rfl rfl rfl (fun q => nomatch q) rfl rfl rfl, rowLe_same rfl rfl rfl (fun q => nomatch q) rfl rfl rfl, rowLe_same rfl rfl rfl (fun q => nomatch q) rfl rfl rfl, rowLe_same rfl rfl rfl (fun q => nomatch q) rfl rfl rfl, trivial⟩) ?_
        refine y_yield hR22 (congrArg some hg27) rfl rfl rfl rfl rfl (fun e28 o29 o30 => ?_)
        refine sr1 (by kernel_rfl) ?_
        refine y0 rfl (o_assign (d := .int .i64 s13) rfl) ?_
        refine y_nil ?_
        refine ⟨rfl, ?_⟩
        refine pw_block ?_
        refine sr (by kernel_rfl) ?_
        refine y0 rfl (o_fieldAddrP (k := 0) rfl Ty.f59_0 rfl) ?_
        refine y0 rfl (o_loadS rfl rfl rfl Ty.a57 rfl) ?_
        refine y0 rfl (o_move (d := .int .i64 s13) rfl) ?_
        obtain ⟨v16, hv31, h⟩ := bindE h
        refine y0 rfl (o_ixL (f := slab_Cell_string.Pv) (cs := slab_Cell_string.Pc v16) hv31 rfl rfl Ty.e57 Ty.s82 rfl rfl) ?_
        refine y0 rfl (o_fieldAddrR rfl Ty.f82_1 rfl) ?_
        refine y0 rfl (o_loadRS rfl Ty.a3 rfl) ?_
        refine y0 rfl (o_assign (d := .int .i64 v16.Gen) rfl) ?_
        refine y_nil ?_
        refine sr (by kernel_rfl) ?_
        refine y0 rfl (o_loadA (cs := slab_Slab_string.Pc a0) rfl rfl rfl Ty.a59 Ty.s59 (Nat.le_of_ble_eq_true rfl) rfl) ?_
        refine y0 rfl (o_move (d := .int .i64 s13) rfl) ?_
        refine y0 rfl (o_move (d := .int .i64 v16.Gen) rfl) ?_
        refine y0 rfl (o_loadS rfl rfl rfl Ty.a9 rfl) ?_
        refine y0 rfl (o_build (cs := [.int .i64 1, .int .i64 v16.Gen, .str a1]) rfl Ty.p82 Ty.z82 rfl rfl rfl) ?_
        obtain ⟨v17, hv32, h⟩ := bindE h
        refine yc rfl (o_callF (ls := []) (ds := [slab_Slab_string.Pv a0, .int .i64 s13, .agg [.int .i64 1, .int .i64 v16.Gen, .str a1]]) rfl Ty.k46 rfl (slab_with_string_ok hv32)) ?_
        refine y0 rfl (o_move (d := .int .i64 s13) rfl) ?_
        refine y0 rfl (o_move (d := .int .i64 v16.Gen) rfl) ?_
        obtain ⟨v18, hv33, h⟩ := bindE h
        refine y0 rfl (o_call (ds := [.int .i64 s13, .int .i64 v16.Gen]) rfl Ty.k38 rfl (handle_Pack_ok hv33)) ?_
        refine y_sto (x' := slab_Slab_string.Pv v17) (cl' := true) rfl rfl (.inr rfl) Ty.s59 ?_
        refine y_sto (x' := .int .i64 v18) (cl' := true) rfl rfl (.inl rfl) Ty.s3 ?_
        refine y_sto (x' := .int .i64 0) (cl' := true) rfl rfl (.inl rfl) Ty.s31 ?_
        refine y_nil ?_
        refine pw_ret ?_
        refine ⟨rfl, ?_⟩
        refine y_wk (wk_st [(1000002, .ptr 2010 0 0), (1000003, .ptr 2009 0 0), (1000004, .ptr 2008 0 0), (1000005, .ptr 2007 0 0), (1000006, .ptr 2006 0 0), (1000010, .fn (.func 52) [.rptr (slab_Slab_string.Pc v11)]), (0, .fn (.yield l19) []), (6, .lst false (List.map slab_Cell_string.Pv v11.Cells)), (7, .int .i64 (v11.Cells.length : Int)), (8, .int .i64 s13), (16, .bool (v15.State == 0)), (19, .bool false)] [(2006, ⟨[.int .i64 0], 0, false, 1, true⟩), (2007, ⟨[.int .i64 v18], 0, false, 1, true⟩), (2008, ⟨[slab_Slab_string.Pv v17], 0, false, 2, true⟩), (2009, ⟨[.str a1], 0, false, 1, true⟩), (2010, ⟨[slab_Slab_string.Pv a0], 0, false, 2, true⟩)] ⟨rfl, rfl, rfl, rfl, rfl, rfl, rfl, rfl, rfl, rfl, rfl, rfl, rfl, rfl, rfl, rfl, rfl, rfl, rfl, rfl, rfl, rfl, rfl, rfl, rfl, rfl, rfl, rfl, rfl, rfl, rfl, rfl, rfl, rfl, rfl, rfl, trivial⟩ ⟨rowLe_same rfl rfl rfl (fun q => nomatch q) rfl rfl rfl, rowLe_same rfl rfl rfl (fun q => nomatch q) rfl rfl rfl, rowLe_same rfl rfl rfl (fun q => nomatch q) rfl rfl rfl, rowLe_same rfl rfl rfl (fun q => nomatch q) rfl rfl rfl, rowLe_same rfl rfl rfl (fun q => nomatch q) rfl rfl rfl, trivial⟩) ?_
        refine y0 (congrArg some hg27) (o_not rfl rfl) ?_
        refine y0 rfl (pk_andT rfl rfl hg27) ?_
        refine y_nil ?_
        refine pw_cond true rfl (fun _ => ?_) (fun q => nomatch q)
        refine pw_ret ?_
        refine .inr ⟨.ret, rfl, jmpR ?_⟩
        have he := hx25 _ (Option.some.inj h).symm
        have h := hk24
        rw [← he] at h
        obtain rfl := Option.some.inj h
        exact ⟨rfl, [_, _, _], ⟨o_loadA rfl rfl rfl Ty.a59 Ty.s59 (Nat.le_of_ble_eq_true rfl) rfl, ⟨o_loadS rfl rfl rfl Ty.a3 rfl, ⟨o_loadS rfl rfl rfl Ty.a31 rfl, trivial⟩⟩⟩, rfl, by first | exact .inl rfl | exact .inr rfl⟩
      · have h := ifF h hg27
        refine y_skip (congrArg some hg27) ?_
        refine y_skip (congrArg some hg27) ?_
        refine y0 rfl (pk_andF rfl rfl hg27) ?_
        refine y_nil ?_
        refine pw_cond false rfl (fun q => nomatch q) (fun _ => ?_)
        refine pw_skip ?_
        refine sr1 (by kernel_rfl) ?_
        refine y0 rfl (o_ari rfl rfl rfl) ?_
        refine y0 rfl (o_move (d := .int .i64 (w64 (s13 + 1))) rfl) ?_
        refine y_nil ?_
        exact ⟨rfl, w64 (s13 + 1), (Option.some.inj h).symm, (wk_st _ _ ⟨rfl, rfl, rfl, rfl, rfl, rfl, rfl, rfl, rfl, rfl, rfl, rfl, rfl, rfl, rfl, rfl, rfl, rfl, rfl, rfl, rfl, rfl, rfl, rfl, rfl, rfl, rfl, rfl, rfl, rfl, trivial⟩ ⟨rowLe_same rfl rfl rfl (fun q => nomatch q) rfl rfl rfl, rowLe_same rfl rfl rfl (fun q => nomatch q) rfl rfl rfl, rowLe_same rfl rfl rfl (fun q => nomatch q) rfl rfl rfl, rowLe_same rfl rfl rfl (fun q => nomatch q) rfl rfl rfl, rowLe_same rfl rfl rfl (fun q => nomatch q) rfl rfl rfl, trivial⟩)⟩
    · have h := ifF h hc
      refine pw_exit ?_
      refine thenQ_exit ?_
      refine thenQ_exit ?_
      refine blockQ_exit ?_
      refine .inl ⟨rfl, ?_⟩
      have he := hx25 _ (Option.some.inj h).symm
      have h := hk24
      rw [← he] at h
      exact ⟨rfl, (), h, (wk_stP (fun l => if l = 2005 then 2010 else if l = 2003 then 2008 else if l = 2002 then 2007 else if l = 2001 then 2006 else l) _ _ ⟨rfl, rfl, rfl, rfl, rfl, rfl, rfl, rfl, rfl, rfl, rfl, rfl, trivial⟩ ⟨rowLe_ren rfl rfl rfl (fun q => nomatch q) rfl rfl rfl, rowLe_ren rfl rfl rfl (fun q => nomatch q) rfl rfl rfl, rowLe_ren rfl rfl rfl (fun q => nomatch q) rfl rfl rfl, rowLe_ren rfl rfl rfl (fun q => nomatch q) rfl rfl rfl, trivial⟩ rfl)⟩

set_option maxHeartbeats 4000000 in
theorem slab_Find_string_ok {a0 : slab_Slab_string} {a1 : Int} {r : Int × Int} (h : slab_Find_string a0 a1 = some r) : PCalls Try.prog 47 [slab_Slab_string.Pv a0, .int .i64 a1] (.tup [.int .i64 r.1, .int .i64 r.2]) := by
  unfold slab_Find_string at h
  refine pc_intro (N := 42) Try.func47 rfl rfl (Nat.le_of_ble_eq_true rfl) fun w0 imm0 => ?_
  refine sr (by kernel_rfl) ?_
  refine y1 rfl (o_box (d := slab_Slab_string.Pv a0) (z := 2) (cl := true) rfl rfl rfl rfl rfl) rfl ?_
  refine y0 rfl (o_assign (d := .int .i64 0) rfl) ?_
  refine y0 rfl (o_assign (d := .int .i64 0) rfl) ?_
  refine y_nil ?_
  refine pw_seq ?_
  refine sr (by kernel_rfl) ?_
  refine y0 rfl (o_move (d := .int .i64 a1) rfl) ?_
  refine y0 rfl (o_cmp rfl rfl rfl) ?_
  refine y_nil ?_
  refine pw_cond (a1 == 0) rfl (fun hc => ?_) (fun hc => ?_)
  · have h := ifT h hc
    refine sr (by kernel_rfl) ?_
    refine y0 rfl (o_assign (d := .int .i64 (-1)) rfl) ?_
    refine y0 rfl (o_assign (d := .int .i64 2) rfl) ?_
    refine y_nil ?_
    refine pw_ret ?_
    obtain rfl := Option.some.inj h
    exact ⟨rfl, [_, _], ⟨rfl, ⟨rfl, trivial⟩⟩, rfl, by first | exact .inl rfl | exact .inr rfl⟩
  · have h := ifF h hc
    refine pw_skip ?_
    refine sr (by kernel_rfl) ?_
    refine y0 rfl (o_move (d := .int .i64 a1) rfl) ?_
    obtain ⟨v1, hv1, h⟩ := bindE h
    refine y0 rfl (o_call (ds := [.int .i64 a1]) rfl Ty.k41 rfl (handle_Slot_ok hv1)) ?_
    refine y0 rfl (o_assign (d := .int .i64 v1) rfl) ?_
    refine y_nil ?_
    refine pw_seq ?_
    refine sr (by kernel_rfl) ?_
    refine y0 rfl (o_move (d := .int .i64 v1) rfl) ?_
    refine y0 rfl (o_cmp rfl rfl rfl) ?_
    refine y0 rfl (o_move (d := .bool (decide (v1 < 0))) rfl) ?_
    refine y_if (g := ((decide (v1 < 0)) == false)) rfl (fun hg => o_move (d := .int .i64 v1) rfl) ?_
    refine y_if (g := ((decide (v1 < 0)) == false)) rfl (fun hg => o_fieldAddrP (k := 0) rfl Ty.f59_0 rfl) ?_
    refine y_if (g := ((decide (v1 < 0)) == false)) rfl (fun hg => o_loadS (ct hg) rfl rfl Ty.a57 rfl) ?_
    refine y_if (g := ((decide (v1 < 0)) == false)) rfl (fun hg => o_lnL (f := slab_Cell_string.Pv) (ct hg) Ty.e57) ?_
    refine y_if (g := ((decide (v1 < 0)) == false)) rfl (fun hg => o_cmp (ct hg) (ct hg) rfl) ?_
    refine y0 rfl (pk_or rfl rfl rfl (fun q => eqF q)) ?_
    refine y_nil ?_
    refine pw_cond ((decide (v1 < 0)) || (decide (v1 ≥ (a0.Cells.length : Int)))) rfl (fun hc => ?_) (fun hc => ?_)
    · have h := ifT h hc
      refine sr (by kernel_rfl) ?_
      refine y0 rfl (o_assign (d := .int .i64 (-1)) rfl) ?_
      refine y0 rfl (o_assign (d := .int .i64 3) rfl) ?_
      refine y_nil ?_
      refine pw_ret ?_
      obtain rfl := Option.some.inj h
      exact ⟨rfl, [_, _], ⟨rfl, ⟨rfl, trivial⟩⟩, rfl, by first | exact .inl rfl | exact .inr rfl⟩
    · have h := ifF h hc
      refine pw_skip ?_
      refine sr (by kernel_rfl) ?_
      refine y0 rfl (o_fieldAddrP (k := 0) rfl Ty.f59_0 rfl) ?_
      refine y0 rfl (o_loadS rfl rfl rfl Ty.a57 rfl) ?_
      refine y0 rfl (o_move (d := .int .i64 v1) rfl) ?_
      obtain ⟨v2, hv2, h⟩ := bindE h
      refine y0 rfl (o_ixL (f := slab_Cell_string.Pv) (cs := slab_Cell_string.Pc v2) hv2 rfl rfl Ty.e57 Ty.s82 rfl rfl) ?_
      refine y0 rfl (o_loadRA (cs := slab_Cell_string.Pc v2) rfl Ty.a82 Ty.s82 (Nat.le_of_ble_eq_true rfl) rfl) ?_
      refine y1 rfl (o_alloc (d := .agg [.int .i64 0, .int .i64 0, .str ByteArray.empty]) (z := 3) rfl Ty.z82 rfl rfl rfl) rfl ?_
      refine y_sto (x' := slab_Cell_string.Pv v2) (cl' := true) rfl rfl (.inl rfl) Ty.s82 ?_
      refine y_nil ?_
      refine pw_seq ?_
      refine dr [] Ty.mix (by kernel_rfl) (by kernel_rfl) ?_
      refine d7 rfl (fun _ hN => o_fieldAddrP (k := 1) rfl Ty.f82_1 rfl) rfl ?_
      refine d0 rfl (o_loadS rfl rfl rfl Ty.a3 rfl) rfl ?_
      refine d7 rfl (fun _ hN => o_move (d := .int .i64 a1) rfl) rfl ?_
      obtain ⟨v3, hv3, h⟩ := bindE h
      refine d2 rfl (o_call (ds := [.int .i64 a1]) rfl Ty.k42 rfl (handle_Gen_ok hv3)) rfl ?_
      refine d7 rfl (fun _ hN => o_cmp rfl rfl rfl) rfl ?_
      refine d7 rfl (fun _ hN => o_move (d := .bool (v2.Gen != v3)) rfl) rfl ?_
      refine d_if7 (g := ((v2.Gen != v3) == false)) rfl (fun hg _ hN => o_fieldAddrP (k := 0) rfl Ty.f82_0 rfl) rfl ?_
      refine d_if0 (g := ((v2.Gen != v3) == false)) rfl (fun hg => o_loadS (ct hg) rfl rfl Ty.a3 rfl) rfl ?_
      refine d_if7 (g := ((v2.Gen != v3) == false)) rfl (fun hg _ hN => o_cmp (ct hg) rfl rfl) rfl ?_
      refine d_if7 (g := ((v2.Gen != v3) == false)) rfl (fun hg _ hN => o_move (d := .bool (v2.State != 1)) (ct hg)) rfl ?_
      refine d_if7 (g := (((v2.Gen != v3) == false) && ((v2.State != 1) == true))) (want2 rfl rfl rfl) (fun hg _ hN => o_fieldAddrP (k := 0) rfl Ty.f82_0 rfl) rfl ?_
      refine d_if0 (g := (((v2.Gen != v3) == false) && ((v2.State != 1) == true))) (want2 rfl rfl rfl) (fun hg => o_loadS (ct hg) rfl rfl Ty.a3 rfl) rfl ?_
      refine d_if7 (g := (((v2.Gen != v3) == false) && ((v2.State != 1) == true))) (want2 rfl rfl rfl) (fun hg _ hN => o_cmp (ct hg) rfl rfl) rfl ?_
      refine d_if7 (g := ((v2.Gen != v3) == false)) rfl (fun hg _ hN => pk_and (ct hg) rfl rfl (fun q => andI hg (eqT q))) rfl ?_
      refine d7 rfl (fun _ hN => pk_or rfl rfl rfl (fun q => eqF q)) rfl ?_
      refine d_nil ?_
      refine pw_cond ((v2.Gen != v3) || ((v2.State != 1) && (v2.State != 2))) rfl (fun hc => ?_) (fun hc => ?_)
      · have h := ifT h hc
        refine sr (by kernel_rfl) ?_
        refine y0 rfl (o_assign (d := .int .i64 (-1)) rfl) ?_
        refine y0 rfl (o_assign (d := .int .i64 3) rfl) ?_
        refine y_nil ?_
        refine pw_ret ?_
        obtain rfl := Option.some.inj h
        exact ⟨rfl, [_, _], ⟨rfl, ⟨rfl, trivial⟩⟩, rfl, by first | exact .inl rfl | exact .inr rfl⟩
      · have h := ifF h hc
        refine pw_skip ?_
        refine sr (by kernel_rfl) ?_
        refine y0 rfl (o_move (d := .int .i64 v1) rfl) ?_
        refine y0 rfl (o_assign (d := .int .i64 v1) rfl) ?_
        refine y0 rfl (o_assign (d := .int .i64 0) rfl) ?_
        refine y_nil ?_
        refine pw_ret ?_
        obtain rfl := Option.some.inj h
        exact ⟨rfl, [_, _], ⟨rfl, ⟨rfl, trivial⟩⟩, rfl, by first | exact .inl rfl | exact .inr rfl⟩

set_option maxHeartbeats 4000000 in
theorem slab_Get_string_ok {a0 : slab_Slab_string} {a1 : Int} {r : ByteArray × Int} (h : slab_Get_string a0 a1 = some r) : PCalls Try.prog 33 [slab_Slab_string.Pv a0, .int .i64 a1] (.tup [.str r.1, .int .i64 r.2]) := by
  unfold slab_Get_string at h
  refine pc_intro (N := 33) Try.func33 rfl rfl (Nat.le_of_ble_eq_true rfl) fun w0 imm0 => ?_
  refine sr (by kernel_rfl) ?_
  refine y1 rfl (o_box (d := slab_Slab_string.Pv a0) (z := 2) (cl := true) rfl rfl rfl rfl rfl) rfl ?_
  refine y0 rfl (o_assign (d := .str ByteArray.empty) rfl) ?_
  refine y0 rfl (o_assign (d := .int .i64 0) rfl) ?_
  refine y_nil ?_
  refine sr (by kernel_rfl) ?_
  refine y0 rfl (o_assign (d := .str ByteArray.empty) rfl) ?_
  refine y_nil ?_
  refine sr (by kernel_rfl) ?_
  refine y0 rfl (o_loadA (cs := slab_Slab_string.Pc a0) rfl rfl rfl Ty.a59 Ty.s59 (Nat.le_of_ble_eq_true rfl) rfl) ?_
  refine y0 rfl (o_move (d := .int .i64 a1) rfl) ?_
  obtain ⟨v1, hv1, h⟩ := bindE h
  refine y0 rfl (o_call (ds := [slab_Slab_string.Pv a0, .int .i64 a1]) rfl Ty.k47 rfl (slab_Find_string_ok hv1)) ?_
  refine y0 rfl (o_move (d := .tup [.int .i64 v1.1, .int .i64 v1.2]) rfl) ?_
  refine y0 rfl (o_extract rfl rfl) ?_
  refine y0 rfl (o_extract rfl rfl) ?_
  refine y0 rfl (o_assign (d := .int .i64 v1.1) rfl) ?_
  refine y0 rfl (o_assign (d := .int .i64 v1.2) rfl) ?_
  refine y_nil ?_
  refine pw_seq ?_
  refine sr (by kernel_rfl) ?_
  refine y0 rfl (o_move (d := .int .i64 v1.2) rfl) ?_
  refine y0 rfl (o_cmp rfl rfl rfl) ?_
  refine y_nil ?_
  refine pw_cond (v1.2 != 0) rfl (fun hc => ?_) (fun hc => ?_)
  · have h := ifT h hc
    refine sr (by kernel_rfl) ?_
    refine y0 rfl (o_move (d := .str ByteArray.empty) rfl) ?_
    refine y0 rfl (o_move (d := .int .i64 v1.2) rfl) ?_
    refine y0 rfl (o_assign (d := .str ByteArray.empty) rfl) ?_
    refine y0 rfl (o_assign (d := .int .i64 v1.2) rfl) ?_
    refine y_nil ?_
    refine pw_ret ?_
    obtain rfl := Option.some.inj h
    exact ⟨rfl, [_, _], ⟨rfl, ⟨rfl, trivial⟩⟩, rfl, by first | exact .inl rfl | exact .inr rfl⟩
  · have h := ifF h hc
    refine pw_skip ?_
    refine pw_seq ?_
    refine sr (by kernel_rfl) ?_
    refine y0 rfl (o_fieldAddrP (k := 0) rfl Ty.f59_0 rfl) ?_
    refine y0 rfl (o_loadS rfl rfl rfl Ty.a57 rfl) ?_
    refine y0 rfl (o_move (d := .int .i64 v1.1) rfl) ?_
    obtain ⟨v2, hv2, h⟩ := bindE h
    refine y0 rfl (o_ixL (f := slab_Cell_string.Pv) (cs := slab_Cell_string.Pc v2) hv2 rfl rfl Ty.e57 Ty.s82 rfl rfl) ?_
    refine y0 rfl (o_fieldAddrR rfl Ty.f82_0 rfl) ?_
    refine y0 rfl (o_loadRS rfl Ty.a3 rfl) ?_
    refine y0 rfl (o_cmp rfl rfl rfl) ?_
    refine y_nil ?_
    refine pw_cond (v2.State == 2) rfl (fun hc => ?_) (fun hc => ?_)
    · have h := ifT h hc
      refine sr (by kernel_rfl) ?_
      refine y0 rfl (o_move (d := .str ByteArray.empty) rfl) ?_
      refine y0 rfl (o_assign (d := .str ByteArray.empty) rfl) ?_
      refine y0 rfl (o_assign (d := .int .i64 3) rfl) ?_
      refine y_nil ?_
      refine pw_ret ?_
      obtain rfl := Option.some.inj h
      exact ⟨rfl, [_, _], ⟨rfl, ⟨rfl, trivial⟩⟩, rfl, by first | exact .inl rfl | exact .inr rfl⟩
    · have h := ifF h hc
      refine pw_skip ?_
      refine sr (by kernel_rfl) ?_
      refine y0 rfl (o_fieldAddrP (k := 0) rfl Ty.f59_0 rfl) ?_
      refine y0 rfl (o_loadS rfl rfl rfl Ty.a57 rfl) ?_
      refine y0 rfl (o_move (d := .int .i64 v1.1) rfl) ?_
      refine y0 rfl (o_ixL (f := slab_Cell_string.Pv) (cs := slab_Cell_string.Pc v2) hv2 rfl rfl Ty.e57 Ty.s82 rfl rfl) ?_
      refine y0 rfl (o_fieldAddrR rfl Ty.f82_2 rfl) ?_
      refine y0 rfl (o_loadRS rfl Ty.a9 rfl) ?_
      refine y0 rfl (o_assign (d := .str v2.Val) rfl) ?_
      refine y0 rfl (o_assign (d := .int .i64 0) rfl) ?_
      refine y_nil ?_
      refine pw_ret ?_
      obtain rfl := Option.some.inj h
      exact ⟨rfl, [_, _], ⟨rfl, ⟨rfl, trivial⟩⟩, rfl, by first | exact .inl rfl | exact .inr rfl⟩

set_option maxHeartbeats 4000000 in
theorem slab_Set_string_ok {a0 : slab_Slab_string} {a1 : Int} {a2 : ByteArray} {r : slab_Slab_string × Int} (h : slab_Set_string a0 a1 a2 = some r) : PCalls Try.prog 34 [slab_Slab_string.Pv a0, .int .i64 a1, .str a2] (.tup [slab_Slab_string.Pv r.1, .int .i64 r.2]) := by
  unfold slab_Set_string at h
  refine pc_intro (N := 32) Try.func34 rfl rfl (Nat.le_of_ble_eq_true rfl) fun w0 imm0 => ?_
  refine sr (by kernel_rfl) ?_
  refine y1 rfl (o_box (d := slab_Slab_string.Pv a0) (z := 2) (cl := true) rfl rfl rfl rfl rfl) rfl ?_
  refine y1 rfl (o_alloc (d := .agg [.lst false (List.map slab_Cell_string.Pv []), .int .i64 0]) (z := 2) rfl Ty.z59 rfl rfl rfl) rfl ?_
  refine y0 rfl (o_assign (d := .int .i64 0) rfl) ?_
  refine y_nil ?_
  refine sr (by kernel_rfl) ?_
  refine y0 rfl (o_loadA (cs := slab_Slab_string.Pc a0) rfl rfl rfl Ty.a59 Ty.s59 (Nat.le_of_ble_eq_true rfl) rfl) ?_
  refine y0 rfl (o_move (d := .int .i64 a1) rfl) ?_
  obtain ⟨v1, hv1, h⟩ := bindE h
  refine y0 rfl (o_call (ds := [slab_Slab_string.Pv a0, .int .i64 a1]) rfl Ty.k47 rfl (slab_Find_string_ok hv1)) ?_
  refine y0 rfl (o_move (d := .tup [.int .i64 v1.1, .int .i64 v1.2]) rfl) ?_
  refine y0 rfl (o_extract rfl rfl) ?_
  refine y0 rfl (o_extract rfl rfl) ?_
  refine y0 rfl (o_assign (d := .int .i64 v1.1) rfl) ?_
  refine y0 rfl (o_assign (d := .int .i64 v1.2) rfl) ?_
  refine y_nil ?_
  refine pw_seq ?_
  refine sr (by kernel_rfl) ?_
  refine y0 rfl (o_move (d := .int .i64 v1.2) rfl) ?_
  refine y0 rfl (o_cmp rfl rfl rfl) ?_
  refine y_nil ?_
  refine pw_cond (v1.2 != 0) rfl (fun hc => ?_) (fun hc => ?_)
  · have h := ifT h hc
    refine sr (by kernel_rfl) ?_
    refine y0 rfl (o_loadA (cs := slab_Slab_string.Pc a0) rfl rfl rfl Ty.a59 Ty.s59 (Nat.le_of_ble_eq_true rfl) rfl) ?_
    refine y0 rfl (o_move (d := .int .i64 v1.2) rfl) ?_
    refine y_sto (x' := slab_Slab_string.Pv a0) (cl' := true) rfl rfl (.inr rfl) Ty.s59 ?_
    refine y0 rfl (o_assign (d := .int .i64 v1.2) rfl) ?_
    refine y_nil ?_
    refine pw_ret ?_
    obtain rfl := Option.some.inj h
    exact ⟨rfl, [_, _], ⟨o_loadA rfl rfl rfl Ty.a59 Ty.s59 (Nat.le_of_ble_eq_true rfl) rfl, ⟨rfl, trivial⟩⟩, rfl, by first | exact .inl rfl | exact .inr rfl⟩
  · have h := ifF h hc
    refine pw_skip ?_
    refine sr (by kernel_rfl) ?_
    refine y0 rfl (o_fieldAddrP (k := 0) rfl Ty.f59_0 rfl) ?_
    refine y0 rfl (o_loadS rfl rfl rfl Ty.a57 rfl) ?_
    refine y0 rfl (o_move (d := .int .i64 v1.1) rfl) ?_
    obtain ⟨v2, hv2, h⟩ := bindE h
    refine y0 rfl (o_ixL (f := slab_Cell_string.Pv) (cs := slab_Cell_string.Pc v2) hv2 rfl rfl Ty.e57 Ty.s82 rfl rfl) ?_
    refine y0 rfl (o_loadRA (cs := slab_Cell_string.Pc v2) rfl Ty.a82 Ty.s82 (Nat.le_of_ble_eq_true rfl) rfl) ?_
    refine y1 rfl (o_alloc (d := .agg [.int .i64 0, .int .i64 0, .str ByteArray.empty]) (z := 3) rfl Ty.z82 rfl rfl rfl) rfl ?_
    refine y_sto (x' := slab_Cell_string.Pv v2) (cl' := true) rfl rfl (.inl rfl) Ty.s82 ?_
    refine y_nil ?_
    refine sr (by kernel_rfl) ?_
    refine y0 rfl (o_move (d := .str a2) rfl) ?_
    refine y0 rfl (o_fieldAddrP (k := 2) rfl Ty.f82_2 rfl) ?_
    refine y_sto (x' := .agg [.int .i64 v2.State, .int .i64 v2.Gen, .str a2]) (cl' := true) rfl rfl (.inl rfl) Ty.s9 ?_
    refine y_nil ?_
    refine sr (by kernel_rfl) ?_
    refine y0 rfl (o_loadA (cs := slab_Slab_string.Pc a0) rfl rfl rfl Ty.a59 Ty.s59 (Nat.le_of_ble_eq_true rfl) rfl) ?_
    refine y0 rfl (o_move (d := .int .i64 v1.1) rfl) ?_
    refine y0 rfl (o_loadA (cs := [.int .i64 v2.State, .int .i64 v2.Gen, .str a2]) rfl rfl rfl Ty.a82 Ty.s82 (Nat.le_of_ble_eq_true rfl) rfl) ?_
    obtain ⟨v3, hv3, h⟩ := bindE h
    refine yc rfl (o_callF (ls := []) (ds := [slab_Slab_string.Pv a0, .int .i64 v1.1, .agg [.int .i64 v2.State, .int .i64 v2.Gen, .str a2]]) rfl Ty.k46 rfl (slab_with_string_ok hv3)) ?_
    refine y_sto (x' := slab_Slab_string.Pv v3) (cl' := true) rfl rfl (.inr rfl) Ty.s59 ?_
    refine y0 rfl (o_assign (d := .int .i64 0) rfl) ?_
    refine y_nil ?_
    refine pw_ret ?_
    obtain rfl := Option.some.inj h
    exact ⟨rfl, [_, _], ⟨o_loadA rfl rfl rfl Ty.a59 Ty.s59 (Nat.le_of_ble_eq_true rfl) rfl, ⟨rfl, trivial⟩⟩, rfl, by first | exact .inl rfl | exact .inr rfl⟩

set_option maxHeartbeats 4000000 in
theorem w03_SlabTexts_ok {a0 : Int} {a1 : List ByteArray} {a2 : ByteArray} {r : Bool} (h : w03_SlabTexts a0 a1 a2 = some r) : PCalls Try.prog 8 [.int .u8 a0, .lst false (List.map PV.str a1), .str a2] (.bool r) := by
  unfold w03_SlabTexts at h
  refine pc_intro (N := 152) Try.func8 rfl rfl (Nat.le_of_ble_eq_true rfl) fun w0 imm0 => ?_
  refine sr (by kernel_rfl) ?_
  refine y0 rfl (o_assign (d := .bool false) rfl) ?_
  refine y_nil ?_
  refine sr (by kernel_rfl) ?_
  refine y0 rfl (o_move (d := .int .u8 a0) rfl) ?_
  refine y0 rfl (o_conv rfl Ty.u5 Ty.i3 rfl) ?_
  obtain ⟨v1, hv1, h⟩ := bindE h
  refine y0 rfl (o_ari rfl rfl hv1) ?_
  refine y0 rfl (o_ari rfl rfl rfl) ?_
  refine y0 rfl (o_assign (d := .int .i64 (w64 (1 + v1))) rfl) ?_
  refine y_nil ?_
  refine pw_seq ?_
  refine sr (by kernel_rfl) ?_
  refine y0 rfl (o_move (d := .lst false (List.map PV.str a1)) rfl) ?_
  refine y0 rfl (o_lnL (f := PV.str) rfl Ty.e56) ?_
  refine y0 rfl (o_cmp rfl rfl rfl) ?_
  refine y0 rfl (o_move (d := .bool (decide ((a1.length : Int) > 60))) rfl) ?_
  obtain ⟨v2, hv2, h⟩ := bindE h
  refine y_if (g := ((decide ((a1.length : Int) > 60)) == false)) rfl (fun hg => o_call (ds := []) rfl Ty.k12 rfl (w03_shown_ok (onlyE hv2 hg))) ?_
  refine y_if (g := ((decide ((a1.length : Int) > 60)) == false)) rfl (fun hg => o_not (ct hg) rfl) ?_
  refine y0 rfl (pk_or rfl rfl rfl (fun q => eqF q)) ?_
  refine y_nil ?_
  refine pw_cond ((decide ((a1.length : Int) > 60)) || (!v2)) rfl (fun hc => ?_) (fun hc => ?_)
  · have h := ifT h hc
    refine sr (by kernel_rfl) ?_
    obtain ⟨v3, hv3, h⟩ := bindE h
    refine y0 rfl (o_call (ds := []) rfl Ty.k12 rfl (w03_shown_ok hv3)) ?_
    refine y0 rfl (o_assign (d := .bool v3) rfl) ?_
    refine y_nil ?_
    refine pw_ret ?_
    obtain rfl := Option.some.inj h
    exact ⟨rfl, [_], ⟨rfl, trivial⟩, rfl, by first | exact .inl rfl | exact .inr rfl⟩
  · have h := ifF h hc
    refine pw_skip ?_
    refine sr (by kernel_rfl) ?_
    refine y0 rfl (o_move (d := .int .i64 (w64 (1 + v1))) rfl) ?_
    obtain ⟨v4, hv4, h⟩ := bindE h
    refine yc rfl (o_callF (ls := []) (ds := [.int .i64 (w64 (1 + v1)), .int .i64 2]) rfl Ty.k31 rfl (slab_New_string_ok hv4)) ?_
    refine y1 rfl (o_alloc (d := .agg [.lst false (List.map slab_Cell_string.Pv []), .int .i64 0]) (z := 2) rfl Ty.z59 rfl rfl rfl) rfl ?_
    refine y_sto (x' := slab_Slab_string.Pv v4) (cl' := true) rfl rfl (.inr rfl) Ty.s59 ?_
    refine y_nil ?_
    refine sr (by kernel_rfl) ?_
    refine y0 rfl (o_nslice rfl Ty.e54 Ty.s3) ?_
    refine y0 rfl (o_assign (d := .lst true (List.map (PV.int .i64) [])) rfl) ?_
    refine y_nil ?_
    obtain ⟨κ17, hκ13, h⟩ := jnE h
    refine pw_jn0 (κ := κ17) (r := r) (fun (q : slab_Slab_string × (List Int)) => St.of [(1, .lst false (List.map PV.str a1)), (2, .str a2), (8, .ptr 8 0 0), (9, .sl 910009)] [(910009, ⟨List.map (PV.int .i64) q.2, (List.map (PV.int .i64) q.2).length, true, 1, true⟩), (8, ⟨[slab_Slab_string.Pv q.1], 0, false, 2, true⟩)]) (fun q20 h => ?_) ?_
    · subst hκ13
      obtain ⟨j18, j19⟩ := q20
      obtain ⟨κ48, hκ40, h⟩ := jnE h
      refine pw_jn0 (κ := κ48) (r := r) (fun (_ : Unit) => St.of [] []) (fun q49 h => ?_) ?_
      · subst hκ40
        refine sr (by kernel_rfl) ?_
        refine y0 rfl (o_assign (d := .bool true) rfl) ?_
        refine y_nil ?_
        refine pw_ret ?_
        obtain rfl := Option.some.inj h
        exact ⟨rfl, [_], ⟨rfl, trivial⟩, rfl, by first | exact .inl rfl | exact .inr rfl⟩
      · skip
        refine sr (by kernel_rfl) ?_
        refine y0 rfl (o_assign (d := .int .i64 0) rfl) ?_
        refine y_nil ?_
        refine pw_block ?_
        obtain ⟨e50, hl41, hk42⟩ := bindE h
        refine pw_lp0 (fun (s51 : Int) => St.of [(1, .lst false (List.map PV.str a1)), (2, .str a2), (8, .ptr 8 0 0), (9, .sl 910009), (14, .int .i64 s51)] [(910009, ⟨List.map (PV.int .i64) j19, (List.map (PV.int .i64) j19).length, true, 1, true⟩), (8, ⟨[slab_Slab_string.Pv j18], 0, false, 2, true⟩)]) hl41 (Wk.trans (wk_frz _ [910009]) (wk_st _ _ ⟨rfl, rfl, rfl, rfl, rfl, rfl, rfl, rfl, rfl, rfl, rfl, rfl, rfl, rfl, rfl, trivial⟩ ⟨rowLe_same rfl rfl rfl (fun _ => rfl) rfl rfl rfl, rowLe_same rfl rfl rfl (fun q => nomatch q) rfl rfl rfl, trivial⟩)) (fun s51 x52 h hx43 => ?_)
        refine pw_seq ?_
        refine sr (by kernel_rfl) ?_
        refine y0 rfl (o_move (d := .int .i64 s51) rfl) ?_
        refine y0 rfl (o_move (d := .sl 910009) rfl) ?_
        refine y0 rfl (o_lnR (f := (PV.int .i64)) rfl rfl rfl Ty.e54) ?_
        refine y0 rfl (o_cmp rfl rfl rfl) ?_
        refine y_nil ?_
        refine pw_cond (decide (s51 < (j19.length : Int))) rfl (fun hc => ?_) (fun hc => ?_)
        · have h := ifT h hc
          refine pw_skip ?_
          obtain ⟨κ64, hκ55, h⟩ := jnE h
          refine pw_jn0 (κ := κ64) (r := x52) (fun (_ : Unit) => St.of [(1, .lst false (List.map PV.str a1)), (2, .str a2), (8, .ptr 8 0 0), (9, .sl 910009), (14, .int .i64 s51)] [(910009, ⟨List.map (PV.int .i64) j19, (List.map (PV.int .i64) j19).length, true, 1, true⟩), (8, ⟨[slab_Slab_string.Pv j18], 0, false, 2, true⟩)]) (fun q65 h => ?_) ?_
          · subst hκ55
            refine sr1 (by kernel_rfl) ?_
            refine y0 rfl (o_move (d := .int .i64 s51) rfl) ?_
            refine y0 rfl (o_ari rfl rfl rfl) ?_
            refine y0 rfl (o_assign (d := .int .i64 (w64 (s51 + 1))) rfl) ?_
            refine y_nil ?_
            exact ⟨rfl, w64 (s51 + 1), (Option.some.inj h).symm, (Wk.trans (wk_frz _ [910009]) (wk_st _ _ ⟨rfl, rfl, rfl, rfl, rfl, rfl, rfl, rfl, rfl, rfl, rfl, rfl, rfl, rfl, rfl, trivial⟩ ⟨rowLe_same rfl rfl rfl (fun _ => rfl) rfl rfl rfl, rowLe_same rfl rfl rfl (fun q => nomatch q) rfl rfl rfl, trivial⟩))⟩
          · skip
            refine pw_block ?_
            refine dr [] Ty.mix (by kernel_rfl) (by kernel_rfl) ?_
            refine d0 rfl (o_loadA (cs := slab_Slab_string.Pc j18) rfl rfl rfl Ty.a59 Ty.s59 (Nat.le_of_ble_eq_true rfl) rfl) rfl ?_
            refine d7 rfl (fun _ hN => o_move (d := .sl 910009) rfl) rfl ?_
            refine d7 rfl (fun _ hN => o_move (d := .int .i64 s51) rfl) rfl ?_
            obtain ⟨v66, hv56, h⟩ := bindE h
            refine d0 rfl (o_ixR (f := (PV.int .i64)) hv56 rfl rfl rfl rfl Ty.e54 Ty.s3 rfl) rfl ?_
            refine d0 rfl (o_ldS (f := (PV.int .i64)) hv56 rfl rfl rfl Ty.a3 rfl) rfl ?_
            obtain ⟨v67, hv57, h⟩ := bindE h
            refine d2 rfl (o_call (ds := [slab_Slab_string.Pv j18, .int .i64 v66]) rfl Ty.k33 rfl (slab_Get_string_ok hv57)) rfl ?_
            refine d7 rfl (fun _ hN => o_move (d := .tup [.str v67.1, .int .i64 v67.2]) rfl) rfl ?_
            refine d7 rfl (fun _ hN => o_extract rfl rfl) rfl ?_
            refine d7 rfl (fun _ hN => o_extract rfl rfl) rfl ?_
            refine d7 rfl (fun _ hN => o_assign (d := .str v67.1) rfl) rfl ?_
            refine d7 rfl (fun _ hN => o_assign (d := .int .i64 v67.2) rfl) rfl ?_
            refine d_nil ?_
            refine dr [] Ty.mix (by kernel_rfl) (by kernel_rfl) ?_
            refine d0 rfl (o_loadA (cs := slab_Slab_string.Pc j18) rfl rfl rfl Ty.a59 Ty.s59 (Nat.le_of_ble_eq_true rfl) rfl) rfl ?_
            refine d7 rfl (fun _ hN => o_move (d := .sl 910009) rfl) rfl ?_
            refine d7 rfl (fun _ hN => o_move (d := .int .i64 s51) rfl) rfl ?_
            refine d0 rfl (o_ixR (f := (PV.int .i64)) hv56 rfl rfl rfl rfl Ty.e54 Ty.s3 rfl) rfl ?_
            refine d0 rfl (o_ldS (f := (PV.int .i64)) hv56 rfl rfl rfl Ty.a3 rfl) rfl ?_
            refine d7 rfl (fun _ hN => o_move (d := .str a2) rfl) rfl ?_
            obtain ⟨v68, hv58, h⟩ := bindE h
            refine d2f rfl (o_callF (ls := []) (ds := [slab_Slab_string.Pv j18, .int .i64 v66, .str a2]) rfl Ty.k34 rfl (slab_Set_string_ok hv58)) rfl ?_
            refine d7 rfl (fun _ hN => o_move (d := .tup [slab_Slab_string.Pv v68.1, .int .i64 v68.2]) rfl) rfl ?_
            refine d7 rfl (fun _ hN => o_extract rfl rfl) rfl ?_
            refine d7 rfl (fun _ hN => o_extract rfl rfl) rfl ?_
            refine d1 rfl (o_alloc (d := .agg [.lst false (List.map slab_Cell_string.Pv []), .int .i64 0]) (z := 2) rfl Ty.z59 rfl rfl rfl) rfl rfl rfl ?_
            refine d_sto (x' := slab_Slab_string.Pv v68.1) (cl' := true) rfl rfl (.inr rfl) Ty.s59 ?_
            refine d7 rfl (fun _ hN => o_assign (d := .int .i64 v68.2) rfl) rfl ?_
            refine d_nil ?_
            refine dr [] Ty.mix (by kernel_rfl) (by kernel_rfl) ?_
            refine d0 rfl (o_loadA (cs := slab_Slab_string.Pc v68.1) rfl rfl rfl Ty.a59 Ty.s59 (Nat.le_of_ble_eq_true rfl) rfl) rfl ?_
            refine d7 rfl (fun _ hN => o_move (d := .sl 910009) rfl) rfl ?_
            refine d7 rfl (fun _ hN => o_move (d := .int .i64 s51) rfl) rfl ?_
            refine d0 rfl (o_ixR (f := (PV.int .i64)) hv56 rfl rfl rfl rfl Ty.e54 Ty.s3 rfl) rfl ?_
            refine d0 rfl (o_ldS (f := (PV.int .i64)) hv56 rfl rfl rfl Ty.a3 rfl) rfl ?_
            obtain ⟨v69, hv59, h⟩ := bindE h
            refine d2 rfl (o_call (ds := [slab_Slab_string.Pv v68.1, .int .i64 v66]) rfl Ty.k33 rfl (slab_Get_string_ok hv59)) rfl ?_
            refine d7 rfl (fun _ hN => o_move (d := .tup [.str v69.1, .int .i64 v69.2]) rfl) rfl ?_
            refine d7 rfl (fun _ hN => o_extract rfl rfl) rfl ?_
            refine d7 rfl (fun _ hN => o_extract rfl rfl) rfl ?_
            refine d7 rfl (fun _ hN => o_assign (d := .str v69.1) rfl) rfl ?_
            refine d7 rfl (fun _ hN => o_assign (d := .int .i64 v69.2) rfl) rfl ?_
            refine d_nil ?_
            refine pw_seq ?_
            refine sr (by kernel_rfl) ?_
            refine y0 rfl (o_move (d := .int .i64 v67.2) rfl) ?_
            refine y0 rfl (o_cmp rfl rfl rfl) ?_
            refine y0 rfl (o_move (d := .bool (v67.2 != 0)) rfl) ?_
            refine y_if (g := ((v67.2 != 0) == false)) rfl (fun hg => o_move (d := .int .i64 v68.2) rfl) ?_
            refine y_if (g := ((v67.2 != 0) == false)) rfl (fun hg => o_cmp (ct hg) rfl rfl) ?_
            refine y0 rfl (pk_or rfl rfl rfl (fun q => eqF q)) ?_
            refine y0 rfl (o_move (d := .bool ((v67.2 != 0) || (v68.2 != 0))) rfl) ?_
            refine y_if (g := (((v67.2 != 0) || (v68.2 != 0)) == false)) rfl (fun hg => o_move (d := .str v67.1) rfl) ?_
            refine y_if (g := (((v67.2 != 0) || (v68.2 != 0)) == false)) rfl (fun hg => o_move (d := .lst false (List.map PV.str a1)) rfl) ?_
            refine y_if (g := (((v67.2 != 0) || (v68.2 != 0)) == false)) rfl (fun hg => o_move (d := .int .i64 s51) rfl) ?_
            obtain ⟨v70, hv60, h⟩ := bindE h
            refine y_if (g := (((v67.2 != 0) || (v68.2 != 0)) == false)) rfl (fun hg => o_ixL (f := PV.str) (cs := [.str v70]) (onlyE hv60 hg) (ct hg) (ct hg) Ty.e56 Ty.s9 rfl rfl) ?_
            refine y_if (g := (((v67.2 != 0) || (v68.2 != 0)) == false)) rfl (fun hg => o_loadRS (ct hg) Ty.a9 rfl) ?_
            refine y_if (g := (((v67.2 != 0) || (v68.2 != 0)) == false)) rfl (fun hg => o_neS (ct hg) (ct hg) rfl) ?_
            refine y0 rfl (pk_or rfl rfl rfl (fun q => eqF q)) ?_
            refine y0 rfl (o_move (d := .bool (((v67.2 != 0) || (v68.2 != 0)) || (!(v67.1.toList == v70.toList)))) rfl) ?_
            refine y_if (g := ((((v67.2 != 0) || (v68.2 != 0)) || (!(v67.1.toList == v70.toList))) == false)) rfl (fun hg => o_move (d := .str v69.1) rfl) ?_
            refine y_if (g := ((((v67.2 != 0) || (v68.2 != 0)) || (!(v67.1.toList == v70.toList))) == false)) rfl (fun hg => o_move (d := .str a2) rfl) ?_
            refine y_if (g := ((((v67.2 != 0) || (v68.2 != 0)) || (!(v67.1.toList == v70.toList))) == false)) rfl (fun hg => o_neS (ct hg) (ct hg) rfl) ?_
            refine y0 rfl (pk_or rfl rfl rfl (fun q => eqF q)) ?_
            refine y_nil ?_
            refine pw_cond ((((v67.2 != 0) || (v68.2 != 0)) || (!(v67.1.toList == v70.toList))) || (!(v69.1.toList == a2.toList))) rfl (fun hc => ?_) (fun hc => ?_)
            · have h := ifT h hc
              refine sr (by kernel_rfl) ?_
              refine y0 rfl (o_assign (d := .bool false) rfl) ?_
              refine y_nil ?_
              refine pw_ret ?_
              have he := hx43 _ (Option.some.inj h).symm
              have h := hk42
              rw [← he] at h
              obtain rfl := Option.some.inj h
              exact ⟨rfl, [_], ⟨rfl, trivial⟩, rfl, by first | exact .inl rfl | exact .inr rfl⟩
            · have h := ifF h hc
              refine pw_skip ?_
              refine sr (by kernel_rfl) ?_
              refine y0 rfl (o_assign (d := .int .i64 0) rfl) ?_
              refine y_nil ?_
              refine pw_block ?_
              obtain ⟨e71, hl61, hk62⟩ := bindE h
              refine pw_lp0 (fun (s72 : Int) => St.of [(1, .lst false (List.map PV.str a1)), (2, .str a2), (8, .ptr 8 0 0), (9, .sl 910009), (14, .int .i64 s51), (17, .ptr 17 0 0), (21, .int .i64 s72)] [(17, ⟨[slab_Slab_string.Pv v68.1], 0, false, 2, true⟩), (910009, ⟨List.map (PV.int .i64) j19, (List.map (PV.int .i64) j19).length, true, 1, true⟩), (8, ⟨[slab_Slab_string.Pv j18], 0, false, 2, true⟩)]) hl61 (Wk.trans (wk_frz _ [910009]) (wk_st _ _ ⟨rfl, rfl, rfl, rfl, rfl, rfl, rfl, rfl, rfl, rfl, rfl, rfl, rfl, rfl, rfl, rfl, rfl, rfl, rfl, rfl, rfl, trivial⟩ ⟨rowLe_same rfl rfl rfl (fun q => nomatch q) rfl rfl rfl, rowLe_same rfl rfl rfl (fun _ => rfl) rfl rfl rfl, rowLe_same rfl rfl rfl (fun q => nomatch q) rfl rfl rfl, trivial⟩)) (fun s72 x73 h hx63 => ?_)
              refine pw_seq ?_
              refine sr (by kernel_rfl) ?_
              refine y0 rfl (o_move (d := .int .i64 s72) rfl) ?_
              refine y0 rfl (o_move (d := .int .i64 s51) rfl) ?_
              refine y0 rfl (o_cmp rfl rfl rfl) ?_
              refine y_nil ?_
              refine pw_cond (decide (s72 < s51)) rfl (fun hc => ?_) (fun hc => ?_)
              · have h := ifT h hc
                refine pw_skip ?_
                refine pw_seq ?_
                refine pw_block ?_
                refine dr [] Ty.mix (by kernel_rfl) (by kernel_rfl) ?_
                refine d0 rfl (o_loadA (cs := slab_Slab_string.Pc v68.1) rfl rfl rfl Ty.a59 Ty.s59 (Nat.le_of_ble_eq_true rfl) rfl) rfl ?_
                refine d7 rfl (fun _ hN => o_move (d := .sl 910009) rfl) rfl ?_
                refine d7 rfl (fun _ hN => o_move (d := .int .i64 s72) rfl) rfl ?_
                obtain ⟨v74, hv64, h⟩ := bindE h
                refine d0 rfl (o_ixR (f := (PV.int .i64)) hv64 rfl rfl rfl rfl Ty.e54 Ty.s3 rfl) rfl ?_
                refine d0 rfl (o_ldS (f := (PV.int .i64)) hv64 rfl rfl rfl Ty.a3 rfl) rfl ?_
                obtain ⟨v75, hv65, h⟩ := bindE h
                refine d2 rfl (o_call (ds := [slab_Slab_string.Pv v68.1, .int .i64 v74]) rfl Ty.k33 rfl (slab_Get_string_ok hv65)) rfl ?_
                refine d7 rfl (fun _ hN => o_move (d := .tup [.str v75.1, .int .i64 v75.2]) rfl) rfl ?_
                refine d7 rfl (fun _ hN => o_extract rfl rfl) rfl ?_
                refine d7 rfl (fun _ hN => o_extract rfl rfl) rfl ?_
                refine d7 rfl (fun _ hN => o_assign (d := .str v75.1) rfl) rfl ?_
                refine d7 rfl (fun _ hN => o_assign (d := .int .i64 v75.2) rfl) rfl ?_
                refine d_nil ?_
                refine dr [] Ty.mix (by kernel_rfl) (by kernel_rfl) ?_
                refine d7 rfl (fun _ hN => o_move (d := .str v75.1) rfl) rfl ?_
                refine d7 rfl (fun _ hN => o_move (d := .lst false (List.map PV.str a1)) rfl) rfl ?_
                refine d7 rfl (fun _ hN => o_move (d := .int .i64 s72) rfl) rfl ?_
                obtain ⟨v76, hv66, h⟩ := bindE h
                refine d0 rfl (o_ixL (f := PV.str) (cs := [.str v76]) hv66 rfl rfl Ty.e56 Ty.s9 rfl rfl) rfl ?_
                refine d0 rfl (o_loadRS rfl Ty.a9 rfl) rfl ?_
                refine d7 rfl (fun _ hN => o_neS rfl rfl rfl) rfl ?_
                refine d7 rfl (fun _ hN => o_move (d := .bool (!(v75.1.toList == v76.toList))) rfl) rfl ?_
                refine d_if7 (g := ((!(v75.1.toList == v76.toList)) == false)) rfl (fun hg _ hN => o_move (d := .sl 910009) rfl) rfl ?_
                refine d_if7 (g := ((!(v75.1.toList == v76.toList)) == false)) rfl (fun hg _ hN => o_move (d := .int .i64 s72) rfl) rfl ?_
                refine d_if0 (g := ((!(v75.1.toList == v76.toList)) == false)) rfl (fun hg => o_ixR (f := (PV.int .i64)) hv64 (ct hg) rfl rfl (ct hg) Ty.e54 Ty.s3 rfl) rfl ?_
                refine d_if0 (g := ((!(v75.1.toList == v76.toList)) == false)) rfl (fun hg => o_ldS (f := (PV.int .i64)) hv64 (ct hg) rfl rfl Ty.a3 rfl) rfl ?_
                refine d_if7 (g := ((!(v75.1.toList == v76.toList)) == false)) rfl (fun hg _ hN => o_move (d := .sl 910009) rfl) rfl ?_
                refine d_if7 (g := ((!(v75.1.toList == v76.toList)) == false)) rfl (fun hg _ hN => o_move (d := .int .i64 s51) rfl) rfl ?_
                refine d_if0 (g := ((!(v75.1.toList == v76.toList)) == false)) rfl (fun hg => o_ixR (f := (PV.int .i64)) hv56 (ct hg) rfl rfl (ct hg) Ty.e54 Ty.s3 rfl) rfl ?_
                refine d_if0 (g := ((!(v75.1.toList == v76.toList)) == false)) rfl (fun hg => o_ldS (f := (PV.int .i64)) hv56 (ct hg) rfl rfl Ty.a3 rfl) rfl ?_
                refine d_if7 (g := ((!(v75.1.toList == v76.toList)) == false)) rfl (fun hg _ hN => o_cmp (ct hg) (ct hg) rfl) rfl ?_
                refine d7 rfl (fun _ hN => pk_or rfl rfl rfl (fun q => eqF q)) rfl ?_
                refine d_nil ?_
                refine pw_cond ((!(v75.1.toList == v76.toList)) || (v74 == v66)) rfl (fun hc => ?_) (fun hc => ?_)
                · have h := ifT h hc
                  refine sr (by kernel_rfl) ?_
                  refine y0 rfl (o_assign (d := .bool false) rfl) ?_
                  refine y_nil ?_
                  refine pw_ret ?_
                  have he := hx63 _ (Option.some.inj h).symm
                  have h := hk62
                  rw [← he] at h
                  have he := hx43 _ (Option.some.inj h).symm
                  have h := hk42
                  rw [← he] at h
                  obtain rfl := Option.some.inj h
                  exact ⟨rfl, [_], ⟨rfl, trivial⟩, rfl, by first | exact .inl rfl | exact .inr rfl⟩
                · have h := ifF h hc
                  refine pw_skip ?_
                  refine sr1 (by kernel_rfl) ?_
                  refine y0 rfl (o_move (d := .int .i64 s72) rfl) ?_
                  refine y0 rfl (o_ari rfl rfl rfl) ?_
                  refine y0 rfl (o_assign (d := .int .i64 (w64 (s72 + 1))) rfl) ?_
                  refine y_nil ?_
                  exact ⟨rfl, w64 (s72 + 1), (Option.some.inj h).symm, (Wk.trans (wk_frz _ [910009]) (wk_st _ _ ⟨rfl, rfl, rfl, rfl, rfl, rfl, rfl, rfl, rfl, rfl, rfl, rfl, rfl, rfl, rfl, rfl, rfl, rfl, rfl, rfl, rfl, trivial⟩ ⟨rowLe_same rfl rfl rfl (fun q => nomatch q) rfl rfl rfl, rowLe_same rfl rfl rfl (fun _ => rfl) rfl rfl rfl, rowLe_same rfl rfl rfl (fun q => nomatch q) rfl rfl rfl, trivial⟩))⟩
              · have h := ifF h hc
                refine pw_exit ?_
                refine thenQ_exit ?_
                refine thenQ_exit ?_
                refine blockQ_exit ?_
                have he := hx63 _ (Option.some.inj h).symm
                have h := hk62
                rw [← he] at h
                exact ⟨rfl, (), h, (Wk.trans (wk_frz _ [910009]) (wk_st _ _ ⟨rfl, rfl, rfl, rfl, rfl, rfl, rfl, rfl, rfl, rfl, rfl, rfl, rfl, rfl, rfl, trivial⟩ ⟨rowLe_same rfl rfl rfl (fun _ => rfl) rfl rfl rfl, rowLe_same rfl rfl rfl (fun q => nomatch q) rfl rfl rfl, trivial⟩))⟩
        · have h := ifF h hc
          refine pw_exit ?_
          refine thenQ_exit ?_
          refine thenQ_exit ?_
          refine blockQ_exit ?_
          have he := hx43 _ (Option.some.inj h).symm
          have h := hk42
          rw [← he] at h
          exact ⟨rfl, (), h, (wk_st _ _ trivial trivial)⟩
    · skip
      refine sr (by kernel_rfl) ?_
      refine y0 rfl (o_assign (d := .int .i64 0) rfl) ?_
      refine y_nil ?_
      refine pw_block ?_
      obtain ⟨e77, hl67, hk68⟩ := bindE h
      refine pw_lp0 (fun (q : Int × slab_Slab_string × (List Int)) => St.of [(1, .lst false (List.map PV.str a1)), (2, .str a2), (7, .int .i64 (w64 (1 + v1))), (8, .ptr 8 0 0), (9, .sl 910009), (10, .int .i64 q.1)] [(8, ⟨[slab_Slab_string.Pv q.2.1], 0, false, 2, true⟩), (910009, ⟨List.map (PV.int .i64) q.2.2, (List.map (PV.int .i64) q.2.2).length, true, 1, true⟩)]) hl67 (Wk.trans (wk_nil (t := 9) (l := 920009) (z := 1) rfl rfl) (wk_stP (fun l => if l = 910009 then 920009 else l) _ _ ⟨rfl, rfl, rfl, rfl, rfl, rfl, rfl, rfl, rfl, rfl, rfl, rfl, rfl, rfl, rfl, rfl, rfl, rfl, trivial⟩ ⟨rowLe_ren rfl rfl rfl (fun q => nomatch q) rfl rfl rfl, rowLe_ren rfl rfl rfl (fun _ => rfl) rfl rfl rfl, trivial⟩ rfl)) (fun q82 x81 h hx69 => ?_)
      obtain ⟨s78, s79, s80⟩ := q82
      refine pw_seq ?_
      refine sr (by kernel_rfl) ?_
      refine y0 rfl (o_move (d := .int .i64 s78) rfl) ?_
      refine y0 rfl (o_move (d := .lst false (List.map PV.str a1)) rfl) ?_
      refine y0 rfl (o_lnL (f := PV.str) rfl Ty.e56) ?_
      refine y0 rfl (o_cmp rfl rfl rfl) ?_
      refine y_nil ?_
      refine pw_cond (decide (s78 < (a1.length : Int))) rfl (fun hc => ?_) (fun hc => ?_)
      · have h := ifT h hc
        refine pw_skip ?_
        refine pw_seq ?_
        refine pw_block ?_
        refine dr [] Ty.mix (by kernel_rfl) (by kernel_rfl) ?_
        refine d0 rfl (o_loadA (cs := slab_Slab_string.Pc s79) rfl rfl rfl Ty.a59 Ty.s59 (Nat.le_of_ble_eq_true rfl) rfl) rfl ?_
        refine d7 rfl (fun _ hN => o_move (d := .lst false (List.map PV.str a1)) rfl) rfl ?_
        refine d7 rfl (fun _ hN => o_move (d := .int .i64 s78) rfl) rfl ?_
        obtain ⟨v83, hv70, h⟩ := bindE h
        refine d0 rfl (o_ixL (f := PV.str) (cs := [.str v83]) hv70 rfl rfl Ty.e56 Ty.s9 rfl rfl) rfl ?_
        refine d0 rfl (o_loadRS rfl Ty.a9 rfl) rfl ?_
        obtain ⟨v84, hv71, h⟩ := bindE h
        refine d2f rfl (o_callF (ls := []) (ds := [slab_Slab_string.Pv s79, .str v83]) rfl Ty.k32 rfl (slab_Take_string_ok hv71)) rfl ?_
        refine d7 rfl (fun _ hN => o_move (d := .tup [slab_Slab_string.Pv v84.1, .int .i64 v84.2.1, .int .i64 v84.2.2]) rfl) rfl ?_
        refine d7 rfl (fun _ hN => o_extract rfl rfl) rfl ?_
        refine d7 rfl (fun _ hN => o_extract rfl rfl) rfl ?_
        refine d7 rfl (fun _ hN => o_extract rfl rfl) rfl ?_
        refine d1 rfl (o_alloc (d := .agg [.lst false (List.map slab_Cell_string.Pv []), .int .i64 0]) (z := 2) rfl Ty.z59 rfl rfl rfl) rfl rfl rfl ?_
        refine d_sto (x' := slab_Slab_string.Pv v84.1) (cl' := true) rfl rfl (.inr rfl) Ty.s59 ?_
        refine d7 rfl (fun _ hN => o_assign (d := .int .i64 v84.2.1) rfl) rfl ?_
        refine d7 rfl (fun _ hN => o_assign (d := .int .i64 v84.2.2) rfl) rfl ?_
        refine d_nil ?_
        refine pw_seq ?_
        refine sr (by kernel_rfl) ?_
        refine y0 rfl (o_move (d := .int .i64 v84.2.2) rfl) ?_
        refine y0 rfl (o_cmp rfl rfl rfl) ?_
        refine y0 rfl (o_move (d := .int .i64 s78) rfl) ?_
        refine y0 rfl (o_move (d := .int .i64 (w64 (1 + v1))) rfl) ?_
        refine y0 rfl (o_cmp rfl rfl rfl) ?_
        refine y0 rfl (o_neB rfl rfl Ty.u4 rfl) ?_
        refine y_nil ?_
        refine pw_cond ((v84.2.2 == 0) != (decide (s78 < (w64 (1 + v1))))) rfl (fun hc => ?_) (fun hc => ?_)
        · have h := ifT h hc
          refine sr (by kernel_rfl) ?_
          refine y0 rfl (o_assign (d := .bool false) rfl) ?_
          refine y_nil ?_
          refine pw_ret ?_
          have he := hx69 _ (Option.some.inj h).symm
          have h := hk68
          rw [← he] at h
          obtain rfl := Option.some.inj h
          exact ⟨rfl, [_], ⟨rfl, trivial⟩, rfl, by first | exact .inl rfl | exact .inr rfl⟩
        · have h := ifF h hc
          refine pw_skip ?_
          obtain ⟨κ86, hκ73, h⟩ := jnE h
          refine pw_jn0 (κ := κ86) (r := x81) (fun (j87 : List Int) => St.of [(1, .lst false (List.map PV.str a1)), (2, .str a2), (7, .int .i64 (w64 (1 + v1))), (8, .ptr 8 0 0), (9, .sl 66), (10, .int .i64 s78), (11, .ptr 11 0 0)] [(11, ⟨[slab_Slab_string.Pv v84.1], 0, false, 2, true⟩), (66, ⟨List.map (PV.int .i64) j87, (List.map (PV.int .i64) j87).length, true, 1, true⟩), (8, ⟨[slab_Slab_string.Pv s79], 0, false, 2, true⟩)]) (fun j87 h => ?_) ?_
          · subst hκ73
            refine sr1 (by kernel_rfl) ?_
            refine y0 rfl (o_loadA (cs := slab_Slab_string.Pc v84.1) rfl rfl rfl Ty.a59 Ty.s59 (Nat.le_of_ble_eq_true rfl) rfl) ?_
            refine y_sto (x' := slab_Slab_string.Pv v84.1) (cl' := true) rfl rfl (.inr rfl) Ty.s59 ?_
            refine y_nil ?_
            refine sr1 (by kernel_rfl) ?_
            refine y0 rfl (o_move (d := .int .i64 s78) rfl) ?_
            refine y0 rfl (o_ari rfl rfl rfl) ?_
            refine y0 rfl (o_assign (d := .int .i64 (w64 (s78 + 1))) rfl) ?_
            refine y_nil ?_
            exact ⟨rfl, (w64 (s78 + 1), v84.1, j87), (Option.some.inj h).symm, (Wk.trans (wk_frz _ [66]) (wk_stP (fun l => if l = 910009 then 66 else l) _ _ ⟨rfl, rfl, rfl, rfl, rfl, rfl, rfl, rfl, rfl, rfl, rfl, rfl, rfl, rfl, rfl, rfl, rfl, rfl, trivial⟩ ⟨rowLe_ren rfl rfl rfl (fun q => nomatch q) rfl rfl rfl, rowLe_ren rfl rfl rfl (fun _ => rfl) rfl rfl rfl, trivial⟩ rfl))⟩
          · skip
            refine sr (by kernel_rfl) ?_
            refine y0 rfl (o_move (d := .int .i64 v84.2.2) rfl) ?_
            refine y0 rfl (o_cmp rfl rfl rfl) ?_
            refine y_nil ?_
            refine pw_cond (v84.2.2 == 0) rfl (fun hc => ?_) (fun hc => ?_)
            · have h := ifT h hc
              refine sr1 (by kernel_rfl) ?_
              refine y0 rfl (o_move (d := .sl 910009) rfl) ?_
              refine y0 rfl (o_move (d := .int .i64 v84.2.1) rfl) ?_
              refine y0 rfl (o_bI (f := (PV.int .i64)) (l := [v84.2.1]) rfl Ty.e54 Ty.s3 Ty.z3 rfl rfl (Nat.le_of_ble_eq_true rfl) rfl rfl) ?_
              obtain ⟨v88, hv74, h⟩ := bindE h
              refine y_app rfl (o_apR (f := (PV.int .i64)) hv74 rfl rfl rfl rfl rfl rfl (.inl ⟨_, rfl, rfl⟩) Ty.e54 Ty.s3 Ty.b3 Ty.z3 rfl (fun _ => rfl)) rfl rfl rfl ?_
              refine y0 rfl (o_assign (d := .sl 66) rfl) ?_
              refine y_nil ?_
              exact ⟨rfl, v88, h, (Wk.trans (wk_frz _ [66]) (wk_st _ _ ⟨rfl, rfl, rfl, rfl, rfl, rfl, rfl, rfl, rfl, rfl, rfl, rfl, rfl, rfl, rfl, rfl, rfl, rfl, rfl, rfl, rfl, trivial⟩ ⟨rowLe_same rfl rfl rfl (fun q => nomatch q) rfl rfl rfl, rowLe_same rfl rfl rfl (fun _ => rfl) rfl rfl rfl, rowLe_same rfl rfl rfl (fun q => nomatch q) rfl rfl rfl, trivial⟩))⟩
            · have h := ifF h hc
              refine pw_skip ?_
              exact ⟨rfl, s80, h, (Wk.trans (wk_frz _ [910009]) (wk_stP (fun l => if l = 66 then 910009 else l) _ _ ⟨rfl, rfl, rfl, rfl, rfl, rfl, rfl, rfl, rfl, rfl, rfl, rfl, rfl, rfl, rfl, rfl, rfl, rfl, rfl, rfl, rfl, trivial⟩ ⟨rowLe_ren rfl rfl rfl (fun q => nomatch q) rfl rfl rfl, rowLe_ren rfl rfl rfl (fun _ => rfl) rfl rfl rfl, rowLe_ren rfl rfl rfl (fun q => nomatch q) rfl rfl rfl, trivial⟩ rfl))⟩
      · have h := ifF h hc
        refine pw_exit ?_
        refine thenQ_exit ?_
        refine thenQ_exit ?_
        refine blockQ_exit ?_
        have he := hx69 _ (Option.some.inj h).symm
        have h := hk68
        rw [← he] at h
        exact ⟨rfl, (s79, s80), h, (Wk.trans (wk_frz _ [910009]) (wk_st _ _ ⟨rfl, rfl, rfl, rfl, rfl, rfl, rfl, rfl, rfl, rfl, rfl, rfl, trivial⟩ ⟨rowLe_same rfl rfl rfl (fun _ => rfl) rfl rfl rfl, rowLe_same rfl rfl rfl (fun q => nomatch q) rfl rfl rfl, trivial⟩))⟩

set_option maxHeartbeats 4000000 in
theorem w03_SlabFirst_ok {a0 : slab_Slab_int} {a1 : Int} {a2 : Int} {r : Bool} (h : w03_SlabFirst a0 a1 a2 = some r) : PCalls Try.prog 9 [slab_Slab_int.Pv a0, .int .i64 a1, .int .i64 a2] (.bool r) := by
  unfold w03_SlabFirst at h
  refine pc_intro (N := 128) Try.func9 rfl rfl (Nat.le_of_ble_eq_true rfl) fun w0 imm0 => ?_
  refine sr (by kernel_rfl) ?_
  refine y1 rfl (o_box (d := slab_Slab_int.Pv a0) (z := 2) (cl := true) rfl rfl rfl rfl rfl) rfl ?_
  refine y0 rfl (o_assign (d := .bool false) rfl) ?_
  refine y_nil ?_
  refine pw_seq ?_
  refine sr (by kernel_rfl) ?_
  refine y0 rfl (o_loadA (cs := slab_Slab_int.Pc a0) rfl rfl rfl Ty.a24 Ty.s24 (Nat.le_of_ble_eq_true rfl) rfl) ?_
  obtain ⟨v1, hv1, h⟩ := bindE h
  refine y0 rfl (o_call (ds := [slab_Slab_int.Pv a0]) rfl Ty.k11 rfl (w03_right_ok hv1)) ?_
  refine y0 rfl (o_not rfl rfl) ?_
  refine y0 rfl (o_move (d := .bool (!v1)) rfl) ?_
  obtain ⟨v2, hv2, h⟩ := bindE h
  refine y_if (g := ((!v1) == false)) rfl (fun hg => o_call (ds := []) rfl Ty.k12 rfl (w03_shown_ok (onlyE hv2 hg))) ?_
  refine y_if (g := ((!v1) == false)) rfl (fun hg => o_not (ct hg) rfl) ?_
  refine y0 rfl (pk_or rfl rfl rfl (fun q => eqF q)) ?_
  refine y_nil ?_
  refine pw_cond ((!v1) || (!v2)) rfl (fun hc => ?_) (fun hc => ?_)
  · have h := ifT h hc
    refine sr (by kernel_rfl) ?_
    obtain ⟨v3, hv3, h⟩ := bindE h
    refine y0 rfl (o_call (ds := []) rfl Ty.k12 rfl (w03_shown_ok hv3)) ?_
    refine y0 rfl (o_assign (d := .bool v3) rfl) ?_
    refine y_nil ?_
    refine pw_ret ?_
    obtain rfl := Option.some.inj h
    exact ⟨rfl, [_], ⟨rfl, trivial⟩, rfl, by first | exact .inl rfl | exact .inr rfl⟩
  · have h := ifF h hc
    refine pw_skip ?_
    refine sr (by kernel_rfl) ?_
    refine y0 rfl (o_loadA (cs := slab_Slab_int.Pc a0) rfl rfl rfl Ty.a24 Ty.s24 (Nat.le_of_ble_eq_true rfl) rfl) ?_
    refine y0 rfl (o_move (d := .int .i64 a2) rfl) ?_
    obtain ⟨v4, hv4, h⟩ := bindE h
    refine y0 rfl (o_call (ds := [slab_Slab_int.Pv a0, .int .i64 a2]) rfl Ty.k18 rfl (slab_Get_int_ok hv4)) ?_
    refine y0 rfl (o_move (d := .tup [.int .i64 v4.1, .int .i64 v4.2]) rfl) ?_
    refine y0 rfl (o_extract rfl rfl) ?_
    refine y0 rfl (o_extract rfl rfl) ?_
    refine y0 rfl (o_assign (d := .int .i64 v4.1) rfl) ?_
    refine y0 rfl (o_assign (d := .int .i64 v4.2) rfl) ?_
    refine y_nil ?_
    refine sr (by kernel_rfl) ?_
    refine y0 rfl (o_loadA (cs := slab_Slab_int.Pc a0) rfl rfl rfl Ty.a24 Ty.s24 (Nat.le_of_ble_eq_true rfl) rfl) ?_
    refine y0 rfl (o_move (d := .int .i64 a1) rfl) ?_
    obtain ⟨v5, hv5, h⟩ := bindE h
    refine yc rfl (o_callF (ls := []) (ds := [slab_Slab_int.Pv a0, .int .i64 a1]) rfl Ty.k14 rfl (slab_Take_int_ok hv5)) ?_
    refine y0 rfl (o_move (d := .tup [slab_Slab_int.Pv v5.1, .int .i64 v5.2.1, .int .i64 v5.2.2]) rfl) ?_
    refine y0 rfl (o_extract rfl rfl) ?_
    refine y0 rfl (o_extract rfl rfl) ?_
    refine y0 rfl (o_extract rfl rfl) ?_
    refine y1 rfl (o_alloc (d := .agg [.lst false (List.map slab_Cell_int.Pv []), .int .i64 0]) (z := 2) rfl Ty.z24 rfl rfl rfl) rfl ?_
    refine y_sto (x' := slab_Slab_int.Pv v5.1) (cl' := true) rfl rfl (.inr rfl) Ty.s24 ?_
    refine y0 rfl (o_assign (d := .int .i64 v5.2.1) rfl) ?_
    refine y0 rfl (o_assign (d := .int .i64 v5.2.2) rfl) ?_
    refine y_nil ?_
    refine sr (by kernel_rfl) ?_
    refine y0 rfl (o_loadA (cs := slab_Slab_int.Pc v5.1) rfl rfl rfl Ty.a24 Ty.s24 (Nat.le_of_ble_eq_true rfl) rfl) ?_
    refine y0 rfl (o_move (d := .int .i64 a2) rfl) ?_
    obtain ⟨v6, hv6, h⟩ := bindE h
    refine y0 rfl (o_call (ds := [slab_Slab_int.Pv v5.1, .int .i64 a2]) rfl Ty.k18 rfl (slab_Get_int_ok hv6)) ?_
    refine y0 rfl (o_move (d := .tup [.int .i64 v6.1, .int .i64 v6.2]) rfl) ?_
    refine y0 rfl (o_extract rfl rfl) ?_
    refine y0 rfl (o_extract rfl rfl) ?_
    refine y0 rfl (o_assign (d := .int .i64 v6.1) rfl) ?_
    refine y0 rfl (o_assign (d := .int .i64 v6.2) rfl) ?_
    refine y_nil ?_
    refine pw_seq ?_
    refine sr (by kernel_rfl) ?_
    refine y0 rfl (o_move (d := .int .i64 v5.2.2) rfl) ?_
    refine y0 rfl (o_cmp rfl rfl rfl) ?_
    refine y_nil ?_
    refine pw_cond (v5.2.2 != 0) rfl (fun hc => ?_) (fun hc => ?_)
    · have h := ifT h hc
      refine sr (by kernel_rfl) ?_
      refine y0 rfl (o_move (d := .int .i64 v5.2.1) rfl) ?_
      refine y0 rfl (o_cmp rfl rfl rfl) ?_
      refine y0 rfl (o_move (d := .bool (v5.2.1 == 0)) rfl) ?_
      refine y_if (g := ((v5.2.1 == 0) == true)) rfl (fun hg => o_move (d := .int .i64 v4.1) rfl) ?_
      refine y_if (g := ((v5.2.1 == 0) == true)) rfl (fun hg => o_move (d := .int .i64 v6.1) rfl) ?_
      refine y_if (g := ((v5.2.1 == 0) == true)) rfl (fun hg => o_cmp (ct hg) (ct hg) rfl) ?_
      refine y0 rfl (pk_and rfl rfl rfl (fun q => eqT q)) ?_
      refine y0 rfl (o_move (d := .bool ((v5.2.1 == 0) && (v4.1 == v6.1))) rfl) ?_
      refine y_if (g := (((v5.2.1 == 0) && (v4.1 == v6.1)) == true)) rfl (fun hg => o_move (d := .int .i64 v4.2) rfl) ?_
      refine y_if (g := (((v5.2.1 == 0) && (v4.1 == v6.1)) == true)) rfl (fun hg => o_move (d := .int .i64 v6.2) rfl) ?_
      refine y_if (g := (((v5.2.1 == 0) && (v4.1 == v6.1)) == true)) rfl (fun hg => o_cmp (ct hg) (ct hg) rfl) ?_
      refine y0 rfl (pk_and rfl rfl rfl (fun q => eqT q)) ?_
      refine y0 rfl (o_assign (d := .bool (((v5.2.1 == 0) && (v4.1 == v6.1)) && (v4.2 == v6.2))) rfl) ?_
      refine y_nil ?_
      refine pw_ret ?_
      obtain rfl := Option.some.inj h
      exact ⟨rfl, [_], ⟨rfl, trivial⟩, rfl, by first | exact .inl rfl | exact .inr rfl⟩
    · have h := ifF h hc
      refine pw_skip ?_
      refine sr (by kernel_rfl) ?_
      refine y0 rfl (o_loadA (cs := slab_Slab_int.Pc v5.1) rfl rfl rfl Ty.a24 Ty.s24 (Nat.le_of_ble_eq_true rfl) rfl) ?_
      refine y0 rfl (o_move (d := .int .i64 v5.2.1) rfl) ?_
      obtain ⟨v7, hv7, h⟩ := bindE h
      refine y0 rfl (o_call (ds := [slab_Slab_int.Pv v5.1, .int .i64 v5.2.1]) rfl Ty.k16 rfl (slab_Find_int_ok hv7)) ?_
      refine y0 rfl (o_move (d := .tup [.int .i64 v7.1, .int .i64 v7.2]) rfl) ?_
      refine y0 rfl (o_extract rfl rfl) ?_
      refine y0 rfl (o_extract rfl rfl) ?_
      refine y0 rfl (o_assign (d := .int .i64 v7.1) rfl) ?_
      refine y0 rfl (o_assign (d := .int .i64 v7.2) rfl) ?_
      refine y_nil ?_
      refine pw_seq ?_
      refine sr (by kernel_rfl) ?_
      refine y0 rfl (o_move (d := .int .i64 v7.2) rfl) ?_
      refine y0 rfl (o_cmp rfl rfl rfl) ?_
      refine y0 rfl (o_move (d := .bool (v7.2 != 0)) rfl) ?_
      refine y_if (g := ((v7.2 != 0) == false)) rfl (fun hg => o_move (d := .int .i64 v7.1) rfl) ?_
      refine y_if (g := ((v7.2 != 0) == false)) rfl (fun hg => o_cmp (ct hg) rfl rfl) ?_
      refine y0 rfl (pk_or rfl rfl rfl (fun q => eqF q)) ?_
      refine y0 rfl (o_move (d := .bool ((v7.2 != 0) || (decide (v7.1 < 0)))) rfl) ?_
      refine y_if (g := (((v7.2 != 0) || (decide (v7.1 < 0))) == false)) rfl (fun hg => o_move (d := .int .i64 v7.1) rfl) ?_
      refine y_if (g := (((v7.2 != 0) || (decide (v7.1 < 0))) == false)) rfl (fun hg => o_fieldAddrP (k := 0) rfl Ty.f24_0 rfl) ?_
      refine y_if (g := (((v7.2 != 0) || (decide (v7.1 < 0))) == false)) rfl (fun hg => o_loadS (ct hg) rfl rfl Ty.a22 rfl) ?_
      refine y_if (g := (((v7.2 != 0) || (decide (v7.1 < 0))) == false)) rfl (fun hg => o_lnL (f := slab_Cell_int.Pv) (ct hg) Ty.e22) ?_
      refine y_if (g := (((v7.2 != 0) || (decide (v7.1 < 0))) == false)) rfl (fun hg => o_cmp (ct hg) (ct hg) rfl) ?_
      refine y0 rfl (pk_or rfl rfl rfl (fun q => eqF q)) ?_
      refine y0 rfl (o_move (d := .bool (((v7.2 != 0) || (decide (v7.1 < 0))) || (decide (v7.1 ≥ (a0.Cells.length : Int))))) rfl) ?_
      refine y_if (g := ((((v7.2 != 0) || (decide (v7.1 < 0))) || (decide (v7.1 ≥ (a0.Cells.length : Int)))) == false)) rfl (fun hg => o_fieldAddrP (k := 0) rfl Ty.f24_0 rfl) ?_
      refine y_if (g := ((((v7.2 != 0) || (decide (v7.1 < 0))) || (decide (v7.1 ≥ (a0.Cells.length : Int)))) == false)) rfl (fun hg => o_loadS (ct hg) rfl rfl Ty.a22 rfl) ?_
      refine y_if (g := ((((v7.2 != 0) || (decide (v7.1 < 0))) || (decide (v7.1 ≥ (a0.Cells.length : Int)))) == false)) rfl (fun hg => o_move (d := .int .i64 v7.1) rfl) ?_
      obtain ⟨v8, hv8, h⟩ := bindE h
      refine y_if (g := ((((v7.2 != 0) || (decide (v7.1 < 0))) || (decide (v7.1 ≥ (a0.Cells.length : Int)))) == false)) rfl (fun hg => o_ixL (f := slab_Cell_int.Pv) (cs := slab_Cell_int.Pc v8) (onlyE hv8 hg) (ct hg) (ct hg) Ty.e22 Ty.s69 rfl rfl) ?_
      refine y_if (g := ((((v7.2 != 0) || (decide (v7.1 < 0))) || (decide (v7.1 ≥ (a0.Cells.length : Int)))) == false)) rfl (fun hg => o_fieldAddrR (ct hg) Ty.f69_0 rfl) ?_
      refine y_if (g := ((((v7.2 != 0) || (decide (v7.1 < 0))) || (decide (v7.1 ≥ (a0.Cells.length : Int)))) == false)) rfl (fun hg => o_loadRS (ct hg) Ty.a3 rfl) ?_
      refine y_if (g := ((((v7.2 != 0) || (decide (v7.1 < 0))) || (decide (v7.1 ≥ (a0.Cells.length : Int)))) == false)) rfl (fun hg => o_cmp (ct hg) rfl rfl) ?_
      refine y0 rfl (pk_or rfl rfl rfl (fun q => eqF q)) ?_
      refine y_nil ?_
      refine pw_cond ((((v7.2 != 0) || (decide (v7.1 < 0))) || (decide (v7.1 ≥ (a0.Cells.length : Int)))) || (v8.State != 0)) rfl (fun hc => ?_) (fun hc => ?_)
      · have h := ifT h hc
        refine sr (by kernel_rfl) ?_
        refine y0 rfl (o_assign (d := .bool false) rfl) ?_
        refine y_nil ?_
        refine pw_ret ?_
        obtain rfl := Option.some.inj h
        exact ⟨rfl, [_], ⟨rfl, trivial⟩, rfl, by first | exact .inl rfl | exact .inr rfl⟩
      · have h := ifF h hc
        refine pw_skip ?_
        obtain ⟨κ13, hκ13, h⟩ := jnE h
        refine pw_jn0 (κ := κ13) (r := r) (fun (_ : Unit) => St.of [(1, .int .i64 a1), (2, .int .i64 a2), (7, .int .i64 v4.1), (8, .int .i64 v4.2), (9, .ptr 9 0 0), (10, .int .i64 v5.2.1), (12, .int .i64 v6.1), (13, .int .i64 v6.2)] [(9, ⟨[slab_Slab_int.Pv v5.1], 0, false, 2, true⟩)]) (fun q14 h => ?_) ?_
        · subst hκ13
          refine sr (by kernel_rfl) ?_
          refine y0 rfl (o_loadA (cs := slab_Slab_int.Pc v5.1) rfl rfl rfl Ty.a24 Ty.s24 (Nat.le_of_ble_eq_true rfl) rfl) ?_
          refine y0 rfl (o_move (d := .int .i64 v5.2.1) rfl) ?_
          obtain ⟨v15, hv14, h⟩ := bindE h
          refine y0 rfl (o_call (ds := [slab_Slab_int.Pv v5.1, .int .i64 v5.2.1]) rfl Ty.k18 rfl (slab_Get_int_ok hv14)) ?_
          refine y0 rfl (o_move (d := .tup [.int .i64 v15.1, .int .i64 v15.2]) rfl) ?_
          refine y0 rfl (o_extract rfl rfl) ?_
          refine y0 rfl (o_extract rfl rfl) ?_
          refine y0 rfl (o_assign (d := .int .i64 v15.1) rfl) ?_
          refine y0 rfl (o_assign (d := .int .i64 v15.2) rfl) ?_
          refine y_nil ?_
          refine sr (by kernel_rfl) ?_
          refine y0 rfl (o_move (d := .int .i64 v15.1) rfl) ?_
          refine y0 rfl (o_move (d := .int .i64 a1) rfl) ?_
          refine y0 rfl (o_cmp rfl rfl rfl) ?_
          refine y0 rfl (o_move (d := .bool (v15.1 == a1)) rfl) ?_
          refine y_if (g := ((v15.1 == a1) == true)) rfl (fun hg => o_move (d := .int .i64 v15.2) rfl) ?_
          refine y_if (g := ((v15.1 == a1) == true)) rfl (fun hg => o_cmp (ct hg) rfl rfl) ?_
          refine y0 rfl (pk_and rfl rfl rfl (fun q => eqT q)) ?_
          refine y0 rfl (o_move (d := .bool ((v15.1 == a1) && (v15.2 == 0))) rfl) ?_
          refine y_if (g := (((v15.1 == a1) && (v15.2 == 0)) == true)) rfl (fun hg => o_move (d := .int .i64 a2) rfl) ?_
          refine y_if (g := (((v15.1 == a1) && (v15.2 == 0)) == true)) rfl (fun hg => o_move (d := .int .i64 v5.2.1) rfl) ?_
          refine y_if (g := (((v15.1 == a1) && (v15.2 == 0)) == true)) rfl (fun hg => o_cmp (ct hg) (ct hg) rfl) ?_
          refine y_if (g := (((v15.1 == a1) && (v15.2 == 0)) == true)) rfl (fun hg => o_move (d := .bool (a2 == v5.2.1)) (ct hg)) ?_
          refine y_if (g := ((((v15.1 == a1) && (v15.2 == 0)) == true) && ((a2 == v5.2.1) == false))) (want2 rfl rfl rfl) (fun hg => o_move (d := .int .i64 v4.1) rfl) ?_
          refine y_if (g := ((((v15.1 == a1) && (v15.2 == 0)) == true) && ((a2 == v5.2.1) == false))) (want2 rfl rfl rfl) (fun hg => o_move (d := .int .i64 v6.1) rfl) ?_
          refine y_if (g := ((((v15.1 == a1) && (v15.2 == 0)) == true) && ((a2 == v5.2.1) == false))) (want2 rfl rfl rfl) (fun hg => o_cmp (ct hg) (ct hg) rfl) ?_
          refine y_if (g := ((((v15.1 == a1) && (v15.2 == 0)) == true) && ((a2 == v5.2.1) == false))) (want2 rfl rfl rfl) (fun hg => o_move (d := .bool (v4.1 == v6.1)) (ct hg)) ?_
          refine y_if (g := (((((v15.1 == a1) && (v15.2 == 0)) == true) && ((a2 == v5.2.1) == false)) && ((v4.1 == v6.1) == true))) (want2 rfl rfl rfl) (fun hg => o_move (d := .int .i64 v4.2) rfl) ?_
          refine y_if (g := (((((v15.1 == a1) && (v15.2 == 0)) == true) && ((a2 == v5.2.1) == false)) && ((v4.1 == v6.1) == true))) (want2 rfl rfl rfl) (fun hg => o_move (d := .int .i64 v6.2) rfl) ?_
          refine y_if (g := (((((v15.1 == a1) && (v15.2 == 0)) == true) && ((a2 == v5.2.1) == false)) && ((v4.1 == v6.1) == true))) (want2 rfl rfl rfl) (fun hg => o_cmp (ct hg) (ct hg) rfl) ?_
          refine y_if (g := ((((v15.1 == a1) && (v15.2 == 0)) == true) && ((a2 == v5.2.1) == false))) (want2 rfl rfl rfl) (fun hg => pk_and (ct hg) rfl rfl (fun q => andI hg (eqT q))) ?_
          refine y_if (g := (((v15.1 == a1) && (v15.2 == 0)) == true)) rfl (fun hg => pk_or (ct hg) rfl rfl (fun q => andI hg (eqF q))) ?_
          refine y0 rfl (pk_and rfl rfl rfl (fun q => eqT q)) ?_
          refine y0 rfl (o_assign (d := .bool (((v15.1 == a1) && (v15.2 == 0)) && ((a2 == v5.2.1) || ((v4.1 == v6.1) && (v4.2 == v6.2))))) rfl) ?_
          refine y_nil ?_
          refine pw_ret ?_
          obtain rfl := Option.some.inj h
          exact ⟨rfl, [_], ⟨rfl, trivial⟩, rfl, by first | exact .inl rfl | exact .inr rfl⟩
        · skip
          refine sr (by kernel_rfl) ?_
          refine y0 rfl (o_assign (d := .int .i64 0) rfl) ?_
          refine y_nil ?_
          refine pw_block ?_
          obtain ⟨e16, hl15, hk16⟩ := bindE h
          refine pw_lp0 (fun (s17 : Int) => St.of [(1, .int .i64 a1), (2, .int .i64 a2), (3, .ptr 3 0 0), (7, .int .i64 v4.1), (8, .int .i64 v4.2), (9, .ptr 9 0 0), (10, .int .i64 v5.2.1), (12, .int .i64 v6.1), (13, .int .i64 v6.2), (14, .int .i64 v7.1), (16, .int .i64 s17)] [(9, ⟨[slab_Slab_int.Pv v5.1], 0, false, 2, true⟩), (3, ⟨[slab_Slab_int.Pv a0], 0, false, 2, true⟩)]) hl15 (wk_st _ _ ⟨rfl, rfl, rfl, rfl, rfl, rfl, rfl, rfl, rfl, rfl, rfl, rfl, rfl, rfl, rfl, rfl, rfl, rfl, rfl, rfl, rfl, rfl, rfl, rfl, rfl, rfl, rfl, rfl, rfl, rfl, rfl, rfl, rfl, trivial⟩ ⟨rowLe_same rfl rfl rfl (fun q => nomatch q) rfl rfl rfl, rowLe_same rfl rfl rfl (fun q => nomatch q) rfl rfl rfl, trivial⟩) (fun s17 x18 h hx17 => ?_)
          refine pw_seq ?_
          refine sr (by kernel_rfl) ?_
          refine y0 rfl (o_move (d := .int .i64 s17) rfl) ?_
          refine y0 rfl (o_move (d := .int .i64 v7.1) rfl) ?_
          refine y0 rfl (o_cmp rfl rfl rfl) ?_
          refine y_nil ?_
          refine pw_cond (decide (s17 < v7.1)) rfl (fun hc => ?_) (fun hc => ?_)
          · have h := ifT h hc
            refine pw_skip ?_
            refine pw_seq ?_
            refine pw_block ?_
            refine sr (by kernel_rfl) ?_
            refine y0 rfl (o_fieldAddrP (k := 0) rfl Ty.f24_0 rfl) ?_
            refine y0 rfl (o_loadS rfl rfl rfl Ty.a22 rfl) ?_
            refine y0 rfl (o_move (d := .int .i64 s17) rfl) ?_
            obtain ⟨v19, hv18, h⟩ := bindE h
            refine y0 rfl (o_ixL (f := slab_Cell_int.Pv) (cs := slab_Cell_int.Pc v19) hv18 rfl rfl Ty.e22 Ty.s69 rfl rfl) ?_
            refine y0 rfl (o_fieldAddrR rfl Ty.f69_0 rfl) ?_
            refine y0 rfl (o_loadRS rfl Ty.a3 rfl) ?_
            refine y0 rfl (o_cmp rfl rfl rfl) ?_
            refine y_nil ?_
            refine pw_cond (v19.State == 0) rfl (fun hc => ?_) (fun hc => ?_)
            · have h := ifT h hc
              refine sr (by kernel_rfl) ?_
              refine y0 rfl (o_assign (d := .bool false) rfl) ?_
              refine y_nil ?_
              refine pw_ret ?_
              have he := hx17 _ (Option.some.inj h).symm
              have h := hk16
              rw [← he] at h
              obtain rfl := Option.some.inj h
              exact ⟨rfl, [_], ⟨rfl, trivial⟩, rfl, by first | exact .inl rfl | exact .inr rfl⟩
            · have h := ifF h hc
              refine pw_skip ?_
              refine sr1 (by kernel_rfl) ?_
              refine y0 rfl (o_move (d := .int .i64 s17) rfl) ?_
              refine y0 rfl (o_ari rfl rfl rfl) ?_
              refine y0 rfl (o_assign (d := .int .i64 (w64 (s17 + 1))) rfl) ?_
              refine y_nil ?_
              exact ⟨rfl, w64 (s17 + 1), (Option.some.inj h).symm, (wk_st _ _ ⟨rfl, rfl, rfl, rfl, rfl, rfl, rfl, rfl, rfl, rfl, rfl, rfl, rfl, rfl, rfl, rfl, rfl, rfl, rfl, rfl, rfl, rfl, rfl, rfl, rfl, rfl, rfl, rfl, rfl, rfl, rfl, rfl, rfl, trivial⟩ ⟨rowLe_same rfl rfl rfl (fun q => nomatch q) rfl rfl rfl, rowLe_same rfl rfl rfl (fun q => nomatch q) rfl rfl rfl, trivial⟩)⟩
          · have h := ifF h hc
            refine pw_exit ?_
            refine thenQ_exit ?_
            refine thenQ_exit ?_
            refine blockQ_exit ?_
            have he := hx17 _ (Option.some.inj h).symm
            have h := hk16
            rw [← he] at h
            exact ⟨rfl, (), h, (wk_st _ _ ⟨rfl, rfl, rfl, rfl, rfl, rfl, rfl, rfl, rfl, rfl, rfl, rfl, rfl, rfl, rfl, rfl, rfl, rfl, rfl, rfl, rfl, rfl, rfl, rfl, trivial⟩ ⟨rowLe_same rfl rfl rfl (fun q => nomatch q) rfl rfl rfl, trivial⟩)⟩

set_option maxHeartbeats 4000000 in
theorem w03_SlabAlone_ok {a0 : slab_Slab_int} {a1 : Int} {a2 : Int} {a3 : Int} {r : Bool} (h : w03_SlabAlone a0 a1 a2 a3 = some r) : PCalls Try.prog 10 [slab_Slab_int.Pv a0, .int .i64 a1, .int .i64 a2, .int .i64 a3] (.bool r) := by
  unfold w03_SlabAlone at h
  refine pc_intro (N := 107) Try.func10 rfl rfl (Nat.le_of_ble_eq_true rfl) fun w0 imm0 => ?_
  refine sr (by kernel_rfl) ?_
  refine y1 rfl (o_box (d := slab_Slab_int.Pv a0) (z := 2) (cl := true) rfl rfl rfl rfl rfl) rfl ?_
  refine y0 rfl (o_assign (d := .bool false) rfl) ?_
  refine y_nil ?_
  refine pw_seq ?_
  refine sr (by kernel_rfl) ?_
  refine y0 rfl (o_loadA (cs := slab_Slab_int.Pc a0) rfl rfl rfl Ty.a24 Ty.s24 (Nat.le_of_ble_eq_true rfl) rfl) ?_
  obtain ⟨v1, hv1, h⟩ := bindE h
  refine y0 rfl (o_call (ds := [slab_Slab_int.Pv a0]) rfl Ty.k11 rfl (w03_right_ok hv1)) ?_
  refine y0 rfl (o_not rfl rfl) ?_
  refine y0 rfl (o_move (d := .bool (!v1)) rfl) ?_
  refine y_if (g := ((!v1) == false)) rfl (fun hg => o_move (d := .int .i64 a1) rfl) ?_
  refine y_if (g := ((!v1) == false)) rfl (fun hg => o_move (d := .int .i64 a3) rfl) ?_
  refine y_if (g := ((!v1) == false)) rfl (fun hg => o_cmp (ct hg) (ct hg) rfl) ?_
  refine y0 rfl (pk_or rfl rfl rfl (fun q => eqF q)) ?_
  refine y0 rfl (o_move (d := .bool ((!v1) || (a1 == a3))) rfl) ?_
  obtain ⟨v2, hv2, h⟩ := bindE h
  refine y_if (g := (((!v1) || (a1 == a3)) == false)) rfl (fun hg => o_call (ds := []) rfl Ty.k12 rfl (w03_shown_ok (onlyE hv2 hg))) ?_
  refine y_if (g := (((!v1) || (a1 == a3)) == false)) rfl (fun hg => o_not (ct hg) rfl) ?_
  refine y0 rfl (pk_or rfl rfl rfl (fun q => eqF q)) ?_
  refine y_nil ?_
  refine pw_cond (((!v1) || (a1 == a3)) || (!v2)) rfl (fun hc => ?_) (fun hc => ?_)
  · have h := ifT h hc
    refine sr (by kernel_rfl) ?_
    obtain ⟨v3, hv3, h⟩ := bindE h
    refine y0 rfl (o_call (ds := []) rfl Ty.k12 rfl (w03_shown_ok hv3)) ?_
    refine y0 rfl (o_assign (d := .bool v3) rfl) ?_
    refine y_nil ?_
    refine pw_ret ?_
    obtain rfl := Option.some.inj h
    exact ⟨rfl, [_], ⟨rfl, trivial⟩, rfl, by first | exact .inl rfl | exact .inr rfl⟩
  · have h := ifF h hc
    refine pw_skip ?_
    refine sr (by kernel_rfl) ?_
    refine y0 rfl (o_loadA (cs := slab_Slab_int.Pc a0) rfl rfl rfl Ty.a24 Ty.s24 (Nat.le_of_ble_eq_true rfl) rfl) ?_
    refine y0 rfl (o_move (d := .int .i64 a3) rfl) ?_
    obtain ⟨v4, hv4, h⟩ := bindE h
    refine y0 rfl (o_call (ds := [slab_Slab_int.Pv a0, .int .i64 a3]) rfl Ty.k18 rfl (slab_Get_int_ok hv4)) ?_
    refine y0 rfl (o_move (d := .tup [.int .i64 v4.1, .int .i64 v4.2]) rfl) ?_
    refine y0 rfl (o_extract rfl rfl) ?_
    refine y0 rfl (o_extract rfl rfl) ?_
    refine y0 rfl (o_assign (d := .int .i64 v4.1) rfl) ?_
    refine y0 rfl (o_assign (d := .int .i64 v4.2) rfl) ?_
    refine y_nil ?_
    refine sr (by kernel_rfl) ?_
    refine y0 rfl (o_loadA (cs := slab_Slab_int.Pc a0) rfl rfl rfl Ty.a24 Ty.s24 (Nat.le_of_ble_eq_true rfl) rfl) ?_
    refine y0 rfl (o_move (d := .int .i64 a1) rfl) ?_
    refine y0 rfl (o_move (d := .int .i64 a2) rfl) ?_
    obtain ⟨v5, hv5, h⟩ := bindE h
    refine yc rfl (o_callF (ls := []) (ds := [slab_Slab_int.Pv a0, .int .i64 a1, .int .i64 a2]) rfl Ty.k21 rfl (slab_Set_int_ok hv5)) ?_
    refine y0 rfl (o_move (d := .tup [slab_Slab_int.Pv v5.1, .int .i64 v5.2]) rfl) ?_
    refine y0 rfl (o_extract rfl rfl) ?_
    refine y0 rfl (o_extract rfl rfl) ?_
    refine y1 rfl (o_alloc (d := .agg [.lst false (List.map slab_Cell_int.Pv []), .int .i64 0]) (z := 2) rfl Ty.z24 rfl rfl rfl) rfl ?_
    refine y_sto (x' := slab_Slab_int.Pv v5.1) (cl' := true) rfl rfl (.inr rfl) Ty.s24 ?_
    refine y0 rfl (o_assign (d := .int .i64 v5.2) rfl) ?_
    refine y_nil ?_
    refine sr (by kernel_rfl) ?_
    refine y0 rfl (o_loadA (cs := slab_Slab_int.Pc a0) rfl rfl rfl Ty.a24 Ty.s24 (Nat.le_of_ble_eq_true rfl) rfl) ?_
    refine y0 rfl (o_move (d := .int .i64 a1) rfl) ?_
    obtain ⟨v6, hv6, h⟩ := bindE h
    refine yc rfl (o_callF (ls := []) (ds := [slab_Slab_int.Pv a0, .int .i64 a1]) rfl Ty.k23 rfl (slab_Kill_int_ok hv6)) ?_
    refine y0 rfl (o_move (d := .tup [slab_Slab_int.Pv v6.1, .int .i64 v6.2]) rfl) ?_
    refine y0 rfl (o_extract rfl rfl) ?_
    refine y0 rfl (o_extract rfl rfl) ?_
    refine y1 rfl (o_alloc (d := .agg [.lst false (List.map slab_Cell_int.Pv []), .int .i64 0]) (z := 2) rfl Ty.z24 rfl rfl rfl) rfl ?_
    refine y_sto (x' := slab_Slab_int.Pv v6.1) (cl' := true) rfl rfl (.inr rfl) Ty.s24 ?_
    refine y0 rfl (o_assign (d := .int .i64 v6.2) rfl) ?_
    refine y_nil ?_
    refine sr (by kernel_rfl) ?_
    refine y0 rfl (o_loadA (cs := slab_Slab_int.Pc a0) rfl rfl rfl Ty.a24 Ty.s24 (Nat.le_of_ble_eq_true rfl) rfl) ?_
    refine y0 rfl (o_move (d := .int .i64 a1) rfl) ?_
    obtain ⟨v7, hv7, h⟩ := bindE h
    refine yc rfl (o_callF (ls := []) (ds := [slab_Slab_int.Pv a0, .int .i64 a1]) rfl Ty.k25 rfl (slab_Give_int_ok hv7)) ?_
    refine y0 rfl (o_move (d := .tup [slab_Slab_int.Pv v7.1, .int .i64 v7.2]) rfl) ?_
    refine y0 rfl (o_extract rfl rfl) ?_
    refine y0 rfl (o_extract rfl rfl) ?_
    refine y1 rfl (o_alloc (d := .agg [.lst false (List.map slab_Cell_int.Pv []), .int .i64 0]) (z := 2) rfl Ty.z24 rfl rfl rfl) rfl ?_
    refine y_sto (x' := slab_Slab_int.Pv v7.1) (cl' := true) rfl rfl (.inr rfl) Ty.s24 ?_
    refine y0 rfl (o_assign (d := .int .i64 v7.2) rfl) ?_
    refine y_nil ?_
    refine sr (by kernel_rfl) ?_
    refine y0 rfl (o_loadA (cs := slab_Slab_int.Pc v5.1) rfl rfl rfl Ty.a24 Ty.s24 (Nat.le_of_ble_eq_true rfl) rfl) ?_
    refine y0 rfl (o_move (d := .int .i64 a3) rfl) ?_
    obtain ⟨v8, hv8, h⟩ := bindE h
    refine y0 rfl (o_call (ds := [slab_Slab_int.Pv v5.1, .int .i64 a3]) rfl Ty.k18 rfl (slab_Get_int_ok hv8)) ?_
    refine y0 rfl (o_move (d := .tup [.int .i64 v8.1, .int .i64 v8.2]) rfl) ?_
    refine y0 rfl (o_extract rfl rfl) ?_
    refine y0 rfl (o_extract rfl rfl) ?_
    refine y0 rfl (o_assign (d := .int .i64 v8.1) rfl) ?_
    refine y0 rfl (o_assign (d := .int .i64 v8.2) rfl) ?_
    refine y_nil ?_
    refine sr (by kernel_rfl) ?_
    refine y0 rfl (o_loadA (cs := slab_Slab_int.Pc v6.1) rfl rfl rfl Ty.a24 Ty.s24 (Nat.le_of_ble_eq_true rfl) rfl) ?_
    refine y0 rfl (o_move (d := .int .i64 a3) rfl) ?_
    obtain ⟨v9, hv9, h⟩ := bindE h
    refine y0 rfl (o_call (ds := [slab_Slab_int.Pv v6.1, .int .i64 a3]) rfl Ty.k18 rfl (slab_Get_int_ok hv9)) ?_
    refine y0 rfl (o_move (d := .tup [.int .i64 v9.1, .int .i64 v9.2]) rfl) ?_
    refine y0 rfl (o_extract rfl rfl) ?_
    refine y0 rfl (o_extract rfl rfl) ?_
    refine y0 rfl (o_assign (d := .int .i64 v9.1) rfl) ?_
    refine y0 rfl (o_assign (d := .int .i64 v9.2) rfl) ?_
    refine y_nil ?_
    refine sr (by kernel_rfl) ?_
    refine y0 rfl (o_loadA (cs := slab_Slab_int.Pc v7.1) rfl rfl rfl Ty.a24 Ty.s24 (Nat.le_of_ble_eq_true rfl) rfl) ?_
    refine y0 rfl (o_move (d := .int .i64 a3) rfl) ?_
    obtain ⟨v10, hv10, h⟩ := bindE h
    refine y0 rfl (o_call (ds := [slab_Slab_int.Pv v7.1, .int .i64 a3]) rfl Ty.k18 rfl (slab_Get_int_ok hv10)) ?_
    refine y0 rfl (o_move (d := .tup [.int .i64 v10.1, .int .i64 v10.2]) rfl) ?_
    refine y0 rfl (o_extract rfl rfl) ?_
    refine y0 rfl (o_extract rfl rfl) ?_
    refine y0 rfl (o_assign (d := .int .i64 v10.1) rfl) ?_
    refine y0 rfl (o_assign (d := .int .i64 v10.2) rfl) ?_
    refine y_nil ?_
    refine sr (by kernel_rfl) ?_
    refine y0 rfl (o_move (d := .int .i64 v8.1) rfl) ?_
    refine y0 rfl (o_move (d := .int .i64 v4.1) rfl) ?_
    refine y0 rfl (o_cmp rfl rfl rfl) ?_
    refine y0 rfl (o_move (d := .bool (v8.1 == v4.1)) rfl) ?_
    refine y_if (g := ((v8.1 == v4.1) == true)) rfl (fun hg => o_move (d := .int .i64 v8.2) rfl) ?_
    refine y_if (g := ((v8.1 == v4.1) == true)) rfl (fun hg => o_move (d := .int .i64 v4.2) rfl) ?_
    refine y_if (g := ((v8.1 == v4.1) == true)) rfl (fun hg => o_cmp (ct hg) (ct hg) rfl) ?_
    refine y0 rfl (pk_and rfl rfl rfl (fun q => eqT q)) ?_
    refine y0 rfl (o_move (d := .bool ((v8.1 == v4.1) && (v8.2 == v4.2))) rfl) ?_
    refine y_if (g := (((v8.1 == v4.1) && (v8.2 == v4.2)) == true)) rfl (fun hg => o_move (d := .int .i64 v9.1) rfl) ?_
    refine y_if (g := (((v8.1 == v4.1) && (v8.2 == v4.2)) == true)) rfl (fun hg => o_move (d := .int .i64 v4.1) rfl) ?_
    refine y_if (g := (((v8.1 == v4.1) && (v8.2 == v4.2)) == true)) rfl (fun hg => o_cmp (ct hg) (ct hg) rfl) ?_
    refine y0 rfl (pk_and rfl rfl rfl (fun q => eqT q)) ?_
    refine y0 rfl (o_move (d := .bool (((v8.1 == v4.1) && (v8.2 == v4.2)) && (v9.1 == v4.1))) rfl) ?_
    refine y_if (g := ((((v8.1 == v4.1) && (v8.2 == v4.2)) && (v9.1 == v4.1)) == true)) rfl (fun hg => o_move (d := .int .i64 v9.2) rfl) ?_
    refine y_if (g := ((((v8.1 == v4.1) && (v8.2 == v4.2)) && (v9.1 == v4.1)) == true)) rfl (fun hg => o_move (d := .int .i64 v4.2) rfl) ?_
    refine y_if (g := ((((v8.1 == v4.1) && (v8.2 == v4.2)) && (v9.1 == v4.1)) == true)) rfl (fun hg => o_cmp (ct hg) (ct hg) rfl) ?_
    refine y0 rfl (pk_and rfl rfl rfl (fun q => eqT q)) ?_
    refine y0 rfl (o_move (d := .bool ((((v8.1 == v4.1) && (v8.2 == v4.2)) && (v9.1 == v4.1)) && (v9.2 == v4.2))) rfl) ?_
    refine y_if (g := (((((v8.1 == v4.1) && (v8.2 == v4.2)) && (v9.1 == v4.1)) && (v9.2 == v4.2)) == true)) rfl (fun hg => o_move (d := .int .i64 v10.1) rfl) ?_
    refine y_if (g := (((((v8.1 == v4.1) && (v8.2 == v4.2)) && (v9.1 == v4.1)) && (v9.2 == v4.2)) == true)) rfl (fun hg => o_move (d := .int .i64 v4.1) rfl) ?_
    refine y_if (g := (((((v8.1 == v4.1) && (v8.2 == v4.2)) && (v9.1 == v4.1)) && (v9.2 == v4.2)) == true)) rfl (fun hg => o_cmp (ct hg) (ct hg) rfl) ?_
    refine y0 rfl (pk_and rfl rfl rfl (fun q => eqT q)) ?_
    refine y0 rfl (o_move (d := .bool (((((v8.1 == v4.1) && (v8.2 == v4.2)) && (v9.1 == v4.1)) && (v9.2 == v4.2)) && (v10.1 == v4.1))) rfl) ?_
    refine y_if (g := ((((((v8.1 == v4.1) && (v8.2 == v4.2)) && (v9.1 == v4.1)) && (v9.2 == v4.2)) && (v10.1 == v4.1)) == true)) rfl (fun hg => o_move (d := .int .i64 v10.2) rfl) ?_
    refine y_if (g := ((((((v8.1 == v4.1) && (v8.2 == v4.2)) && (v9.1 == v4.1)) && (v9.2 == v4.2)) && (v10.1 == v4.1)) == true)) rfl (fun hg => o_move (d := .int .i64 v4.2) rfl) ?_
    refine y_if (g := ((((((v8.1 == v4.1) && (v8.2 == v4.2)) && (v9.1 == v4.1)) && (v9.2 == v4.2)) && (v10.1 == v4.1)) == true)) rfl (fun hg => o_cmp (ct hg) (ct hg) rfl) ?_
    refine y0 rfl (pk_and rfl rfl rfl (fun q => eqT q)) ?_
    refine y0 rfl (o_assign (d := .bool ((((((v8.1 == v4.1) && (v8.2 == v4.2)) && (v9.1 == v4.1)) && (v9.2 == v4.2)) && (v10.1 == v4.1)) && (v10.2 == v4.2))) rfl) ?_
    refine y_nil ?_
    refine pw_ret ?_
    obtain rfl := Option.some.inj h
    exact ⟨rfl, [_], ⟨rfl, trivial⟩, rfl, by first | exact .inl rfl | exact .inr rfl⟩

end Go.Proofs.Yteilfbdphlimkaa.Ok
