/-
  The functions of the program do as the plain functions do.
-/
import Derived.Test.YtpnajadblhkomaaG7Ok1
namespace Go.Proofs.Ytpnajadblhkomaa.Ok
open Go Go.Pw Go.Sh Go.Proofs
set_option linter.unusedVariables false
set_option maxRecDepth 100000
set_option maxHeartbeats 4000000 in
theorem w07_shown_ok  {r : Bool} (h : w07_shown = some r) : PCalls Try.prog 34 [] (.bool r) := by
  unfold w07_shown at h
  refine pc_intro (N := 101) Try.func34 rfl rfl (Nat.le_of_ble_eq_true rfl) fun w0 imm0 => ?_
  refine sr (by kernel_rfl) ?_
  refine y0 rfl (o_assign (d := .bool false) rfl) ?_
  refine y_nil ?_
  refine sr (by kernel_rfl) ?_
  obtain ⟨v1, hv1, h⟩ := bindE h
  refine yc rfl (o_callF (ls := []) (ds := [.int .i64 3, .int .i64 3]) rfl Ty.k27 rfl (store_New_ok hv1)) ?_
  obtain ⟨v2, hv2, h⟩ := bindE h
  refine yc rfl (o_callF (ls := []) (ds := [store_Store.Pv v1, .int .i64 3, .int .i64 (-1)]) rfl Ty.k31 rfl (store_Make_ok hv2)) ?_
  refine y0 rfl (o_move (d := .tup [store_Store.Pv v2.1, .int .i64 v2.2.1, .int .i64 v2.2.2]) rfl) ?_
  refine y0 rfl (o_extract rfl rfl) ?_
  refine y0 rfl (o_extract rfl rfl) ?_
  refine y0 rfl (o_extract rfl rfl) ?_
  refine y1 rfl (o_alloc (d := .agg [.lst true (List.map slab_Cell_store_Obj.Pv []), .int .i64 0, .int .i64 0]) (z := 3) rfl Ty.z26 rfl rfl rfl) rfl ?_
  refine y_sto (x' := store_Store.Pv v2.1) (cl' := true) rfl rfl (.inr rfl) Ty.s26 ?_
  refine y0 rfl (o_assign (d := .int .i64 v2.2.1) rfl) ?_
  refine y0 rfl (o_assign (d := .int .i64 v2.2.2) rfl) ?_
  refine y_nil ?_
  refine sr (by kernel_rfl) ?_
  refine y0 rfl (o_loadA (cs := store_Store.Pc v2.1) rfl rfl rfl Ty.a26 Ty.s26 (Nat.le_of_ble_eq_true rfl) rfl) ?_
  obtain ⟨v3, hv3, h⟩ := bindE h
  refine yc rfl (o_callF (ls := []) (ds := [store_Store.Pv v2.1, .int .i64 1, .int .i64 (-1)]) rfl Ty.k31 rfl (store_Make_ok hv3)) ?_
  refine y0 rfl (o_move (d := .tup [store_Store.Pv v3.1, .int .i64 v3.2.1, .int .i64 v3.2.2]) rfl) ?_
  refine y0 rfl (o_extract rfl rfl) ?_
  refine y0 rfl (o_extract rfl rfl) ?_
  refine y0 rfl (o_extract rfl rfl) ?_
  refine y_sto (x' := store_Store.Pv v3.1) (cl' := true) rfl rfl (.inr rfl) Ty.s26 ?_
  refine y0 rfl (o_assign (d := .int .i64 v3.2.1) rfl) ?_
  refine y0 rfl (o_assign (d := .int .i64 v3.2.2) rfl) ?_
  refine y_nil ?_
  refine sr (by kernel_rfl) ?_
  refine y0 rfl (o_loadA (cs := store_Store.Pc v3.1) rfl rfl rfl Ty.a26 Ty.s26 (Nat.le_of_ble_eq_true rfl) rfl) ?_
  refine y0 rfl (o_move (d := .int .i64 v2.2.1) rfl) ?_
  refine y0 rfl (o_move (d := .int .i64 v3.2.1) rfl) ?_
  obtain ⟨v4, hv4, h⟩ := bindE h
  refine yc rfl (o_callF (ls := []) (ds := [store_Store.Pv v3.1, .int .i64 v2.2.1, .int .i64 0, .int .i64 v3.2.1]) rfl Ty.k58 rfl (store_Put_ok hv4)) ?_
  refine y0 rfl (o_move (d := .tup [store_Store.Pv v4.1, .int .i64 v4.2]) rfl) ?_
  refine y0 rfl (o_extract rfl rfl) ?_
  refine y0 rfl (o_extract rfl rfl) ?_
  refine y_sto (x' := store_Store.Pv v4.1) (cl' := true) rfl rfl (.inr rfl) Ty.s26 ?_
  refine y_nil ?_
  refine sr (by kernel_rfl) ?_
  refine y0 rfl (o_loadA (cs := store_Store.Pc v4.1) rfl rfl rfl Ty.a26 Ty.s26 (Nat.le_of_ble_eq_true rfl) rfl) ?_
  refine y0 rfl (o_move (d := .int .i64 v2.2.1) rfl) ?_
  refine y0 rfl (o_move (d := .int .i64 v3.2.1) rfl) ?_
  obtain ⟨v5, hv5, h⟩ := bindE h
  refine yc rfl (o_callF (ls := []) (ds := [store_Store.Pv v4.1, .int .i64 v2.2.1, .int .i64 2, .int .i64 v3.2.1]) rfl Ty.k58 rfl (store_Put_ok hv5)) ?_
  refine y0 rfl (o_move (d := .tup [store_Store.Pv v5.1, .int .i64 v5.2]) rfl) ?_
  refine y0 rfl (o_extract rfl rfl) ?_
  refine y0 rfl (o_extract rfl rfl) ?_
  refine y_sto (x' := store_Store.Pv v5.1) (cl' := true) rfl rfl (.inr rfl) Ty.s26 ?_
  refine y_nil ?_
  refine sr (by kernel_rfl) ?_
  refine y0 rfl (o_loadA (cs := store_Store.Pc v5.1) rfl rfl rfl Ty.a26 Ty.s26 (Nat.le_of_ble_eq_true rfl) rfl) ?_
  refine y0 rfl (o_move (d := .int .i64 v3.2.1) rfl) ?_
  obtain ⟨v6, hv6, h⟩ := bindE h
  refine yc rfl (o_callF (ls := []) (ds := [store_Store.Pv v5.1, .int .i64 v3.2.1, .int .i64 0, .int .i64 99]) rfl Ty.k58 rfl (store_Put_ok hv6)) ?_
  refine y0 rfl (o_move (d := .tup [store_Store.Pv v6.1, .int .i64 v6.2]) rfl) ?_
  refine y0 rfl (o_extract rfl rfl) ?_
  refine y0 rfl (o_extract rfl rfl) ?_
  refine y_sto (x' := store_Store.Pv v6.1) (cl' := true) rfl rfl (.inr rfl) Ty.s26 ?_
  refine y0 rfl (o_assign (d := .int .i64 v6.2) rfl) ?_
  refine y_nil ?_
  refine sr (by kernel_rfl) ?_
  refine y0 rfl (o_loadA (cs := store_Store.Pc v6.1) rfl rfl rfl Ty.a26 Ty.s26 (Nat.le_of_ble_eq_true rfl) rfl) ?_
  refine y0 rfl (o_move (d := .int .i64 v2.2.1) rfl) ?_
  obtain ⟨v7, hv7, h⟩ := bindE h
  refine yc rfl (o_callF (ls := []) (ds := [store_Store.Pv v6.1, .int .i64 v2.2.1]) rfl Ty.k36 rfl (refs_Out_ok hv7)) ?_
  refine y0 rfl (o_assign (d := .lst false (List.map (PV.int .i64) v7)) rfl) ?_
  refine y_nil ?_
  refine sr (by kernel_rfl) ?_
  refine y0 rfl (o_loadA (cs := store_Store.Pc v6.1) rfl rfl rfl Ty.a26 Ty.s26 (Nat.le_of_ble_eq_true rfl) rfl) ?_
  obtain ⟨v8, hv8, h⟩ := bindE h
  refine yc rfl (o_callF (ls := []) (ds := [store_Store.Pv v6.1]) rfl Ty.k44 rfl (refs_Dangling_ok hv8)) ?_
  refine y0 rfl (o_assign (d := .lst false (List.map (PV.int .i64) v8)) rfl) ?_
  refine y_nil ?_
  refine sr (by kernel_rfl) ?_
  refine y0 rfl (o_move (d := .int .i64 v6.2) rfl) ?_
  refine y0 rfl (o_cmp rfl rfl rfl) ?_
  refine y0 rfl (o_move (d := .bool (v6.2 == 0)) rfl) ?_
  refine y_if (g := ((v6.2 == 0) == true)) rfl (fun hg => o_move (d := .lst false (List.map (PV.int .i64) v7)) rfl) ?_
  refine y_if (g := ((v6.2 == 0) == true)) rfl (fun hg => o_lnL (f := (PV.int .i64)) (ct hg) Ty.e27) ?_
  refine y_if (g := ((v6.2 == 0) == true)) rfl (fun hg => o_cmp (ct hg) rfl rfl) ?_
  refine y0 rfl (pk_and rfl rfl rfl (fun q => eqT q)) ?_
  refine y0 rfl (o_move (d := .bool ((v6.2 == 0) && ((v7.length : Int) == 2))) rfl) ?_
  refine y_if (g := (((v6.2 == 0) && ((v7.length : Int) == 2)) == true)) rfl (fun hg => o_move (d := .lst false (List.map (PV.int .i64) v7)) rfl) ?_
  obtain ⟨v9, hv9, h⟩ := bindE h
  refine y_if (g := (((v6.2 == 0) && ((v7.length : Int) == 2)) == true)) rfl (fun hg => o_ixL (f := (PV.int .i64)) (cs := [.int .i64 v9]) (onlyE hv9 hg) (ct hg) rfl Ty.e27 Ty.s3 rfl rfl) ?_
  refine y_if (g := (((v6.2 == 0) && ((v7.length : Int) == 2)) == true)) rfl (fun hg => o_loadRS (ct hg) Ty.a3 rfl) ?_
  refine y_if (g := (((v6.2 == 0) && ((v7.length : Int) == 2)) == true)) rfl (fun hg => o_move (d := .int .i64 v3.2.1) rfl) ?_
  refine y_if (g := (((v6.2 == 0) && ((v7.length : Int) == 2)) == true)) rfl (fun hg => o_cmp (ct hg) (ct hg) rfl) ?_
  refine y0 rfl (pk_and rfl rfl rfl (fun q => eqT q)) ?_
  refine y0 rfl (o_move (d := .bool (((v6.2 == 0) && ((v7.length : Int) == 2)) && (v9 == v3.2.1))) rfl) ?_
  refine y_if (g := ((((v6.2 == 0) && ((v7.length : Int) == 2)) && (v9 == v3.2.1)) == true)) rfl (fun hg => o_loadA (cs := store_Store.Pc v6.1) rfl rfl rfl Ty.a26 Ty.s26 (Nat.le_of_ble_eq_true rfl) rfl) ?_
  refine y_if (g := ((((v6.2 == 0) && ((v7.length : Int) == 2)) && (v9 == v3.2.1)) == true)) rfl (fun hg => o_move (d := .int .i64 v3.2.1) rfl) ?_
  obtain ⟨v10, hv10, h⟩ := bindE h
  refine y_if (g := ((((v6.2 == 0) && ((v7.length : Int) == 2)) && (v9 == v3.2.1)) == true)) rfl (fun hg => o_call (ds := [store_Store.Pv v6.1, .int .i64 v3.2.1]) rfl Ty.k38 (consE (ct hg) (consE (ct hg) rfl)) (refs_In_ok (onlyE hv10 hg))) ?_
  refine y_if (g := ((((v6.2 == 0) && ((v7.length : Int) == 2)) && (v9 == v3.2.1)) == true)) rfl (fun hg => o_cmp (ct hg) rfl rfl) ?_
  refine y0 rfl (pk_and rfl rfl rfl (fun q => eqT q)) ?_
  refine y0 rfl (o_move (d := .bool ((((v6.2 == 0) && ((v7.length : Int) == 2)) && (v9 == v3.2.1)) && (v10 == 2))) rfl) ?_
  refine y_if (g := (((((v6.2 == 0) && ((v7.length : Int) == 2)) && (v9 == v3.2.1)) && (v10 == 2)) == true)) rfl (fun hg => o_loadA (cs := store_Store.Pc v6.1) rfl rfl rfl Ty.a26 Ty.s26 (Nat.le_of_ble_eq_true rfl) rfl) ?_
  refine y_if (g := (((((v6.2 == 0) && ((v7.length : Int) == 2)) && (v9 == v3.2.1)) && (v10 == 2)) == true)) rfl (fun hg => o_move (d := .int .i64 v2.2.1) rfl) ?_
  obtain ⟨v11, hv11, h⟩ := bindE h
  refine y_if (g := (((((v6.2 == 0) && ((v7.length : Int) == 2)) && (v9 == v3.2.1)) && (v10 == 2)) == true)) rfl (fun hg => o_call (ds := [store_Store.Pv v6.1, .int .i64 v2.2.1]) rfl Ty.k38 (consE (ct hg) (consE (ct hg) rfl)) (refs_In_ok (onlyE hv11 hg))) ?_
  refine y_if (g := (((((v6.2 == 0) && ((v7.length : Int) == 2)) && (v9 == v3.2.1)) && (v10 == 2)) == true)) rfl (fun hg => o_cmp (ct hg) rfl rfl) ?_
  refine y0 rfl (pk_and rfl rfl rfl (fun q => eqT q)) ?_
  refine y0 rfl (o_move (d := .bool (((((v6.2 == 0) && ((v7.length : Int) == 2)) && (v9 == v3.2.1)) && (v10 == 2)) && (v11 == 0))) rfl) ?_
  refine y_if (g := ((((((v6.2 == 0) && ((v7.length : Int) == 2)) && (v9 == v3.2.1)) && (v10 == 2)) && (v11 == 0)) == true)) rfl (fun hg => o_loadA (cs := store_Store.Pc v6.1) rfl rfl rfl Ty.a26 Ty.s26 (Nat.le_of_ble_eq_true rfl) rfl) ?_
  refine y_if (g := ((((((v6.2 == 0) && ((v7.length : Int) == 2)) && (v9 == v3.2.1)) && (v10 == 2)) && (v11 == 0)) == true)) rfl (fun hg => o_move (d := .int .i64 v3.2.1) rfl) ?_
  obtain ⟨v12, hv12, h⟩ := bindE h
  refine y_ifc (g := ((((((v6.2 == 0) && ((v7.length : Int) == 2)) && (v9 == v3.2.1)) && (v10 == 2)) && (v11 == 0)) == true)) rfl (fun hg => o_callF (ls := []) (ds := [store_Store.Pv v6.1, .int .i64 v3.2.1]) rfl Ty.k40 (consE (ct hg) (consE (ct hg) rfl)) (refs_By_ok (onlyE hv12 hg))) ?_
  refine y_if (g := ((((((v6.2 == 0) && ((v7.length : Int) == 2)) && (v9 == v3.2.1)) && (v10 == 2)) && (v11 == 0)) == true)) rfl (fun hg => o_lnL (f := (PV.int .i64)) (ct hg) Ty.e27) ?_
  refine y_if (g := ((((((v6.2 == 0) && ((v7.length : Int) == 2)) && (v9 == v3.2.1)) && (v10 == 2)) && (v11 == 0)) == true)) rfl (fun hg => o_cmp (ct hg) rfl rfl) ?_
  refine y0 rfl (pk_and rfl rfl rfl (fun q => eqT q)) ?_
  refine y0 rfl (o_move (d := .bool ((((((v6.2 == 0) && ((v7.length : Int) == 2)) && (v9 == v3.2.1)) && (v10 == 2)) && (v11 == 0)) && ((v12.length : Int) == 1))) rfl) ?_
  refine y_if (g := (((((((v6.2 == 0) && ((v7.length : Int) == 2)) && (v9 == v3.2.1)) && (v10 == 2)) && (v11 == 0)) && ((v12.length : Int) == 1)) == true)) rfl (fun hg => o_move (d := .lst false (List.map (PV.int .i64) v7)) rfl) ?_
  refine y_if (g := (((((((v6.2 == 0) && ((v7.length : Int) == 2)) && (v9 == v3.2.1)) && (v10 == 2)) && (v11 == 0)) && ((v12.length : Int) == 1)) == true)) rfl (fun hg => o_move (d := .int .i64 v3.2.1) rfl) ?_
  obtain ⟨v13, hv13, h⟩ := bindE h
  refine y_if (g := (((((((v6.2 == 0) && ((v7.length : Int) == 2)) && (v9 == v3.2.1)) && (v10 == 2)) && (v11 == 0)) && ((v12.length : Int) == 1)) == true)) rfl (fun hg => o_call (ds := [.lst false (List.map (PV.int .i64) v7), .int .i64 v3.2.1]) rfl Ty.k42 (consE (ct hg) (consE (ct hg) rfl)) (refs_Times_ok (onlyE hv13 hg))) ?_
  refine y_if (g := (((((((v6.2 == 0) && ((v7.length : Int) == 2)) && (v9 == v3.2.1)) && (v10 == 2)) && (v11 == 0)) && ((v12.length : Int) == 1)) == true)) rfl (fun hg => o_cmp (ct hg) rfl rfl) ?_
  refine y0 rfl (pk_and rfl rfl rfl (fun q => eqT q)) ?_
  refine y0 rfl (o_move (d := .bool (((((((v6.2 == 0) && ((v7.length : Int) == 2)) && (v9 == v3.2.1)) && (v10 == 2)) && (v11 == 0)) && ((v12.length : Int) == 1)) && (v13 == 2))) rfl) ?_
  refine y_if (g := ((((((((v6.2 == 0) && ((v7.length : Int) == 2)) && (v9 == v3.2.1)) && (v10 == 2)) && (v11 == 0)) && ((v12.length : Int) == 1)) && (v13 == 2)) == true)) rfl (fun hg => o_move (d := .lst false (List.map (PV.int .i64) v8)) rfl) ?_
  refine y_if (g := ((((((((v6.2 == 0) && ((v7.length : Int) == 2)) && (v9 == v3.2.1)) && (v10 == 2)) && (v11 == 0)) && ((v12.length : Int) == 1)) && (v13 == 2)) == true)) rfl (fun hg => o_lnL (f := (PV.int .i64)) (ct hg) Ty.e27) ?_
  refine y_if (g := ((((((((v6.2 == 0) && ((v7.length : Int) == 2)) && (v9 == v3.2.1)) && (v10 == 2)) && (v11 == 0)) && ((v12.length : Int) == 1)) && (v13 == 2)) == true)) rfl (fun hg => o_cmp (ct hg) rfl rfl) ?_
  refine y0 rfl (pk_and rfl rfl rfl (fun q => eqT q)) ?_
  refine y0 rfl (o_move (d := .bool ((((((((v6.2 == 0) && ((v7.length : Int) == 2)) && (v9 == v3.2.1)) && (v10 == 2)) && (v11 == 0)) && ((v12.length : Int) == 1)) && (v13 == 2)) && ((v8.length : Int) == 1))) rfl) ?_
  refine y_if (g := (((((((((v6.2 == 0) && ((v7.length : Int) == 2)) && (v9 == v3.2.1)) && (v10 == 2)) && (v11 == 0)) && ((v12.length : Int) == 1)) && (v13 == 2)) && ((v8.length : Int) == 1)) == true)) rfl (fun hg => o_move (d := .lst false (List.map (PV.int .i64) v8)) rfl) ?_
  obtain ⟨v14, hv14, h⟩ := bindE h
  refine y_if (g := (((((((((v6.2 == 0) && ((v7.length : Int) == 2)) && (v9 == v3.2.1)) && (v10 == 2)) && (v11 == 0)) && ((v12.length : Int) == 1)) && (v13 == 2)) && ((v8.length : Int) == 1)) == true)) rfl (fun hg => o_ixL (f := (PV.int .i64)) (cs := [.int .i64 v14]) (onlyE hv14 hg) (ct hg) rfl Ty.e27 Ty.s3 rfl rfl) ?_
  refine y_if (g := (((((((((v6.2 == 0) && ((v7.length : Int) == 2)) && (v9 == v3.2.1)) && (v10 == 2)) && (v11 == 0)) && ((v12.length : Int) == 1)) && (v13 == 2)) && ((v8.length : Int) == 1)) == true)) rfl (fun hg => o_loadRS (ct hg) Ty.a3 rfl) ?_
  refine y_if (g := (((((((((v6.2 == 0) && ((v7.length : Int) == 2)) && (v9 == v3.2.1)) && (v10 == 2)) && (v11 == 0)) && ((v12.length : Int) == 1)) && (v13 == 2)) && ((v8.length : Int) == 1)) == true)) rfl (fun hg => o_cmp (ct hg) rfl rfl) ?_
  refine y0 rfl (pk_and rfl rfl rfl (fun q => eqT q)) ?_
  refine y0 rfl (o_move (d := .bool (((((((((v6.2 == 0) && ((v7.length : Int) == 2)) && (v9 == v3.2.1)) && (v10 == 2)) && (v11 == 0)) && ((v12.length : Int) == 1)) && (v13 == 2)) && ((v8.length : Int) == 1)) && (v14 == 99))) rfl) ?_
  refine y_if (g := ((((((((((v6.2 == 0) && ((v7.length : Int) == 2)) && (v9 == v3.2.1)) && (v10 == 2)) && (v11 == 0)) && ((v12.length : Int) == 1)) && (v13 == 2)) && ((v8.length : Int) == 1)) && (v14 == 99)) == true)) rfl (fun hg => o_bI (f := (PV.int .i64)) (l := [0]) rfl Ty.e27 Ty.s3 Ty.z3 rfl rfl (Nat.le_of_ble_eq_true rfl) rfl rfl) ?_
  obtain ⟨v15, hv15, h⟩ := bindE h
  refine y_if (g := ((((((((((v6.2 == 0) && ((v7.length : Int) == 2)) && (v9 == v3.2.1)) && (v10 == 2)) && (v11 == 0)) && ((v12.length : Int) == 1)) && (v13 == 2)) && ((v8.length : Int) == 1)) && (v14 == 99)) == true)) rfl (fun hg => o_call (ds := [.lst true (List.map (PV.int .i64) [0]), .int .i64 0]) rfl Ty.k42 (consE (ct hg) (consE rfl rfl)) (refs_Times_ok (onlyE hv15 hg))) ?_
  refine y_if (g := ((((((((((v6.2 == 0) && ((v7.length : Int) == 2)) && (v9 == v3.2.1)) && (v10 == 2)) && (v11 == 0)) && ((v12.length : Int) == 1)) && (v13 == 2)) && ((v8.length : Int) == 1)) && (v14 == 99)) == true)) rfl (fun hg => o_cmp (ct hg) rfl rfl) ?_
  refine y0 rfl (pk_and rfl rfl rfl (fun q => eqT q)) ?_
  refine y0 rfl (o_assign (d := .bool ((((((((((v6.2 == 0) && ((v7.length : Int) == 2)) && (v9 == v3.2.1)) && (v10 == 2)) && (v11 == 0)) && ((v12.length : Int) == 1)) && (v13 == 2)) && ((v8.length : Int) == 1)) && (v14 == 99)) && (v15 == 0))) rfl) ?_
  refine y_nil ?_
  refine pw_ret ?_
  obtain rfl := Option.some.inj h
  exact ⟨rfl, [_], ⟨rfl, trivial⟩, rfl, by first | exact .inl rfl | exact .inr rfl⟩

set_option maxHeartbeats 4000000 in
theorem r01_Pack_ok {a0 : Int} {a1 : Int} {r : Int} (h : r01_Pack a0 a1 = some r) : PCalls Try.prog 85 [.int .i64 a0, .int .i64 a1] (.int .i64 r) := by
  unfold r01_Pack at h
  refine pc_intro (N := 24) Try.func85 rfl rfl (Nat.le_of_ble_eq_true rfl) fun w0 imm0 => ?_
  refine sr (by kernel_rfl) ?_
  refine y0 rfl (o_assign (d := .int .i64 0) rfl) ?_
  refine y_nil ?_
  refine pw_seq ?_
  refine sr (by kernel_rfl) ?_
  refine y0 rfl (o_move (d := .int .i64 a0) rfl) ?_
  refine y0 rfl (o_cmp rfl rfl rfl) ?_
  refine y0 rfl (o_move (d := .bool (decide (a0 < 0))) rfl) ?_
  refine y_if (g := ((decide (a0 < 0)) == false)) rfl (fun hg => o_move (d := .int .i64 a0) rfl) ?_
  refine y_if (g := ((decide (a0 < 0)) == false)) rfl (fun hg => o_cmp (ct hg) rfl rfl) ?_
  refine y0 rfl (pk_or rfl rfl rfl (fun q => eqF q)) ?_
  refine y0 rfl (o_move (d := .bool ((decide (a0 < 0)) || (decide (a0 > 23)))) rfl) ?_
  refine y_if (g := (((decide (a0 < 0)) || (decide (a0 > 23))) == false)) rfl (fun hg => o_move (d := .int .i64 a1) rfl) ?_
  refine y_if (g := (((decide (a0 < 0)) || (decide (a0 > 23))) == false)) rfl (fun hg => o_cmp (ct hg) rfl rfl) ?_
  refine y0 rfl (pk_or rfl rfl rfl (fun q => eqF q)) ?_
  refine y0 rfl (o_move (d := .bool (((decide (a0 < 0)) || (decide (a0 > 23))) || (decide (a1 < 0)))) rfl) ?_
  refine y_if (g := ((((decide (a0 < 0)) || (decide (a0 > 23))) || (decide (a1 < 0))) == false)) rfl (fun hg => o_move (d := .int .i64 a1) rfl) ?_
  refine y_if (g := ((((decide (a0 < 0)) || (decide (a0 > 23))) || (decide (a1 < 0))) == false)) rfl (fun hg => o_cmp (ct hg) rfl rfl) ?_
  refine y0 rfl (pk_or rfl rfl rfl (fun q => eqF q)) ?_
  refine y_nil ?_
  refine pw_cond ((((decide (a0 < 0)) || (decide (a0 > 23))) || (decide (a1 < 0))) || (decide (a1 > 9))) rfl (fun hc => ?_) (fun hc => ?_)
  · have h := ifT h hc
    refine sr (by kernel_rfl) ?_
    refine y0 rfl (o_assign (d := .int .i64 0) rfl) ?_
    refine y_nil ?_
    refine pw_ret ?_
    obtain rfl := Option.some.inj h
    exact ⟨rfl, [_], ⟨rfl, trivial⟩, rfl, by first | exact .inl rfl | exact .inr rfl⟩
  · have h := ifF h hc
    refine pw_skip ?_
    refine sr (by kernel_rfl) ?_
    refine y0 rfl (o_move (d := .int .i64 a0) rfl) ?_
    refine y0 rfl (o_ari rfl rfl rfl) ?_
    refine y0 rfl (o_move (d := .int .i64 a1) rfl) ?_
    refine y0 rfl (o_ari rfl rfl rfl) ?_
    refine y0 rfl (o_ari rfl rfl rfl) ?_
    refine y0 rfl (o_assign (d := .int .i64 (w64 ((w64 (1 + a0)) + (w64 (32 * a1))))) rfl) ?_
    refine y_nil ?_
    refine pw_ret ?_
    obtain rfl := Option.some.inj h
    exact ⟨rfl, [_], ⟨rfl, trivial⟩, rfl, by first | exact .inl rfl | exact .inr rfl⟩

set_option maxHeartbeats 4000000 in
theorem r01_Valid_ok {a0 : Int} {r : Bool} (h : r01_Valid a0 = some r) : PCalls Try.prog 125 [.int .i64 a0] (.bool r) := by
  unfold r01_Valid at h
  refine pc_intro (N := 18) Try.func125 rfl rfl (Nat.le_of_ble_eq_true rfl) fun w0 imm0 => ?_
  refine sr (by kernel_rfl) ?_
  refine y0 rfl (o_assign (d := .bool false) rfl) ?_
  refine y_nil ?_
  refine pw_seq ?_
  refine sr (by kernel_rfl) ?_
  refine y0 rfl (o_move (d := .int .i64 a0) rfl) ?_
  refine y0 rfl (o_cmp rfl rfl rfl) ?_
  refine y0 rfl (o_move (d := .bool (decide (a0 < 1))) rfl) ?_
  refine y_if (g := ((decide (a0 < 1)) == false)) rfl (fun hg => o_move (d := .int .i64 a0) rfl) ?_
  refine y_if (g := ((decide (a0 < 1)) == false)) rfl (fun hg => o_cmp (ct hg) rfl rfl) ?_
  refine y0 rfl (pk_or rfl rfl rfl (fun q => eqF q)) ?_
  refine y_nil ?_
  refine pw_cond ((decide (a0 < 1)) || (decide (a0 > 400))) rfl (fun hc => ?_) (fun hc => ?_)
  · have h := ifT h hc
    refine sr (by kernel_rfl) ?_
    refine y0 rfl (o_assign (d := .bool false) rfl) ?_
    refine y_nil ?_
    refine pw_ret ?_
    obtain rfl := Option.some.inj h
    exact ⟨rfl, [_], ⟨rfl, trivial⟩, rfl, by first | exact .inl rfl | exact .inr rfl⟩
  · have h := ifF h hc
    refine pw_skip ?_
    refine sr (by kernel_rfl) ?_
    refine y0 rfl (o_move (d := .int .i64 a0) rfl) ?_
    refine y0 rfl (o_ari rfl rfl rfl) ?_
    obtain ⟨v1, hv1, h⟩ := bindE h
    refine y0 rfl (o_ari rfl rfl hv1) ?_
    refine y0 rfl (o_move (d := .int .i64 a0) rfl) ?_
    refine y0 rfl (o_ari rfl rfl rfl) ?_
    obtain ⟨v2, hv2, h⟩ := bindE h
    refine y0 rfl (o_ari rfl rfl hv2) ?_
    obtain ⟨v3, hv3, h⟩ := bindE h
    refine y0 rfl (o_call (ds := [.int .i64 v1, .int .i64 v2]) rfl Ty.k85 rfl (r01_Pack_ok hv3)) ?_
    refine y0 rfl (o_move (d := .int .i64 a0) rfl) ?_
    refine y0 rfl (o_cmp rfl rfl rfl) ?_
    refine y0 rfl (o_assign (d := .bool (v3 == a0)) rfl) ?_
    refine y_nil ?_
    refine pw_ret ?_
    obtain rfl := Option.some.inj h
    exact ⟨rfl, [_], ⟨rfl, trivial⟩, rfl, by first | exact .inl rfl | exact .inr rfl⟩

set_option maxHeartbeats 4000000 in
theorem r01_Slot_ok {a0 : Int} {r : Int} (h : r01_Slot a0 = some r) : PCalls Try.prog 101 [.int .i64 a0] (.int .i64 r) := by
  unfold r01_Slot at h
  refine pc_intro (N := 9) Try.func101 rfl rfl (Nat.le_of_ble_eq_true rfl) fun w0 imm0 => ?_
  refine sr (by kernel_rfl) ?_
  refine y0 rfl (o_assign (d := .int .i64 0) rfl) ?_
  refine y_nil ?_
  refine pw_seq ?_
  refine sr (by kernel_rfl) ?_
  refine y0 rfl (o_move (d := .int .i64 a0) rfl) ?_
  obtain ⟨v1, hv1, h⟩ := bindE h
  refine y0 rfl (o_call (ds := [.int .i64 a0]) rfl Ty.k125 rfl (r01_Valid_ok hv1)) ?_
  refine y0 rfl (o_not rfl rfl) ?_
  refine y_nil ?_
  refine pw_cond (!v1) rfl (fun hc => ?_) (fun hc => ?_)
  · have h := ifT h hc
    refine sr (by kernel_rfl) ?_
    refine y0 rfl (o_assign (d := .int .i64 (-1)) rfl) ?_
    refine y_nil ?_
    refine pw_ret ?_
    obtain rfl := Option.some.inj h
    exact ⟨rfl, [_], ⟨rfl, trivial⟩, rfl, by first | exact .inl rfl | exact .inr rfl⟩
  · have h := ifF h hc
    refine pw_skip ?_
    refine sr (by kernel_rfl) ?_
    refine y0 rfl (o_move (d := .int .i64 a0) rfl) ?_
    refine y0 rfl (o_ari rfl rfl rfl) ?_
    obtain ⟨v2, hv2, h⟩ := bindE h
    refine y0 rfl (o_ari rfl rfl hv2) ?_
    refine y0 rfl (o_assign (d := .int .i64 v2) rfl) ?_
    refine y_nil ?_
    refine pw_ret ?_
    obtain rfl := Option.some.inj h
    exact ⟨rfl, [_], ⟨rfl, trivial⟩, rfl, by first | exact .inl rfl | exact .inr rfl⟩

set_option maxHeartbeats 4000000 in
theorem r01_Gen_ok {a0 : Int} {r : Int} (h : r01_Gen a0 = some r) : PCalls Try.prog 102 [.int .i64 a0] (.int .i64 r) := by
  unfold r01_Gen at h
  refine pc_intro (N := 9) Try.func102 rfl rfl (Nat.le_of_ble_eq_true rfl) fun w0 imm0 => ?_
  refine sr (by kernel_rfl) ?_
  refine y0 rfl (o_assign (d := .int .i64 0) rfl) ?_
  refine y_nil ?_
  refine pw_seq ?_
  refine sr (by kernel_rfl) ?_
  refine y0 rfl (o_move (d := .int .i64 a0) rfl) ?_
  obtain ⟨v1, hv1, h⟩ := bindE h
  refine y0 rfl (o_call (ds := [.int .i64 a0]) rfl Ty.k125 rfl (r01_Valid_ok hv1)) ?_
  refine y0 rfl (o_not rfl rfl) ?_
  refine y_nil ?_
  refine pw_cond (!v1) rfl (fun hc => ?_) (fun hc => ?_)
  · have h := ifT h hc
    refine sr (by kernel_rfl) ?_
    refine y0 rfl (o_assign (d := .int .i64 (-1)) rfl) ?_
    refine y_nil ?_
    refine pw_ret ?_
    obtain rfl := Option.some.inj h
    exact ⟨rfl, [_], ⟨rfl, trivial⟩, rfl, by first | exact .inl rfl | exact .inr rfl⟩
  · have h := ifF h hc
    refine pw_skip ?_
    refine sr (by kernel_rfl) ?_
    refine y0 rfl (o_move (d := .int .i64 a0) rfl) ?_
    refine y0 rfl (o_ari rfl rfl rfl) ?_
    obtain ⟨v2, hv2, h⟩ := bindE h
    refine y0 rfl (o_ari rfl rfl hv2) ?_
    refine y0 rfl (o_assign (d := .int .i64 v2) rfl) ?_
    refine y_nil ?_
    refine pw_ret ?_
    obtain rfl := Option.some.inj h
    exact ⟨rfl, [_], ⟨rfl, trivial⟩, rfl, by first | exact .inl rfl | exact .inr rfl⟩

set_option maxHeartbeats 4000000 in
theorem r03_Find_ok {a0 : r03_Slab} {a1 : Int} {r : Int × Int} (h : r03_Find a0 a1 = some r) : PCalls Try.prog 61 [r03_Slab.Pv a0, .int .i64 a1] (.tup [.int .i64 r.1, .int .i64 r.2]) := by
  unfold r03_Find at h
  refine pc_intro (N := 42) Try.func61 rfl rfl (Nat.le_of_ble_eq_true rfl) fun w0 imm0 => ?_
  refine sr (by kernel_rfl) ?_
  refine y1 rfl (o_box (d := r03_Slab.Pv a0) (z := 2) (cl := true) rfl rfl rfl rfl rfl) rfl ?_
  refine y0 rfl (o_assign (d := .int .i64 0) rfl) ?_
  refine y0 rfl (o_assign (d := .int .i64 0) rfl) ?_
  refine y_nil ?_
  refine pw_seq ?_
  refine sr (by kernel_rfl) ?_
  refine y0 rfl (o_move (d := .int .i64 a1) rfl) ?_
  refine y0 rfl (o_cmp rfl rfl rfl) ?_
  refine y_nil ?_
  refine pw_cond (a1 == 0) rfl (fun hc => ?_) (fun hc => ?_)
  · have h := ifT h hc
    refine sr (by kernel_rfl) ?_
    refine y0 rfl (o_assign (d := .int .i64 (-1)) rfl) ?_
    refine y0 rfl (o_assign (d := .int .i64 2) rfl) ?_
    refine y_nil ?_
    refine pw_ret ?_
    obtain rfl := Option.some.inj h
    exact ⟨rfl, [_, _], ⟨rfl, ⟨rfl, trivial⟩⟩, rfl, by first | exact .inl rfl | exact .inr rfl⟩
  · have h := ifF h hc
    refine pw_skip ?_
    refine sr (by kernel_rfl) ?_
    refine y0 rfl (o_move (d := .int .i64 a1) rfl) ?_
    obtain ⟨v1, hv1, h⟩ := bindE h
    refine y0 rfl (o_call (ds := [.int .i64 a1]) rfl Ty.k101 rfl (r01_Slot_ok hv1)) ?_
    refine y0 rfl (o_assign (d := .int .i64 v1) rfl) ?_
    refine y_nil ?_
    refine pw_seq ?_
    refine sr (by kernel_rfl) ?_
    refine y0 rfl (o_move (d := .int .i64 v1) rfl) ?_
    refine y0 rfl (o_cmp rfl rfl rfl) ?_
    refine y0 rfl (o_move (d := .bool (decide (v1 < 0))) rfl) ?_
    refine y_if (g := ((decide (v1 < 0)) == false)) rfl (fun hg => o_move (d := .int .i64 v1) rfl) ?_
    refine y_if (g := ((decide (v1 < 0)) == false)) rfl (fun hg => o_fieldAddrP (k := 0) rfl Ty.f81_0 rfl) ?_
    refine y_if (g := ((decide (v1 < 0)) == false)) rfl (fun hg => o_loadS (ct hg) rfl rfl Ty.a79 rfl) ?_
    refine y_if (g := ((decide (v1 < 0)) == false)) rfl (fun hg => o_lnL (f := r03_Cell.Pv) (ct hg) Ty.e79) ?_
    refine y_if (g := ((decide (v1 < 0)) == false)) rfl (fun hg => o_cmp (ct hg) (ct hg) rfl) ?_
    refine y0 rfl (pk_or rfl rfl rfl (fun q => eqF q)) ?_
    refine y_nil ?_
    refine pw_cond ((decide (v1 < 0)) || (decide (v1 ≥ (a0.Cells.length : Int)))) rfl (fun hc => ?_) (fun hc => ?_)
    · have h := ifT h hc
      refine sr (by kernel_rfl) ?_
      refine y0 rfl (o_assign (d := .int .i64 (-1)) rfl) ?_
      refine y0 rfl (o_assign (d := .int .i64 3) rfl) ?_
      refine y_nil ?_
      refine pw_ret ?_
      obtain rfl := Option.some.inj h
      exact ⟨rfl, [_, _], ⟨rfl, ⟨rfl, trivial⟩⟩, rfl, by first | exact .inl rfl | exact .inr rfl⟩
    · have h := ifF h hc
      refine pw_skip ?_
      refine sr (by kernel_rfl) ?_
      refine y0 rfl (o_fieldAddrP (k := 0) rfl Ty.f81_0 rfl) ?_
      refine y0 rfl (o_loadS rfl rfl rfl Ty.a79 rfl) ?_
      refine y0 rfl (o_move (d := .int .i64 v1) rfl) ?_
      obtain ⟨v2, hv2, h⟩ := bindE h
      refine y0 rfl (o_ixL (f := r03_Cell.Pv) (cs := r03_Cell.Pc v2) hv2 rfl rfl Ty.e79 Ty.s123 rfl rfl) ?_
      refine y0 rfl (o_loadRA (cs := r03_Cell.Pc v2) rfl Ty.a123 Ty.s123 (Nat.le_of_ble_eq_true rfl) rfl) ?_
      refine y1 rfl (o_alloc (d := .agg [.int .i64 0, .int .i64 0, .int .i64 0]) (z := 3) rfl Ty.z123 rfl rfl rfl) rfl ?_
      refine y_sto (x' := r03_Cell.Pv v2) (cl' := true) rfl rfl (.inl rfl) Ty.s123 ?_
      refine y_nil ?_
      refine pw_seq ?_
      refine dr [] Ty.mix (by kernel_rfl) (by kernel_rfl) ?_
      refine d7 rfl (fun _ hN => o_fieldAddrP (k := 1) rfl Ty.f123_1 rfl) rfl ?_
      refine d0 rfl (o_loadS rfl rfl rfl Ty.a3 rfl) rfl ?_
      refine d7 rfl (fun _ hN => o_move (d := .int .i64 a1) rfl) rfl ?_
      obtain ⟨v3, hv3, h⟩ := bindE h
      refine d2 rfl (o_call (ds := [.int .i64 a1]) rfl Ty.k102 rfl (r01_Gen_ok hv3)) rfl ?_
      refine d7 rfl (fun _ hN => o_cmp rfl rfl rfl) rfl ?_
      refine d7 rfl (fun _ hN => o_move (d := .bool (v2.Gen != v3)) rfl) rfl ?_
      refine d_if7 (g := ((v2.Gen != v3) == false)) rfl (fun hg _ hN => o_fieldAddrP (k := 0) rfl Ty.f123_0 rfl) rfl ?_
      refine d_if0 (g := ((v2.Gen != v3) == false)) rfl (fun hg => o_loadS (ct hg) rfl rfl Ty.a3 rfl) rfl ?_
      refine d_if7 (g := ((v2.Gen != v3) == false)) rfl (fun hg _ hN => o_cmp (ct hg) rfl rfl) rfl ?_
      refine d_if7 (g := ((v2.Gen != v3) == false)) rfl (fun hg _ hN => o_move (d := .bool (v2.State != 1)) (ct hg)) rfl ?_
      refine d_if7 (g := (((v2.Gen != v3) == false) && ((v2.State != 1) == true))) (want2 rfl rfl rfl) (fun hg _ hN => o_fieldAddrP (k := 0) rfl Ty.f123_0 rfl) rfl ?_
      refine d_if0 (g := (((v2.Gen != v3) == false) && ((v2.State != 1) == true))) (want2 rfl rfl rfl) (fun hg => o_loadS (ct hg) rfl rfl Ty.a3 rfl) rfl ?_
      refine d_if7 (g := (((v2.Gen != v3) == false) && ((v2.State != 1) == true))) (want2 rfl rfl rfl) (fun hg _ hN => o_cmp (ct hg) rfl rfl) rfl ?_
      refine d_if7 (g := ((v2.Gen != v3) == false)) rfl (fun hg _ hN => pk_and (ct hg) rfl rfl (fun q => andI hg (eqT q))) rfl ?_
      refine d7 rfl (fun _ hN => pk_or rfl rfl rfl (fun q => eqF q)) rfl ?_
      refine d_nil ?_
      refine pw_cond ((v2.Gen != v3) || ((v2.State != 1) && (v2.State != 2))) rfl (fun hc => ?_) (fun hc => ?_)
      · have h := ifT h hc
        refine sr (by kernel_rfl) ?_
        refine y0 rfl (o_assign (d := .int .i64 (-1)) rfl) ?_
        refine y0 rfl (o_assign (d := .int .i64 3) rfl) ?_
        refine y_nil ?_
        refine pw_ret ?_
        obtain rfl := Option.some.inj h
        exact ⟨rfl, [_, _], ⟨rfl, ⟨rfl, trivial⟩⟩, rfl, by first | exact .inl rfl | exact .inr rfl⟩
      · have h := ifF h hc
        refine pw_skip ?_
        refine sr (by kernel_rfl) ?_
        refine y0 rfl (o_move (d := .int .i64 v1) rfl) ?_
        refine y0 rfl (o_assign (d := .int .i64 v1) rfl) ?_
        refine y0 rfl (o_assign (d := .int .i64 0) rfl) ?_
        refine y_nil ?_
        refine pw_ret ?_
        obtain rfl := Option.some.inj h
        exact ⟨rfl, [_, _], ⟨rfl, ⟨rfl, trivial⟩⟩, rfl, by first | exact .inl rfl | exact .inr rfl⟩

set_option maxHeartbeats 4000000 in
theorem r03_Get_ok {a0 : r03_Slab} {a1 : Int} {r : Int × Int} (h : r03_Get a0 a1 = some r) : PCalls Try.prog 113 [r03_Slab.Pv a0, .int .i64 a1] (.tup [.int .i64 r.1, .int .i64 r.2]) := by
  unfold r03_Get at h
  refine pc_intro (N := 30) Try.func113 rfl rfl (Nat.le_of_ble_eq_true rfl) fun w0 imm0 => ?_
  refine sr (by kernel_rfl) ?_
  refine y1 rfl (o_box (d := r03_Slab.Pv a0) (z := 2) (cl := true) rfl rfl rfl rfl rfl) rfl ?_
  refine y0 rfl (o_assign (d := .int .i64 0) rfl) ?_
  refine y0 rfl (o_assign (d := .int .i64 0) rfl) ?_
  refine y_nil ?_
  refine sr (by kernel_rfl) ?_
  refine y0 rfl (o_loadA (cs := r03_Slab.Pc a0) rfl rfl rfl Ty.a81 Ty.s81 (Nat.le_of_ble_eq_true rfl) rfl) ?_
  refine y0 rfl (o_move (d := .int .i64 a1) rfl) ?_
  obtain ⟨v1, hv1, h⟩ := bindE h
  refine y0 rfl (o_call (ds := [r03_Slab.Pv a0, .int .i64 a1]) rfl Ty.k61 rfl (r03_Find_ok hv1)) ?_
  refine y0 rfl (o_move (d := .tup [.int .i64 v1.1, .int .i64 v1.2]) rfl) ?_
  refine y0 rfl (o_extract rfl rfl) ?_
  refine y0 rfl (o_extract rfl rfl) ?_
  refine y0 rfl (o_assign (d := .int .i64 v1.1) rfl) ?_
  refine y0 rfl (o_assign (d := .int .i64 v1.2) rfl) ?_
  refine y_nil ?_
  refine pw_seq ?_
  refine sr (by kernel_rfl) ?_
  refine y0 rfl (o_move (d := .int .i64 v1.2) rfl) ?_
  refine y0 rfl (o_cmp rfl rfl rfl) ?_
  refine y_nil ?_
  refine pw_cond (v1.2 != 0) rfl (fun hc => ?_) (fun hc => ?_)
  · have h := ifT h hc
    refine sr (by kernel_rfl) ?_
    refine y0 rfl (o_move (d := .int .i64 v1.2) rfl) ?_
    refine y0 rfl (o_assign (d := .int .i64 0) rfl) ?_
    refine y0 rfl (o_assign (d := .int .i64 v1.2) rfl) ?_
    refine y_nil ?_
    refine pw_ret ?_
    obtain rfl := Option.some.inj h
    exact ⟨rfl, [_, _], ⟨rfl, ⟨rfl, trivial⟩⟩, rfl, by first | exact .inl rfl | exact .inr rfl⟩
  · have h := ifF h hc
    refine pw_skip ?_
    refine pw_seq ?_
    refine sr (by kernel_rfl) ?_
    refine y0 rfl (o_fieldAddrP (k := 0) rfl Ty.f81_0 rfl) ?_
    refine y0 rfl (o_loadS rfl rfl rfl Ty.a79 rfl) ?_
    refine y0 rfl (o_move (d := .int .i64 v1.1) rfl) ?_
    obtain ⟨v2, hv2, h⟩ := bindE h
    refine y0 rfl (o_ixL (f := r03_Cell.Pv) (cs := r03_Cell.Pc v2) hv2 rfl rfl Ty.e79 Ty.s123 rfl rfl) ?_
    refine y0 rfl (o_fieldAddrR rfl Ty.f123_0 rfl) ?_
    refine y0 rfl (o_loadRS rfl Ty.a3 rfl) ?_
    refine y0 rfl (o_cmp rfl rfl rfl) ?_
    refine y_nil ?_
    refine pw_cond (v2.State == 2) rfl (fun hc => ?_) (fun hc => ?_)
    · have h := ifT h hc
      refine sr (by kernel_rfl) ?_
      refine y0 rfl (o_assign (d := .int .i64 0) rfl) ?_
      refine y0 rfl (o_assign (d := .int .i64 3) rfl) ?_
      refine y_nil ?_
      refine pw_ret ?_
      obtain rfl := Option.some.inj h
      exact ⟨rfl, [_, _], ⟨rfl, ⟨rfl, trivial⟩⟩, rfl, by first | exact .inl rfl | exact .inr rfl⟩
    · have h := ifF h hc
      refine pw_skip ?_
      refine sr (by kernel_rfl) ?_
      refine y0 rfl (o_fieldAddrP (k := 0) rfl Ty.f81_0 rfl) ?_
      refine y0 rfl (o_loadS rfl rfl rfl Ty.a79 rfl) ?_
      refine y0 rfl (o_move (d := .int .i64 v1.1) rfl) ?_
      refine y0 rfl (o_ixL (f := r03_Cell.Pv) (cs := r03_Cell.Pc v2) hv2 rfl rfl Ty.e79 Ty.s123 rfl rfl) ?_
      refine y0 rfl (o_fieldAddrR rfl Ty.f123_2 rfl) ?_
      refine y0 rfl (o_loadRS rfl Ty.a3 rfl) ?_
      refine y0 rfl (o_assign (d := .int .i64 v2.Val) rfl) ?_
      refine y0 rfl (o_assign (d := .int .i64 0) rfl) ?_
      refine y_nil ?_
      refine pw_ret ?_
      obtain rfl := Option.some.inj h
      exact ⟨rfl, [_, _], ⟨rfl, ⟨rfl, trivial⟩⟩, rfl, by first | exact .inl rfl | exact .inr rfl⟩

set_option maxHeartbeats 4000000 in
theorem r06_Get_ok {a0 : r06_Store} {a1 : Int} {r : r06_Obj × Int} (h : r06_Get a0 a1 = some r) : PCalls Try.prog 81 [r06_Store.Pv a0, .int .i64 a1] (.tup [r06_Obj.Pv r.1, .int .i64 r.2]) := by
  unfold r06_Get at h
  refine pc_intro (N := 25) Try.func81 rfl rfl (Nat.le_of_ble_eq_true rfl) fun w0 imm0 => ?_
  refine sr (by kernel_rfl) ?_
  refine y1 rfl (o_box (d := r06_Store.Pv a0) (z := 3) (cl := true) rfl rfl rfl rfl rfl) rfl ?_
  refine y1 rfl (o_alloc (d := .agg [.int .i64 0, .int .i64 0, .int .i64 0, .int .i64 0, .bool false, .lst true (List.map (PV.int .i64) [])]) (z := 6) rfl Ty.z41 rfl rfl rfl) rfl ?_
  refine y0 rfl (o_assign (d := .int .i64 0) rfl) ?_
  refine y_nil ?_
  refine sr (by kernel_rfl) ?_
  refine y0 rfl (o_loadA (cs := r06_Store.Pc a0) rfl rfl rfl Ty.a37 Ty.s37 (Nat.le_of_ble_eq_true rfl) rfl) ?_
  obtain ⟨v1, hv1, h⟩ := bindE h
  refine yc rfl (o_callF (ls := []) (ds := [r06_Store.Pv a0]) rfl Ty.k62 rfl (r06_Plain_ok hv1)) ?_
  refine y0 rfl (o_move (d := .int .i64 a1) rfl) ?_
  obtain ⟨v2, hv2, h⟩ := bindE h
  refine y0 rfl (o_call (ds := [r03_Slab.Pv v1, .int .i64 a1]) rfl Ty.k113 rfl (r03_Get_ok hv2)) ?_
  refine y0 rfl (o_move (d := .tup [.int .i64 v2.1, .int .i64 v2.2]) rfl) ?_
  refine y0 rfl (o_extract rfl rfl) ?_
  refine y0 rfl (o_extract rfl rfl) ?_
  refine y0 rfl (o_assign (d := .int .i64 v2.1) rfl) ?_
  refine y0 rfl (o_assign (d := .int .i64 v2.2) rfl) ?_
  refine y_nil ?_
  refine pw_seq ?_
  refine sr (by kernel_rfl) ?_
  refine y0 rfl (o_move (d := .int .i64 v2.2) rfl) ?_
  refine y0 rfl (o_cmp rfl rfl rfl) ?_
  refine y_nil ?_
  refine pw_cond (v2.2 != 0) rfl (fun hc => ?_) (fun hc => ?_)
  · have h := ifT h hc
    refine sr (by kernel_rfl) ?_
    refine y0 rfl (o_build (cs := [.int .i64 0, .int .i64 0, .int .i64 0, .int .i64 0, .bool false, .lst true (List.map (PV.int .i64) [])]) rfl Ty.p41 Ty.z41 rfl rfl rfl) ?_
    refine y0 rfl (o_move (d := .int .i64 v2.2) rfl) ?_
    refine y_sto (x' := .agg [.int .i64 0, .int .i64 0, .int .i64 0, .int .i64 0, .bool false, .lst true (List.map (PV.int .i64) [])]) (cl' := true) rfl rfl (.inl rfl) Ty.s41 ?_
    refine y0 rfl (o_assign (d := .int .i64 v2.2) rfl) ?_
    refine y_nil ?_
    refine pw_ret ?_
    obtain rfl := Option.some.inj h
    exact ⟨rfl, [_, _], ⟨o_loadA rfl rfl rfl Ty.a41 Ty.s41 (Nat.le_of_ble_eq_true rfl) rfl, ⟨rfl, trivial⟩⟩, rfl, by first | exact .inl rfl | exact .inr rfl⟩
  · have h := ifF h hc
    refine pw_skip ?_
    refine sr (by kernel_rfl) ?_
    refine y0 rfl (o_fieldAddrP (k := 0) rfl Ty.f37_0 rfl) ?_
    refine y0 rfl (o_loadS rfl rfl rfl Ty.a35 rfl) ?_
    refine y0 rfl (o_move (d := .int .i64 v2.1) rfl) ?_
    obtain ⟨v3, hv3, h⟩ := bindE h
    refine y0 rfl (o_ixL (f := r06_Cell.Pv) (cs := r06_Cell.Pc v3) hv3 rfl rfl Ty.e35 Ty.s87 rfl rfl) ?_
    refine y0 rfl (o_fieldAddrR rfl Ty.f87_2 rfl) ?_
    refine y0 rfl (o_loadRA (cs := r06_Obj.Pc v3.Val) rfl Ty.a41 Ty.s41 (Nat.le_of_ble_eq_true rfl) rfl) ?_
    refine y_sto (x' := r06_Obj.Pv v3.Val) (cl' := true) rfl rfl (.inr rfl) Ty.s41 ?_
    refine y0 rfl (o_assign (d := .int .i64 0) rfl) ?_
    refine y_nil ?_
    refine pw_ret ?_
    obtain rfl := Option.some.inj h
    exact ⟨rfl, [_, _], ⟨o_loadA rfl rfl rfl Ty.a41 Ty.s41 (Nat.le_of_ble_eq_true rfl) rfl, ⟨rfl, trivial⟩⟩, rfl, by first | exact .inl rfl | exact .inr rfl⟩

set_option maxHeartbeats 4000000 in
theorem r05_Names_ok {a0 : List Int} {r : List Int} (h : r05_Names a0 = some r) : PCalls Try.prog 82 [.lst false (List.map (PV.int .i64) a0)] (.lst false (List.map (PV.int .i64) r)) := by
  unfold r05_Names at h
  refine pc_intro (N := 25) Try.func82 rfl rfl (Nat.le_of_ble_eq_true rfl) fun w0 imm0 => ?_
  refine sr (by kernel_rfl) ?_
  refine y0 rfl (o_assign (d := .lst true (List.map (PV.int .i64) [])) rfl) ?_
  refine y_nil ?_
  refine sr (by kernel_rfl) ?_
  refine y0 rfl (o_nslice rfl Ty.e27 Ty.s3) ?_
  refine y0 rfl (o_assign (d := .lst true (List.map (PV.int .i64) [])) rfl) ?_
  refine y_nil ?_
  obtain ⟨κ12, hκ9, h⟩ := jnE h
  refine pw_jn0 (κ := κ12) (r := r) (fun (j13 : List Int) => St.of [(3, .sl 910003)] [(910003, ⟨List.map (PV.int .i64) j13, (List.map (PV.int .i64) j13).length, true, 1, true⟩)]) (fun j13 h => ?_) ?_
  · subst hκ9
    refine sr (by kernel_rfl) ?_
    refine y0 rfl (o_move (d := .sl 910003) rfl) ?_
    refine y0 rfl (o_assign (d := .sl 910003) rfl) ?_
    refine y_nil ?_
    refine pw_ret ?_
    obtain rfl := Option.some.inj h
    exact ⟨rfl, [_], ⟨rfl, trivial⟩, rfl, by first | exact .inl rfl | exact .inr rfl⟩
  · skip
    refine sr (by kernel_rfl) ?_
    refine y0 rfl (o_assign (d := .int .i64 0) rfl) ?_
    refine y_nil ?_
    refine pw_block ?_
    obtain ⟨e14, hl10, hk11⟩ := bindE h
    refine pw_lp0 (fun (q : Int × (List Int)) => St.of [(0, .lst false (List.map (PV.int .i64) a0)), (3, .sl 910003), (4, .int .i64 q.1)] [(910003, ⟨List.map (PV.int .i64) q.2, (List.map (PV.int .i64) q.2).length, true, 1, true⟩)]) hl10 (Wk.trans (wk_nil (t := 3) (l := 920003) (z := 1) rfl rfl) (wk_stP (fun l => if l = 910003 then 920003 else l) _ _ ⟨rfl, rfl, rfl, rfl, rfl, rfl, rfl, rfl, rfl, trivial⟩ ⟨rowLe_ren rfl rfl rfl (fun _ => rfl) rfl rfl rfl, trivial⟩ rfl)) (fun q18 x17 h hx12 => ?_)
    obtain ⟨s15, s16⟩ := q18
    refine pw_seq ?_
    refine sr (by kernel_rfl) ?_
    refine y0 rfl (o_move (d := .int .i64 s15) rfl) ?_
    refine y0 rfl (o_move (d := .lst false (List.map (PV.int .i64) a0)) rfl) ?_
    refine y0 rfl (o_lnL (f := (PV.int .i64)) rfl Ty.e27) ?_
    refine y0 rfl (o_cmp rfl rfl rfl) ?_
    refine y_nil ?_
    refine pw_cond (decide (s15 < (a0.length : Int))) rfl (fun hc => ?_) (fun hc => ?_)
    · have h := ifT h hc
      refine pw_skip ?_
      obtain ⟨κ21, hκ15, h⟩ := jnE h
      refine pw_jn0 (κ := κ21) (r := x17) (fun (j22 : List Int) => St.of [(0, .lst false (List.map (PV.int .i64) a0)), (3, .sl 23), (4, .int .i64 s15)] [(23, ⟨List.map (PV.int .i64) j22, (List.map (PV.int .i64) j22).length, true, 1, true⟩)]) (fun j22 h => ?_) ?_
      · subst hκ15
        refine sr1 (by kernel_rfl) ?_
        refine y0 rfl (o_move (d := .int .i64 s15) rfl) ?_
        refine y0 rfl (o_ari rfl rfl rfl) ?_
        refine y0 rfl (o_assign (d := .int .i64 (w64 (s15 + 1))) rfl) ?_
        refine y_nil ?_
        exact ⟨rfl, (w64 (s15 + 1), j22), (Option.some.inj h).symm, (Wk.trans (wk_frz _ [23]) (wk_stP (fun l => if l = 910003 then 23 else l) _ _ ⟨rfl, rfl, rfl, rfl, rfl, rfl, rfl, rfl, rfl, trivial⟩ ⟨rowLe_ren rfl rfl rfl (fun _ => rfl) rfl rfl rfl, trivial⟩ rfl))⟩
      · skip
        refine pw_block ?_
        refine sr (by kernel_rfl) ?_
        refine y0 rfl (o_move (d := .lst false (List.map (PV.int .i64) a0)) rfl) ?_
        refine y0 rfl (o_move (d := .int .i64 s15) rfl) ?_
        obtain ⟨v23, hv16, h⟩ := bindE h
        refine y0 rfl (o_ixL (f := (PV.int .i64)) (cs := [.int .i64 v23]) hv16 rfl rfl Ty.e27 Ty.s3 rfl rfl) ?_
        refine y0 rfl (o_loadRS rfl Ty.a3 rfl) ?_
        refine y0 rfl (o_cmp rfl rfl rfl) ?_
        refine y_nil ?_
        refine pw_cond (v23 != 0) rfl (fun hc => ?_) (fun hc => ?_)
        · have h := ifT h hc
          refine sr1 (by kernel_rfl) ?_
          refine y0 rfl (o_move (d := .sl 910003) rfl) ?_
          refine y0 rfl (o_move (d := .lst false (List.map (PV.int .i64) a0)) rfl) ?_
          refine y0 rfl (o_move (d := .int .i64 s15) rfl) ?_
          refine y0 rfl (o_ixL (f := (PV.int .i64)) (cs := [.int .i64 v23]) hv16 rfl rfl Ty.e27 Ty.s3 rfl rfl) ?_
          refine y0 rfl (o_loadRS rfl Ty.a3 rfl) ?_
          refine y0 rfl (o_bI (f := (PV.int .i64)) (l := [v23]) rfl Ty.e27 Ty.s3 Ty.z3 rfl rfl (Nat.le_of_ble_eq_true rfl) rfl rfl) ?_
          obtain ⟨v24, hv17, h⟩ := bindE h
          refine y_app rfl (o_apR (f := (PV.int .i64)) hv17 rfl rfl rfl rfl rfl rfl (.inl ⟨_, rfl, rfl⟩) Ty.e27 Ty.s3 Ty.b3 Ty.z3 rfl (fun _ => rfl)) rfl rfl rfl ?_
          refine y0 rfl (o_assign (d := .sl 23) rfl) ?_
          refine y_nil ?_
          exact ⟨rfl, v24, h, (Wk.trans (wk_frz _ [23]) (wk_st _ _ ⟨rfl, rfl, rfl, rfl, rfl, rfl, rfl, rfl, rfl, trivial⟩ ⟨rowLe_same rfl rfl rfl (fun _ => rfl) rfl rfl rfl, trivial⟩))⟩
        · have h := ifF h hc
          refine pw_skip ?_
          exact ⟨rfl, s16, h, (Wk.trans (wk_frz _ [910003]) (wk_stP (fun l => if l = 23 then 910003 else l) _ _ ⟨rfl, rfl, rfl, rfl, rfl, rfl, rfl, rfl, rfl, trivial⟩ ⟨rowLe_ren rfl rfl rfl (fun _ => rfl) rfl rfl rfl, trivial⟩ rfl))⟩
    · have h := ifF h hc
      refine pw_exit ?_
      refine thenQ_exit ?_
      refine thenQ_exit ?_
      refine blockQ_exit ?_
      have he := hx12 _ (Option.some.inj h).symm
      have h := hk11
      rw [← he] at h
      exact ⟨rfl, s16, h, (Wk.trans (wk_frz _ [910003]) (wk_st _ _ ⟨rfl, rfl, rfl, trivial⟩ ⟨rowLe_same rfl rfl rfl (fun _ => rfl) rfl rfl rfl, trivial⟩))⟩

set_option maxHeartbeats 4000000 in
theorem r07_Out_ok {a0 : r06_Store} {a1 : Int} {r : List Int} (h : r07_Out a0 a1 = some r) : PCalls Try.prog 37 [r06_Store.Pv a0, .int .i64 a1] (.lst false (List.map (PV.int .i64) r)) := by
  unfold r07_Out at h
  refine pc_intro (N := 18) Try.func37 rfl rfl (Nat.le_of_ble_eq_true rfl) fun w0 imm0 => ?_
  refine sr (by kernel_rfl) ?_
  refine y1 rfl (o_box (d := r06_Store.Pv a0) (z := 3) (cl := true) rfl rfl rfl rfl rfl) rfl ?_
  refine y0 rfl (o_assign (d := .lst true (List.map (PV.int .i64) [])) rfl) ?_
  refine y_nil ?_
  refine sr (by kernel_rfl) ?_
  refine y0 rfl (o_loadA (cs := r06_Store.Pc a0) rfl rfl rfl Ty.a37 Ty.s37 (Nat.le_of_ble_eq_true rfl) rfl) ?_
  refine y0 rfl (o_move (d := .int .i64 a1) rfl) ?_
  obtain ⟨v1, hv1, h⟩ := bindE h
  refine yc rfl (o_callF (ls := []) (ds := [r06_Store.Pv a0, .int .i64 a1]) rfl Ty.k81 rfl (r06_Get_ok hv1)) ?_
  refine y0 rfl (o_move (d := .tup [r06_Obj.Pv v1.1, .int .i64 v1.2]) rfl) ?_
  refine y0 rfl (o_extract rfl rfl) ?_
  refine y0 rfl (o_extract rfl rfl) ?_
  refine y1 rfl (o_alloc (d := .agg [.int .i64 0, .int .i64 0, .int .i64 0, .int .i64 0, .bool false, .lst true (List.map (PV.int .i64) [])]) (z := 6) rfl Ty.z41 rfl rfl rfl) rfl ?_
  refine y_sto (x' := r06_Obj.Pv v1.1) (cl' := true) rfl rfl (.inr rfl) Ty.s41 ?_
  refine y0 rfl (o_assign (d := .int .i64 v1.2) rfl) ?_
  refine y_nil ?_
  refine pw_seq ?_
  refine sr (by kernel_rfl) ?_
  refine y0 rfl (o_move (d := .int .i64 v1.2) rfl) ?_
  refine y0 rfl (o_cmp rfl rfl rfl) ?_
  refine y_nil ?_
  refine pw_cond (v1.2 != 0) rfl (fun hc => ?_) (fun hc => ?_)
  · have h := ifT h hc
    refine sr (by kernel_rfl) ?_
    refine y0 rfl (o_assign (d := .lst true (List.map (PV.int .i64) [])) rfl) ?_
    refine y_nil ?_
    refine pw_ret ?_
    obtain rfl := Option.some.inj h
    exact ⟨rfl, [_], ⟨rfl, trivial⟩, rfl, by first | exact .inl rfl | exact .inr rfl⟩
  · have h := ifF h hc
    refine pw_skip ?_
    refine sr (by kernel_rfl) ?_
    refine y0 rfl (o_fieldAddrP (k := 5) rfl Ty.f41_5 rfl) ?_
    refine y0 rfl (o_loadS rfl rfl rfl Ty.a27 rfl) ?_
    obtain ⟨v2, hv2, h⟩ := bindE h
    refine yc rfl (o_callF (ls := []) (ds := [.lst false (List.map (PV.int .i64) v1.1.Fields)]) rfl Ty.k82 rfl (r05_Names_ok hv2)) ?_
    refine y0 rfl (o_assign (d := .lst false (List.map (PV.int .i64) v2)) rfl) ?_
    refine y_nil ?_
    refine pw_ret ?_
    obtain rfl := Option.some.inj h
    exact ⟨rfl, [_], ⟨rfl, trivial⟩, rfl, by first | exact .inl rfl | exact .inr rfl⟩

set_option maxHeartbeats 4000000 in
theorem r02_Ints_ok {a0 : List Int} {a1 : List Int} {r : Bool} (h : r02_Ints a0 a1 = some r) : PCalls Try.prog 32 [.lst false (List.map (PV.int .i64) a0), .lst false (List.map (PV.int .i64) a1)] (.bool r) := by
  unfold r02_Ints at h
  refine pc_intro (N := 26) Try.func32 rfl rfl (Nat.le_of_ble_eq_true rfl) fun w0 imm0 => ?_
  refine sr (by kernel_rfl) ?_
  refine y0 rfl (o_assign (d := .bool false) rfl) ?_
  refine y_nil ?_
  refine pw_seq ?_
  refine sr (by kernel_rfl) ?_
  refine y0 rfl (o_move (d := .lst false (List.map (PV.int .i64) a0)) rfl) ?_
  refine y0 rfl (o_lnL (f := (PV.int .i64)) rfl Ty.e27) ?_
  refine y0 rfl (o_move (d := .lst false (List.map (PV.int .i64) a1)) rfl) ?_
  refine y0 rfl (o_lnL (f := (PV.int .i64)) rfl Ty.e27) ?_
  refine y0 rfl (o_cmp rfl rfl rfl) ?_
  refine y_nil ?_
  refine pw_cond ((a0.length : Int) != (a1.length : Int)) rfl (fun hc => ?_) (fun hc => ?_)
  · have h := ifT h hc
    refine sr (by kernel_rfl) ?_
    refine y0 rfl (o_assign (d := .bool false) rfl) ?_
    refine y_nil ?_
    refine pw_ret ?_
    obtain rfl := Option.some.inj h
    exact ⟨rfl, [_], ⟨rfl, trivial⟩, rfl, by first | exact .inl rfl | exact .inr rfl⟩
  · have h := ifF h hc
    refine pw_skip ?_
    obtain ⟨κ6, hκ6, h⟩ := jnE h
    refine pw_jn0 (κ := κ6) (r := r) (fun (_ : Unit) => St.of [] []) (fun q7 h => ?_) ?_
    · subst hκ6
      refine sr (by kernel_rfl) ?_
      refine y0 rfl (o_assign (d := .bool true) rfl) ?_
      refine y_nil ?_
      refine pw_ret ?_
      obtain rfl := Option.some.inj h
      exact ⟨rfl, [_], ⟨rfl, trivial⟩, rfl, by first | exact .inl rfl | exact .inr rfl⟩
    · skip
      refine sr (by kernel_rfl) ?_
      refine y0 rfl (o_assign (d := .int .i64 0) rfl) ?_
      refine y_nil ?_
      refine pw_block ?_
      obtain ⟨e8, hl7, hk8⟩ := bindE h
      refine pw_lp0 (fun (s9 : Int) => St.of [(0, .lst false (List.map (PV.int .i64) a0)), (1, .lst false (List.map (PV.int .i64) a1)), (5, .int .i64 s9)] []) hl7 (wk_st _ _ ⟨rfl, rfl, rfl, rfl, rfl, rfl, rfl, rfl, rfl, trivial⟩ trivial) (fun s9 x10 h hx9 => ?_)
      refine pw_seq ?_
      refine sr (by kernel_rfl) ?_
      refine y0 rfl (o_move (d := .int .i64 s9) rfl) ?_
      refine y0 rfl (o_move (d := .lst false (List.map (PV.int .i64) a0)) rfl) ?_
      refine y0 rfl (o_lnL (f := (PV.int .i64)) rfl Ty.e27) ?_
      refine y0 rfl (o_cmp rfl rfl rfl) ?_
      refine y_nil ?_
      refine pw_cond (decide (s9 < (a0.length : Int))) rfl (fun hc => ?_) (fun hc => ?_)
      · have h := ifT h hc
        refine pw_skip ?_
        refine pw_seq ?_
        refine pw_block ?_
        refine dr [] Ty.mix (by kernel_rfl) (by kernel_rfl) ?_
        refine d7 rfl (fun _ hN => o_move (d := .lst false (List.map (PV.int .i64) a0)) rfl) rfl ?_
        refine d7 rfl (fun _ hN => o_move (d := .int .i64 s9) rfl) rfl ?_
        obtain ⟨v11, hv10, h⟩ := bindE h
        refine d0 rfl (o_ixL (f := (PV.int .i64)) (cs := [.int .i64 v11]) hv10 rfl rfl Ty.e27 Ty.s3 rfl rfl) rfl ?_
        refine d0 rfl (o_loadRS rfl Ty.a3 rfl) rfl ?_
        refine d7 rfl (fun _ hN => o_move (d := .lst false (List.map (PV.int .i64) a1)) rfl) rfl ?_
        refine d7 rfl (fun _ hN => o_move (d := .int .i64 s9) rfl) rfl ?_
        obtain ⟨v12, hv11, h⟩ := bindE h
        refine d0 rfl (o_ixL (f := (PV.int .i64)) (cs := [.int .i64 v12]) hv11 rfl rfl Ty.e27 Ty.s3 rfl rfl) rfl ?_
        refine d0 rfl (o_loadRS rfl Ty.a3 rfl) rfl ?_
        refine d7 rfl (fun _ hN => o_cmp rfl rfl rfl) rfl ?_
        refine d_nil ?_
        refine pw_cond (v11 != v12) rfl (fun hc => ?_) (fun hc => ?_)
        · have h := ifT h hc
          refine sr (by kernel_rfl) ?_
          refine y0 rfl (o_assign (d := .bool false) rfl) ?_
          refine y_nil ?_
          refine pw_ret ?_
          have he := hx9 _ (Option.some.inj h).symm
          have h := hk8
          rw [← he] at h
          obtain rfl := Option.some.inj h
          exact ⟨rfl, [_], ⟨rfl, trivial⟩, rfl, by first | exact .inl rfl | exact .inr rfl⟩
        · have h := ifF h hc
          refine pw_skip ?_
          refine sr1 (by kernel_rfl) ?_
          refine y0 rfl (o_move (d := .int .i64 s9) rfl) ?_
          refine y0 rfl (o_ari rfl rfl rfl) ?_
          refine y0 rfl (o_assign (d := .int .i64 (w64 (s9 + 1))) rfl) ?_
          refine y_nil ?_
          exact ⟨rfl, w64 (s9 + 1), (Option.some.inj h).symm, (wk_st _ _ ⟨rfl, rfl, rfl, rfl, rfl, rfl, rfl, rfl, rfl, trivial⟩ trivial)⟩
      · have h := ifF h hc
        refine pw_exit ?_
        refine thenQ_exit ?_
        refine thenQ_exit ?_
        refine blockQ_exit ?_
        have he := hx9 _ (Option.some.inj h).symm
        have h := hk8
        rw [← he] at h
        exact ⟨rfl, (), h, (wk_st _ _ trivial trivial)⟩

set_option maxHeartbeats 4000000 in
theorem r06_Sorted_ok {a0 : r06_Store} {a1 : List Int} {r : List Int} (h : r06_Sorted a0 a1 = some r) : PCalls Try.prog 86 [r06_Store.Pv a0, .lst false (List.map (PV.int .i64) a1)] (.lst false (List.map (PV.int .i64) r)) := by
  unfold r06_Sorted at h
  refine pc_intro (N := 89) Try.func86 rfl rfl (Nat.le_of_ble_eq_true rfl) fun w0 imm0 => ?_
  refine sr (by kernel_rfl) ?_
  refine y1 rfl (o_box (d := r06_Store.Pv a0) (z := 3) (cl := true) rfl rfl rfl rfl rfl) rfl ?_
  refine y0 rfl (o_assign (d := .lst true (List.map (PV.int .i64) [])) rfl) ?_
  refine y_nil ?_
  refine sr (by kernel_rfl) ?_
  refine y0 rfl (o_nslice rfl Ty.e27 Ty.s3) ?_
  refine y0 rfl (o_move (d := .lst false (List.map (PV.int .i64) a1)) rfl) ?_
  obtain ⟨v1, hv1, h⟩ := bindE h
  refine y1 rfl (o_apT (f := (PV.int .i64)) hv1 rfl rfl (.inl ⟨_, rfl, rfl⟩) Ty.e27 Ty.s3 Ty.b3 Ty.z3 rfl (fun _ => rfl)) rfl ?_
  refine y0 rfl (o_assign (d := .sl 15) rfl) ?_
  refine y_nil ?_
  obtain ⟨κ35, hκ28, h⟩ := jnE h
  refine pw_jn0 (κ := κ35) (r := r) (fun (j36 : List Int) => St.of [(5, .sl 15)] [(15, ⟨List.map (PV.int .i64) j36, 0, true, 1, true⟩)]) (fun j36 h => ?_) ?_
  · subst hκ28
    refine sr (by kernel_rfl) ?_
    refine y0 rfl (o_move (d := .sl 15) rfl) ?_
    refine y0 rfl (o_assign (d := .sl 15) rfl) ?_
    refine y_nil ?_
    refine pw_ret ?_
    obtain rfl := Option.some.inj h
    exact ⟨rfl, [_], ⟨rfl, trivial⟩, rfl, by first | exact .inl rfl | exact .inr rfl⟩
  · skip
    refine sr (by kernel_rfl) ?_
    refine y0 rfl (o_assign (d := .int .i64 1) rfl) ?_
    refine y_nil ?_
    refine pw_block ?_
    obtain ⟨e37, hl29, hk30⟩ := bindE h
    refine pw_lp0 (fun (q : Int × (List Int)) => St.of [(2, .ptr 2 0 0), (5, .sl 15), (6, .int .i64 q.1)] [(15, ⟨List.map (PV.int .i64) q.2, 0, true, 1, true⟩), (2, ⟨[r06_Store.Pv a0], 0, false, 3, true⟩)]) hl29 (wk_st _ _ ⟨rfl, rfl, rfl, rfl, rfl, rfl, rfl, rfl, rfl, trivial⟩ ⟨rowLe_same rfl rfl rfl (fun _ => rfl) rfl rfl rfl, rowLe_same rfl rfl rfl (fun q => nomatch q) rfl rfl rfl, trivial⟩) (fun q41 x40 h hx31 => ?_)
    obtain ⟨s38, s39⟩ := q41
    refine pw_seq ?_
    refine sr (by kernel_rfl) ?_
    refine y0 rfl (o_move (d := .int .i64 s38) rfl) ?_
    refine y0 rfl (o_move (d := .sl 15) rfl) ?_
    refine y0 rfl (o_lnR (f := (PV.int .i64)) rfl rfl rfl Ty.e27) ?_
    refine y0 rfl (o_cmp rfl rfl rfl) ?_
    refine y_nil ?_
    refine pw_cond (decide (s38 < (s39.length : Int))) rfl (fun hc => ?_) (fun hc => ?_)
    · have h := ifT h hc
      refine pw_skip ?_
      obtain ⟨κ55, hκ43, h⟩ := jnE h
      refine pw_jn0 (κ := κ55) (r := x40) (fun (j56 : List Int) => St.of [(2, .ptr 2 0 0), (5, .sl 15), (6, .int .i64 s38)] [(15, ⟨List.map (PV.int .i64) j56, 0, true, 1, true⟩), (2, ⟨[r06_Store.Pv a0], 0, false, 3, true⟩)]) (fun j56 h => ?_) ?_
      · subst hκ43
        refine sr1 (by kernel_rfl) ?_
        refine y0 rfl (o_move (d := .int .i64 s38) rfl) ?_
        refine y0 rfl (o_ari rfl rfl rfl) ?_
        refine y0 rfl (o_assign (d := .int .i64 (w64 (s38 + 1))) rfl) ?_
        refine y_nil ?_
        exact ⟨rfl, (w64 (s38 + 1), j56), (Option.some.inj h).symm, (wk_st _ _ ⟨rfl, rfl, rfl, rfl, rfl, rfl, rfl, rfl, rfl, trivial⟩ ⟨rowLe_same rfl rfl rfl (fun _ => rfl) rfl rfl rfl, rowLe_same rfl rfl rfl (fun q => nomatch q) rfl rfl rfl, trivial⟩)⟩
      · skip
        refine pw_block ?_
        refine sr (by kernel_rfl) ?_
        refine y0 rfl (o_move (d := .int .i64 s38) rfl) ?_
        refine y0 rfl (o_assign (d := .int .i64 s38) rfl) ?_
        refine y_nil ?_
        refine pw_block ?_
        obtain ⟨e57, hl44, hk45⟩ := bindE h
        refine pw_lp0 (fun (q : Int × (List Int)) => St.of [(2, .ptr 2 0 0), (5, .sl 15), (6, .int .i64 s38), (7, .int .i64 q.1)] [(15, ⟨List.map (PV.int .i64) q.2, 0, true, 1, true⟩), (2, ⟨[r06_Store.Pv a0], 0, false, 3, true⟩)]) hl44 (wk_st _ _ ⟨rfl, rfl, rfl, rfl, rfl, rfl, rfl, rfl, rfl, rfl, rfl, rfl, trivial⟩ ⟨rowLe_same rfl rfl rfl (fun _ => rfl) rfl rfl rfl, rowLe_same rfl rfl rfl (fun q => nomatch q) rfl rfl rfl, trivial⟩) (fun q61 x60 h hx46 => ?_)
        obtain ⟨s58, s59⟩ := q61
        refine pw_seq ?_
        refine sr (by kernel_rfl) ?_
        refine y0 rfl (o_move (d := .int .i64 s58) rfl) ?_
        refine y0 rfl (o_cmp rfl rfl rfl) ?_
        refine y_nil ?_
        refine pw_cond (decide (s58 > 0)) rfl (fun hc => ?_) (fun hc => ?_)
        · have h := ifT h hc
          refine pw_skip ?_
          refine pw_seq ?_
          refine pw_block ?_
          refine dr [] Ty.mix (by kernel_rfl) (by kernel_rfl) ?_
          refine d0 rfl (o_loadA (cs := r06_Store.Pc a0) rfl rfl rfl Ty.a37 Ty.s37 (Nat.le_of_ble_eq_true rfl) rfl) rfl ?_
          obtain ⟨v62, hv47, h⟩ := bindE h
          refine d2f rfl (o_callF (ls := []) (ds := [r06_Store.Pv a0]) rfl Ty.k62 rfl (r06_Plain_ok hv47)) rfl ?_
          refine d7 rfl (fun _ hN => o_move (d := .sl 15) rfl) rfl ?_
          refine d7 rfl (fun _ hN => o_move (d := .int .i64 s58) rfl) rfl ?_
          refine d7 rfl (fun _ hN => o_ari rfl rfl rfl) rfl ?_
          obtain ⟨v63, hv48, h⟩ := bindE h
          refine d0 rfl (o_ixR (f := (PV.int .i64)) hv48 rfl rfl rfl rfl Ty.e27 Ty.s3 rfl) rfl ?_
          refine d0 rfl (o_ldS (f := (PV.int .i64)) hv48 rfl rfl rfl Ty.a3 rfl) rfl ?_
          obtain ⟨v64, hv49, h⟩ := bindE h
          refine d2 rfl (o_call (ds := [r03_Slab.Pv v62, .int .i64 v63]) rfl Ty.k61 rfl (r03_Find_ok hv49)) rfl ?_
          refine d7 rfl (fun _ hN => o_move (d := .tup [.int .i64 v64.1, .int .i64 v64.2]) rfl) rfl ?_
          refine d7 rfl (fun _ hN => o_extract rfl rfl) rfl ?_
          refine d7 rfl (fun _ hN => o_extract rfl rfl) rfl ?_
          refine d7 rfl (fun _ hN => o_assign (d := .int .i64 v64.1) rfl) rfl ?_
          refine d7 rfl (fun _ hN => o_assign (d := .int .i64 v64.2) rfl) rfl ?_
          refine d_nil ?_
          refine dr [] Ty.mix (by kernel_rfl) (by kernel_rfl) ?_
          refine d0 rfl (o_loadA (cs := r06_Store.Pc a0) rfl rfl rfl Ty.a37 Ty.s37 (Nat.le_of_ble_eq_true rfl) rfl) rfl ?_
          refine d2f rfl (o_callF (ls := []) (ds := [r06_Store.Pv a0]) rfl Ty.k62 rfl (r06_Plain_ok hv47)) rfl ?_
          refine d7 rfl (fun _ hN => o_move (d := .sl 15) rfl) rfl ?_
          refine d7 rfl (fun _ hN => o_move (d := .int .i64 s58) rfl) rfl ?_
          obtain ⟨v65, hv50, h⟩ := bindE h
          refine d0 rfl (o_ixR (f := (PV.int .i64)) hv50 rfl rfl rfl rfl Ty.e27 Ty.s3 rfl) rfl ?_
          refine d0 rfl (o_ldS (f := (PV.int .i64)) hv50 rfl rfl rfl Ty.a3 rfl) rfl ?_
          obtain ⟨v66, hv51, h⟩ := bindE h
          refine d2 rfl (o_call (ds := [r03_Slab.Pv v62, .int .i64 v65]) rfl Ty.k61 rfl (r03_Find_ok hv51)) rfl ?_
          refine d7 rfl (fun _ hN => o_move (d := .tup [.int .i64 v66.1, .int .i64 v66.2]) rfl) rfl ?_
          refine d7 rfl (fun _ hN => o_extract rfl rfl) rfl ?_
          refine d7 rfl (fun _ hN => o_extract rfl rfl) rfl ?_
          refine d7 rfl (fun _ hN => o_assign (d := .int .i64 v66.1) rfl) rfl ?_
          refine d7 rfl (fun _ hN => o_assign (d := .int .i64 v66.2) rfl) rfl ?_
          refine d_nil ?_
          refine pw_seq ?_
          refine dr [] Ty.mix (by kernel_rfl) (by kernel_rfl) ?_
          refine d7 rfl (fun _ hN => o_move (d := .int .i64 v64.1) rfl) rfl ?_
          refine d7 rfl (fun _ hN => o_cmp rfl rfl rfl) rfl ?_
          refine d7 rfl (fun _ hN => o_move (d := .bool (decide (v64.1 < 0))) rfl) rfl ?_
          refine d_if7 (g := ((decide (v64.1 < 0)) == false)) rfl (fun hg _ hN => o_move (d := .int .i64 v66.1) rfl) rfl ?_
          refine d_if7 (g := ((decide (v64.1 < 0)) == false)) rfl (fun hg _ hN => o_cmp (ct hg) rfl rfl) rfl ?_
          refine d7 rfl (fun _ hN => pk_or rfl rfl rfl (fun q => eqF q)) rfl ?_
          refine d7 rfl (fun _ hN => o_move (d := .bool ((decide (v64.1 < 0)) || (decide (v66.1 < 0)))) rfl) rfl ?_
          refine d_if7 (g := (((decide (v64.1 < 0)) || (decide (v66.1 < 0))) == false)) rfl (fun hg _ hN => o_fieldAddrP (k := 0) rfl Ty.f37_0 rfl) rfl ?_
          refine d_if0 (g := (((decide (v64.1 < 0)) || (decide (v66.1 < 0))) == false)) rfl (fun hg => o_loadS (ct hg) rfl rfl Ty.a35 rfl) rfl ?_
          refine d_if7 (g := (((decide (v64.1 < 0)) || (decide (v66.1 < 0))) == false)) rfl (fun hg _ hN => o_move (d := .int .i64 v64.1) rfl) rfl ?_
          obtain ⟨v67, hv52, h⟩ := bindE h
          refine d_if0 (g := (((decide (v64.1 < 0)) || (decide (v66.1 < 0))) == false)) rfl (fun hg => o_ixL (f := r06_Cell.Pv) (cs := r06_Cell.Pc v67) (onlyE hv52 hg) (ct hg) (ct hg) Ty.e35 Ty.s87 rfl rfl) rfl ?_
          refine d_if7 (g := (((decide (v64.1 < 0)) || (decide (v66.1 < 0))) == false)) rfl (fun hg _ hN => o_fieldAddrR (ct hg) Ty.f87_2 rfl) rfl ?_
          refine d_if7 (g := (((decide (v64.1 < 0)) || (decide (v66.1 < 0))) == false)) rfl (fun hg _ hN => o_fieldAddrR (ct hg) Ty.f41_0 rfl) rfl ?_
          refine d_if0 (g := (((decide (v64.1 < 0)) || (decide (v66.1 < 0))) == false)) rfl (fun hg => o_loadRS (ct hg) Ty.a3 rfl) rfl ?_
          refine d_if7 (g := (((decide (v64.1 < 0)) || (decide (v66.1 < 0))) == false)) rfl (fun hg _ hN => o_fieldAddrP (k := 0) rfl Ty.f37_0 rfl) rfl ?_
          refine d_if0 (g := (((decide (v64.1 < 0)) || (decide (v66.1 < 0))) == false)) rfl (fun hg => o_loadS (ct hg) rfl rfl Ty.a35 rfl) rfl ?_
          refine d_if7 (g := (((decide (v64.1 < 0)) || (decide (v66.1 < 0))) == false)) rfl (fun hg _ hN => o_move (d := .int .i64 v66.1) rfl) rfl ?_
          obtain ⟨v68, hv53, h⟩ := bindE h
          refine d_if0 (g := (((decide (v64.1 < 0)) || (decide (v66.1 < 0))) == false)) rfl (fun hg => o_ixL (f := r06_Cell.Pv) (cs := r06_Cell.Pc v68) (onlyE hv53 hg) (ct hg) (ct hg) Ty.e35 Ty.s87 rfl rfl) rfl ?_
          refine d_if7 (g := (((decide (v64.1 < 0)) || (decide (v66.1 < 0))) == false)) rfl (fun hg _ hN => o_fieldAddrR (ct hg) Ty.f87_2 rfl) rfl ?_
          refine d_if7 (g := (((decide (v64.1 < 0)) || (decide (v66.1 < 0))) == false)) rfl (fun hg _ hN => o_fieldAddrR (ct hg) Ty.f41_0 rfl) rfl ?_
          refine d_if0 (g := (((decide (v64.1 < 0)) || (decide (v66.1 < 0))) == false)) rfl (fun hg => o_loadRS (ct hg) Ty.a3 rfl) rfl ?_
          refine d_if7 (g := (((decide (v64.1 < 0)) || (decide (v66.1 < 0))) == false)) rfl (fun hg _ hN => o_cmp (ct hg) (ct hg) rfl) rfl ?_
          refine d7 rfl (fun _ hN => pk_or rfl rfl rfl (fun q => eqF q)) rfl ?_
          refine d_nil ?_
          refine pw_cond (((decide (v64.1 < 0)) || (decide (v66.1 < 0))) || (decide (v67.Val.Serial ≤ v68.Val.Serial))) rfl (fun hc => ?_) (fun hc => ?_)
          · have h := ifT h hc
            refine pw_exit ?_
            refine thenQ_exit ?_
            refine blockQ_other (by decide) ?_
            refine thenQ_exit ?_
            refine thenQ_exit ?_
            refine blockQ_exit ?_
            have he := hx46 _ (Option.some.inj h).symm
            have h := hk45
            rw [← he] at h
            exact ⟨rfl, s59, h, (wk_st _ _ ⟨rfl, rfl, rfl, rfl, rfl, rfl, rfl, rfl, rfl, trivial⟩ ⟨rowLe_same rfl rfl rfl (fun _ => rfl) rfl rfl rfl, rowLe_same rfl rfl rfl (fun q => nomatch q) rfl rfl rfl, trivial⟩)⟩
          · have h := ifF h hc
            refine pw_skip ?_
            refine sr (by kernel_rfl) ?_
            refine y0 rfl (o_move (d := .sl 15) rfl) ?_
            refine y0 rfl (o_move (d := .int .i64 s58) rfl) ?_
            refine y0 rfl (o_ixR (f := (PV.int .i64)) hv50 rfl rfl rfl rfl Ty.e27 Ty.s3 rfl) ?_
            refine y0 rfl (o_ldS (f := (PV.int .i64)) hv50 rfl rfl rfl Ty.a3 rfl) ?_
            refine y0 rfl (o_assign (d := .int .i64 v65) rfl) ?_
            refine y_nil ?_
            refine sr (by kernel_rfl) ?_
            refine y0 rfl (o_move (d := .sl 15) rfl) ?_
            refine y0 rfl (o_move (d := .int .i64 s58) rfl) ?_
            refine y0 rfl (o_move (d := .sl 15) rfl) ?_
            refine y0 rfl (o_move (d := .int .i64 s58) rfl) ?_
            refine y0 rfl (o_ari rfl rfl rfl) ?_
            refine y0 rfl (o_ixR (f := (PV.int .i64)) hv48 rfl rfl rfl rfl Ty.e27 Ty.s3 rfl) ?_
            refine y0 rfl (o_ldS (f := (PV.int .i64)) hv48 rfl rfl rfl Ty.a3 rfl) ?_
            refine y0 rfl (o_ixR (f := (PV.int .i64)) hv50 rfl rfl rfl rfl Ty.e27 Ty.s3 rfl) ?_
            refine y_stE (f := (PV.int .i64)) (v := v63) hv50 rfl rfl (.inl rfl) Ty.s3 ?_
            refine y_nil ?_
            refine sr1 (by kernel_rfl) ?_
            refine y0 rfl (o_move (d := .sl 15) rfl) ?_
            refine y0 rfl (o_move (d := .int .i64 s58) rfl) ?_
            refine y0 rfl (o_ari rfl rfl rfl) ?_
            refine y0 rfl (o_move (d := .int .i64 v65) rfl) ?_
            obtain ⟨v69, hv54, h⟩ := bindE h
            refine y0 rfl (o_ixR (f := (PV.int .i64)) hv54 rfl rfl rfl rfl Ty.e27 Ty.s3 rfl) ?_
            refine y_stE (f := (PV.int .i64)) (v := v65) hv54 rfl rfl (.inl rfl) Ty.s3 ?_
            refine y_nil ?_
            refine sr1 (by kernel_rfl) ?_
            refine y0 rfl (o_move (d := .int .i64 s58) rfl) ?_
            refine y0 rfl (o_ari rfl rfl rfl) ?_
            refine y0 rfl (o_assign (d := .int .i64 (w64 (s58 - 1))) rfl) ?_
            refine y_nil ?_
            exact ⟨rfl, (w64 (s58 - 1), ((s59.set (s58).toNat v63).set (w64 (s58 - 1)).toNat v65)), (Option.some.inj h).symm, (wk_st _ _ ⟨rfl, rfl, rfl, rfl, rfl, rfl, rfl, rfl, rfl, rfl, rfl, rfl, trivial⟩ ⟨rowLe_same rfl rfl rfl (fun _ => rfl) rfl rfl rfl, rowLe_same rfl rfl rfl (fun q => nomatch q) rfl rfl rfl, trivial⟩)⟩
        · have h := ifF h hc
          refine pw_exit ?_
          refine thenQ_exit ?_
          refine thenQ_exit ?_
          refine blockQ_exit ?_
          have he := hx46 _ (Option.some.inj h).symm
          have h := hk45
          rw [← he] at h
          exact ⟨rfl, s59, h, (wk_st _ _ ⟨rfl, rfl, rfl, rfl, rfl, rfl, rfl, rfl, rfl, trivial⟩ ⟨rowLe_same rfl rfl rfl (fun _ => rfl) rfl rfl rfl, rowLe_same rfl rfl rfl (fun q => nomatch q) rfl rfl rfl, trivial⟩)⟩
    · have h := ifF h hc
      refine pw_exit ?_
      refine thenQ_exit ?_
      refine thenQ_exit ?_
      refine blockQ_exit ?_
      have he := hx31 _ (Option.some.inj h).symm
      have h := hk30
      rw [← he] at h
      exact ⟨rfl, s39, h, (wk_st _ _ ⟨rfl, rfl, rfl, trivial⟩ ⟨rowLe_same rfl rfl rfl (fun _ => rfl) rfl rfl rfl, trivial⟩)⟩

set_option maxHeartbeats 4000000 in
theorem r06_Live_ok {a0 : r06_Store} {r : List Int} (h : r06_Live a0 = some r) : PCalls Try.prog 46 [r06_Store.Pv a0] (.lst false (List.map (PV.int .i64) r)) := by
  unfold r06_Live at h
  refine pc_intro (N := 34) Try.func46 rfl rfl (Nat.le_of_ble_eq_true rfl) fun w0 imm0 => ?_
  refine sr (by kernel_rfl) ?_
  refine y1 rfl (o_box (d := r06_Store.Pv a0) (z := 3) (cl := true) rfl rfl rfl rfl rfl) rfl ?_
  refine y0 rfl (o_assign (d := .lst true (List.map (PV.int .i64) [])) rfl) ?_
  refine y_nil ?_
  refine sr (by kernel_rfl) ?_
  refine y0 rfl (o_nslice rfl Ty.e27 Ty.s3) ?_
  refine y0 rfl (o_assign (d := .lst true (List.map (PV.int .i64) [])) rfl) ?_
  refine y_nil ?_
  obtain ⟨κ14, hκ11, h⟩ := jnE h
  refine pw_jn0 (κ := κ14) (r := r) (fun (j15 : List Int) => St.of [(1, .ptr 1 0 0), (3, .sl 910003)] [(910003, ⟨List.map (PV.int .i64) j15, (List.map (PV.int .i64) j15).length, true, 1, true⟩), (1, ⟨[r06_Store.Pv a0], 0, false, 3, true⟩)]) (fun j15 h => ?_) ?_
  · subst hκ11
    refine sr (by kernel_rfl) ?_
    refine y0 rfl (o_loadA (cs := r06_Store.Pc a0) rfl rfl rfl Ty.a37 Ty.s37 (Nat.le_of_ble_eq_true rfl) rfl) ?_
    refine y0 rfl (o_move (d := .sl 910003) rfl) ?_
    obtain ⟨v16, hv12, h⟩ := bindE h
    refine ycL rfl (o_callF (ls := [910003]) (ds := [r06_Store.Pv a0, .sl 910003]) rfl Ty.k86 rfl (r06_Sorted_ok hv12)) rfl ?_
    refine y0 rfl (o_assign (d := .lst false (List.map (PV.int .i64) v16)) rfl) ?_
    refine y_nil ?_
    refine pw_ret ?_
    obtain rfl := Option.some.inj h
    exact ⟨rfl, [_], ⟨rfl, trivial⟩, rfl, by first | exact .inl rfl | exact .inr rfl⟩
  · skip
    refine sr (by kernel_rfl) ?_
    refine y0 rfl (o_assign (d := .int .i64 0) rfl) ?_
    refine y_nil ?_
    refine pw_block ?_
    obtain ⟨e17, hl13, hk14⟩ := bindE h
    refine pw_lp0 (fun (q : Int × (List Int)) => St.of [(1, .ptr 1 0 0), (3, .sl 910003), (4, .int .i64 q.1)] [(1, ⟨[r06_Store.Pv a0], 0, false, 3, true⟩), (910003, ⟨List.map (PV.int .i64) q.2, (List.map (PV.int .i64) q.2).length, true, 1, true⟩)]) hl13 (Wk.trans (wk_nil (t := 3) (l := 920003) (z := 1) rfl rfl) (wk_stP (fun l => if l = 910003 then 920003 else l) _ _ ⟨rfl, rfl, rfl, rfl, rfl, rfl, rfl, rfl, rfl, trivial⟩ ⟨rowLe_ren rfl rfl rfl (fun q => nomatch q) rfl rfl rfl, rowLe_ren rfl rfl rfl (fun _ => rfl) rfl rfl rfl, trivial⟩ rfl)) (fun q21 x20 h hx15 => ?_)
    obtain ⟨s18, s19⟩ := q21
    refine pw_seq ?_
    refine sr (by kernel_rfl) ?_
    refine y0 rfl (o_move (d := .int .i64 s18) rfl) ?_
    refine y0 rfl (o_fieldAddrP (k := 0) rfl Ty.f37_0 rfl) ?_
    refine y0 rfl (o_loadS rfl rfl rfl Ty.a35 rfl) ?_
    refine y0 rfl (o_lnL (f := r06_Cell.Pv) rfl Ty.e35) ?_
    refine y0 rfl (o_cmp rfl rfl rfl) ?_
    refine y_nil ?_
    refine pw_cond (decide (s18 < (a0.Cells.length : Int))) rfl (fun hc => ?_) (fun hc => ?_)
    · have h := ifT h hc
      refine pw_skip ?_
      obtain ⟨κ25, hκ19, h⟩ := jnE h
      refine pw_jn0 (κ := κ25) (r := x20) (fun (j26 : List Int) => St.of [(1, .ptr 1 0 0), (3, .sl 30), (4, .int .i64 s18)] [(30, ⟨List.map (PV.int .i64) j26, (List.map (PV.int .i64) j26).length, true, 1, true⟩), (1, ⟨[r06_Store.Pv a0], 0, false, 3, true⟩)]) (fun j26 h => ?_) ?_
      · subst hκ19
        refine sr1 (by kernel_rfl) ?_
        refine y0 rfl (o_move (d := .int .i64 s18) rfl) ?_
        refine y0 rfl (o_ari rfl rfl rfl) ?_
        refine y0 rfl (o_assign (d := .int .i64 (w64 (s18 + 1))) rfl) ?_
        refine y_nil ?_
        exact ⟨rfl, (w64 (s18 + 1), j26), (Option.some.inj h).symm, (Wk.trans (wk_frz _ [30]) (wk_stP (fun l => if l = 910003 then 30 else l) _ _ ⟨rfl, rfl, rfl, rfl, rfl, rfl, rfl, rfl, rfl, trivial⟩ ⟨rowLe_ren rfl rfl rfl (fun q => nomatch q) rfl rfl rfl, rowLe_ren rfl rfl rfl (fun _ => rfl) rfl rfl rfl, trivial⟩ rfl))⟩
      · skip
        refine pw_block ?_
        refine sr (by kernel_rfl) ?_
        refine y0 rfl (o_fieldAddrP (k := 0) rfl Ty.f37_0 rfl) ?_
        refine y0 rfl (o_loadS rfl rfl rfl Ty.a35 rfl) ?_
        refine y0 rfl (o_move (d := .int .i64 s18) rfl) ?_
        obtain ⟨v27, hv20, h⟩ := bindE h
        refine y0 rfl (o_ixL (f := r06_Cell.Pv) (cs := r06_Cell.Pc v27) hv20 rfl rfl Ty.e35 Ty.s87 rfl rfl) ?_
        refine y0 rfl (o_fieldAddrR rfl Ty.f87_0 rfl) ?_
        refine y0 rfl (o_loadRS rfl Ty.a3 rfl) ?_
        refine y0 rfl (o_cmp rfl rfl rfl) ?_
        refine y_nil ?_
        refine pw_cond (v27.State == 1) rfl (fun hc => ?_) (fun hc => ?_)
        · have h := ifT h hc
          refine sr1 (by kernel_rfl) ?_
          refine y0 rfl (o_move (d := .sl 910003) rfl) ?_
          refine y0 rfl (o_move (d := .int .i64 s18) rfl) ?_
          refine y0 rfl (o_fieldAddrP (k := 0) rfl Ty.f37_0 rfl) ?_
          refine y0 rfl (o_loadS rfl rfl rfl Ty.a35 rfl) ?_
          refine y0 rfl (o_move (d := .int .i64 s18) rfl) ?_
          refine y0 rfl (o_ixL (f := r06_Cell.Pv) (cs := r06_Cell.Pc v27) hv20 rfl rfl Ty.e35 Ty.s87 rfl rfl) ?_
          refine y0 rfl (o_fieldAddrR rfl Ty.f87_1 rfl) ?_
          refine y0 rfl (o_loadRS rfl Ty.a3 rfl) ?_
          obtain ⟨v28, hv21, h⟩ := bindE h
          refine y0 rfl (o_call (ds := [.int .i64 s18, .int .i64 v27.Gen]) rfl Ty.k85 rfl (r01_Pack_ok hv21)) ?_
          refine y0 rfl (o_bI (f := (PV.int .i64)) (l := [v28]) rfl Ty.e27 Ty.s3 Ty.z3 rfl rfl (Nat.le_of_ble_eq_true rfl) rfl rfl) ?_
          obtain ⟨v29, hv22, h⟩ := bindE h
          refine y_app rfl (o_apR (f := (PV.int .i64)) hv22 rfl rfl rfl rfl rfl rfl (.inl ⟨_, rfl, rfl⟩) Ty.e27 Ty.s3 Ty.b3 Ty.z3 rfl (fun _ => rfl)) rfl rfl rfl ?_
          refine y0 rfl (o_assign (d := .sl 30) rfl) ?_
          refine y_nil ?_
          exact ⟨rfl, v29, h, (Wk.trans (wk_frz _ [30]) (wk_st _ _ ⟨rfl, rfl, rfl, rfl, rfl, rfl, rfl, rfl, rfl, trivial⟩ ⟨rowLe_same rfl rfl rfl (fun _ => rfl) rfl rfl rfl, rowLe_same rfl rfl rfl (fun q => nomatch q) rfl rfl rfl, trivial⟩))⟩
        · have h := ifF h hc
          refine pw_skip ?_
          exact ⟨rfl, s19, h, (Wk.trans (wk_frz _ [910003]) (wk_stP (fun l => if l = 30 then 910003 else l) _ _ ⟨rfl, rfl, rfl, rfl, rfl, rfl, rfl, rfl, rfl, trivial⟩ ⟨rowLe_ren rfl rfl rfl (fun _ => rfl) rfl rfl rfl, rowLe_ren rfl rfl rfl (fun q => nomatch q) rfl rfl rfl, trivial⟩ rfl))⟩
    · have h := ifF h hc
      refine pw_exit ?_
      refine thenQ_exit ?_
      refine thenQ_exit ?_
      refine blockQ_exit ?_
      have he := hx15 _ (Option.some.inj h).symm
      have h := hk14
      rw [← he] at h
      exact ⟨rfl, s19, h, (Wk.trans (wk_frz _ [910003]) (wk_st _ _ ⟨rfl, rfl, rfl, rfl, rfl, rfl, trivial⟩ ⟨rowLe_same rfl rfl rfl (fun _ => rfl) rfl rfl rfl, rowLe_same rfl rfl rfl (fun q => nomatch q) rfl rfl rfl, trivial⟩))⟩

set_option maxHeartbeats 4000000 in
theorem r07_Times_ok {a0 : List Int} {a1 : Int} {r : Int} (h : r07_Times a0 a1 = some r) : PCalls Try.prog 43 [.lst false (List.map (PV.int .i64) a0), .int .i64 a1] (.int .i64 r) := by
  unfold r07_Times at h
  refine pc_intro (N := 26) Try.func43 rfl rfl (Nat.le_of_ble_eq_true rfl) fun w0 imm0 => ?_
  refine sr (by kernel_rfl) ?_
  refine y0 rfl (o_assign (d := .int .i64 0) rfl) ?_
  refine y_nil ?_
  refine sr (by kernel_rfl) ?_
  refine y0 rfl (o_assign (d := .int .i64 0) rfl) ?_
  refine y_nil ?_
  obtain ⟨κ10, hκ7, h⟩ := jnE h
  refine pw_jn0 (κ := κ10) (r := r) (fun (j11 : Int) => St.of [(5, .int .i64 j11)] []) (fun j11 h => ?_) ?_
  · subst hκ7
    refine sr (by kernel_rfl) ?_
    refine y0 rfl (o_move (d := .int .i64 j11) rfl) ?_
    refine y0 rfl (o_assign (d := .int .i64 j11) rfl) ?_
    refine y_nil ?_
    refine pw_ret ?_
    obtain rfl := Option.some.inj h
    exact ⟨rfl, [_], ⟨rfl, trivial⟩, rfl, by first | exact .inl rfl | exact .inr rfl⟩
  · skip
    refine sr (by kernel_rfl) ?_
    refine y0 rfl (o_assign (d := .int .i64 0) rfl) ?_
    refine y_nil ?_
    refine pw_block ?_
    obtain ⟨e12, hl8, hk9⟩ := bindE h
    refine pw_lp0 (fun (q : Int × Int) => St.of [(0, .lst false (List.map (PV.int .i64) a0)), (1, .int .i64 a1), (5, .int .i64 q.1), (6, .int .i64 q.2)] []) hl8 (wk_st _ _ ⟨rfl, rfl, rfl, rfl, rfl, rfl, rfl, rfl, rfl, rfl, rfl, rfl, trivial⟩ trivial) (fun q16 x15 h hx10 => ?_)
    obtain ⟨s13, s14⟩ := q16
    refine pw_seq ?_
    refine sr (by kernel_rfl) ?_
    refine y0 rfl (o_move (d := .int .i64 s14) rfl) ?_
    refine y0 rfl (o_move (d := .lst false (List.map (PV.int .i64) a0)) rfl) ?_
    refine y0 rfl (o_lnL (f := (PV.int .i64)) rfl Ty.e27) ?_
    refine y0 rfl (o_cmp rfl rfl rfl) ?_
    refine y_nil ?_
    refine pw_cond (decide (s14 < (a0.length : Int))) rfl (fun hc => ?_) (fun hc => ?_)
    · have h := ifT h hc
      refine pw_skip ?_
      obtain ⟨κ18, hκ12, h⟩ := jnE h
      refine pw_jn0 (κ := κ18) (r := x15) (fun (j19 : Int) => St.of [(0, .lst false (List.map (PV.int .i64) a0)), (1, .int .i64 a1), (5, .int .i64 j19), (6, .int .i64 s14)] []) (fun j19 h => ?_) ?_
      · subst hκ12
        refine sr1 (by kernel_rfl) ?_
        refine y0 rfl (o_move (d := .int .i64 s14) rfl) ?_
        refine y0 rfl (o_ari rfl rfl rfl) ?_
        refine y0 rfl (o_assign (d := .int .i64 (w64 (s14 + 1))) rfl) ?_
        refine y_nil ?_
        exact ⟨rfl, (j19, w64 (s14 + 1)), (Option.some.inj h).symm, (wk_st _ _ ⟨rfl, rfl, rfl, rfl, rfl, rfl, rfl, rfl, rfl, rfl, rfl, rfl, trivial⟩ trivial)⟩
      · skip
        refine pw_block ?_
        refine sr (by kernel_rfl) ?_
        refine y0 rfl (o_move (d := .lst false (List.map (PV.int .i64) a0)) rfl) ?_
        refine y0 rfl (o_move (d := .int .i64 s14) rfl) ?_
        obtain ⟨v20, hv13, h⟩ := bindE h
        refine y0 rfl (o_ixL (f := (PV.int .i64)) (cs := [.int .i64 v20]) hv13 rfl rfl Ty.e27 Ty.s3 rfl rfl) ?_
        refine y0 rfl (o_loadRS rfl Ty.a3 rfl) ?_
        refine y0 rfl (o_move (d := .int .i64 a1) rfl) ?_
        refine y0 rfl (o_cmp rfl rfl rfl) ?_
        refine y0 rfl (o_move (d := .bool (v20 == a1)) rfl) ?_
        refine y_if (g := ((v20 == a1) == true)) rfl (fun hg => o_move (d := .int .i64 a1) rfl) ?_
        refine y_if (g := ((v20 == a1) == true)) rfl (fun hg => o_cmp (ct hg) rfl rfl) ?_
        refine y0 rfl (pk_and rfl rfl rfl (fun q => eqT q)) ?_
        refine y_nil ?_
        refine pw_cond ((v20 == a1) && (a1 != 0)) rfl (fun hc => ?_) (fun hc => ?_)
        · have h := ifT h hc
          refine sr1 (by kernel_rfl) ?_
          refine y0 rfl (o_move (d := .int .i64 s13) rfl) ?_
          refine y0 rfl (o_ari rfl rfl rfl) ?_
          refine y0 rfl (o_assign (d := .int .i64 (w64 (s13 + 1))) rfl) ?_
          refine y_nil ?_
          exact ⟨rfl, w64 (s13 + 1), h, (wk_st _ _ ⟨rfl, rfl, rfl, rfl, rfl, rfl, rfl, rfl, rfl, rfl, rfl, rfl, trivial⟩ trivial)⟩
        · have h := ifF h hc
          refine pw_skip ?_
          exact ⟨rfl, s13, h, (wk_st _ _ ⟨rfl, rfl, rfl, rfl, rfl, rfl, rfl, rfl, rfl, rfl, rfl, rfl, trivial⟩ trivial)⟩
    · have h := ifF h hc
      refine pw_exit ?_
      refine thenQ_exit ?_
      refine thenQ_exit ?_
      refine blockQ_exit ?_
      have he := hx10 _ (Option.some.inj h).symm
      have h := hk9
      rw [← he] at h
      exact ⟨rfl, s13, h, (wk_st _ _ ⟨rfl, rfl, rfl, trivial⟩ trivial)⟩

set_option maxHeartbeats 4000000 in
theorem r07_In_ok {a0 : r06_Store} {a1 : Int} {r : Int} (h : r07_In a0 a1 = some r) : PCalls Try.prog 39 [r06_Store.Pv a0, .int .i64 a1] (.int .i64 r) := by
  unfold r07_In at h
  refine pc_intro (N := 27) Try.func39 rfl rfl (Nat.le_of_ble_eq_true rfl) fun w0 imm0 => ?_
  refine sr (by kernel_rfl) ?_
  refine y1 rfl (o_box (d := r06_Store.Pv a0) (z := 3) (cl := true) rfl rfl rfl rfl rfl) rfl ?_
  refine y0 rfl (o_assign (d := .int .i64 0) rfl) ?_
  refine y_nil ?_
  refine sr (by kernel_rfl) ?_
  refine y0 rfl (o_assign (d := .int .i64 0) rfl) ?_
  refine y_nil ?_
  refine sr (by kernel_rfl) ?_
  refine y0 rfl (o_loadA (cs := r06_Store.Pc a0) rfl rfl rfl Ty.a37 Ty.s37 (Nat.le_of_ble_eq_true rfl) rfl) ?_
  obtain ⟨v1, hv1, h⟩ := bindE h
  refine yc rfl (o_callF (ls := []) (ds := [r06_Store.Pv a0]) rfl Ty.k46 rfl (r06_Live_ok hv1)) ?_
  refine y0 rfl (o_assign (d := .lst false (List.map (PV.int .i64) v1)) rfl) ?_
  refine y_nil ?_
  obtain ⟨κ10, hκ8, h⟩ := jnE h
  refine pw_jn0 (κ := κ10) (r := r) (fun (j11 : Int) => St.of [(5, .int .i64 j11)] []) (fun j11 h => ?_) ?_
  · subst hκ8
    refine sr (by kernel_rfl) ?_
    refine y0 rfl (o_move (d := .int .i64 j11) rfl) ?_
    refine y0 rfl (o_assign (d := .int .i64 j11) rfl) ?_
    refine y_nil ?_
    refine pw_ret ?_
    obtain rfl := Option.some.inj h
    exact ⟨rfl, [_], ⟨rfl, trivial⟩, rfl, by first | exact .inl rfl | exact .inr rfl⟩
  · skip
    refine sr (by kernel_rfl) ?_
    refine y0 rfl (o_assign (d := .int .i64 0) rfl) ?_
    refine y_nil ?_
    refine pw_block ?_
    obtain ⟨e12, hl9, hk10⟩ := bindE h
    refine pw_lp0 (fun (q : Int × Int) => St.of [(1, .int .i64 a1), (2, .ptr 2 0 0), (5, .int .i64 q.1), (6, .lst false (List.map (PV.int .i64) v1)), (7, .int .i64 q.2)] [(2, ⟨[r06_Store.Pv a0], 0, false, 3, true⟩)]) hl9 (wk_st _ _ ⟨rfl, rfl, rfl, rfl, rfl, rfl, rfl, rfl, rfl, rfl, rfl, rfl, rfl, rfl, rfl, trivial⟩ ⟨rowLe_same rfl rfl rfl (fun q => nomatch q) rfl rfl rfl, trivial⟩) (fun q16 x15 h hx11 => ?_)
    obtain ⟨s13, s14⟩ := q16
    refine pw_seq ?_
    refine sr (by kernel_rfl) ?_
    refine y0 rfl (o_move (d := .int .i64 s14) rfl) ?_
    refine y0 rfl (o_move (d := .lst false (List.map (PV.int .i64) v1)) rfl) ?_
    refine y0 rfl (o_lnL (f := (PV.int .i64)) rfl Ty.e27) ?_
    refine y0 rfl (o_cmp rfl rfl rfl) ?_
    refine y_nil ?_
    refine pw_cond (decide (s14 < (v1.length : Int))) rfl (fun hc => ?_) (fun hc => ?_)
    · have h := ifT h hc
      refine pw_skip ?_
      refine pw_seq ?_
      refine pw_block ?_
      refine pw_drw [] Ty.mix (by kernel_rfl) (by kernel_rfl) ?_
      refine d7 rfl (fun _ hN => o_move (d := .int .i64 s13) rfl) rfl ?_
      refine d0 rfl (o_loadA (cs := r06_Store.Pc a0) rfl rfl rfl Ty.a37 Ty.s37 (Nat.le_of_ble_eq_true rfl) rfl) rfl ?_
      refine d7 rfl (fun _ hN => o_move (d := .lst false (List.map (PV.int .i64) v1)) rfl) rfl ?_
      refine d7 rfl (fun _ hN => o_move (d := .int .i64 s14) rfl) rfl ?_
      obtain ⟨v17, hv12, h⟩ := bindE h
      refine d0 rfl (o_ixL (f := (PV.int .i64)) (cs := [.int .i64 v17]) hv12 rfl rfl Ty.e27 Ty.s3 rfl rfl) rfl ?_
      refine d0 rfl (o_loadRS rfl Ty.a3 rfl) rfl ?_
      obtain ⟨v18, hv13, h⟩ := bindE h
      refine d2f rfl (o_callF (ls := []) (ds := [r06_Store.Pv a0, .int .i64 v17]) rfl Ty.k37 rfl (r07_Out_ok hv13)) rfl ?_
      refine d7 rfl (fun _ hN => o_move (d := .int .i64 a1) rfl) rfl ?_
      obtain ⟨v19, hv14, h⟩ := bindE h
      refine d2 rfl (o_call (ds := [.lst false (List.map (PV.int .i64) v18), .int .i64 a1]) rfl Ty.k43 rfl (r07_Times_ok hv14)) rfl ?_
      refine d7 rfl (fun _ hN => o_ari rfl rfl rfl) rfl ?_
      refine d7 rfl (fun _ hN => o_assign (d := .int .i64 (w64 (s13 + v19))) rfl) rfl ?_
      refine d_nil ?_
      refine sr1 (by kernel_rfl) ?_
      refine y0 rfl (o_move (d := .int .i64 s14) rfl) ?_
      refine y0 rfl (o_ari rfl rfl rfl) ?_
      refine y0 rfl (o_assign (d := .int .i64 (w64 (s14 + 1))) rfl) ?_
      refine y_nil ?_
      exact ⟨rfl, (w64 (s13 + v19), w64 (s14 + 1)), (Option.some.inj h).symm, (wk_st _ _ ⟨rfl, rfl, rfl, rfl, rfl, rfl, rfl, rfl, rfl, rfl, rfl, rfl, rfl, rfl, rfl, trivial⟩ ⟨rowLe_same rfl rfl rfl (fun q => nomatch q) rfl rfl rfl, trivial⟩)⟩
    · have h := ifF h hc
      refine pw_exit ?_
      refine thenQ_exit ?_
      refine thenQ_exit ?_
      refine blockQ_exit ?_
      have he := hx11 _ (Option.some.inj h).symm
      have h := hk10
      rw [← he] at h
      exact ⟨rfl, s13, h, (wk_st _ _ ⟨rfl, rfl, rfl, trivial⟩ trivial)⟩

set_option maxHeartbeats 4000000 in
theorem r07_By_ok {a0 : r06_Store} {a1 : Int} {r : List Int} (h : r07_By a0 a1 = some r) : PCalls Try.prog 41 [r06_Store.Pv a0, .int .i64 a1] (.lst false (List.map (PV.int .i64) r)) := by
  unfold r07_By at h
  refine pc_intro (N := 34) Try.func41 rfl rfl (Nat.le_of_ble_eq_true rfl) fun w0 imm0 => ?_
  refine sr (by kernel_rfl) ?_
  refine y1 rfl (o_box (d := r06_Store.Pv a0) (z := 3) (cl := true) rfl rfl rfl rfl rfl) rfl ?_
  refine y0 rfl (o_assign (d := .lst true (List.map (PV.int .i64) [])) rfl) ?_
  refine y_nil ?_
  refine sr (by kernel_rfl) ?_
  refine y0 rfl (o_nslice rfl Ty.e27 Ty.s3) ?_
  refine y0 rfl (o_assign (d := .lst true (List.map (PV.int .i64) [])) rfl) ?_
  refine y_nil ?_
  refine sr (by kernel_rfl) ?_
  refine y0 rfl (o_loadA (cs := r06_Store.Pc a0) rfl rfl rfl Ty.a37 Ty.s37 (Nat.le_of_ble_eq_true rfl) rfl) ?_
  obtain ⟨v1, hv1, h⟩ := bindE h
  refine yc rfl (o_callF (ls := []) (ds := [r06_Store.Pv a0]) rfl Ty.k46 rfl (r06_Live_ok hv1)) ?_
  refine y0 rfl (o_assign (d := .lst false (List.map (PV.int .i64) v1)) rfl) ?_
  refine y_nil ?_
  obtain ⟨κ17, hκ14, h⟩ := jnE h
  refine pw_jn0 (κ := κ17) (r := r) (fun (j18 : List Int) => St.of [(5, .sl 910005)] [(910005, ⟨List.map (PV.int .i64) j18, (List.map (PV.int .i64) j18).length, true, 1, true⟩)]) (fun j18 h => ?_) ?_
  · subst hκ14
    refine sr (by kernel_rfl) ?_
    refine y0 rfl (o_move (d := .sl 910005) rfl) ?_
    refine y0 rfl (o_assign (d := .sl 910005) rfl) ?_
    refine y_nil ?_
    refine pw_ret ?_
    obtain rfl := Option.some.inj h
    exact ⟨rfl, [_], ⟨rfl, trivial⟩, rfl, by first | exact .inl rfl | exact .inr rfl⟩
  · skip
    refine sr (by kernel_rfl) ?_
    refine y0 rfl (o_assign (d := .int .i64 0) rfl) ?_
    refine y_nil ?_
    refine pw_block ?_
    obtain ⟨e19, hl15, hk16⟩ := bindE h
    refine pw_lp0 (fun (q : Int × (List Int)) => St.of [(1, .int .i64 a1), (2, .ptr 2 0 0), (5, .sl 910005), (6, .lst false (List.map (PV.int .i64) v1)), (7, .int .i64 q.1)] [(2, ⟨[r06_Store.Pv a0], 0, false, 3, true⟩), (910005, ⟨List.map (PV.int .i64) q.2, (List.map (PV.int .i64) q.2).length, true, 1, true⟩)]) hl15 (Wk.trans (wk_nil (t := 5) (l := 920005) (z := 1) rfl rfl) (wk_stP (fun l => if l = 910005 then 920005 else l) _ _ ⟨rfl, rfl, rfl, rfl, rfl, rfl, rfl, rfl, rfl, rfl, rfl, rfl, rfl, rfl, rfl, trivial⟩ ⟨rowLe_ren rfl rfl rfl (fun q => nomatch q) rfl rfl rfl, rowLe_ren rfl rfl rfl (fun _ => rfl) rfl rfl rfl, trivial⟩ rfl)) (fun q23 x22 h hx17 => ?_)
    obtain ⟨s20, s21⟩ := q23
    refine pw_seq ?_
    refine sr (by kernel_rfl) ?_
    refine y0 rfl (o_move (d := .int .i64 s20) rfl) ?_
    refine y0 rfl (o_move (d := .lst false (List.map (PV.int .i64) v1)) rfl) ?_
    refine y0 rfl (o_lnL (f := (PV.int .i64)) rfl Ty.e27) ?_
    refine y0 rfl (o_cmp rfl rfl rfl) ?_
    refine y_nil ?_
    refine pw_cond (decide (s20 < (v1.length : Int))) rfl (fun hc => ?_) (fun hc => ?_)
    · have h := ifT h hc
      refine pw_skip ?_
      obtain ⟨κ28, hκ22, h⟩ := jnE h
      refine pw_jn0 (κ := κ28) (r := x22) (fun (j29 : List Int) => St.of [(1, .int .i64 a1), (2, .ptr 2 0 0), (5, .sl 32), (6, .lst false (List.map (PV.int .i64) v1)), (7, .int .i64 s20)] [(32, ⟨List.map (PV.int .i64) j29, (List.map (PV.int .i64) j29).length, true, 1, true⟩), (2, ⟨[r06_Store.Pv a0], 0, false, 3, true⟩)]) (fun j29 h => ?_) ?_
      · subst hκ22
        refine sr1 (by kernel_rfl) ?_
        refine y0 rfl (o_move (d := .int .i64 s20) rfl) ?_
        refine y0 rfl (o_ari rfl rfl rfl) ?_
        refine y0 rfl (o_assign (d := .int .i64 (w64 (s20 + 1))) rfl) ?_
        refine y_nil ?_
        exact ⟨rfl, (w64 (s20 + 1), j29), (Option.some.inj h).symm, (Wk.trans (wk_frz _ [32]) (wk_stP (fun l => if l = 910005 then 32 else l) _ _ ⟨rfl, rfl, rfl, rfl, rfl, rfl, rfl, rfl, rfl, rfl, rfl, rfl, rfl, rfl, rfl, trivial⟩ ⟨rowLe_ren rfl rfl rfl (fun q => nomatch q) rfl rfl rfl, rowLe_ren rfl rfl rfl (fun _ => rfl) rfl rfl rfl, trivial⟩ rfl))⟩
      · skip
        refine pw_block ?_
        refine dr [] Ty.mix (by kernel_rfl) (by kernel_rfl) ?_
        refine d0 rfl (o_loadA (cs := r06_Store.Pc a0) rfl rfl rfl Ty.a37 Ty.s37 (Nat.le_of_ble_eq_true rfl) rfl) rfl ?_
        refine d7 rfl (fun _ hN => o_move (d := .lst false (List.map (PV.int .i64) v1)) rfl) rfl ?_
        refine d7 rfl (fun _ hN => o_move (d := .int .i64 s20) rfl) rfl ?_
        obtain ⟨v30, hv23, h⟩ := bindE h
        refine d0 rfl (o_ixL (f := (PV.int .i64)) (cs := [.int .i64 v30]) hv23 rfl rfl Ty.e27 Ty.s3 rfl rfl) rfl ?_
        refine d0 rfl (o_loadRS rfl Ty.a3 rfl) rfl ?_
        obtain ⟨v31, hv24, h⟩ := bindE h
        refine d2f rfl (o_callF (ls := []) (ds := [r06_Store.Pv a0, .int .i64 v30]) rfl Ty.k37 rfl (r07_Out_ok hv24)) rfl ?_
        refine d7 rfl (fun _ hN => o_move (d := .int .i64 a1) rfl) rfl ?_
        obtain ⟨v32, hv25, h⟩ := bindE h
        refine d2 rfl (o_call (ds := [.lst false (List.map (PV.int .i64) v31), .int .i64 a1]) rfl Ty.k43 rfl (r07_Times_ok hv25)) rfl ?_
        refine d7 rfl (fun _ hN => o_cmp rfl rfl rfl) rfl ?_
        refine d_nil ?_
        refine pw_cond (decide (v32 > 0)) rfl (fun hc => ?_) (fun hc => ?_)
        · have h := ifT h hc
          refine sr1 (by kernel_rfl) ?_
          refine y0 rfl (o_move (d := .sl 910005) rfl) ?_
          refine y0 rfl (o_move (d := .lst false (List.map (PV.int .i64) v1)) rfl) ?_
          refine y0 rfl (o_move (d := .int .i64 s20) rfl) ?_
          refine y0 rfl (o_ixL (f := (PV.int .i64)) (cs := [.int .i64 v30]) hv23 rfl rfl Ty.e27 Ty.s3 rfl rfl) ?_
          refine y0 rfl (o_loadRS rfl Ty.a3 rfl) ?_
          refine y0 rfl (o_bI (f := (PV.int .i64)) (l := [v30]) rfl Ty.e27 Ty.s3 Ty.z3 rfl rfl (Nat.le_of_ble_eq_true rfl) rfl rfl) ?_
          obtain ⟨v33, hv26, h⟩ := bindE h
          refine y_app rfl (o_apR (f := (PV.int .i64)) hv26 rfl rfl rfl rfl rfl rfl (.inl ⟨_, rfl, rfl⟩) Ty.e27 Ty.s3 Ty.b3 Ty.z3 rfl (fun _ => rfl)) rfl rfl rfl ?_
          refine y0 rfl (o_assign (d := .sl 32) rfl) ?_
          refine y_nil ?_
          exact ⟨rfl, v33, h, (Wk.trans (wk_frz _ [32]) (wk_st _ _ ⟨rfl, rfl, rfl, rfl, rfl, rfl, rfl, rfl, rfl, rfl, rfl, rfl, rfl, rfl, rfl, trivial⟩ ⟨rowLe_same rfl rfl rfl (fun _ => rfl) rfl rfl rfl, rowLe_same rfl rfl rfl (fun q => nomatch q) rfl rfl rfl, trivial⟩))⟩
        · have h := ifF h hc
          refine pw_skip ?_
          exact ⟨rfl, s21, h, (Wk.trans (wk_frz _ [910005]) (wk_stP (fun l => if l = 32 then 910005 else l) _ _ ⟨rfl, rfl, rfl, rfl, rfl, rfl, rfl, rfl, rfl, rfl, rfl, rfl, rfl, rfl, rfl, trivial⟩ ⟨rowLe_ren rfl rfl rfl (fun _ => rfl) rfl rfl rfl, rowLe_ren rfl rfl rfl (fun q => nomatch q) rfl rfl rfl, trivial⟩ rfl))⟩
    · have h := ifF h hc
      refine pw_exit ?_
      refine thenQ_exit ?_
      refine thenQ_exit ?_
      refine blockQ_exit ?_
      have he := hx17 _ (Option.some.inj h).symm
      have h := hk16
      rw [← he] at h
      exact ⟨rfl, s21, h, (Wk.trans (wk_frz _ [910005]) (wk_st _ _ ⟨rfl, rfl, rfl, trivial⟩ ⟨rowLe_same rfl rfl rfl (fun _ => rfl) rfl rfl rfl, trivial⟩))⟩

set_option maxHeartbeats 4000000 in
theorem r07_Dangling_ok {a0 : r06_Store} {r : List Int} (h : r07_Dangling a0 = some r) : PCalls Try.prog 45 [r06_Store.Pv a0] (.lst false (List.map (PV.int .i64) r)) := by
  unfold r07_Dangling at h
  refine pc_intro (N := 50) Try.func45 rfl rfl (Nat.le_of_ble_eq_true rfl) fun w0 imm0 => ?_
  refine sr (by kernel_rfl) ?_
  refine y1 rfl (o_box (d := r06_Store.Pv a0) (z := 3) (cl := true) rfl rfl rfl rfl rfl) rfl ?_
  refine y0 rfl (o_assign (d := .lst true (List.map (PV.int .i64) [])) rfl) ?_
  refine y_nil ?_
  refine sr (by kernel_rfl) ?_
  refine y0 rfl (o_nslice rfl Ty.e27 Ty.s3) ?_
  refine y0 rfl (o_assign (d := .lst true (List.map (PV.int .i64) [])) rfl) ?_
  refine y_nil ?_
  refine sr (by kernel_rfl) ?_
  refine y0 rfl (o_loadA (cs := r06_Store.Pc a0) rfl rfl rfl Ty.a37 Ty.s37 (Nat.le_of_ble_eq_true rfl) rfl) ?_
  obtain ⟨v1, hv1, h⟩ := bindE h
  refine yc rfl (o_callF (ls := []) (ds := [r06_Store.Pv a0]) rfl Ty.k46 rfl (r06_Live_ok hv1)) ?_
  refine y0 rfl (o_assign (d := .lst false (List.map (PV.int .i64) v1)) rfl) ?_
  refine y_nil ?_
  obtain ⟨κ39, hκ30, h⟩ := jnE h
  refine pw_jn0 (κ := κ39) (r := r) (fun (j40 : List Int) => St.of [(3, .sl 910003)] [(910003, ⟨List.map (PV.int .i64) j40, (List.map (PV.int .i64) j40).length, true, 1, true⟩)]) (fun j40 h => ?_) ?_
  · subst hκ30
    refine sr (by kernel_rfl) ?_
    refine y0 rfl (o_move (d := .sl 910003) rfl) ?_
    refine y0 rfl (o_assign (d := .sl 910003) rfl) ?_
    refine y_nil ?_
    refine pw_ret ?_
    obtain rfl := Option.some.inj h
    exact ⟨rfl, [_], ⟨rfl, trivial⟩, rfl, by first | exact .inl rfl | exact .inr rfl⟩
  · skip
    refine sr (by kernel_rfl) ?_
    refine y0 rfl (o_assign (d := .int .i64 0) rfl) ?_
    refine y_nil ?_
    refine pw_block ?_
    obtain ⟨e41, hl31, hk32⟩ := bindE h
    refine pw_lp0 (fun (q : Int × (List Int)) => St.of [(1, .ptr 1 0 0), (3, .sl 910003), (4, .lst false (List.map (PV.int .i64) v1)), (5, .int .i64 q.1)] [(1, ⟨[r06_Store.Pv a0], 0, false, 3, true⟩), (910003, ⟨List.map (PV.int .i64) q.2, (List.map (PV.int .i64) q.2).length, true, 1, true⟩)]) hl31 (Wk.trans (wk_nil (t := 3) (l := 920003) (z := 1) rfl rfl) (wk_stP (fun l => if l = 910003 then 920003 else l) _ _ ⟨rfl, rfl, rfl, rfl, rfl, rfl, rfl, rfl, rfl, rfl, rfl, rfl, trivial⟩ ⟨rowLe_ren rfl rfl rfl (fun q => nomatch q) rfl rfl rfl, rowLe_ren rfl rfl rfl (fun _ => rfl) rfl rfl rfl, trivial⟩ rfl)) (fun q45 x44 h hx33 => ?_)
    obtain ⟨s42, s43⟩ := q45
    refine pw_seq ?_
    refine sr (by kernel_rfl) ?_
    refine y0 rfl (o_move (d := .int .i64 s42) rfl) ?_
    refine y0 rfl (o_move (d := .lst false (List.map (PV.int .i64) v1)) rfl) ?_
    refine y0 rfl (o_lnL (f := (PV.int .i64)) rfl Ty.e27) ?_
    refine y0 rfl (o_cmp rfl rfl rfl) ?_
    refine y_nil ?_
    refine pw_cond (decide (s42 < (v1.length : Int))) rfl (fun hc => ?_) (fun hc => ?_)
    · have h := ifT h hc
      refine pw_skip ?_
      obtain ⟨κ61, hκ46, h⟩ := jnE h
      refine pw_jn0 (κ := κ61) (r := x44) (fun (j62 : List Int) => St.of [(1, .ptr 1 0 0), (3, .sl 910003), (4, .lst false (List.map (PV.int .i64) v1)), (5, .int .i64 s42)] [(910003, ⟨List.map (PV.int .i64) j62, (List.map (PV.int .i64) j62).length, true, 1, true⟩), (1, ⟨[r06_Store.Pv a0], 0, false, 3, true⟩)]) (fun j62 h => ?_) ?_
      · subst hκ46
        refine sr1 (by kernel_rfl) ?_
        refine y0 rfl (o_move (d := .int .i64 s42) rfl) ?_
        refine y0 rfl (o_ari rfl rfl rfl) ?_
        refine y0 rfl (o_assign (d := .int .i64 (w64 (s42 + 1))) rfl) ?_
        refine y_nil ?_
        exact ⟨rfl, (w64 (s42 + 1), j62), (Option.some.inj h).symm, (Wk.trans (wk_frz _ [910003]) (wk_st _ _ ⟨rfl, rfl, rfl, rfl, rfl, rfl, rfl, rfl, rfl, rfl, rfl, rfl, trivial⟩ ⟨rowLe_same rfl rfl rfl (fun q => nomatch q) rfl rfl rfl, rowLe_same rfl rfl rfl (fun _ => rfl) rfl rfl rfl, trivial⟩))⟩
      · skip
        refine pw_block ?_
        refine dr [] Ty.mix (by kernel_rfl) (by kernel_rfl) ?_
        refine d0 rfl (o_loadA (cs := r06_Store.Pc a0) rfl rfl rfl Ty.a37 Ty.s37 (Nat.le_of_ble_eq_true rfl) rfl) rfl ?_
        refine d7 rfl (fun _ hN => o_move (d := .lst false (List.map (PV.int .i64) v1)) rfl) rfl ?_
        refine d7 rfl (fun _ hN => o_move (d := .int .i64 s42) rfl) rfl ?_
        obtain ⟨v63, hv47, h⟩ := bindE h
        refine d0 rfl (o_ixL (f := (PV.int .i64)) (cs := [.int .i64 v63]) hv47 rfl rfl Ty.e27 Ty.s3 rfl rfl) rfl ?_
        refine d0 rfl (o_loadRS rfl Ty.a3 rfl) rfl ?_
        obtain ⟨v64, hv48, h⟩ := bindE h
        refine d2f rfl (o_callF (ls := []) (ds := [r06_Store.Pv a0, .int .i64 v63]) rfl Ty.k37 rfl (r07_Out_ok hv48)) rfl ?_
        refine d7 rfl (fun _ hN => o_assign (d := .lst false (List.map (PV.int .i64) v64)) rfl) rfl ?_
        refine d_nil ?_
        refine sr (by kernel_rfl) ?_
        refine y0 rfl (o_assign (d := .int .i64 0) rfl) ?_
        refine y_nil ?_
        refine pw_block ?_
        obtain ⟨e65, hl49, hk50⟩ := bindE h
        refine pw_lp0 (fun (q : Int × (List Int)) => St.of [(1, .ptr 1 0 0), (3, .sl 910003), (4, .lst false (List.map (PV.int .i64) v1)), (5, .int .i64 s42), (6, .lst false (List.map (PV.int .i64) v64)), (7, .int .i64 q.1)] [(910003, ⟨List.map (PV.int .i64) q.2, (List.map (PV.int .i64) q.2).length, true, 1, true⟩), (1, ⟨[r06_Store.Pv a0], 0, false, 3, true⟩)]) hl49 (Wk.trans (wk_frz _ [910003]) (wk_st _ _ ⟨rfl, rfl, rfl, rfl, rfl, rfl, rfl, rfl, rfl, rfl, rfl, rfl, rfl, rfl, rfl, rfl, rfl, rfl, trivial⟩ ⟨rowLe_same rfl rfl rfl (fun _ => rfl) rfl rfl rfl, rowLe_same rfl rfl rfl (fun q => nomatch q) rfl rfl rfl, trivial⟩)) (fun q69 x68 h hx51 => ?_)
        obtain ⟨s66, s67⟩ := q69
        refine pw_seq ?_
        refine sr (by kernel_rfl) ?_
        refine y0 rfl (o_move (d := .int .i64 s66) rfl) ?_
        refine y0 rfl (o_move (d := .lst false (List.map (PV.int .i64) v64)) rfl) ?_
        refine y0 rfl (o_lnL (f := (PV.int .i64)) rfl Ty.e27) ?_
        refine y0 rfl (o_cmp rfl rfl rfl) ?_
        refine y_nil ?_
        refine pw_cond (decide (s66 < (v64.length : Int))) rfl (fun hc => ?_) (fun hc => ?_)
        · have h := ifT h hc
          refine pw_skip ?_
          obtain ⟨κ73, hκ55, h⟩ := jnE h
          refine pw_jn0 (κ := κ73) (r := x68) (fun (j74 : List Int) => St.of [(1, .ptr 1 0 0), (3, .sl 48), (4, .lst false (List.map (PV.int .i64) v1)), (5, .int .i64 s42), (6, .lst false (List.map (PV.int .i64) v64)), (7, .int .i64 s66)] [(48, ⟨List.map (PV.int .i64) j74, (List.map (PV.int .i64) j74).length, true, 1, true⟩), (1, ⟨[r06_Store.Pv a0], 0, false, 3, true⟩)]) (fun j74 h => ?_) ?_
          · subst hκ55
            refine sr1 (by kernel_rfl) ?_
            refine y0 rfl (o_move (d := .int .i64 s66) rfl) ?_
            refine y0 rfl (o_ari rfl rfl rfl) ?_
            refine y0 rfl (o_assign (d := .int .i64 (w64 (s66 + 1))) rfl) ?_
            refine y_nil ?_
            exact ⟨rfl, (w64 (s66 + 1), j74), (Option.some.inj h).symm, (Wk.trans (wk_frz _ [48]) (wk_stP (fun l => if l = 910003 then 48 else l) _ _ ⟨rfl, rfl, rfl, rfl, rfl, rfl, rfl, rfl, rfl, rfl, rfl, rfl, rfl, rfl, rfl, rfl, rfl, rfl, trivial⟩ ⟨rowLe_ren rfl rfl rfl (fun _ => rfl) rfl rfl rfl, rowLe_ren rfl rfl rfl (fun q => nomatch q) rfl rfl rfl, trivial⟩ rfl))⟩
          · skip
            refine pw_block ?_
            refine dr [] Ty.mix (by kernel_rfl) (by kernel_rfl) ?_
            refine d0 rfl (o_loadA (cs := r06_Store.Pc a0) rfl rfl rfl Ty.a37 Ty.s37 (Nat.le_of_ble_eq_true rfl) rfl) rfl ?_
            refine d7 rfl (fun _ hN => o_move (d := .lst false (List.map (PV.int .i64) v64)) rfl) rfl ?_
            refine d7 rfl (fun _ hN => o_move (d := .int .i64 s66) rfl) rfl ?_
            obtain ⟨v75, hv56, h⟩ := bindE h
            refine d0 rfl (o_ixL (f := (PV.int .i64)) (cs := [.int .i64 v75]) hv56 rfl rfl Ty.e27 Ty.s3 rfl rfl) rfl ?_
            refine d0 rfl (o_loadRS rfl Ty.a3 rfl) rfl ?_
            obtain ⟨v76, hv57, h⟩ := bindE h
            refine d2f rfl (o_callF (ls := []) (ds := [r06_Store.Pv a0, .int .i64 v75]) rfl Ty.k81 rfl (r06_Get_ok hv57)) rfl ?_
            refine d7 rfl (fun _ hN => o_move (d := .tup [r06_Obj.Pv v76.1, .int .i64 v76.2]) rfl) rfl ?_
            refine d7 rfl (fun _ hN => o_extract rfl rfl) rfl ?_
            refine d7 rfl (fun _ hN => o_extract rfl rfl) rfl ?_
            refine d1 rfl (o_alloc (d := .agg [.int .i64 0, .int .i64 0, .int .i64 0, .int .i64 0, .bool false, .lst true (List.map (PV.int .i64) [])]) (z := 6) rfl Ty.z41 rfl rfl rfl) rfl rfl rfl ?_
            refine d_sto (x' := r06_Obj.Pv v76.1) (cl' := true) rfl rfl (.inr rfl) Ty.s41 ?_
            refine d7 rfl (fun _ hN => o_assign (d := .int .i64 v76.2) rfl) rfl ?_
            refine d_nil ?_
            refine sr (by kernel_rfl) ?_
            refine y0 rfl (o_move (d := .int .i64 v76.2) rfl) ?_
            refine y0 rfl (o_cmp rfl rfl rfl) ?_
            refine y_nil ?_
            refine pw_cond (v76.2 != 0) rfl (fun hc => ?_) (fun hc => ?_)
            · have h := ifT h hc
              refine sr1 (by kernel_rfl) ?_
              refine y0 rfl (o_move (d := .sl 910003) rfl) ?_
              refine y0 rfl (o_move (d := .lst false (List.map (PV.int .i64) v64)) rfl) ?_
              refine y0 rfl (o_move (d := .int .i64 s66) rfl) ?_
              refine y0 rfl (o_ixL (f := (PV.int .i64)) (cs := [.int .i64 v75]) hv56 rfl rfl Ty.e27 Ty.s3 rfl rfl) ?_
              refine y0 rfl (o_loadRS rfl Ty.a3 rfl) ?_
              refine y0 rfl (o_bI (f := (PV.int .i64)) (l := [v75]) rfl Ty.e27 Ty.s3 Ty.z3 rfl rfl (Nat.le_of_ble_eq_true rfl) rfl rfl) ?_
              obtain ⟨v77, hv58, h⟩ := bindE h
              refine y_app rfl (o_apR (f := (PV.int .i64)) hv58 rfl rfl rfl rfl rfl rfl (.inl ⟨_, rfl, rfl⟩) Ty.e27 Ty.s3 Ty.b3 Ty.z3 rfl (fun _ => rfl)) rfl rfl rfl ?_
              refine y0 rfl (o_assign (d := .sl 48) rfl) ?_
              refine y_nil ?_
              exact ⟨rfl, v77, h, (Wk.trans (wk_frz _ [48]) (wk_st _ _ ⟨rfl, rfl, rfl, rfl, rfl, rfl, rfl, rfl, rfl, rfl, rfl, rfl, rfl, rfl, rfl, rfl, rfl, rfl, trivial⟩ ⟨rowLe_same rfl rfl rfl (fun _ => rfl) rfl rfl rfl, rowLe_same rfl rfl rfl (fun q => nomatch q) rfl rfl rfl, trivial⟩))⟩
            · have h := ifF h hc
              refine pw_skip ?_
              exact ⟨rfl, s67, h, (Wk.trans (wk_frz _ [910003]) (wk_stP (fun l => if l = 48 then 910003 else l) _ _ ⟨rfl, rfl, rfl, rfl, rfl, rfl, rfl, rfl, rfl, rfl, rfl, rfl, rfl, rfl, rfl, rfl, rfl, rfl, trivial⟩ ⟨rowLe_ren rfl rfl rfl (fun _ => rfl) rfl rfl rfl, rowLe_ren rfl rfl rfl (fun q => nomatch q) rfl rfl rfl, trivial⟩ rfl))⟩
        · have h := ifF h hc
          refine pw_exit ?_
          refine thenQ_exit ?_
          refine thenQ_exit ?_
          refine blockQ_exit ?_
          have he := hx51 _ (Option.some.inj h).symm
          have h := hk50
          rw [← he] at h
          exact ⟨rfl, s67, h, (Wk.trans (wk_frz _ [910003]) (wk_st _ _ ⟨rfl, rfl, rfl, rfl, rfl, rfl, rfl, rfl, rfl, rfl, rfl, rfl, trivial⟩ ⟨rowLe_same rfl rfl rfl (fun _ => rfl) rfl rfl rfl, rowLe_same rfl rfl rfl (fun q => nomatch q) rfl rfl rfl, trivial⟩))⟩
    · have h := ifF h hc
      refine pw_exit ?_
      refine thenQ_exit ?_
      refine thenQ_exit ?_
      refine blockQ_exit ?_
      have he := hx33 _ (Option.some.inj h).symm
      have h := hk32
      rw [← he] at h
      exact ⟨rfl, s43, h, (Wk.trans (wk_frz _ [910003]) (wk_st _ _ ⟨rfl, rfl, rfl, trivial⟩ ⟨rowLe_same rfl rfl rfl (fun _ => rfl) rfl rfl rfl, trivial⟩))⟩

set_option maxHeartbeats 4000000 in
theorem w07_RefsTell_ok {a0 : store_Store} {a1 : Int} {a2 : List Int} {r : Bool} (h : w07_RefsTell a0 a1 a2 = some r) : PCalls Try.prog 7 [store_Store.Pv a0, .int .i64 a1, .lst false (List.map (PV.int .i64) a2)] (.bool r) := by
  unfold w07_RefsTell at h
  refine pc_intro (N := 64) Try.func7 rfl rfl (Nat.le_of_ble_eq_true rfl) fun w0 imm0 => ?_
  refine sr (by kernel_rfl) ?_
  refine y1 rfl (o_box (d := store_Store.Pv a0) (z := 3) (cl := true) rfl rfl rfl rfl rfl) rfl ?_
  refine y0 rfl (o_assign (d := .bool false) rfl) ?_
  refine y_nil ?_
  refine pw_seq ?_
  refine sr (by kernel_rfl) ?_
  refine y0 rfl (o_loadA (cs := store_Store.Pc a0) rfl rfl rfl Ty.a26 Ty.s26 (Nat.le_of_ble_eq_true rfl) rfl) ?_
  obtain ⟨v1, hv1, h⟩ := bindE h
  refine y0 rfl (o_call (ds := [store_Store.Pv a0]) rfl Ty.k33 rfl (w07_right_ok hv1)) ?_
  refine y0 rfl (o_not rfl rfl) ?_
  refine y0 rfl (o_move (d := .bool (!v1)) rfl) ?_
  refine y_if (g := ((!v1) == false)) rfl (fun hg => o_move (d := .lst false (List.map (PV.int .i64) a2)) rfl) ?_
  refine y_if (g := ((!v1) == false)) rfl (fun hg => o_lnL (f := (PV.int .i64)) (ct hg) Ty.e27) ?_
  refine y_if (g := ((!v1) == false)) rfl (fun hg => o_cmp (ct hg) rfl rfl) ?_
  refine y0 rfl (pk_or rfl rfl rfl (fun q => eqF q)) ?_
  refine y0 rfl (o_move (d := .bool ((!v1) || (decide ((a2.length : Int) > 100)))) rfl) ?_
  obtain ⟨v2, hv2, h⟩ := bindE h
  refine y_if (g := (((!v1) || (decide ((a2.length : Int) > 100))) == false)) rfl (fun hg => o_call (ds := []) rfl Ty.k34 rfl (w07_shown_ok (onlyE hv2 hg))) ?_
  refine y_if (g := (((!v1) || (decide ((a2.length : Int) > 100))) == false)) rfl (fun hg => o_not (ct hg) rfl) ?_
  refine y0 rfl (pk_or rfl rfl rfl (fun q => eqF q)) ?_
  refine y_nil ?_
  refine pw_cond (((!v1) || (decide ((a2.length : Int) > 100))) || (!v2)) rfl (fun hc => ?_) (fun hc => ?_)
  · have h := ifT h hc
    refine sr (by kernel_rfl) ?_
    obtain ⟨v3, hv3, h⟩ := bindE h
    refine y0 rfl (o_call (ds := []) rfl Ty.k34 rfl (w07_shown_ok hv3)) ?_
    refine y0 rfl (o_assign (d := .bool v3) rfl) ?_
    refine y_nil ?_
    refine pw_ret ?_
    obtain rfl := Option.some.inj h
    exact ⟨rfl, [_], ⟨rfl, trivial⟩, rfl, by first | exact .inl rfl | exact .inr rfl⟩
  · have h := ifF h hc
    refine pw_skip ?_
    refine sr (by kernel_rfl) ?_
    refine y0 rfl (o_loadA (cs := store_Store.Pc a0) rfl rfl rfl Ty.a26 Ty.s26 (Nat.le_of_ble_eq_true rfl) rfl) ?_
    obtain ⟨v4, hv4, h⟩ := bindE h
    refine yc rfl (o_callF (ls := []) (ds := [store_Store.Pv a0]) rfl Ty.k35 rfl (w07_its_ok hv4)) ?_
    refine y1 rfl (o_alloc (d := .agg [.lst true (List.map r06_Cell.Pv []), .int .i64 0, .int .i64 0]) (z := 3) rfl Ty.z37 rfl rfl rfl) rfl ?_
    refine y_sto (x' := r06_Store.Pv v4) (cl' := true) rfl rfl (.inr rfl) Ty.s37 ?_
    refine y_nil ?_
    refine dr [] Ty.mix (by kernel_rfl) (by kernel_rfl) ?_
    refine d0 rfl (o_loadA (cs := store_Store.Pc a0) rfl rfl rfl Ty.a26 Ty.s26 (Nat.le_of_ble_eq_true rfl) rfl) rfl ?_
    refine d7 rfl (fun _ hN => o_move (d := .int .i64 a1) rfl) rfl ?_
    obtain ⟨v5, hv5, h⟩ := bindE h
    refine d2f rfl (o_callF (ls := []) (ds := [store_Store.Pv a0, .int .i64 a1]) rfl Ty.k36 rfl (refs_Out_ok hv5)) rfl ?_
    refine d0 rfl (o_loadA (cs := r06_Store.Pc v4) rfl rfl rfl Ty.a37 Ty.s37 (Nat.le_of_ble_eq_true rfl) rfl) rfl ?_
    refine d7 rfl (fun _ hN => o_move (d := .int .i64 a1) rfl) rfl ?_
    obtain ⟨v6, hv6, h⟩ := bindE h
    refine d2f rfl (o_callF (ls := []) (ds := [r06_Store.Pv v4, .int .i64 a1]) rfl Ty.k37 rfl (r07_Out_ok hv6)) rfl ?_
    obtain ⟨v7, hv7, h⟩ := bindE h
    refine d2 rfl (o_call (ds := [.lst false (List.map (PV.int .i64) v5), .lst false (List.map (PV.int .i64) v6)]) rfl Ty.k32 rfl (r02_Ints_ok hv7)) rfl ?_
    refine d7 rfl (fun _ hN => o_move (d := .bool v7) rfl) rfl ?_
    refine d_if0 (g := (v7 == true)) rfl (fun hg => o_loadA (cs := store_Store.Pc a0) rfl rfl rfl Ty.a26 Ty.s26 (Nat.le_of_ble_eq_true rfl) rfl) rfl ?_
    refine d_if7 (g := (v7 == true)) rfl (fun hg _ hN => o_move (d := .int .i64 a1) rfl) rfl ?_
    obtain ⟨v8, hv8, h⟩ := bindE h
    refine d_if2 (g := (v7 == true)) rfl (fun hg => o_call (ds := [store_Store.Pv a0, .int .i64 a1]) rfl Ty.k38 (consE (ct hg) (consE (ct hg) rfl)) (refs_In_ok (onlyE hv8 hg))) rfl ?_
    refine d_if0 (g := (v7 == true)) rfl (fun hg => o_loadA (cs := r06_Store.Pc v4) rfl rfl rfl Ty.a37 Ty.s37 (Nat.le_of_ble_eq_true rfl) rfl) rfl ?_
    refine d_if7 (g := (v7 == true)) rfl (fun hg _ hN => o_move (d := .int .i64 a1) rfl) rfl ?_
    obtain ⟨v9, hv9, h⟩ := bindE h
    refine d_if2 (g := (v7 == true)) rfl (fun hg => o_call (ds := [r06_Store.Pv v4, .int .i64 a1]) rfl Ty.k39 (consE (ct hg) (consE (ct hg) rfl)) (r07_In_ok (onlyE hv9 hg))) rfl ?_
    refine d_if7 (g := (v7 == true)) rfl (fun hg _ hN => o_cmp (ct hg) (ct hg) rfl) rfl ?_
    refine d7 rfl (fun _ hN => pk_and rfl rfl rfl (fun q => eqT q)) rfl ?_
    refine d7 rfl (fun _ hN => o_move (d := .bool (v7 && (v8 == v9))) rfl) rfl ?_
    refine d_if0 (g := ((v7 && (v8 == v9)) == true)) rfl (fun hg => o_loadA (cs := store_Store.Pc a0) rfl rfl rfl Ty.a26 Ty.s26 (Nat.le_of_ble_eq_true rfl) rfl) rfl ?_
    refine d_if7 (g := ((v7 && (v8 == v9)) == true)) rfl (fun hg _ hN => o_move (d := .int .i64 a1) rfl) rfl ?_
    obtain ⟨v10, hv10, h⟩ := bindE h
    refine d_if2f (g := ((v7 && (v8 == v9)) == true)) rfl (fun hg => o_callF (ls := []) (ds := [store_Store.Pv a0, .int .i64 a1]) rfl Ty.k40 (consE (ct hg) (consE (ct hg) rfl)) (refs_By_ok (onlyE hv10 hg))) rfl ?_
    refine d_if0 (g := ((v7 && (v8 == v9)) == true)) rfl (fun hg => o_loadA (cs := r06_Store.Pc v4) rfl rfl rfl Ty.a37 Ty.s37 (Nat.le_of_ble_eq_true rfl) rfl) rfl ?_
    refine d_if7 (g := ((v7 && (v8 == v9)) == true)) rfl (fun hg _ hN => o_move (d := .int .i64 a1) rfl) rfl ?_
    obtain ⟨v11, hv11, h⟩ := bindE h
    refine d_if2f (g := ((v7 && (v8 == v9)) == true)) rfl (fun hg => o_callF (ls := []) (ds := [r06_Store.Pv v4, .int .i64 a1]) rfl Ty.k41 (consE (ct hg) (consE (ct hg) rfl)) (r07_By_ok (onlyE hv11 hg))) rfl ?_
    obtain ⟨v12, hv12, h⟩ := bindE h
    refine d_if2 (g := ((v7 && (v8 == v9)) == true)) rfl (fun hg => o_call (ds := [.lst false (List.map (PV.int .i64) v10), .lst false (List.map (PV.int .i64) v11)]) rfl Ty.k32 (consE (ct hg) (consE (ct hg) rfl)) (r02_Ints_ok (onlyE hv12 hg))) rfl ?_
    refine d7 rfl (fun _ hN => pk_and rfl rfl rfl (fun q => eqT q)) rfl ?_
    refine d7 rfl (fun _ hN => o_move (d := .bool ((v7 && (v8 == v9)) && v12)) rfl) rfl ?_
    refine d_if7 (g := (((v7 && (v8 == v9)) && v12) == true)) rfl (fun hg _ hN => o_move (d := .lst false (List.map (PV.int .i64) a2)) rfl) rfl ?_
    refine d_if7 (g := (((v7 && (v8 == v9)) && v12) == true)) rfl (fun hg _ hN => o_move (d := .int .i64 a1) rfl) rfl ?_
    obtain ⟨v13, hv13, h⟩ := bindE h
    refine d_if2 (g := (((v7 && (v8 == v9)) && v12) == true)) rfl (fun hg => o_call (ds := [.lst false (List.map (PV.int .i64) a2), .int .i64 a1]) rfl Ty.k42 (consE (ct hg) (consE (ct hg) rfl)) (refs_Times_ok (onlyE hv13 hg))) rfl ?_
    refine d_if7 (g := (((v7 && (v8 == v9)) && v12) == true)) rfl (fun hg _ hN => o_move (d := .lst false (List.map (PV.int .i64) a2)) rfl) rfl ?_
    refine d_if7 (g := (((v7 && (v8 == v9)) && v12) == true)) rfl (fun hg _ hN => o_move (d := .int .i64 a1) rfl) rfl ?_
    obtain ⟨v14, hv14, h⟩ := bindE h
    refine d_if2 (g := (((v7 && (v8 == v9)) && v12) == true)) rfl (fun hg => o_call (ds := [.lst false (List.map (PV.int .i64) a2), .int .i64 a1]) rfl Ty.k43 (consE (ct hg) (consE (ct hg) rfl)) (r07_Times_ok (onlyE hv14 hg))) rfl ?_
    refine d_if7 (g := (((v7 && (v8 == v9)) && v12) == true)) rfl (fun hg _ hN => o_cmp (ct hg) (ct hg) rfl) rfl ?_
    refine d7 rfl (fun _ hN => pk_and rfl rfl rfl (fun q => eqT q)) rfl ?_
    refine d7 rfl (fun _ hN => o_move (d := .bool (((v7 && (v8 == v9)) && v12) && (v13 == v14))) rfl) rfl ?_
    refine d_if0 (g := ((((v7 && (v8 == v9)) && v12) && (v13 == v14)) == true)) rfl (fun hg => o_loadA (cs := store_Store.Pc a0) rfl rfl rfl Ty.a26 Ty.s26 (Nat.le_of_ble_eq_true rfl) rfl) rfl ?_
    obtain ⟨v15, hv15, h⟩ := bindE h
    refine d_if2f (g := ((((v7 && (v8 == v9)) && v12) && (v13 == v14)) == true)) rfl (fun hg => o_callF (ls := []) (ds := [store_Store.Pv a0]) rfl Ty.k44 (consE (ct hg) rfl) (refs_Dangling_ok (onlyE hv15 hg))) rfl ?_
    refine d_if0 (g := ((((v7 && (v8 == v9)) && v12) && (v13 == v14)) == true)) rfl (fun hg => o_loadA (cs := r06_Store.Pc v4) rfl rfl rfl Ty.a37 Ty.s37 (Nat.le_of_ble_eq_true rfl) rfl) rfl ?_
    obtain ⟨v16, hv16, h⟩ := bindE h
    refine d_if2f (g := ((((v7 && (v8 == v9)) && v12) && (v13 == v14)) == true)) rfl (fun hg => o_callF (ls := []) (ds := [r06_Store.Pv v4]) rfl Ty.k45 (consE (ct hg) rfl) (r07_Dangling_ok (onlyE hv16 hg))) rfl ?_
    obtain ⟨v17, hv17, h⟩ := bindE h
    refine d_if2 (g := ((((v7 && (v8 == v9)) && v12) && (v13 == v14)) == true)) rfl (fun hg => o_call (ds := [.lst false (List.map (PV.int .i64) v15), .lst false (List.map (PV.int .i64) v16)]) rfl Ty.k32 (consE (ct hg) (consE (ct hg) rfl)) (r02_Ints_ok (onlyE hv17 hg))) rfl ?_
    refine d7 rfl (fun _ hN => pk_and rfl rfl rfl (fun q => eqT q)) rfl ?_
    refine d7 rfl (fun _ hN => o_assign (d := .bool ((((v7 && (v8 == v9)) && v12) && (v13 == v14)) && v17)) rfl) rfl ?_
    refine d_nil ?_
    refine pw_ret ?_
    obtain rfl := Option.some.inj h
    exact ⟨rfl, [_], ⟨rfl, trivial⟩, rfl, by first | exact .inl rfl | exact .inr rfl⟩

set_option maxHeartbeats 4000000 in
theorem w07_RefsSums_ok {a0 : store_Store} {r : Bool} (h : w07_RefsSums a0 = some r) : PCalls Try.prog 8 [store_Store.Pv a0] (.bool r) := by
  unfold w07_RefsSums at h
  refine pc_intro (N := 48) Try.func8 rfl rfl (Nat.le_of_ble_eq_true rfl) fun w0 imm0 => ?_
  refine sr (by kernel_rfl) ?_
  refine y1 rfl (o_box (d := store_Store.Pv a0) (z := 3) (cl := true) rfl rfl rfl rfl rfl) rfl ?_
  refine y0 rfl (o_assign (d := .bool false) rfl) ?_
  refine y_nil ?_
  refine pw_seq ?_
  refine sr (by kernel_rfl) ?_
  refine y0 rfl (o_loadA (cs := store_Store.Pc a0) rfl rfl rfl Ty.a26 Ty.s26 (Nat.le_of_ble_eq_true rfl) rfl) ?_
  obtain ⟨v1, hv1, h⟩ := bindE h
  refine y0 rfl (o_call (ds := [store_Store.Pv a0]) rfl Ty.k33 rfl (w07_right_ok hv1)) ?_
  refine y0 rfl (o_not rfl rfl) ?_
  refine y0 rfl (o_move (d := .bool (!v1)) rfl) ?_
  obtain ⟨v2, hv2, h⟩ := bindE h
  refine y_if (g := ((!v1) == false)) rfl (fun hg => o_call (ds := []) rfl Ty.k34 rfl (w07_shown_ok (onlyE hv2 hg))) ?_
  refine y_if (g := ((!v1) == false)) rfl (fun hg => o_not (ct hg) rfl) ?_
  refine y0 rfl (pk_or rfl rfl rfl (fun q => eqF q)) ?_
  refine y_nil ?_
  refine pw_cond ((!v1) || (!v2)) rfl (fun hc => ?_) (fun hc => ?_)
  · have h := ifT h hc
    refine sr (by kernel_rfl) ?_
    obtain ⟨v3, hv3, h⟩ := bindE h
    refine y0 rfl (o_call (ds := []) rfl Ty.k34 rfl (w07_shown_ok hv3)) ?_
    refine y0 rfl (o_assign (d := .bool v3) rfl) ?_
    refine y_nil ?_
    refine pw_ret ?_
    obtain rfl := Option.some.inj h
    exact ⟨rfl, [_], ⟨rfl, trivial⟩, rfl, by first | exact .inl rfl | exact .inr rfl⟩
  · have h := ifF h hc
    refine pw_skip ?_
    refine sr (by kernel_rfl) ?_
    refine y0 rfl (o_assign (d := .int .i64 0) rfl) ?_
    refine y_nil ?_
    refine sr (by kernel_rfl) ?_
    refine y0 rfl (o_assign (d := .int .i64 0) rfl) ?_
    refine y_nil ?_
    refine sr (by kernel_rfl) ?_
    refine y0 rfl (o_loadA (cs := store_Store.Pc a0) rfl rfl rfl Ty.a26 Ty.s26 (Nat.le_of_ble_eq_true rfl) rfl) ?_
    obtain ⟨v4, hv4, h⟩ := bindE h
    refine yc rfl (o_callF (ls := []) (ds := [store_Store.Pv a0]) rfl Ty.k35 rfl (w07_its_ok hv4)) ?_
    obtain ⟨v5, hv5, h⟩ := bindE h
    refine yc rfl (o_callF (ls := []) (ds := [r06_Store.Pv v4]) rfl Ty.k46 rfl (r06_Live_ok hv5)) ?_
    refine y0 rfl (o_assign (d := .lst false (List.map (PV.int .i64) v5)) rfl) ?_
    refine y_nil ?_
    obtain ⟨κ15, hκ12, h⟩ := jnE h
    refine pw_jn0 (κ := κ15) (r := r) (fun (q : Int × Int) => St.of [(1, .ptr 1 0 0), (3, .int .i64 q.1), (4, .int .i64 q.2)] [(1, ⟨[store_Store.Pv a0], 0, false, 3, true⟩)]) (fun q18 h => ?_) ?_
    · subst hκ12
      obtain ⟨j16, j17⟩ := q18
      refine sr (by kernel_rfl) ?_
      refine y0 rfl (o_move (d := .int .i64 j16) rfl) ?_
      refine y0 rfl (o_move (d := .int .i64 j17) rfl) ?_
      refine y0 rfl (o_loadA (cs := store_Store.Pc a0) rfl rfl rfl Ty.a26 Ty.s26 (Nat.le_of_ble_eq_true rfl) rfl) ?_
      obtain ⟨v19, hv13, h⟩ := bindE h
      refine yc rfl (o_callF (ls := []) (ds := [store_Store.Pv a0]) rfl Ty.k44 rfl (refs_Dangling_ok hv13)) ?_
      refine y0 rfl (o_lnL (f := (PV.int .i64)) rfl Ty.e27) ?_
      refine y0 rfl (o_ari rfl rfl rfl) ?_
      refine y0 rfl (o_cmp rfl rfl rfl) ?_
      refine y0 rfl (o_assign (d := .bool (j16 == (w64 (j17 + (v19.length : Int))))) rfl) ?_
      refine y_nil ?_
      refine pw_ret ?_
      obtain rfl := Option.some.inj h
      exact ⟨rfl, [_], ⟨rfl, trivial⟩, rfl, by first | exact .inl rfl | exact .inr rfl⟩
    · skip
      refine sr (by kernel_rfl) ?_
      refine y0 rfl (o_assign (d := .int .i64 0) rfl) ?_
      refine y_nil ?_
      refine pw_block ?_
      obtain ⟨e20, hl14, hk15⟩ := bindE h
      refine pw_lp0 (fun (q : Int × Int × Int) => St.of [(1, .ptr 1 0 0), (3, .int .i64 q.1), (4, .int .i64 q.2.1), (5, .lst false (List.map (PV.int .i64) v5)), (6, .int .i64 q.2.2)] [(1, ⟨[store_Store.Pv a0], 0, false, 3, true⟩)]) hl14 (wk_st _ _ ⟨rfl, rfl, rfl, rfl, rfl, rfl, rfl, rfl, rfl, rfl, rfl, rfl, rfl, rfl, rfl, trivial⟩ ⟨rowLe_same rfl rfl rfl (fun q => nomatch q) rfl rfl rfl, trivial⟩) (fun q25 x24 h hx16 => ?_)
      obtain ⟨s21, s22, s23⟩ := q25
      refine pw_seq ?_
      refine sr (by kernel_rfl) ?_
      refine y0 rfl (o_move (d := .int .i64 s23) rfl) ?_
      refine y0 rfl (o_move (d := .lst false (List.map (PV.int .i64) v5)) rfl) ?_
      refine y0 rfl (o_lnL (f := (PV.int .i64)) rfl Ty.e27) ?_
      refine y0 rfl (o_cmp rfl rfl rfl) ?_
      refine y_nil ?_
      refine pw_cond (decide (s23 < (v5.length : Int))) rfl (fun hc => ?_) (fun hc => ?_)
      · have h := ifT h hc
        refine pw_skip ?_
        refine pw_seq ?_
        refine pw_block ?_
        refine dr [] Ty.mix (by kernel_rfl) (by kernel_rfl) ?_
        refine d7 rfl (fun _ hN => o_move (d := .int .i64 s21) rfl) rfl ?_
        refine d0 rfl (o_loadA (cs := store_Store.Pc a0) rfl rfl rfl Ty.a26 Ty.s26 (Nat.le_of_ble_eq_true rfl) rfl) rfl ?_
        refine d7 rfl (fun _ hN => o_move (d := .lst false (List.map (PV.int .i64) v5)) rfl) rfl ?_
        refine d7 rfl (fun _ hN => o_move (d := .int .i64 s23) rfl) rfl ?_
        obtain ⟨v26, hv17, h⟩ := bindE h
        refine d0 rfl (o_ixL (f := (PV.int .i64)) (cs := [.int .i64 v26]) hv17 rfl rfl Ty.e27 Ty.s3 rfl rfl) rfl ?_
        refine d0 rfl (o_loadRS rfl Ty.a3 rfl) rfl ?_
        obtain ⟨v27, hv18, h⟩ := bindE h
        refine d2f rfl (o_callF (ls := []) (ds := [store_Store.Pv a0, .int .i64 v26]) rfl Ty.k36 rfl (refs_Out_ok hv18)) rfl ?_
        refine d0 rfl (o_lnL (f := (PV.int .i64)) rfl Ty.e27) rfl ?_
        refine d7 rfl (fun _ hN => o_ari rfl rfl rfl) rfl ?_
        refine d7 rfl (fun _ hN => o_assign (d := .int .i64 (w64 (s21 + (v27.length : Int)))) rfl) rfl ?_
        refine d_nil ?_
        refine pw_drw [] Ty.mix (by kernel_rfl) (by kernel_rfl) ?_
        refine d7 rfl (fun _ hN => o_move (d := .int .i64 s22) rfl) rfl ?_
        refine d0 rfl (o_loadA (cs := store_Store.Pc a0) rfl rfl rfl Ty.a26 Ty.s26 (Nat.le_of_ble_eq_true rfl) rfl) rfl ?_
        refine d7 rfl (fun _ hN => o_move (d := .lst false (List.map (PV.int .i64) v5)) rfl) rfl ?_
        refine d7 rfl (fun _ hN => o_move (d := .int .i64 s23) rfl) rfl ?_
        refine d0 rfl (o_ixL (f := (PV.int .i64)) (cs := [.int .i64 v26]) hv17 rfl rfl Ty.e27 Ty.s3 rfl rfl) rfl ?_
        refine d0 rfl (o_loadRS rfl Ty.a3 rfl) rfl ?_
        obtain ⟨v28, hv19, h⟩ := bindE h
        refine d2 rfl (o_call (ds := [store_Store.Pv a0, .int .i64 v26]) rfl Ty.k38 rfl (refs_In_ok hv19)) rfl ?_
        refine d7 rfl (fun _ hN => o_ari rfl rfl rfl) rfl ?_
        refine d7 rfl (fun _ hN => o_assign (d := .int .i64 (w64 (s22 + v28))) rfl) rfl ?_
        refine d_nil ?_
        refine sr1 (by kernel_rfl) ?_
        refine y0 rfl (o_move (d := .int .i64 s23) rfl) ?_
        refine y0 rfl (o_ari rfl rfl rfl) ?_
        refine y0 rfl (o_assign (d := .int .i64 (w64 (s23 + 1))) rfl) ?_
        refine y_nil ?_
        exact ⟨rfl, (w64 (s21 + (v27.length : Int)), w64 (s22 + v28), w64 (s23 + 1)), (Option.some.inj h).symm, (wk_st _ _ ⟨rfl, rfl, rfl, rfl, rfl, rfl, rfl, rfl, rfl, rfl, rfl, rfl, rfl, rfl, rfl, trivial⟩ ⟨rowLe_same rfl rfl rfl (fun q => nomatch q) rfl rfl rfl, trivial⟩)⟩
      · have h := ifF h hc
        refine pw_exit ?_
        refine thenQ_exit ?_
        refine thenQ_exit ?_
        refine blockQ_exit ?_
        have he := hx16 _ (Option.some.inj h).symm
        have h := hk15
        rw [← he] at h
        exact ⟨rfl, (s21, s22), h, (wk_st _ _ ⟨rfl, rfl, rfl, rfl, rfl, rfl, rfl, rfl, rfl, trivial⟩ ⟨rowLe_same rfl rfl rfl (fun q => nomatch q) rfl rfl rfl, trivial⟩)⟩

set_option maxHeartbeats 4000000 in
theorem w07_RefsBoth_ok {a0 : store_Store} {a1 : Int} {a2 : Int} {r : Bool} (h : w07_RefsBoth a0 a1 a2 = some r) : PCalls Try.prog 9 [store_Store.Pv a0, .int .i64 a1, .int .i64 a2] (.bool r) := by
  unfold w07_RefsBoth at h
  refine pc_intro (N := 49) Try.func9 rfl rfl (Nat.le_of_ble_eq_true rfl) fun w0 imm0 => ?_
  refine sr (by kernel_rfl) ?_
  refine y1 rfl (o_box (d := store_Store.Pv a0) (z := 3) (cl := true) rfl rfl rfl rfl rfl) rfl ?_
  refine y0 rfl (o_assign (d := .bool false) rfl) ?_
  refine y_nil ?_
  refine pw_seq ?_
  refine sr (by kernel_rfl) ?_
  refine y0 rfl (o_loadA (cs := store_Store.Pc a0) rfl rfl rfl Ty.a26 Ty.s26 (Nat.le_of_ble_eq_true rfl) rfl) ?_
  obtain ⟨v1, hv1, h⟩ := bindE h
  refine y0 rfl (o_call (ds := [store_Store.Pv a0]) rfl Ty.k33 rfl (w07_right_ok hv1)) ?_
  refine y0 rfl (o_not rfl rfl) ?_
  refine y0 rfl (o_move (d := .bool (!v1)) rfl) ?_
  obtain ⟨v2, hv2, h⟩ := bindE h
  refine y_if (g := ((!v1) == false)) rfl (fun hg => o_call (ds := []) rfl Ty.k34 rfl (w07_shown_ok (onlyE hv2 hg))) ?_
  refine y_if (g := ((!v1) == false)) rfl (fun hg => o_not (ct hg) rfl) ?_
  refine y0 rfl (pk_or rfl rfl rfl (fun q => eqF q)) ?_
  refine y_nil ?_
  refine pw_cond ((!v1) || (!v2)) rfl (fun hc => ?_) (fun hc => ?_)
  · have h := ifT h hc
    refine sr (by kernel_rfl) ?_
    obtain ⟨v3, hv3, h⟩ := bindE h
    refine y0 rfl (o_call (ds := []) rfl Ty.k34 rfl (w07_shown_ok hv3)) ?_
    refine y0 rfl (o_assign (d := .bool v3) rfl) ?_
    refine y_nil ?_
    refine pw_ret ?_
    obtain rfl := Option.some.inj h
    exact ⟨rfl, [_], ⟨rfl, trivial⟩, rfl, by first | exact .inl rfl | exact .inr rfl⟩
  · have h := ifF h hc
    refine pw_skip ?_
    refine sr (by kernel_rfl) ?_
    refine y0 rfl (o_loadA (cs := store_Store.Pc a0) rfl rfl rfl Ty.a26 Ty.s26 (Nat.le_of_ble_eq_true rfl) rfl) ?_
    refine y0 rfl (o_move (d := .int .i64 a2) rfl) ?_
    obtain ⟨v4, hv4, h⟩ := bindE h
    refine yc rfl (o_callF (ls := []) (ds := [store_Store.Pv a0, .int .i64 a2]) rfl Ty.k40 rfl (refs_By_ok hv4)) ?_
    refine y0 rfl (o_assign (d := .lst false (List.map (PV.int .i64) v4)) rfl) ?_
    refine y_nil ?_
    refine sr (by kernel_rfl) ?_
    refine y0 rfl (o_loadA (cs := store_Store.Pc a0) rfl rfl rfl Ty.a26 Ty.s26 (Nat.le_of_ble_eq_true rfl) rfl) ?_
    refine y0 rfl (o_move (d := .int .i64 a1) rfl) ?_
    obtain ⟨v5, hv5, h⟩ := bindE h
    refine yc rfl (o_callF (ls := []) (ds := [store_Store.Pv a0, .int .i64 a1]) rfl Ty.k36 rfl (refs_Out_ok hv5)) ?_
    refine y0 rfl (o_move (d := .int .i64 a2) rfl) ?_
    obtain ⟨v6, hv6, h⟩ := bindE h
    refine y0 rfl (o_call (ds := [.lst false (List.map (PV.int .i64) v5), .int .i64 a2]) rfl Ty.k42 rfl (refs_Times_ok hv6)) ?_
    refine y0 rfl (o_assign (d := .int .i64 v6) rfl) ?_
    refine y_nil ?_
    refine sr (by kernel_rfl) ?_
    refine y0 rfl (o_move (d := .lst false (List.map (PV.int .i64) v4)) rfl) ?_
    refine y0 rfl (o_move (d := .int .i64 a1) rfl) ?_
    obtain ⟨v7, hv7, h⟩ := bindE h
    refine y0 rfl (o_call (ds := [.lst false (List.map (PV.int .i64) v4), .int .i64 a1]) rfl Ty.k42 rfl (refs_Times_ok hv7)) ?_
    refine y0 rfl (o_move (d := .int .i64 v6) rfl) ?_
    refine y0 rfl (o_min rfl rfl rfl) ?_
    refine y0 rfl (o_cmp rfl rfl rfl) ?_
    refine y0 rfl (o_move (d := .bool (v7 == (if 1 < v6 then 1 else v6))) rfl) ?_
    refine y_if (g := ((v7 == (if 1 < v6 then 1 else v6)) == true)) rfl (fun hg => o_move (d := .lst false (List.map (PV.int .i64) v4)) rfl) ?_
    refine y_if (g := ((v7 == (if 1 < v6 then 1 else v6)) == true)) rfl (fun hg => o_lnL (f := (PV.int .i64)) (ct hg) Ty.e27) ?_
    refine y_if (g := ((v7 == (if 1 < v6 then 1 else v6)) == true)) rfl (fun hg => o_loadA (cs := store_Store.Pc a0) rfl rfl rfl Ty.a26 Ty.s26 (Nat.le_of_ble_eq_true rfl) rfl) ?_
    refine y_if (g := ((v7 == (if 1 < v6 then 1 else v6)) == true)) rfl (fun hg => o_move (d := .int .i64 a2) rfl) ?_
    obtain ⟨v8, hv8, h⟩ := bindE h
    refine y_if (g := ((v7 == (if 1 < v6 then 1 else v6)) == true)) rfl (fun hg => o_call (ds := [store_Store.Pv a0, .int .i64 a2]) rfl Ty.k38 (consE (ct hg) (consE (ct hg) rfl)) (refs_In_ok (onlyE hv8 hg))) ?_
    refine y_if (g := ((v7 == (if 1 < v6 then 1 else v6)) == true)) rfl (fun hg => o_cmp (ct hg) (ct hg) rfl) ?_
    refine y0 rfl (pk_and rfl rfl rfl (fun q => eqT q)) ?_
    refine y0 rfl (o_move (d := .bool ((v7 == (if 1 < v6 then 1 else v6)) && (decide ((v4.length : Int) ≤ v8)))) rfl) ?_
    refine y_if (g := (((v7 == (if 1 < v6 then 1 else v6)) && (decide ((v4.length : Int) ≤ v8))) == true)) rfl (fun hg => o_move (d := .lst false (List.map (PV.int .i64) v4)) rfl) ?_
    refine y_if (g := (((v7 == (if 1 < v6 then 1 else v6)) && (decide ((v4.length : Int) ≤ v8))) == true)) rfl (fun hg => o_lnL (f := (PV.int .i64)) (ct hg) Ty.e27) ?_
    refine y_if (g := (((v7 == (if 1 < v6 then 1 else v6)) && (decide ((v4.length : Int) ≤ v8))) == true)) rfl (fun hg => o_cmp (ct hg) rfl rfl) ?_
    refine y_if (g := (((v7 == (if 1 < v6 then 1 else v6)) && (decide ((v4.length : Int) ≤ v8))) == true)) rfl (fun hg => o_loadA (cs := store_Store.Pc a0) rfl rfl rfl Ty.a26 Ty.s26 (Nat.le_of_ble_eq_true rfl) rfl) ?_
    refine y_if (g := (((v7 == (if 1 < v6 then 1 else v6)) && (decide ((v4.length : Int) ≤ v8))) == true)) rfl (fun hg => o_move (d := .int .i64 a2) rfl) ?_
    obtain ⟨v9, hv9, h⟩ := bindE h
    refine y_if (g := (((v7 == (if 1 < v6 then 1 else v6)) && (decide ((v4.length : Int) ≤ v8))) == true)) rfl (fun hg => o_call (ds := [store_Store.Pv a0, .int .i64 a2]) rfl Ty.k38 (consE (ct hg) (consE (ct hg) rfl)) (refs_In_ok (onlyE hv9 hg))) ?_
    refine y_if (g := (((v7 == (if 1 < v6 then 1 else v6)) && (decide ((v4.length : Int) ≤ v8))) == true)) rfl (fun hg => o_cmp (ct hg) rfl rfl) ?_
    refine y_if (g := (((v7 == (if 1 < v6 then 1 else v6)) && (decide ((v4.length : Int) ≤ v8))) == true)) rfl (fun hg => o_eqB (ct hg) (ct hg) Ty.u4 rfl) ?_
    refine y0 rfl (pk_and rfl rfl rfl (fun q => eqT q)) ?_
    refine y0 rfl (o_assign (d := .bool (((v7 == (if 1 < v6 then 1 else v6)) && (decide ((v4.length : Int) ≤ v8))) && ((decide ((v4.length : Int) > 0)) == (decide (v9 > 0))))) rfl) ?_
    refine y_nil ?_
    refine pw_ret ?_
    obtain rfl := Option.some.inj h
    exact ⟨rfl, [_], ⟨rfl, trivial⟩, rfl, by first | exact .inl rfl | exact .inr rfl⟩

set_option maxHeartbeats 4000000 in
theorem w07_RefsTimes_ok {a0 : List Int} {a1 : List Int} {a2 : Int} {r : Bool} (h : w07_RefsTimes a0 a1 a2 = some r) : PCalls Try.prog 10 [.lst false (List.map (PV.int .i64) a0), .lst false (List.map (PV.int .i64) a1), .int .i64 a2] (.bool r) := by
  unfold w07_RefsTimes at h
  refine pc_intro (N := 57) Try.func10 rfl rfl (Nat.le_of_ble_eq_true rfl) fun w0 imm0 => ?_
  refine sr (by kernel_rfl) ?_
  refine y0 rfl (o_assign (d := .bool false) rfl) ?_
  refine y_nil ?_
  refine pw_seq ?_
  refine sr (by kernel_rfl) ?_
  refine y0 rfl (o_move (d := .lst false (List.map (PV.int .i64) a0)) rfl) ?_
  refine y0 rfl (o_lnL (f := (PV.int .i64)) rfl Ty.e27) ?_
  refine y0 rfl (o_cmp rfl rfl rfl) ?_
  refine y0 rfl (o_move (d := .bool (decide ((a0.length : Int) > 100))) rfl) ?_
  refine y_if (g := ((decide ((a0.length : Int) > 100)) == false)) rfl (fun hg => o_move (d := .lst false (List.map (PV.int .i64) a1)) rfl) ?_
  refine y_if (g := ((decide ((a0.length : Int) > 100)) == false)) rfl (fun hg => o_lnL (f := (PV.int .i64)) (ct hg) Ty.e27) ?_
  refine y_if (g := ((decide ((a0.length : Int) > 100)) == false)) rfl (fun hg => o_cmp (ct hg) rfl rfl) ?_
  refine y0 rfl (pk_or rfl rfl rfl (fun q => eqF q)) ?_
  refine y0 rfl (o_move (d := .bool ((decide ((a0.length : Int) > 100)) || (decide ((a1.length : Int) > 100)))) rfl) ?_
  obtain ⟨v1, hv1, h⟩ := bindE h
  refine y_if (g := (((decide ((a0.length : Int) > 100)) || (decide ((a1.length : Int) > 100))) == false)) rfl (fun hg => o_call (ds := []) rfl Ty.k34 rfl (w07_shown_ok (onlyE hv1 hg))) ?_
  refine y_if (g := (((decide ((a0.length : Int) > 100)) || (decide ((a1.length : Int) > 100))) == false)) rfl (fun hg => o_not (ct hg) rfl) ?_
  refine y0 rfl (pk_or rfl rfl rfl (fun q => eqF q)) ?_
  refine y_nil ?_
  refine pw_cond (((decide ((a0.length : Int) > 100)) || (decide ((a1.length : Int) > 100))) || (!v1)) rfl (fun hc => ?_) (fun hc => ?_)
  · have h := ifT h hc
    refine sr (by kernel_rfl) ?_
    obtain ⟨v2, hv2, h⟩ := bindE h
    refine y0 rfl (o_call (ds := []) rfl Ty.k34 rfl (w07_shown_ok hv2)) ?_
    refine y0 rfl (o_assign (d := .bool v2) rfl) ?_
    refine y_nil ?_
    refine pw_ret ?_
    obtain rfl := Option.some.inj h
    exact ⟨rfl, [_], ⟨rfl, trivial⟩, rfl, by first | exact .inl rfl | exact .inr rfl⟩
  · have h := ifF h hc
    refine pw_skip ?_
    refine sr (by kernel_rfl) ?_
    refine y0 rfl (o_nslice rfl Ty.e27 Ty.s3) ?_
    refine y0 rfl (o_move (d := .lst false (List.map (PV.int .i64) a0)) rfl) ?_
    obtain ⟨v3, hv3, h⟩ := bindE h
    refine y1 rfl (o_apT (f := (PV.int .i64)) hv3 rfl rfl (.inl ⟨_, rfl, rfl⟩) Ty.e27 Ty.s3 Ty.b3 Ty.z3 rfl (fun _ => rfl)) rfl ?_
    refine y0 rfl (o_move (d := .lst false (List.map (PV.int .i64) a1)) rfl) ?_
    obtain ⟨v4, hv4, h⟩ := bindE h
    refine y_app rfl (o_apR (f := (PV.int .i64)) hv4 rfl rfl rfl rfl rfl rfl (.inl ⟨_, rfl, rfl⟩) Ty.e27 Ty.s3 Ty.b3 Ty.z3 rfl (fun _ => rfl)) rfl rfl rfl ?_
    refine y0 rfl (o_move (d := .int .i64 a2) rfl) ?_
    obtain ⟨v5, hv5, h⟩ := bindE h
    refine y0 rfl (o_call (ds := [.sl 24, .int .i64 a2]) rfl Ty.k42 rfl (refs_Times_ok hv5)) ?_
    refine y0 rfl (o_move (d := .lst false (List.map (PV.int .i64) a0)) rfl) ?_
    refine y0 rfl (o_move (d := .int .i64 a2) rfl) ?_
    obtain ⟨v6, hv6, h⟩ := bindE h
    refine y0 rfl (o_call (ds := [.lst false (List.map (PV.int .i64) a0), .int .i64 a2]) rfl Ty.k42 rfl (refs_Times_ok hv6)) ?_
    refine y0 rfl (o_move (d := .lst false (List.map (PV.int .i64) a1)) rfl) ?_
    refine y0 rfl (o_move (d := .int .i64 a2) rfl) ?_
    obtain ⟨v7, hv7, h⟩ := bindE h
    refine y0 rfl (o_call (ds := [.lst false (List.map (PV.int .i64) a1), .int .i64 a2]) rfl Ty.k42 rfl (refs_Times_ok hv7)) ?_
    refine y0 rfl (o_ari rfl rfl rfl) ?_
    refine y0 rfl (o_cmp rfl rfl rfl) ?_
    refine y0 rfl (o_move (d := .bool (v5 == (w64 (v6 + v7)))) rfl) ?_
    refine y_if (g := ((v5 == (w64 (v6 + v7))) == true)) rfl (fun hg => o_move (d := .int .i64 a2) rfl) ?_
    refine y_if (g := ((v5 == (w64 (v6 + v7))) == true)) rfl (fun hg => o_cmp (ct hg) rfl rfl) ?_
    refine y_if (g := ((v5 == (w64 (v6 + v7))) == true)) rfl (fun hg => o_move (d := .bool (a2 != 0)) (ct hg)) ?_
    refine y_if (g := (((v5 == (w64 (v6 + v7))) == true) && ((a2 != 0) == false))) (want2 rfl rfl rfl) (fun hg => o_move (d := .lst false (List.map (PV.int .i64) a0)) rfl) ?_
    refine y_if (g := (((v5 == (w64 (v6 + v7))) == true) && ((a2 != 0) == false))) (want2 rfl rfl rfl) (fun hg => o_move (d := .int .i64 a2) rfl) ?_
    refine y_if (g := (((v5 == (w64 (v6 + v7))) == true) && ((a2 != 0) == false))) (want2 rfl rfl rfl) (fun hg => o_call (ds := [.lst false (List.map (PV.int .i64) a0), .int .i64 a2]) rfl Ty.k42 (consE (ct hg) (consE (ct hg) rfl)) (refs_Times_ok hv6)) ?_
    refine y_if (g := (((v5 == (w64 (v6 + v7))) == true) && ((a2 != 0) == false))) (want2 rfl rfl rfl) (fun hg => o_cmp (ct hg) rfl rfl) ?_
    refine y_if (g := ((v5 == (w64 (v6 + v7))) == true)) rfl (fun hg => pk_or (ct hg) rfl rfl (fun q => andI hg (eqF q))) ?_
    refine y0 rfl (pk_and rfl rfl rfl (fun q => eqT q)) ?_
    refine y0 rfl (o_move (d := .bool ((v5 == (w64 (v6 + v7))) && ((a2 != 0) || (v6 == 0)))) rfl) ?_
    refine y_if (g := (((v5 == (w64 (v6 + v7))) && ((a2 != 0) || (v6 == 0))) == true)) rfl (fun hg => o_move (d := .int .i64 a2) rfl) ?_
    refine y_if (g := (((v5 == (w64 (v6 + v7))) && ((a2 != 0) || (v6 == 0))) == true)) rfl (fun hg => o_cmp (ct hg) rfl rfl) ?_
    refine y_if (g := (((v5 == (w64 (v6 + v7))) && ((a2 != 0) || (v6 == 0))) == true)) rfl (fun hg => o_move (d := .bool (a2 == 0)) (ct hg)) ?_
    refine y_if (g := ((((v5 == (w64 (v6 + v7))) && ((a2 != 0) || (v6 == 0))) == true) && ((a2 == 0) == false))) (want2 rfl rfl rfl) (fun hg => o_move (d := .int .i64 a2) rfl) ?_
    refine y_if (g := ((((v5 == (w64 (v6 + v7))) && ((a2 != 0) || (v6 == 0))) == true) && ((a2 == 0) == false))) (want2 rfl rfl rfl) (fun hg => o_move (d := .int .i64 a2) rfl) ?_
    refine y_if (g := ((((v5 == (w64 (v6 + v7))) && ((a2 != 0) || (v6 == 0))) == true) && ((a2 == 0) == false))) (want2 rfl rfl rfl) (fun hg => o_bI (f := (PV.int .i64)) (l := [a2, 0, a2]) (consE (partE (ct hg)) (consE (partE rfl) (consE (partE (ct hg)) rfl))) Ty.e27 Ty.s3 Ty.z3 rfl rfl (Nat.le_of_ble_eq_true rfl) rfl rfl) ?_
    refine y_if (g := ((((v5 == (w64 (v6 + v7))) && ((a2 != 0) || (v6 == 0))) == true) && ((a2 == 0) == false))) (want2 rfl rfl rfl) (fun hg => o_move (d := .int .i64 a2) rfl) ?_
    obtain ⟨v8, hv8, h⟩ := bindE h
    refine y_if (g := ((((v5 == (w64 (v6 + v7))) && ((a2 != 0) || (v6 == 0))) == true) && ((a2 == 0) == false))) (want2 rfl rfl rfl) (fun hg => o_call (ds := [.lst true (List.map (PV.int .i64) [a2, 0, a2]), .int .i64 a2]) rfl Ty.k42 (consE (ct hg) (consE (ct hg) rfl)) (refs_Times_ok (onlyE hv8 hg))) ?_
    refine y_if (g := ((((v5 == (w64 (v6 + v7))) && ((a2 != 0) || (v6 == 0))) == true) && ((a2 == 0) == false))) (want2 rfl rfl rfl) (fun hg => o_cmp (ct hg) rfl rfl) ?_
    refine y_if (g := (((v5 == (w64 (v6 + v7))) && ((a2 != 0) || (v6 == 0))) == true)) rfl (fun hg => pk_or (ct hg) rfl rfl (fun q => andI hg (eqF q))) ?_
    refine y0 rfl (pk_and rfl rfl rfl (fun q => eqT q)) ?_
    refine y0 rfl (o_assign (d := .bool (((v5 == (w64 (v6 + v7))) && ((a2 != 0) || (v6 == 0))) && ((a2 == 0) || (v8 == 2)))) rfl) ?_
    refine y_nil ?_
    refine pw_ret ?_
    obtain rfl := Option.some.inj h
    exact ⟨rfl, [_], ⟨rfl, trivial⟩, rfl, by first | exact .inl rfl | exact .inr rfl⟩

end Go.Proofs.Ytpnajadblhkomaa.Ok
