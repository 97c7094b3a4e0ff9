/-
  The functions of the program do as the plain functions do.
-/
import Derived.Test.YtpnajadblhkomaaG6Ok1
namespace Go.Proofs.Ytpnajadblhkomaa.Ok
open Go Go.Pw Go.Sh Go.Proofs
set_option linter.unusedVariables false
set_option maxRecDepth 100000
set_option maxHeartbeats 4000000 in
theorem r02_Ints_ok {a0 : List Int} {a1 : List Int} {r : Bool} (h : r02_Ints a0 a1 = some r) : PCalls Try.prog 32 [.lst false (List.map (PV.int .i64) a0), .lst false (List.map (PV.int .i64) a1)] (.bool r) := by
  unfold r02_Ints at h
  refine pc_intro (N := 26) Try.func32 rfl rfl (Nat.le_of_ble_eq_true rfl) fun w0 imm0 => ?_
  refine sr (by kernel_rfl) ?_
  refine y0 rfl (o_assign (d := .bool false) rfl) ?_
  refine y_nil ?_
  refine pw_seq ?_
  refine sr (by kernel_rfl) ?_
  refine y0 rfl (o_move (d := .lst false (List.map (PV.int .i64) a0)) rfl) ?_
  refine y0 rfl (o_lnL (f := (PV.int .i64)) rfl Ty.e27) ?_
  refine y0 rfl (o_move (d := .lst false (List.map (PV.int .i64) a1)) rfl) ?_
  refine y0 rfl (o_lnL (f := (PV.int .i64)) rfl Ty.e27) ?_
  refine y0 rfl (o_cmp rfl rfl rfl) ?_
  refine y_nil ?_
  refine pw_cond ((a0.length : Int) != (a1.length : Int)) rfl (fun hc => ?_) (fun hc => ?_)
  · have h := ifT h hc
    refine sr (by kernel_rfl) ?_
    refine y0 rfl (o_assign (d := .bool false) rfl) ?_
    refine y_nil ?_
    refine pw_ret ?_
    obtain rfl := Option.some.inj h
    exact ⟨rfl, [_], ⟨rfl, trivial⟩, rfl, by first | exact .inl rfl | exact .inr rfl⟩
  · have h := ifF h hc
    refine pw_skip ?_
    obtain ⟨κ6, hκ6, h⟩ := jnE h
    refine pw_jn0 (κ := κ6) (r := r) (fun (_ : Unit) => St.of [] []) (fun q7 h => ?_) ?_
    · subst hκ6
      refine sr (by kernel_rfl) ?_
      refine y0 rfl (o_assign (d := .bool true) rfl) ?_
      refine y_nil ?_
      refine pw_ret ?_
      obtain rfl := Option.some.inj h
      exact ⟨rfl, [_], ⟨rfl, trivial⟩, rfl, by first | exact .inl rfl | exact .inr rfl⟩
    · skip
      refine sr (by kernel_rfl) ?_
      refine y0 rfl (o_assign (d := .int .i64 0) rfl) ?_
      refine y_nil ?_
      refine pw_block ?_
      obtain ⟨e8, hl7, hk8⟩ := bindE h
      refine pw_lp0 (fun (s9 : Int) => St.of [(0, .lst false (List.map (PV.int .i64) a0)), (1, .lst false (List.map (PV.int .i64) a1)), (5, .int .i64 s9)] []) hl7 (wk_st _ _ ⟨rfl, rfl, rfl, rfl, rfl, rfl, rfl, rfl, rfl, trivial⟩ trivial) (fun s9 x10 h hx9 => ?_)
      refine pw_seq ?_
      refine sr (by kernel_rfl) ?_
      refine y0 rfl (o_move (d := .int .i64 s9) rfl) ?_
      refine y0 rfl (o_move (d := .lst false (List.map (PV.int .i64) a0)) rfl) ?_
      refine y0 rfl (o_lnL (f := (PV.int .i64)) rfl Ty.e27) ?_
      refine y0 rfl (o_cmp rfl rfl rfl) ?_
      refine y_nil ?_
      refine pw_cond (decide (s9 < (a0.length : Int))) rfl (fun hc => ?_) (fun hc => ?_)
      · have h := ifT h hc
        refine pw_skip ?_
        refine pw_seq ?_
        refine pw_block ?_
        refine dr [] Ty.mix (by kernel_rfl) (by kernel_rfl) ?_
        refine d7 rfl (fun _ hN => o_move (d := .lst false (List.map (PV.int .i64) a0)) rfl) rfl ?_
        refine d7 rfl (fun _ hN => o_move (d := .int .i64 s9) rfl) rfl ?_
        obtain ⟨v11, hv10, h⟩ := bindE h
        refine d0 rfl (o_ixL (f := (PV.int .i64)) (cs := [.int .i64 v11]) hv10 rfl rfl Ty.e27 Ty.s3 rfl rfl) rfl ?_
        refine d0 rfl (o_loadRS rfl Ty.a3 rfl) rfl ?_
        refine d7 rfl (fun _ hN => o_move (d := .lst false (List.map (PV.int .i64) a1)) rfl) rfl ?_
        refine d7 rfl (fun _ hN => o_move (d := .int .i64 s9) rfl) rfl ?_
        obtain ⟨v12, hv11, h⟩ := bindE h
        refine d0 rfl (o_ixL (f := (PV.int .i64)) (cs := [.int .i64 v12]) hv11 rfl rfl Ty.e27 Ty.s3 rfl rfl) rfl ?_
        refine d0 rfl (o_loadRS rfl Ty.a3 rfl) rfl ?_
        refine d7 rfl (fun _ hN => o_cmp rfl rfl rfl) rfl ?_
        refine d_nil ?_
        refine pw_cond (v11 != v12) rfl (fun hc => ?_) (fun hc => ?_)
        · have h := ifT h hc
          refine sr (by kernel_rfl) ?_
          refine y0 rfl (o_assign (d := .bool false) rfl) ?_
          refine y_nil ?_
          refine pw_ret ?_
          have he := hx9 _ (Option.some.inj h).symm
          have h := hk8
          rw [← he] at h
          obtain rfl := Option.some.inj h
          exact ⟨rfl, [_], ⟨rfl, trivial⟩, rfl, by first | exact .inl rfl | exact .inr rfl⟩
        · have h := ifF h hc
          refine pw_skip ?_
          refine sr1 (by kernel_rfl) ?_
          refine y0 rfl (o_move (d := .int .i64 s9) rfl) ?_
          refine y0 rfl (o_ari rfl rfl rfl) ?_
          refine y0 rfl (o_assign (d := .int .i64 (w64 (s9 + 1))) rfl) ?_
          refine y_nil ?_
          exact ⟨rfl, w64 (s9 + 1), (Option.some.inj h).symm, (wk_st _ _ ⟨rfl, rfl, rfl, rfl, rfl, rfl, rfl, rfl, rfl, trivial⟩ trivial)⟩
      · have h := ifF h hc
        refine pw_exit ?_
        refine thenQ_exit ?_
        refine thenQ_exit ?_
        refine blockQ_exit ?_
        have he := hx9 _ (Option.some.inj h).symm
        have h := hk8
        rw [← he] at h
        exact ⟨rfl, (), h, (wk_st _ _ trivial trivial)⟩

set_option maxHeartbeats 4000000 in
theorem r06_Alike_ok {a0 : r06_Obj} {a1 : r06_Obj} {r : Bool} (h : r06_Alike a0 a1 = some r) : PCalls Try.prog 25 [r06_Obj.Pv a0, r06_Obj.Pv a1] (.bool r) := by
  unfold r06_Alike at h
  refine pc_intro (N := 45) Try.func25 rfl rfl (Nat.le_of_ble_eq_true rfl) fun w0 imm0 => ?_
  refine sr (by kernel_rfl) ?_
  refine y1 rfl (o_box (d := r06_Obj.Pv a0) (z := 6) (cl := true) rfl rfl rfl rfl rfl) rfl ?_
  refine y1 rfl (o_box (d := r06_Obj.Pv a1) (z := 6) (cl := true) rfl rfl rfl rfl rfl) rfl ?_
  refine y0 rfl (o_assign (d := .bool false) rfl) ?_
  refine y_nil ?_
  refine sr (by kernel_rfl) ?_
  refine y0 rfl (o_fieldAddrP (k := 0) rfl Ty.f41_0 rfl) ?_
  refine y0 rfl (o_loadS rfl rfl rfl Ty.a3 rfl) ?_
  refine y0 rfl (o_fieldAddrP (k := 0) rfl Ty.f41_0 rfl) ?_
  refine y0 rfl (o_loadS rfl rfl rfl Ty.a3 rfl) ?_
  refine y0 rfl (o_cmp rfl rfl rfl) ?_
  refine y0 rfl (o_move (d := .bool (a0.Serial == a1.Serial)) rfl) ?_
  refine y_if (g := ((a0.Serial == a1.Serial) == true)) rfl (fun hg => o_fieldAddrP (k := 1) rfl Ty.f41_1 rfl) ?_
  refine y_if (g := ((a0.Serial == a1.Serial) == true)) rfl (fun hg => o_loadS (ct hg) rfl rfl Ty.a3 rfl) ?_
  refine y_if (g := ((a0.Serial == a1.Serial) == true)) rfl (fun hg => o_fieldAddrP (k := 1) rfl Ty.f41_1 rfl) ?_
  refine y_if (g := ((a0.Serial == a1.Serial) == true)) rfl (fun hg => o_loadS (ct hg) rfl rfl Ty.a3 rfl) ?_
  refine y_if (g := ((a0.Serial == a1.Serial) == true)) rfl (fun hg => o_cmp (ct hg) (ct hg) rfl) ?_
  refine y0 rfl (pk_and rfl rfl rfl (fun q => eqT q)) ?_
  refine y0 rfl (o_move (d := .bool ((a0.Serial == a1.Serial) && (a0.Strong == a1.Strong))) rfl) ?_
  refine y_if (g := (((a0.Serial == a1.Serial) && (a0.Strong == a1.Strong)) == true)) rfl (fun hg => o_fieldAddrP (k := 2) rfl Ty.f41_2 rfl) ?_
  refine y_if (g := (((a0.Serial == a1.Serial) && (a0.Strong == a1.Strong)) == true)) rfl (fun hg => o_loadS (ct hg) rfl rfl Ty.a3 rfl) ?_
  refine y_if (g := (((a0.Serial == a1.Serial) && (a0.Strong == a1.Strong)) == true)) rfl (fun hg => o_fieldAddrP (k := 2) rfl Ty.f41_2 rfl) ?_
  refine y_if (g := (((a0.Serial == a1.Serial) && (a0.Strong == a1.Strong)) == true)) rfl (fun hg => o_loadS (ct hg) rfl rfl Ty.a3 rfl) ?_
  refine y_if (g := (((a0.Serial == a1.Serial) && (a0.Strong == a1.Strong)) == true)) rfl (fun hg => o_cmp (ct hg) (ct hg) rfl) ?_
  refine y0 rfl (pk_and rfl rfl rfl (fun q => eqT q)) ?_
  refine y0 rfl (o_move (d := .bool (((a0.Serial == a1.Serial) && (a0.Strong == a1.Strong)) && (a0.Weak == a1.Weak))) rfl) ?_
  refine y_if (g := ((((a0.Serial == a1.Serial) && (a0.Strong == a1.Strong)) && (a0.Weak == a1.Weak)) == true)) rfl (fun hg => o_fieldAddrP (k := 3) rfl Ty.f41_3 rfl) ?_
  refine y_if (g := ((((a0.Serial == a1.Serial) && (a0.Strong == a1.Strong)) && (a0.Weak == a1.Weak)) == true)) rfl (fun hg => o_loadS (ct hg) rfl rfl Ty.a3 rfl) ?_
  refine y_if (g := ((((a0.Serial == a1.Serial) && (a0.Strong == a1.Strong)) && (a0.Weak == a1.Weak)) == true)) rfl (fun hg => o_fieldAddrP (k := 3) rfl Ty.f41_3 rfl) ?_
  refine y_if (g := ((((a0.Serial == a1.Serial) && (a0.Strong == a1.Strong)) && (a0.Weak == a1.Weak)) == true)) rfl (fun hg => o_loadS (ct hg) rfl rfl Ty.a3 rfl) ?_
  refine y_if (g := ((((a0.Serial == a1.Serial) && (a0.Strong == a1.Strong)) && (a0.Weak == a1.Weak)) == true)) rfl (fun hg => o_cmp (ct hg) (ct hg) rfl) ?_
  refine y0 rfl (pk_and rfl rfl rfl (fun q => eqT q)) ?_
  refine y0 rfl (o_move (d := .bool ((((a0.Serial == a1.Serial) && (a0.Strong == a1.Strong)) && (a0.Weak == a1.Weak)) && (a0.Prog == a1.Prog))) rfl) ?_
  refine y_if (g := (((((a0.Serial == a1.Serial) && (a0.Strong == a1.Strong)) && (a0.Weak == a1.Weak)) && (a0.Prog == a1.Prog)) == true)) rfl (fun hg => o_fieldAddrP (k := 4) rfl Ty.f41_4 rfl) ?_
  refine y_if (g := (((((a0.Serial == a1.Serial) && (a0.Strong == a1.Strong)) && (a0.Weak == a1.Weak)) && (a0.Prog == a1.Prog)) == true)) rfl (fun hg => o_loadS (ct hg) rfl rfl Ty.a4 rfl) ?_
  refine y_if (g := (((((a0.Serial == a1.Serial) && (a0.Strong == a1.Strong)) && (a0.Weak == a1.Weak)) && (a0.Prog == a1.Prog)) == true)) rfl (fun hg => o_fieldAddrP (k := 4) rfl Ty.f41_4 rfl) ?_
  refine y_if (g := (((((a0.Serial == a1.Serial) && (a0.Strong == a1.Strong)) && (a0.Weak == a1.Weak)) && (a0.Prog == a1.Prog)) == true)) rfl (fun hg => o_loadS (ct hg) rfl rfl Ty.a4 rfl) ?_
  refine y_if (g := (((((a0.Serial == a1.Serial) && (a0.Strong == a1.Strong)) && (a0.Weak == a1.Weak)) && (a0.Prog == a1.Prog)) == true)) rfl (fun hg => o_eqB (ct hg) (ct hg) Ty.u4 rfl) ?_
  refine y0 rfl (pk_and rfl rfl rfl (fun q => eqT q)) ?_
  refine y0 rfl (o_move (d := .bool (((((a0.Serial == a1.Serial) && (a0.Strong == a1.Strong)) && (a0.Weak == a1.Weak)) && (a0.Prog == a1.Prog)) && (a0.Started == a1.Started))) rfl) ?_
  refine y_if (g := ((((((a0.Serial == a1.Serial) && (a0.Strong == a1.Strong)) && (a0.Weak == a1.Weak)) && (a0.Prog == a1.Prog)) && (a0.Started == a1.Started)) == true)) rfl (fun hg => o_fieldAddrP (k := 5) rfl Ty.f41_5 rfl) ?_
  refine y_if (g := ((((((a0.Serial == a1.Serial) && (a0.Strong == a1.Strong)) && (a0.Weak == a1.Weak)) && (a0.Prog == a1.Prog)) && (a0.Started == a1.Started)) == true)) rfl (fun hg => o_loadS (ct hg) rfl rfl Ty.a27 rfl) ?_
  refine y_if (g := ((((((a0.Serial == a1.Serial) && (a0.Strong == a1.Strong)) && (a0.Weak == a1.Weak)) && (a0.Prog == a1.Prog)) && (a0.Started == a1.Started)) == true)) rfl (fun hg => o_fieldAddrP (k := 5) rfl Ty.f41_5 rfl) ?_
  refine y_if (g := ((((((a0.Serial == a1.Serial) && (a0.Strong == a1.Strong)) && (a0.Weak == a1.Weak)) && (a0.Prog == a1.Prog)) && (a0.Started == a1.Started)) == true)) rfl (fun hg => o_loadS (ct hg) rfl rfl Ty.a27 rfl) ?_
  obtain ⟨v1, hv1, h⟩ := bindE h
  refine y_if (g := ((((((a0.Serial == a1.Serial) && (a0.Strong == a1.Strong)) && (a0.Weak == a1.Weak)) && (a0.Prog == a1.Prog)) && (a0.Started == a1.Started)) == true)) rfl (fun hg => o_call (ds := [.lst false (List.map (PV.int .i64) a0.Fields), .lst false (List.map (PV.int .i64) a1.Fields)]) rfl Ty.k32 (consE (ct hg) (consE (ct hg) rfl)) (r02_Ints_ok (onlyE hv1 hg))) ?_
  refine y0 rfl (pk_and rfl rfl rfl (fun q => eqT q)) ?_
  refine y0 rfl (o_assign (d := .bool ((((((a0.Serial == a1.Serial) && (a0.Strong == a1.Strong)) && (a0.Weak == a1.Weak)) && (a0.Prog == a1.Prog)) && (a0.Started == a1.Started)) && v1)) rfl) ?_
  refine y_nil ?_
  refine pw_ret ?_
  obtain rfl := Option.some.inj h
  exact ⟨rfl, [_], ⟨rfl, trivial⟩, rfl, by first | exact .inl rfl | exact .inr rfl⟩

set_option maxHeartbeats 4000000 in
theorem r06_Same_ok {a0 : r06_Store} {a1 : r06_Store} {r : Bool} (h : r06_Same a0 a1 = some r) : PCalls Try.prog 22 [r06_Store.Pv a0, r06_Store.Pv a1] (.bool r) := by
  unfold r06_Same at h
  refine pc_intro (N := 78) Try.func22 rfl rfl (Nat.le_of_ble_eq_true rfl) fun w0 imm0 => ?_
  refine sr (by kernel_rfl) ?_
  refine y1 rfl (o_box (d := r06_Store.Pv a0) (z := 3) (cl := true) rfl rfl rfl rfl rfl) rfl ?_
  refine y1 rfl (o_box (d := r06_Store.Pv a1) (z := 3) (cl := true) rfl rfl rfl rfl rfl) rfl ?_
  refine y0 rfl (o_assign (d := .bool false) rfl) ?_
  refine y_nil ?_
  refine pw_seq ?_
  refine sr (by kernel_rfl) ?_
  refine y0 rfl (o_fieldAddrP (k := 1) rfl Ty.f37_1 rfl) ?_
  refine y0 rfl (o_loadS rfl rfl rfl Ty.a3 rfl) ?_
  refine y0 rfl (o_fieldAddrP (k := 1) rfl Ty.f37_1 rfl) ?_
  refine y0 rfl (o_loadS rfl rfl rfl Ty.a3 rfl) ?_
  refine y0 rfl (o_cmp rfl rfl rfl) ?_
  refine y0 rfl (o_move (d := .bool (a0.Last != a1.Last)) rfl) ?_
  refine y_if (g := ((a0.Last != a1.Last) == false)) rfl (fun hg => o_fieldAddrP (k := 2) rfl Ty.f37_2 rfl) ?_
  refine y_if (g := ((a0.Last != a1.Last) == false)) rfl (fun hg => o_loadS (ct hg) rfl rfl Ty.a3 rfl) ?_
  refine y_if (g := ((a0.Last != a1.Last) == false)) rfl (fun hg => o_fieldAddrP (k := 2) rfl Ty.f37_2 rfl) ?_
  refine y_if (g := ((a0.Last != a1.Last) == false)) rfl (fun hg => o_loadS (ct hg) rfl rfl Ty.a3 rfl) ?_
  refine y_if (g := ((a0.Last != a1.Last) == false)) rfl (fun hg => o_cmp (ct hg) (ct hg) rfl) ?_
  refine y0 rfl (pk_or rfl rfl rfl (fun q => eqF q)) ?_
  refine y0 rfl (o_move (d := .bool ((a0.Last != a1.Last) || (a0.Serial != a1.Serial))) rfl) ?_
  refine y_if (g := (((a0.Last != a1.Last) || (a0.Serial != a1.Serial)) == false)) rfl (fun hg => o_fieldAddrP (k := 0) rfl Ty.f37_0 rfl) ?_
  refine y_if (g := (((a0.Last != a1.Last) || (a0.Serial != a1.Serial)) == false)) rfl (fun hg => o_loadS (ct hg) rfl rfl Ty.a35 rfl) ?_
  refine y_if (g := (((a0.Last != a1.Last) || (a0.Serial != a1.Serial)) == false)) rfl (fun hg => o_lnL (f := r06_Cell.Pv) (ct hg) Ty.e35) ?_
  refine y_if (g := (((a0.Last != a1.Last) || (a0.Serial != a1.Serial)) == false)) rfl (fun hg => o_fieldAddrP (k := 0) rfl Ty.f37_0 rfl) ?_
  refine y_if (g := (((a0.Last != a1.Last) || (a0.Serial != a1.Serial)) == false)) rfl (fun hg => o_loadS (ct hg) rfl rfl Ty.a35 rfl) ?_
  refine y_if (g := (((a0.Last != a1.Last) || (a0.Serial != a1.Serial)) == false)) rfl (fun hg => o_lnL (f := r06_Cell.Pv) (ct hg) Ty.e35) ?_
  refine y_if (g := (((a0.Last != a1.Last) || (a0.Serial != a1.Serial)) == false)) rfl (fun hg => o_cmp (ct hg) (ct hg) rfl) ?_
  refine y0 rfl (pk_or rfl rfl rfl (fun q => eqF q)) ?_
  refine y_nil ?_
  refine pw_cond (((a0.Last != a1.Last) || (a0.Serial != a1.Serial)) || ((a0.Cells.length : Int) != (a1.Cells.length : Int))) rfl (fun hc => ?_) (fun hc => ?_)
  · have h := ifT h hc
    refine sr (by kernel_rfl) ?_
    refine y0 rfl (o_assign (d := .bool false) rfl) ?_
    refine y_nil ?_
    refine pw_ret ?_
    obtain rfl := Option.some.inj h
    exact ⟨rfl, [_], ⟨rfl, trivial⟩, rfl, by first | exact .inl rfl | exact .inr rfl⟩
  · have h := ifF h hc
    refine pw_skip ?_
    obtain ⟨κ7, hκ7, h⟩ := jnE h
    refine pw_jn0 (κ := κ7) (r := r) (fun (_ : Unit) => St.of [] []) (fun q8 h => ?_) ?_
    · subst hκ7
      refine sr (by kernel_rfl) ?_
      refine y0 rfl (o_assign (d := .bool true) rfl) ?_
      refine y_nil ?_
      refine pw_ret ?_
      obtain rfl := Option.some.inj h
      exact ⟨rfl, [_], ⟨rfl, trivial⟩, rfl, by first | exact .inl rfl | exact .inr rfl⟩
    · skip
      refine sr (by kernel_rfl) ?_
      refine y0 rfl (o_assign (d := .int .i64 0) rfl) ?_
      refine y_nil ?_
      refine pw_block ?_
      obtain ⟨e9, hl8, hk9⟩ := bindE h
      refine pw_lp0 (fun (s10 : Int) => St.of [(2, .ptr 2 0 0), (3, .ptr 3 0 0), (5, .int .i64 s10)] [(3, ⟨[r06_Store.Pv a1], 0, false, 3, true⟩), (2, ⟨[r06_Store.Pv a0], 0, false, 3, true⟩)]) hl8 (wk_st _ _ ⟨rfl, rfl, rfl, rfl, rfl, rfl, rfl, rfl, rfl, trivial⟩ ⟨rowLe_same rfl rfl rfl (fun q => nomatch q) rfl rfl rfl, rowLe_same rfl rfl rfl (fun q => nomatch q) rfl rfl rfl, trivial⟩) (fun s10 x11 h hx10 => ?_)
      refine pw_seq ?_
      refine sr (by kernel_rfl) ?_
      refine y0 rfl (o_move (d := .int .i64 s10) rfl) ?_
      refine y0 rfl (o_fieldAddrP (k := 0) rfl Ty.f37_0 rfl) ?_
      refine y0 rfl (o_loadS rfl rfl rfl Ty.a35 rfl) ?_
      refine y0 rfl (o_lnL (f := r06_Cell.Pv) rfl Ty.e35) ?_
      refine y0 rfl (o_cmp rfl rfl rfl) ?_
      refine y_nil ?_
      refine pw_cond (decide (s10 < (a0.Cells.length : Int))) rfl (fun hc => ?_) (fun hc => ?_)
      · have h := ifT h hc
        refine pw_skip ?_
        refine pw_seq ?_
        refine pw_block ?_
        refine dr [] Ty.mix (by kernel_rfl) (by kernel_rfl) ?_
        refine d7 rfl (fun _ hN => o_fieldAddrP (k := 0) rfl Ty.f37_0 rfl) rfl ?_
        refine d0 rfl (o_loadS rfl rfl rfl Ty.a35 rfl) rfl ?_
        refine d7 rfl (fun _ hN => o_move (d := .int .i64 s10) rfl) rfl ?_
        obtain ⟨v12, hv11, h⟩ := bindE h
        refine d0 rfl (o_ixL (f := r06_Cell.Pv) (cs := r06_Cell.Pc v12) hv11 rfl rfl Ty.e35 Ty.s87 rfl rfl) rfl ?_
        refine d7 rfl (fun _ hN => o_fieldAddrR rfl Ty.f87_0 rfl) rfl ?_
        refine d0 rfl (o_loadRS rfl Ty.a3 rfl) rfl ?_
        refine d7 rfl (fun _ hN => o_fieldAddrP (k := 0) rfl Ty.f37_0 rfl) rfl ?_
        refine d0 rfl (o_loadS rfl rfl rfl Ty.a35 rfl) rfl ?_
        refine d7 rfl (fun _ hN => o_move (d := .int .i64 s10) rfl) rfl ?_
        obtain ⟨v13, hv12, h⟩ := bindE h
        refine d0 rfl (o_ixL (f := r06_Cell.Pv) (cs := r06_Cell.Pc v13) hv12 rfl rfl Ty.e35 Ty.s87 rfl rfl) rfl ?_
        refine d7 rfl (fun _ hN => o_fieldAddrR rfl Ty.f87_0 rfl) rfl ?_
        refine d0 rfl (o_loadRS rfl Ty.a3 rfl) rfl ?_
        refine d7 rfl (fun _ hN => o_cmp rfl rfl rfl) rfl ?_
        refine d7 rfl (fun _ hN => o_move (d := .bool (v12.State != v13.State)) rfl) rfl ?_
        refine d_if7 (g := ((v12.State != v13.State) == false)) rfl (fun hg _ hN => o_fieldAddrP (k := 0) rfl Ty.f37_0 rfl) rfl ?_
        refine d_if0 (g := ((v12.State != v13.State) == false)) rfl (fun hg => o_loadS (ct hg) rfl rfl Ty.a35 rfl) rfl ?_
        refine d_if7 (g := ((v12.State != v13.State) == false)) rfl (fun hg _ hN => o_move (d := .int .i64 s10) rfl) rfl ?_
        refine d_if0 (g := ((v12.State != v13.State) == false)) rfl (fun hg => o_ixL (f := r06_Cell.Pv) (cs := r06_Cell.Pc v12) hv11 (ct hg) (ct hg) Ty.e35 Ty.s87 rfl rfl) rfl ?_
        refine d_if7 (g := ((v12.State != v13.State) == false)) rfl (fun hg _ hN => o_fieldAddrR (ct hg) Ty.f87_1 rfl) rfl ?_
        refine d_if0 (g := ((v12.State != v13.State) == false)) rfl (fun hg => o_loadRS (ct hg) Ty.a3 rfl) rfl ?_
        refine d_if7 (g := ((v12.State != v13.State) == false)) rfl (fun hg _ hN => o_fieldAddrP (k := 0) rfl Ty.f37_0 rfl) rfl ?_
        refine d_if0 (g := ((v12.State != v13.State) == false)) rfl (fun hg => o_loadS (ct hg) rfl rfl Ty.a35 rfl) rfl ?_
        refine d_if7 (g := ((v12.State != v13.State) == false)) rfl (fun hg _ hN => o_move (d := .int .i64 s10) rfl) rfl ?_
        refine d_if0 (g := ((v12.State != v13.State) == false)) rfl (fun hg => o_ixL (f := r06_Cell.Pv) (cs := r06_Cell.Pc v13) hv12 (ct hg) (ct hg) Ty.e35 Ty.s87 rfl rfl) rfl ?_
        refine d_if7 (g := ((v12.State != v13.State) == false)) rfl (fun hg _ hN => o_fieldAddrR (ct hg) Ty.f87_1 rfl) rfl ?_
        refine d_if0 (g := ((v12.State != v13.State) == false)) rfl (fun hg => o_loadRS (ct hg) Ty.a3 rfl) rfl ?_
        refine d_if7 (g := ((v12.State != v13.State) == false)) rfl (fun hg _ hN => o_cmp (ct hg) (ct hg) rfl) rfl ?_
        refine d7 rfl (fun _ hN => pk_or rfl rfl rfl (fun q => eqF q)) rfl ?_
        refine d7 rfl (fun _ hN => o_move (d := .bool ((v12.State != v13.State) || (v12.Gen != v13.Gen))) rfl) rfl ?_
        refine d_if7 (g := (((v12.State != v13.State) || (v12.Gen != v13.Gen)) == false)) rfl (fun hg _ hN => o_fieldAddrP (k := 0) rfl Ty.f37_0 rfl) rfl ?_
        refine d_if0 (g := (((v12.State != v13.State) || (v12.Gen != v13.Gen)) == false)) rfl (fun hg => o_loadS (ct hg) rfl rfl Ty.a35 rfl) rfl ?_
        refine d_if7 (g := (((v12.State != v13.State) || (v12.Gen != v13.Gen)) == false)) rfl (fun hg _ hN => o_move (d := .int .i64 s10) rfl) rfl ?_
        refine d_if0 (g := (((v12.State != v13.State) || (v12.Gen != v13.Gen)) == false)) rfl (fun hg => o_ixL (f := r06_Cell.Pv) (cs := r06_Cell.Pc v12) hv11 (ct hg) (ct hg) Ty.e35 Ty.s87 rfl rfl) rfl ?_
        refine d_if7 (g := (((v12.State != v13.State) || (v12.Gen != v13.Gen)) == false)) rfl (fun hg _ hN => o_fieldAddrR (ct hg) Ty.f87_2 rfl) rfl ?_
        refine d_if0 (g := (((v12.State != v13.State) || (v12.Gen != v13.Gen)) == false)) rfl (fun hg => o_loadRA (cs := r06_Obj.Pc v12.Val) (ct hg) Ty.a41 Ty.s41 (Nat.le_of_ble_eq_true rfl) rfl) rfl ?_
        refine d_if7 (g := (((v12.State != v13.State) || (v12.Gen != v13.Gen)) == false)) rfl (fun hg _ hN => o_fieldAddrP (k := 0) rfl Ty.f37_0 rfl) rfl ?_
        refine d_if0 (g := (((v12.State != v13.State) || (v12.Gen != v13.Gen)) == false)) rfl (fun hg => o_loadS (ct hg) rfl rfl Ty.a35 rfl) rfl ?_
        refine d_if7 (g := (((v12.State != v13.State) || (v12.Gen != v13.Gen)) == false)) rfl (fun hg _ hN => o_move (d := .int .i64 s10) rfl) rfl ?_
        refine d_if0 (g := (((v12.State != v13.State) || (v12.Gen != v13.Gen)) == false)) rfl (fun hg => o_ixL (f := r06_Cell.Pv) (cs := r06_Cell.Pc v13) hv12 (ct hg) (ct hg) Ty.e35 Ty.s87 rfl rfl) rfl ?_
        refine d_if7 (g := (((v12.State != v13.State) || (v12.Gen != v13.Gen)) == false)) rfl (fun hg _ hN => o_fieldAddrR (ct hg) Ty.f87_2 rfl) rfl ?_
        refine d_if0 (g := (((v12.State != v13.State) || (v12.Gen != v13.Gen)) == false)) rfl (fun hg => o_loadRA (cs := r06_Obj.Pc v13.Val) (ct hg) Ty.a41 Ty.s41 (Nat.le_of_ble_eq_true rfl) rfl) rfl ?_
        obtain ⟨v14, hv13, h⟩ := bindE h
        refine d_if2 (g := (((v12.State != v13.State) || (v12.Gen != v13.Gen)) == false)) rfl (fun hg => o_call (ds := [r06_Obj.Pv v12.Val, r06_Obj.Pv v13.Val]) rfl Ty.k25 (consE (ct hg) (consE (ct hg) rfl)) (r06_Alike_ok (onlyE hv13 hg))) rfl ?_
        refine d_if7 (g := (((v12.State != v13.State) || (v12.Gen != v13.Gen)) == false)) rfl (fun hg _ hN => o_not (ct hg) rfl) rfl ?_
        refine d7 rfl (fun _ hN => pk_or rfl rfl rfl (fun q => eqF q)) rfl ?_
        refine d_nil ?_
        refine pw_cond (((v12.State != v13.State) || (v12.Gen != v13.Gen)) || (!v14)) rfl (fun hc => ?_) (fun hc => ?_)
        · have h := ifT h hc
          refine sr (by kernel_rfl) ?_
          refine y0 rfl (o_assign (d := .bool false) rfl) ?_
          refine y_nil ?_
          refine pw_ret ?_
          have he := hx10 _ (Option.some.inj h).symm
          have h := hk9
          rw [← he] at h
          obtain rfl := Option.some.inj h
          exact ⟨rfl, [_], ⟨rfl, trivial⟩, rfl, by first | exact .inl rfl | exact .inr rfl⟩
        · have h := ifF h hc
          refine pw_skip ?_
          refine sr1 (by kernel_rfl) ?_
          refine y0 rfl (o_move (d := .int .i64 s10) rfl) ?_
          refine y0 rfl (o_ari rfl rfl rfl) ?_
          refine y0 rfl (o_assign (d := .int .i64 (w64 (s10 + 1))) rfl) ?_
          refine y_nil ?_
          exact ⟨rfl, w64 (s10 + 1), (Option.some.inj h).symm, (wk_st _ _ ⟨rfl, rfl, rfl, rfl, rfl, rfl, rfl, rfl, rfl, trivial⟩ ⟨rowLe_same rfl rfl rfl (fun q => nomatch q) rfl rfl rfl, rowLe_same rfl rfl rfl (fun q => nomatch q) rfl rfl rfl, trivial⟩)⟩
      · have h := ifF h hc
        refine pw_exit ?_
        refine thenQ_exit ?_
        refine thenQ_exit ?_
        refine blockQ_exit ?_
        have he := hx10 _ (Option.some.inj h).symm
        have h := hk9
        rw [← he] at h
        exact ⟨rfl, (), h, (wk_st _ _ trivial trivial)⟩

set_option maxHeartbeats 4000000 in
theorem w06_StoreSets_ok {a0 : store_Store} {a1 : Int} {a2 : store_Obj} {r : Bool} (h : w06_StoreSets a0 a1 a2 = some r) : PCalls Try.prog 3 [store_Store.Pv a0, .int .i64 a1, store_Obj.Pv a2] (.bool r) := by
  unfold w06_StoreSets at h
  refine pc_intro (N := 84) Try.func3 rfl rfl (Nat.le_of_ble_eq_true rfl) fun w0 imm0 => ?_
  refine sr (by kernel_rfl) ?_
  refine y1 rfl (o_box (d := store_Store.Pv a0) (z := 3) (cl := true) rfl rfl rfl rfl rfl) rfl ?_
  refine y1 rfl (o_box (d := store_Obj.Pv a2) (z := 6) (cl := true) rfl rfl rfl rfl rfl) rfl ?_
  refine y0 rfl (o_assign (d := .bool false) rfl) ?_
  refine y_nil ?_
  refine pw_seq ?_
  refine sr (by kernel_rfl) ?_
  refine y0 rfl (o_loadA (cs := store_Store.Pc a0) rfl rfl rfl Ty.a26 Ty.s26 (Nat.le_of_ble_eq_true rfl) rfl) ?_
  obtain ⟨v1, hv1, h⟩ := bindE h
  refine y0 rfl (o_call (ds := [store_Store.Pv a0]) rfl Ty.k16 rfl (w06_right_ok hv1)) ?_
  refine y0 rfl (o_not rfl rfl) ?_
  refine y0 rfl (o_move (d := .bool (!v1)) rfl) ?_
  refine y_if (g := ((!v1) == false)) rfl (fun hg => o_fieldAddrP (k := 5) rfl Ty.f29_5 rfl) ?_
  refine y_if (g := ((!v1) == false)) rfl (fun hg => o_loadS (ct hg) rfl rfl Ty.a27 rfl) ?_
  refine y_if (g := ((!v1) == false)) rfl (fun hg => o_lnL (f := (PV.int .i64)) (ct hg) Ty.e27) ?_
  refine y_if (g := ((!v1) == false)) rfl (fun hg => o_cmp (ct hg) rfl rfl) ?_
  refine y0 rfl (pk_or rfl rfl rfl (fun q => eqF q)) ?_
  refine y0 rfl (o_move (d := .bool ((!v1) || (decide ((a2.Fields.length : Int) > 10)))) rfl) ?_
  obtain ⟨v2, hv2, h⟩ := bindE h
  refine y_if (g := (((!v1) || (decide ((a2.Fields.length : Int) > 10))) == false)) rfl (fun hg => o_call (ds := []) rfl Ty.k17 rfl (w06_shown_ok (onlyE hv2 hg))) ?_
  refine y_if (g := (((!v1) || (decide ((a2.Fields.length : Int) > 10))) == false)) rfl (fun hg => o_not (ct hg) rfl) ?_
  refine y0 rfl (pk_or rfl rfl rfl (fun q => eqF q)) ?_
  refine y_nil ?_
  refine pw_cond (((!v1) || (decide ((a2.Fields.length : Int) > 10))) || (!v2)) rfl (fun hc => ?_) (fun hc => ?_)
  · have h := ifT h hc
    refine sr (by kernel_rfl) ?_
    obtain ⟨v3, hv3, h⟩ := bindE h
    refine y0 rfl (o_call (ds := []) rfl Ty.k17 rfl (w06_shown_ok hv3)) ?_
    refine y0 rfl (o_assign (d := .bool v3) rfl) ?_
    refine y_nil ?_
    refine pw_ret ?_
    obtain rfl := Option.some.inj h
    exact ⟨rfl, [_], ⟨rfl, trivial⟩, rfl, by first | exact .inl rfl | exact .inr rfl⟩
  · have h := ifF h hc
    refine pw_skip ?_
    refine sr (by kernel_rfl) ?_
    refine y0 rfl (o_loadA (cs := store_Store.Pc a0) rfl rfl rfl Ty.a26 Ty.s26 (Nat.le_of_ble_eq_true rfl) rfl) ?_
    refine y0 rfl (o_move (d := .int .i64 a1) rfl) ?_
    refine y0 rfl (o_loadA (cs := store_Obj.Pc a2) rfl rfl rfl Ty.a29 Ty.s29 (Nat.le_of_ble_eq_true rfl) rfl) ?_
    obtain ⟨v4, hv4, h⟩ := bindE h
    refine yc rfl (o_callF (ls := []) (ds := [store_Store.Pv a0, .int .i64 a1, store_Obj.Pv a2]) rfl Ty.k18 rfl (store_Set_ok hv4)) ?_
    refine y0 rfl (o_move (d := .tup [store_Store.Pv v4.1, .int .i64 v4.2]) rfl) ?_
    refine y0 rfl (o_extract rfl rfl) ?_
    refine y0 rfl (o_extract rfl rfl) ?_
    refine y1 rfl (o_alloc (d := .agg [.lst true (List.map slab_Cell_store_Obj.Pv []), .int .i64 0, .int .i64 0]) (z := 3) rfl Ty.z26 rfl rfl rfl) rfl ?_
    refine y_sto (x' := store_Store.Pv v4.1) (cl' := true) rfl rfl (.inr rfl) Ty.s26 ?_
    refine y0 rfl (o_assign (d := .int .i64 v4.2) rfl) ?_
    refine y_nil ?_
    refine dr [] Ty.mix (by kernel_rfl) (by kernel_rfl) ?_
    refine d0 rfl (o_loadA (cs := store_Store.Pc a0) rfl rfl rfl Ty.a26 Ty.s26 (Nat.le_of_ble_eq_true rfl) rfl) rfl ?_
    obtain ⟨v5, hv5, h⟩ := bindE h
    refine d2f rfl (o_callF (ls := []) (ds := [store_Store.Pv a0]) rfl Ty.k20 rfl (w06_its_ok hv5)) rfl ?_
    refine d7 rfl (fun _ hN => o_move (d := .int .i64 a1) rfl) rfl ?_
    refine d0 rfl (o_loadA (cs := store_Obj.Pc a2) rfl rfl rfl Ty.a29 Ty.s29 (Nat.le_of_ble_eq_true rfl) rfl) rfl ?_
    obtain ⟨v6, hv6, h⟩ := bindE h
    refine d2f rfl (o_callF (ls := []) (ds := [store_Obj.Pv a2]) rfl Ty.k21 rfl (w06_obj_ok hv6)) rfl ?_
    obtain ⟨v7, hv7, h⟩ := bindE h
    refine d2f rfl (o_callF (ls := []) (ds := [r06_Store.Pv v5, .int .i64 a1, r06_Obj.Pv v6]) rfl Ty.k19 rfl (r06_Set_ok hv7)) rfl ?_
    refine d7 rfl (fun _ hN => o_move (d := .tup [r06_Store.Pv v7.1, .int .i64 v7.2]) rfl) rfl ?_
    refine d7 rfl (fun _ hN => o_extract rfl rfl) rfl ?_
    refine d7 rfl (fun _ hN => o_extract rfl rfl) rfl ?_
    refine d1 rfl (o_alloc (d := .agg [.lst true (List.map r06_Cell.Pv []), .int .i64 0, .int .i64 0]) (z := 3) rfl Ty.z37 rfl rfl rfl) rfl rfl rfl ?_
    refine d_sto (x' := r06_Store.Pv v7.1) (cl' := true) rfl rfl (.inr rfl) Ty.s37 ?_
    refine d7 rfl (fun _ hN => o_assign (d := .int .i64 v7.2) rfl) rfl ?_
    refine d_nil ?_
    refine pw_seq ?_
    refine dr [] Ty.mix (by kernel_rfl) (by kernel_rfl) ?_
    refine d0 rfl (o_loadA (cs := store_Store.Pc v4.1) rfl rfl rfl Ty.a26 Ty.s26 (Nat.le_of_ble_eq_true rfl) rfl) rfl ?_
    obtain ⟨v8, hv8, h⟩ := bindE h
    refine d2f rfl (o_callF (ls := []) (ds := [store_Store.Pv v4.1]) rfl Ty.k20 rfl (w06_its_ok hv8)) rfl ?_
    refine d0 rfl (o_loadA (cs := r06_Store.Pc v7.1) rfl rfl rfl Ty.a37 Ty.s37 (Nat.le_of_ble_eq_true rfl) rfl) rfl ?_
    obtain ⟨v9, hv9, h⟩ := bindE h
    refine d2 rfl (o_call (ds := [r06_Store.Pv v8, r06_Store.Pv v7.1]) rfl Ty.k22 rfl (r06_Same_ok hv9)) rfl ?_
    refine d7 rfl (fun _ hN => o_not rfl rfl) rfl ?_
    refine d7 rfl (fun _ hN => o_move (d := .bool (!v9)) rfl) rfl ?_
    refine d_if7 (g := ((!v9) == false)) rfl (fun hg _ hN => o_move (d := .int .i64 v4.2) rfl) rfl ?_
    refine d_if7 (g := ((!v9) == false)) rfl (fun hg _ hN => o_move (d := .int .i64 v7.2) rfl) rfl ?_
    refine d_if7 (g := ((!v9) == false)) rfl (fun hg _ hN => o_cmp (ct hg) (ct hg) rfl) rfl ?_
    refine d7 rfl (fun _ hN => pk_or rfl rfl rfl (fun q => eqF q)) rfl ?_
    refine d_nil ?_
    refine pw_cond ((!v9) || (v4.2 != v7.2)) rfl (fun hc => ?_) (fun hc => ?_)
    · have h := ifT h hc
      refine sr (by kernel_rfl) ?_
      refine y0 rfl (o_assign (d := .bool false) rfl) ?_
      refine y_nil ?_
      refine pw_ret ?_
      obtain rfl := Option.some.inj h
      exact ⟨rfl, [_], ⟨rfl, trivial⟩, rfl, by first | exact .inl rfl | exact .inr rfl⟩
    · have h := ifF h hc
      refine pw_skip ?_
      refine pw_seq ?_
      refine sr (by kernel_rfl) ?_
      refine y0 rfl (o_loadA (cs := r06_Store.Pc v7.1) rfl rfl rfl Ty.a37 Ty.s37 (Nat.le_of_ble_eq_true rfl) rfl) ?_
      obtain ⟨v10, hv10, h⟩ := bindE h
      refine y0 rfl (o_call (ds := [r06_Store.Pv v7.1]) rfl Ty.k23 rfl (r06_Right_ok hv10)) ?_
      refine y0 rfl (o_not rfl rfl) ?_
      refine y_nil ?_
      refine pw_cond (!v10) rfl (fun hc => ?_) (fun hc => ?_)
      · have h := ifT h hc
        refine sr (by kernel_rfl) ?_
        refine y0 rfl (o_assign (d := .bool true) rfl) ?_
        refine y_nil ?_
        refine pw_ret ?_
        obtain rfl := Option.some.inj h
        exact ⟨rfl, [_], ⟨rfl, trivial⟩, rfl, by first | exact .inl rfl | exact .inr rfl⟩
      · have h := ifF h hc
        refine pw_skip ?_
        refine sr (by kernel_rfl) ?_
        refine y0 rfl (o_loadA (cs := store_Store.Pc v4.1) rfl rfl rfl Ty.a26 Ty.s26 (Nat.le_of_ble_eq_true rfl) rfl) ?_
        refine y0 rfl (o_move (d := .int .i64 a1) rfl) ?_
        obtain ⟨v11, hv11, h⟩ := bindE h
        refine yc rfl (o_callF (ls := []) (ds := [store_Store.Pv v4.1, .int .i64 a1]) rfl Ty.k24 rfl (store_Get_ok hv11)) ?_
        refine y0 rfl (o_move (d := .tup [store_Obj.Pv v11.1, .int .i64 v11.2]) rfl) ?_
        refine y0 rfl (o_extract rfl rfl) ?_
        refine y0 rfl (o_extract rfl rfl) ?_
        refine y1 rfl (o_alloc (d := .agg [.int .i64 0, .int .i64 0, .int .i64 0, .int .i64 0, .bool false, .lst true (List.map (PV.int .i64) [])]) (z := 6) rfl Ty.z29 rfl rfl rfl) rfl ?_
        refine y_sto (x' := store_Obj.Pv v11.1) (cl' := true) rfl rfl (.inr rfl) Ty.s29 ?_
        refine y0 rfl (o_assign (d := .int .i64 v11.2) rfl) ?_
        refine y_nil ?_
        refine sr (by kernel_rfl) ?_
        refine y0 rfl (o_loadA (cs := store_Store.Pc a0) rfl rfl rfl Ty.a26 Ty.s26 (Nat.le_of_ble_eq_true rfl) rfl) ?_
        refine y0 rfl (o_move (d := .int .i64 a1) rfl) ?_
        obtain ⟨v12, hv12, h⟩ := bindE h
        refine yc rfl (o_callF (ls := []) (ds := [store_Store.Pv a0, .int .i64 a1]) rfl Ty.k24 rfl (store_Get_ok hv12)) ?_
        refine y0 rfl (o_move (d := .tup [store_Obj.Pv v12.1, .int .i64 v12.2]) rfl) ?_
        refine y0 rfl (o_extract rfl rfl) ?_
        refine y0 rfl (o_extract rfl rfl) ?_
        refine y1 rfl (o_alloc (d := .agg [.int .i64 0, .int .i64 0, .int .i64 0, .int .i64 0, .bool false, .lst true (List.map (PV.int .i64) [])]) (z := 6) rfl Ty.z29 rfl rfl rfl) rfl ?_
        refine y_sto (x' := store_Obj.Pv v12.1) (cl' := true) rfl rfl (.inr rfl) Ty.s29 ?_
        refine y0 rfl (o_assign (d := .int .i64 v12.2) rfl) ?_
        refine y_nil ?_
        refine dr [] Ty.mix (by kernel_rfl) (by kernel_rfl) ?_
        refine d7 rfl (fun _ hN => o_move (d := .int .i64 v11.2) rfl) rfl ?_
        refine d7 rfl (fun _ hN => o_move (d := .int .i64 v12.2) rfl) rfl ?_
        refine d7 rfl (fun _ hN => o_cmp rfl rfl rfl) rfl ?_
        refine d7 rfl (fun _ hN => o_move (d := .bool (v11.2 == v12.2)) rfl) rfl ?_
        refine d_if7 (g := ((v11.2 == v12.2) == true)) rfl (fun hg _ hN => o_move (d := .int .i64 v11.2) rfl) rfl ?_
        refine d_if7 (g := ((v11.2 == v12.2) == true)) rfl (fun hg _ hN => o_cmp (ct hg) rfl rfl) rfl ?_
        refine d_if7 (g := ((v11.2 == v12.2) == true)) rfl (fun hg _ hN => o_move (d := .bool (v11.2 != 0)) (ct hg)) rfl ?_
        refine d_if0 (g := (((v11.2 == v12.2) == true) && ((v11.2 != 0) == false))) (want2 rfl rfl rfl) (fun hg => o_loadA (cs := store_Obj.Pc v11.1) rfl rfl rfl Ty.a29 Ty.s29 (Nat.le_of_ble_eq_true rfl) rfl) rfl ?_
        obtain ⟨v13, hv13, h⟩ := bindE h
        refine d_if2f (g := (((v11.2 == v12.2) == true) && ((v11.2 != 0) == false))) (want2 rfl rfl rfl) (fun hg => o_callF (ls := []) (ds := [store_Obj.Pv v11.1]) rfl Ty.k21 (consE (ct hg) rfl) (w06_obj_ok (onlyE hv13 hg))) rfl ?_
        refine d_if0 (g := (((v11.2 == v12.2) == true) && ((v11.2 != 0) == false))) (want2 rfl rfl rfl) (fun hg => o_loadA (cs := store_Obj.Pc a2) rfl rfl rfl Ty.a29 Ty.s29 (Nat.le_of_ble_eq_true rfl) rfl) rfl ?_
        refine d_if2f (g := (((v11.2 == v12.2) == true) && ((v11.2 != 0) == false))) (want2 rfl rfl rfl) (fun hg => o_callF (ls := []) (ds := [store_Obj.Pv a2]) rfl Ty.k21 (consE (ct hg) rfl) (w06_obj_ok hv6)) rfl ?_
        obtain ⟨v14, hv14, h⟩ := bindE h
        refine d_if2 (g := (((v11.2 == v12.2) == true) && ((v11.2 != 0) == false))) (want2 rfl rfl rfl) (fun hg => o_call (ds := [r06_Obj.Pv v13, r06_Obj.Pv v6]) rfl Ty.k25 (consE (ct hg) (consE (ct hg) rfl)) (r06_Alike_ok (onlyE hv14 hg))) rfl ?_
        refine d_if7 (g := ((v11.2 == v12.2) == true)) rfl (fun hg _ hN => pk_or (ct hg) rfl rfl (fun q => andI hg (eqF q))) rfl ?_
        refine d7 rfl (fun _ hN => pk_and rfl rfl rfl (fun q => eqT q)) rfl ?_
        refine d7 rfl (fun _ hN => o_assign (d := .bool ((v11.2 == v12.2) && ((v11.2 != 0) || v14))) rfl) rfl ?_
        refine d_nil ?_
        refine pw_ret ?_
        obtain rfl := Option.some.inj h
        exact ⟨rfl, [_], ⟨rfl, trivial⟩, rfl, by first | exact .inl rfl | exact .inr rfl⟩

set_option maxHeartbeats 4000000 in
theorem r03_New_ok {a0 : Int} {a1 : Int} {r : r03_Slab} (h : r03_New a0 a1 = some r) : PCalls Try.prog 70 [.int .i64 a0, .int .i64 a1] (r03_Slab.Pv r) := by
  unfold r03_New at h
  refine pc_intro (N := 24) Try.func70 rfl rfl (Nat.le_of_ble_eq_true rfl) fun w0 imm0 => ?_
  refine sr (by kernel_rfl) ?_
  refine y1 rfl (o_alloc (d := .agg [.lst true (List.map r03_Cell.Pv []), .int .i64 0]) (z := 2) rfl Ty.z81 rfl rfl rfl) rfl ?_
  refine y_nil ?_
  refine pw_seq ?_
  refine sr (by kernel_rfl) ?_
  refine y0 rfl (o_move (d := .int .i64 a0) rfl) ?_
  refine y0 rfl (o_cmp rfl rfl rfl) ?_
  refine y0 rfl (o_move (d := .bool (decide (a0 < 0))) rfl) ?_
  refine y_if (g := ((decide (a0 < 0)) == false)) rfl (fun hg => o_move (d := .int .i64 a0) rfl) ?_
  refine y_if (g := ((decide (a0 < 0)) == false)) rfl (fun hg => o_cmp (ct hg) rfl rfl) ?_
  refine y0 rfl (pk_or rfl rfl rfl (fun q => eqF q)) ?_
  refine y0 rfl (o_move (d := .bool ((decide (a0 < 0)) || (decide (a0 > 24)))) rfl) ?_
  refine y_if (g := (((decide (a0 < 0)) || (decide (a0 > 24))) == false)) rfl (fun hg => o_move (d := .int .i64 a1) rfl) ?_
  refine y_if (g := (((decide (a0 < 0)) || (decide (a0 > 24))) == false)) rfl (fun hg => o_cmp (ct hg) rfl rfl) ?_
  refine y0 rfl (pk_or rfl rfl rfl (fun q => eqF q)) ?_
  refine y0 rfl (o_move (d := .bool (((decide (a0 < 0)) || (decide (a0 > 24))) || (decide (a1 < 0)))) rfl) ?_
  refine y_if (g := ((((decide (a0 < 0)) || (decide (a0 > 24))) || (decide (a1 < 0))) == false)) rfl (fun hg => o_move (d := .int .i64 a1) rfl) ?_
  refine y_if (g := ((((decide (a0 < 0)) || (decide (a0 > 24))) || (decide (a1 < 0))) == false)) rfl (fun hg => o_cmp (ct hg) rfl rfl) ?_
  refine y0 rfl (pk_or rfl rfl rfl (fun q => eqF q)) ?_
  refine y_nil ?_
  refine pw_cond ((((decide (a0 < 0)) || (decide (a0 > 24))) || (decide (a1 < 0))) || (decide (a1 > 9))) rfl (fun hc => ?_) (fun hc => ?_)
  · have h := ifT h hc
    refine sr (by kernel_rfl) ?_
    refine y0 rfl (o_build (cs := [.lst true (List.map r03_Cell.Pv []), .int .i64 0]) rfl Ty.p81 Ty.z81 rfl rfl rfl) ?_
    refine y_sto (x' := .agg [.lst true (List.map r03_Cell.Pv []), .int .i64 0]) (cl' := true) rfl rfl (.inl rfl) Ty.s81 ?_
    refine y_nil ?_
    refine pw_ret ?_
    obtain rfl := Option.some.inj h
    exact ⟨rfl, [_], ⟨o_loadA rfl rfl rfl Ty.a81 Ty.s81 (Nat.le_of_ble_eq_true rfl) rfl, trivial⟩, rfl, by first | exact .inl rfl | exact .inr rfl⟩
  · have h := ifF h hc
    refine pw_skip ?_
    refine sr (by kernel_rfl) ?_
    refine y0 rfl (o_move (d := .int .i64 a0) rfl) ?_
    obtain ⟨v1, hv1, h⟩ := bindE h
    refine y1 rfl (o_mk (f := r03_Cell.Pv) hv1 rfl rfl rfl Ty.e79 Ty.s123 Ty.z123 Ty.b123 rfl rfl rfl) rfl ?_
    refine y0 rfl (o_move (d := .int .i64 a1) rfl) ?_
    refine y0 rfl (o_build (cs := [.sl 21, .int .i64 a1]) rfl Ty.p81 Ty.z81 rfl rfl rfl) ?_
    refine y_sto (x' := .agg [.sl 21, .int .i64 a1]) (cl' := false) rfl rfl (.inl rfl) Ty.s81 ?_
    refine y_nil ?_
    refine pw_ret ?_
    obtain rfl := Option.some.inj h
    exact ⟨rfl, [_], ⟨o_loadA rfl rfl rfl Ty.a81 Ty.s81 (Nat.le_of_ble_eq_true rfl) rfl, trivial⟩, rfl, by first | exact .inl rfl | exact .inr rfl⟩

set_option maxHeartbeats 4000000 in
theorem r06_New_ok {a0 : Int} {a1 : Int} {r : r06_Store} (h : r06_New a0 a1 = some r) : PCalls Try.prog 29 [.int .i64 a0, .int .i64 a1] (r06_Store.Pv r) := by
  unfold r06_New at h
  refine pc_intro (N := 16) Try.func29 rfl rfl (Nat.le_of_ble_eq_true rfl) fun w0 imm0 => ?_
  refine sr (by kernel_rfl) ?_
  refine y1 rfl (o_alloc (d := .agg [.lst true (List.map r06_Cell.Pv []), .int .i64 0, .int .i64 0]) (z := 3) rfl Ty.z37 rfl rfl rfl) rfl ?_
  refine y_nil ?_
  refine sr (by kernel_rfl) ?_
  refine y0 rfl (o_move (d := .int .i64 a0) rfl) ?_
  refine y0 rfl (o_move (d := .int .i64 a1) rfl) ?_
  obtain ⟨v1, hv1, h⟩ := bindE h
  refine yc rfl (o_callF (ls := []) (ds := [.int .i64 a0, .int .i64 a1]) rfl Ty.k70 rfl (r03_New_ok hv1)) ?_
  refine y1 rfl (o_alloc (d := .agg [.lst true (List.map r03_Cell.Pv []), .int .i64 0]) (z := 2) rfl Ty.z81 rfl rfl rfl) rfl ?_
  refine y_sto (x' := r03_Slab.Pv v1) (cl' := true) rfl rfl (.inr rfl) Ty.s81 ?_
  refine y_nil ?_
  refine dr [] Ty.mix (by kernel_rfl) (by kernel_rfl) ?_
  refine d7 rfl (fun _ hN => o_fieldAddrP (k := 0) rfl Ty.f81_0 rfl) rfl ?_
  refine d0 rfl (o_loadS rfl rfl rfl Ty.a79 rfl) rfl ?_
  refine d0 rfl (o_lnL (f := r03_Cell.Pv) rfl Ty.e79) rfl ?_
  obtain ⟨v2, hv2, h⟩ := bindE h
  refine d1 rfl (o_mk (f := r06_Cell.Pv) hv2 rfl rfl rfl Ty.e35 Ty.s87 Ty.z87 Ty.b87 rfl rfl rfl) rfl rfl rfl ?_
  refine d7 rfl (fun _ hN => o_fieldAddrP (k := 1) rfl Ty.f81_1 rfl) rfl ?_
  refine d0 rfl (o_loadS rfl rfl rfl Ty.a3 rfl) rfl ?_
  refine d7 rfl (fun _ hN => o_build (cs := [.sl 12, .int .i64 v1.Last, .int .i64 0]) rfl Ty.p37 Ty.z37 rfl rfl rfl) rfl ?_
  refine d_sto (x' := .agg [.sl 12, .int .i64 v1.Last, .int .i64 0]) (cl' := false) rfl rfl (.inl rfl) Ty.s37 ?_
  refine d_nil ?_
  refine pw_ret ?_
  obtain rfl := Option.some.inj h
  exact ⟨rfl, [_], ⟨o_loadA rfl rfl rfl Ty.a37 Ty.s37 (Nat.le_of_ble_eq_true rfl) rfl, trivial⟩, rfl, by first | exact .inl rfl | exact .inr rfl⟩

set_option maxHeartbeats 4000000 in
theorem w06_StoreRight_ok {a0 : store_Store} {a1 : Int} {a2 : Int} {r : Bool} (h : w06_StoreRight a0 a1 a2 = some r) : PCalls Try.prog 4 [store_Store.Pv a0, .int .i64 a1, .int .i64 a2] (.bool r) := by
  unfold w06_StoreRight at h
  refine pc_intro (N := 44) Try.func4 rfl rfl (Nat.le_of_ble_eq_true rfl) fun w0 imm0 => ?_
  refine sr (by kernel_rfl) ?_
  refine y1 rfl (o_box (d := store_Store.Pv a0) (z := 3) (cl := true) rfl rfl rfl rfl rfl) rfl ?_
  refine y0 rfl (o_assign (d := .bool false) rfl) ?_
  refine y_nil ?_
  refine pw_seq ?_
  refine sr (by kernel_rfl) ?_
  refine y0 rfl (o_loadA (cs := store_Store.Pc a0) rfl rfl rfl Ty.a26 Ty.s26 (Nat.le_of_ble_eq_true rfl) rfl) ?_
  obtain ⟨v1, hv1, h⟩ := bindE h
  refine y0 rfl (o_call (ds := [store_Store.Pv a0]) rfl Ty.k26 rfl (w06_small_ok hv1)) ?_
  refine y0 rfl (o_not rfl rfl) ?_
  refine y0 rfl (o_move (d := .bool (!v1)) rfl) ?_
  obtain ⟨v2, hv2, h⟩ := bindE h
  refine y_if (g := ((!v1) == false)) rfl (fun hg => o_call (ds := []) rfl Ty.k17 rfl (w06_shown_ok (onlyE hv2 hg))) ?_
  refine y_if (g := ((!v1) == false)) rfl (fun hg => o_not (ct hg) rfl) ?_
  refine y0 rfl (pk_or rfl rfl rfl (fun q => eqF q)) ?_
  refine y_nil ?_
  refine pw_cond ((!v1) || (!v2)) rfl (fun hc => ?_) (fun hc => ?_)
  · have h := ifT h hc
    refine sr (by kernel_rfl) ?_
    obtain ⟨v3, hv3, h⟩ := bindE h
    refine y0 rfl (o_call (ds := []) rfl Ty.k17 rfl (w06_shown_ok hv3)) ?_
    refine y0 rfl (o_assign (d := .bool v3) rfl) ?_
    refine y_nil ?_
    refine pw_ret ?_
    obtain rfl := Option.some.inj h
    exact ⟨rfl, [_], ⟨rfl, trivial⟩, rfl, by first | exact .inl rfl | exact .inr rfl⟩
  · have h := ifF h hc
    refine pw_skip ?_
    refine sr (by kernel_rfl) ?_
    refine y0 rfl (o_move (d := .int .i64 a1) rfl) ?_
    refine y0 rfl (o_move (d := .int .i64 a2) rfl) ?_
    obtain ⟨v4, hv4, h⟩ := bindE h
    refine yc rfl (o_callF (ls := []) (ds := [.int .i64 a1, .int .i64 a2]) rfl Ty.k27 rfl (store_New_ok hv4)) ?_
    refine y1 rfl (o_alloc (d := .agg [.lst true (List.map slab_Cell_store_Obj.Pv []), .int .i64 0, .int .i64 0]) (z := 3) rfl Ty.z26 rfl rfl rfl) rfl ?_
    refine y_sto (x' := store_Store.Pv v4) (cl' := true) rfl rfl (.inr rfl) Ty.s26 ?_
    refine y_nil ?_
    refine dr [] Ty.mix (by kernel_rfl) (by kernel_rfl) ?_
    refine d0 rfl (o_loadA (cs := store_Store.Pc a0) rfl rfl rfl Ty.a26 Ty.s26 (Nat.le_of_ble_eq_true rfl) rfl) rfl ?_
    obtain ⟨v5, hv5, h⟩ := bindE h
    refine d2 rfl (o_call (ds := [store_Store.Pv a0]) rfl Ty.k28 rfl (store_Right_ok hv5)) rfl ?_
    refine d0 rfl (o_loadA (cs := store_Store.Pc a0) rfl rfl rfl Ty.a26 Ty.s26 (Nat.le_of_ble_eq_true rfl) rfl) rfl ?_
    obtain ⟨v6, hv6, h⟩ := bindE h
    refine d2f rfl (o_callF (ls := []) (ds := [store_Store.Pv a0]) rfl Ty.k20 rfl (w06_its_ok hv6)) rfl ?_
    obtain ⟨v7, hv7, h⟩ := bindE h
    refine d2 rfl (o_call (ds := [r06_Store.Pv v6]) rfl Ty.k23 rfl (r06_Right_ok hv7)) rfl ?_
    refine d7 rfl (fun _ hN => o_eqB rfl rfl Ty.u4 rfl) rfl ?_
    refine d7 rfl (fun _ hN => o_move (d := .bool (v5 == v7)) rfl) rfl ?_
    refine d_if7 (g := ((v5 == v7) == true)) rfl (fun hg _ hN => o_fieldAddrP (k := 0) rfl Ty.f26_0 rfl) rfl ?_
    refine d_if7 (g := ((v5 == v7) == true)) rfl (fun hg _ hN => o_fieldAddrP (k := 0) (ct hg) Ty.f24_0 rfl) rfl ?_
    refine d_if0 (g := ((v5 == v7) == true)) rfl (fun hg => o_loadS (ct hg) rfl rfl Ty.a22 rfl) rfl ?_
    refine d_if0 (g := ((v5 == v7) == true)) rfl (fun hg => o_lnL (f := slab_Cell_store_Obj.Pv) (ct hg) Ty.e22) rfl ?_
    refine d_if7 (g := ((v5 == v7) == true)) rfl (fun hg _ hN => o_cmp (ct hg) rfl rfl) rfl ?_
    refine d7 rfl (fun _ hN => pk_and rfl rfl rfl (fun q => eqT q)) rfl ?_
    refine d7 rfl (fun _ hN => o_move (d := .bool ((v5 == v7) && (decide ((v4.S.Cells.length : Int) ≤ 24)))) rfl) rfl ?_
    refine d_if0 (g := (((v5 == v7) && (decide ((v4.S.Cells.length : Int) ≤ 24))) == true)) rfl (fun hg => o_loadA (cs := store_Store.Pc v4) rfl rfl rfl Ty.a26 Ty.s26 (Nat.le_of_ble_eq_true rfl) rfl) rfl ?_
    obtain ⟨v8, hv8, h⟩ := bindE h
    refine d_if2f (g := (((v5 == v7) && (decide ((v4.S.Cells.length : Int) ≤ 24))) == true)) rfl (fun hg => o_callF (ls := []) (ds := [store_Store.Pv v4]) rfl Ty.k20 (consE (ct hg) rfl) (w06_its_ok (onlyE hv8 hg))) rfl ?_
    refine d_if7 (g := (((v5 == v7) && (decide ((v4.S.Cells.length : Int) ≤ 24))) == true)) rfl (fun hg _ hN => o_move (d := .int .i64 a1) rfl) rfl ?_
    refine d_if7 (g := (((v5 == v7) && (decide ((v4.S.Cells.length : Int) ≤ 24))) == true)) rfl (fun hg _ hN => o_move (d := .int .i64 a2) rfl) rfl ?_
    obtain ⟨v9, hv9, h⟩ := bindE h
    refine d_if2f (g := (((v5 == v7) && (decide ((v4.S.Cells.length : Int) ≤ 24))) == true)) rfl (fun hg => o_callF (ls := []) (ds := [.int .i64 a1, .int .i64 a2]) rfl Ty.k29 (consE (ct hg) (consE (ct hg) rfl)) (r06_New_ok (onlyE hv9 hg))) rfl ?_
    obtain ⟨v10, hv10, h⟩ := bindE h
    refine d_if2 (g := (((v5 == v7) && (decide ((v4.S.Cells.length : Int) ≤ 24))) == true)) rfl (fun hg => o_call (ds := [r06_Store.Pv v8, r06_Store.Pv v9]) rfl Ty.k22 (consE (ct hg) (consE (ct hg) rfl)) (r06_Same_ok (onlyE hv10 hg))) rfl ?_
    refine d7 rfl (fun _ hN => pk_and rfl rfl rfl (fun q => eqT q)) rfl ?_
    refine d7 rfl (fun _ hN => o_move (d := .bool (((v5 == v7) && (decide ((v4.S.Cells.length : Int) ≤ 24))) && v10)) rfl) rfl ?_
    refine d_if0 (g := ((((v5 == v7) && (decide ((v4.S.Cells.length : Int) ≤ 24))) && v10) == true)) rfl (fun hg => o_loadA (cs := store_Store.Pc v4) rfl rfl rfl Ty.a26 Ty.s26 (Nat.le_of_ble_eq_true rfl) rfl) rfl ?_
    obtain ⟨v11, hv11, h⟩ := bindE h
    refine d_if2 (g := ((((v5 == v7) && (decide ((v4.S.Cells.length : Int) ≤ 24))) && v10) == true)) rfl (fun hg => o_call (ds := [store_Store.Pv v4]) rfl Ty.k28 (consE (ct hg) rfl) (store_Right_ok (onlyE hv11 hg))) rfl ?_
    refine d7 rfl (fun _ hN => pk_and rfl rfl rfl (fun q => eqT q)) rfl ?_
    refine d7 rfl (fun _ hN => o_assign (d := .bool ((((v5 == v7) && (decide ((v4.S.Cells.length : Int) ≤ 24))) && v10) && v11)) rfl) rfl ?_
    refine d_nil ?_
    refine pw_ret ?_
    obtain rfl := Option.some.inj h
    exact ⟨rfl, [_], ⟨rfl, trivial⟩, rfl, by first | exact .inl rfl | exact .inr rfl⟩

set_option maxHeartbeats 4000000 in
theorem w06_StoreMakes_ok {a0 : store_Store} {a1 : Int} {a2 : Int} {r : Bool} (h : w06_StoreMakes a0 a1 a2 = some r) : PCalls Try.prog 5 [store_Store.Pv a0, .int .i64 a1, .int .i64 a2] (.bool r) := by
  unfold w06_StoreMakes at h
  refine pc_intro (N := 105) Try.func5 rfl rfl (Nat.le_of_ble_eq_true rfl) fun w0 imm0 => ?_
  refine sr (by kernel_rfl) ?_
  refine y1 rfl (o_box (d := store_Store.Pv a0) (z := 3) (cl := true) rfl rfl rfl rfl rfl) rfl ?_
  refine y0 rfl (o_assign (d := .bool false) rfl) ?_
  refine y_nil ?_
  refine pw_seq ?_
  refine sr (by kernel_rfl) ?_
  refine y0 rfl (o_loadA (cs := store_Store.Pc a0) rfl rfl rfl Ty.a26 Ty.s26 (Nat.le_of_ble_eq_true rfl) rfl) ?_
  obtain ⟨v1, hv1, h⟩ := bindE h
  refine y0 rfl (o_call (ds := [store_Store.Pv a0]) rfl Ty.k16 rfl (w06_right_ok hv1)) ?_
  refine y0 rfl (o_not rfl rfl) ?_
  refine y0 rfl (o_move (d := .bool (!v1)) rfl) ?_
  obtain ⟨v2, hv2, h⟩ := bindE h
  refine y_if (g := ((!v1) == false)) rfl (fun hg => o_call (ds := []) rfl Ty.k17 rfl (w06_shown_ok (onlyE hv2 hg))) ?_
  refine y_if (g := ((!v1) == false)) rfl (fun hg => o_not (ct hg) rfl) ?_
  refine y0 rfl (pk_or rfl rfl rfl (fun q => eqF q)) ?_
  refine y_nil ?_
  refine pw_cond ((!v1) || (!v2)) rfl (fun hc => ?_) (fun hc => ?_)
  · have h := ifT h hc
    refine sr (by kernel_rfl) ?_
    obtain ⟨v3, hv3, h⟩ := bindE h
    refine y0 rfl (o_call (ds := []) rfl Ty.k17 rfl (w06_shown_ok hv3)) ?_
    refine y0 rfl (o_assign (d := .bool v3) rfl) ?_
    refine y_nil ?_
    refine pw_ret ?_
    obtain rfl := Option.some.inj h
    exact ⟨rfl, [_], ⟨rfl, trivial⟩, rfl, by first | exact .inl rfl | exact .inr rfl⟩
  · have h := ifF h hc
    refine pw_skip ?_
    refine sr (by kernel_rfl) ?_
    refine y0 rfl (o_loadA (cs := store_Store.Pc a0) rfl rfl rfl Ty.a26 Ty.s26 (Nat.le_of_ble_eq_true rfl) rfl) ?_
    obtain ⟨v4, hv4, h⟩ := bindE h
    refine yc rfl (o_callF (ls := []) (ds := [store_Store.Pv a0]) rfl Ty.k30 rfl (store_Live_ok hv4)) ?_
    refine y0 rfl (o_assign (d := .lst false (List.map (PV.int .i64) v4)) rfl) ?_
    refine y_nil ?_
    refine sr (by kernel_rfl) ?_
    refine y0 rfl (o_loadA (cs := store_Store.Pc a0) rfl rfl rfl Ty.a26 Ty.s26 (Nat.le_of_ble_eq_true rfl) rfl) ?_
    refine y0 rfl (o_move (d := .int .i64 a1) rfl) ?_
    refine y0 rfl (o_move (d := .int .i64 a2) rfl) ?_
    obtain ⟨v5, hv5, h⟩ := bindE h
    refine yc rfl (o_callF (ls := []) (ds := [store_Store.Pv a0, .int .i64 a1, .int .i64 a2]) rfl Ty.k31 rfl (store_Make_ok hv5)) ?_
    refine y0 rfl (o_move (d := .tup [store_Store.Pv v5.1, .int .i64 v5.2.1, .int .i64 v5.2.2]) rfl) ?_
    refine y0 rfl (o_extract rfl rfl) ?_
    refine y0 rfl (o_extract rfl rfl) ?_
    refine y0 rfl (o_extract rfl rfl) ?_
    refine y1 rfl (o_alloc (d := .agg [.lst true (List.map slab_Cell_store_Obj.Pv []), .int .i64 0, .int .i64 0]) (z := 3) rfl Ty.z26 rfl rfl rfl) rfl ?_
    refine y_sto (x' := store_Store.Pv v5.1) (cl' := true) rfl rfl (.inr rfl) Ty.s26 ?_
    refine y0 rfl (o_assign (d := .int .i64 v5.2.1) rfl) ?_
    refine y0 rfl (o_assign (d := .int .i64 v5.2.2) rfl) ?_
    refine y_nil ?_
    refine sr (by kernel_rfl) ?_
    refine y0 rfl (o_loadA (cs := store_Store.Pc v5.1) rfl rfl rfl Ty.a26 Ty.s26 (Nat.le_of_ble_eq_true rfl) rfl) ?_
    obtain ⟨v6, hv6, h⟩ := bindE h
    refine yc rfl (o_callF (ls := []) (ds := [store_Store.Pv v5.1]) rfl Ty.k30 rfl (store_Live_ok hv6)) ?_
    refine y0 rfl (o_assign (d := .lst false (List.map (PV.int .i64) v6)) rfl) ?_
    refine y_nil ?_
    refine pw_seq ?_
    refine sr (by kernel_rfl) ?_
    refine y0 rfl (o_move (d := .int .i64 v5.2.2) rfl) ?_
    refine y0 rfl (o_cmp rfl rfl rfl) ?_
    refine y_nil ?_
    refine pw_cond (v5.2.2 != 0) rfl (fun hc => ?_) (fun hc => ?_)
    · have h := ifT h hc
      refine dr [] Ty.mix (by kernel_rfl) (by kernel_rfl) ?_
      refine d7 rfl (fun _ hN => o_move (d := .int .i64 v5.2.1) rfl) rfl ?_
      refine d7 rfl (fun _ hN => o_cmp rfl rfl rfl) rfl ?_
      refine d7 rfl (fun _ hN => o_move (d := .bool (v5.2.1 == 0)) rfl) rfl ?_
      refine d_if0 (g := ((v5.2.1 == 0) == true)) rfl (fun hg => o_loadA (cs := store_Store.Pc v5.1) rfl rfl rfl Ty.a26 Ty.s26 (Nat.le_of_ble_eq_true rfl) rfl) rfl ?_
      obtain ⟨v7, hv7, h⟩ := bindE h
      refine d_if2f (g := ((v5.2.1 == 0) == true)) rfl (fun hg => o_callF (ls := []) (ds := [store_Store.Pv v5.1]) rfl Ty.k20 (consE (ct hg) rfl) (w06_its_ok (onlyE hv7 hg))) rfl ?_
      refine d_if0 (g := ((v5.2.1 == 0) == true)) rfl (fun hg => o_loadA (cs := store_Store.Pc a0) rfl rfl rfl Ty.a26 Ty.s26 (Nat.le_of_ble_eq_true rfl) rfl) rfl ?_
      obtain ⟨v8, hv8, h⟩ := bindE h
      refine d_if2f (g := ((v5.2.1 == 0) == true)) rfl (fun hg => o_callF (ls := []) (ds := [store_Store.Pv a0]) rfl Ty.k20 (consE (ct hg) rfl) (w06_its_ok (onlyE hv8 hg))) rfl ?_
      obtain ⟨v9, hv9, h⟩ := bindE h
      refine d_if2 (g := ((v5.2.1 == 0) == true)) rfl (fun hg => o_call (ds := [r06_Store.Pv v7, r06_Store.Pv v8]) rfl Ty.k22 (consE (ct hg) (consE (ct hg) rfl)) (r06_Same_ok (onlyE hv9 hg))) rfl ?_
      refine d7 rfl (fun _ hN => pk_and rfl rfl rfl (fun q => eqT q)) rfl ?_
      refine d7 rfl (fun _ hN => o_assign (d := .bool ((v5.2.1 == 0) && v9)) rfl) rfl ?_
      refine d_nil ?_
      refine pw_ret ?_
      obtain rfl := Option.some.inj h
      exact ⟨rfl, [_], ⟨rfl, trivial⟩, rfl, by first | exact .inl rfl | exact .inr rfl⟩
    · have h := ifF h hc
      refine pw_skip ?_
      refine sr (by kernel_rfl) ?_
      refine y0 rfl (o_move (d := .lst false (List.map (PV.int .i64) v4)) rfl) ?_
      refine y0 rfl (o_lnL (f := (PV.int .i64)) rfl Ty.e27) ?_
      refine y0 rfl (o_assign (d := .int .i64 (v4.length : Int)) rfl) ?_
      refine y_nil ?_
      refine sr (by kernel_rfl) ?_
      refine y0 rfl (o_loadA (cs := store_Store.Pc v5.1) rfl rfl rfl Ty.a26 Ty.s26 (Nat.le_of_ble_eq_true rfl) rfl) ?_
      refine y0 rfl (o_move (d := .int .i64 v5.2.1) rfl) ?_
      obtain ⟨v10, hv10, h⟩ := bindE h
      refine yc rfl (o_callF (ls := []) (ds := [store_Store.Pv v5.1, .int .i64 v5.2.1]) rfl Ty.k24 rfl (store_Get_ok hv10)) ?_
      refine y0 rfl (o_move (d := .tup [store_Obj.Pv v10.1, .int .i64 v10.2]) rfl) ?_
      refine y0 rfl (o_extract rfl rfl) ?_
      refine y0 rfl (o_extract rfl rfl) ?_
      refine y1 rfl (o_alloc (d := .agg [.int .i64 0, .int .i64 0, .int .i64 0, .int .i64 0, .bool false, .lst true (List.map (PV.int .i64) [])]) (z := 6) rfl Ty.z29 rfl rfl rfl) rfl ?_
      refine y_sto (x' := store_Obj.Pv v10.1) (cl' := true) rfl rfl (.inr rfl) Ty.s29 ?_
      refine y0 rfl (o_assign (d := .int .i64 v10.2) rfl) ?_
      refine y_nil ?_
      refine sr (by kernel_rfl) ?_
      refine y0 rfl (o_move (d := .lst false (List.map (PV.int .i64) v6)) rfl) ?_
      refine y0 rfl (o_lnL (f := (PV.int .i64)) rfl Ty.e27) ?_
      refine y0 rfl (o_move (d := .int .i64 (v4.length : Int)) rfl) ?_
      refine y0 rfl (o_ari rfl rfl rfl) ?_
      refine y0 rfl (o_cmp rfl rfl rfl) ?_
      refine y0 rfl (o_move (d := .bool ((v6.length : Int) == (w64 ((v4.length : Int) + 1)))) rfl) ?_
      refine y_if (g := (((v6.length : Int) == (w64 ((v4.length : Int) + 1))) == true)) rfl (fun hg => o_move (d := .lst false (List.map (PV.int .i64) v6)) rfl) ?_
      refine y_if (g := (((v6.length : Int) == (w64 ((v4.length : Int) + 1))) == true)) rfl (fun hg => o_move (d := .int .i64 (v4.length : Int)) rfl) ?_
      obtain ⟨v11, hv11, h⟩ := bindE h
      refine y_if (g := (((v6.length : Int) == (w64 ((v4.length : Int) + 1))) == true)) rfl (fun hg => o_ixL (f := (PV.int .i64)) (cs := [.int .i64 v11]) (onlyE hv11 hg) (ct hg) (ct hg) Ty.e27 Ty.s3 rfl rfl) ?_
      refine y_if (g := (((v6.length : Int) == (w64 ((v4.length : Int) + 1))) == true)) rfl (fun hg => o_loadRS (ct hg) Ty.a3 rfl) ?_
      refine y_if (g := (((v6.length : Int) == (w64 ((v4.length : Int) + 1))) == true)) rfl (fun hg => o_move (d := .int .i64 v5.2.1) rfl) ?_
      refine y_if (g := (((v6.length : Int) == (w64 ((v4.length : Int) + 1))) == true)) rfl (fun hg => o_cmp (ct hg) (ct hg) rfl) ?_
      refine y0 rfl (pk_and rfl rfl rfl (fun q => eqT q)) ?_
      refine y0 rfl (o_move (d := .bool (((v6.length : Int) == (w64 ((v4.length : Int) + 1))) && (v11 == v5.2.1))) rfl) ?_
      refine y_if (g := ((((v6.length : Int) == (w64 ((v4.length : Int) + 1))) && (v11 == v5.2.1)) == true)) rfl (fun hg => o_move (d := .lst false (List.map (PV.int .i64) v6)) rfl) ?_
      refine y_if (g := ((((v6.length : Int) == (w64 ((v4.length : Int) + 1))) && (v11 == v5.2.1)) == true)) rfl (fun hg => o_move (d := .int .i64 (v4.length : Int)) rfl) ?_
      obtain ⟨v12, hv12, h⟩ := bindE h
      refine y_if (g := ((((v6.length : Int) == (w64 ((v4.length : Int) + 1))) && (v11 == v5.2.1)) == true)) rfl (fun hg => o_cutL (f := (PV.int .i64)) (onlyE hv12 hg) (ct hg) rfl ⟨_, (ct hg)⟩ Ty.e27 Ty.s3 (fun _ => rfl)) ?_
      refine y_if (g := ((((v6.length : Int) == (w64 ((v4.length : Int) + 1))) && (v11 == v5.2.1)) == true)) rfl (fun hg => o_move (d := .lst false (List.map (PV.int .i64) v4)) rfl) ?_
      obtain ⟨v13, hv13, h⟩ := bindE h
      refine y_if (g := ((((v6.length : Int) == (w64 ((v4.length : Int) + 1))) && (v11 == v5.2.1)) == true)) rfl (fun hg => o_call (ds := [.lst false (List.map (PV.int .i64) v12), .lst false (List.map (PV.int .i64) v4)]) rfl Ty.k32 (consE (ct hg) (consE (ct hg) rfl)) (r02_Ints_ok (onlyE hv13 hg))) ?_
      refine y0 rfl (pk_and rfl rfl rfl (fun q => eqT q)) ?_
      refine y0 rfl (o_move (d := .bool ((((v6.length : Int) == (w64 ((v4.length : Int) + 1))) && (v11 == v5.2.1)) && v13)) rfl) ?_
      refine y_if (g := (((((v6.length : Int) == (w64 ((v4.length : Int) + 1))) && (v11 == v5.2.1)) && v13) == true)) rfl (fun hg => o_move (d := .int .i64 v10.2) rfl) ?_
      refine y_if (g := (((((v6.length : Int) == (w64 ((v4.length : Int) + 1))) && (v11 == v5.2.1)) && v13) == true)) rfl (fun hg => o_cmp (ct hg) rfl rfl) ?_
      refine y0 rfl (pk_and rfl rfl rfl (fun q => eqT q)) ?_
      refine y0 rfl (o_move (d := .bool (((((v6.length : Int) == (w64 ((v4.length : Int) + 1))) && (v11 == v5.2.1)) && v13) && (v10.2 == 0))) rfl) ?_
      refine y_if (g := ((((((v6.length : Int) == (w64 ((v4.length : Int) + 1))) && (v11 == v5.2.1)) && v13) && (v10.2 == 0)) == true)) rfl (fun hg => o_fieldAddrP (k := 0) rfl Ty.f29_0 rfl) ?_
      refine y_if (g := ((((((v6.length : Int) == (w64 ((v4.length : Int) + 1))) && (v11 == v5.2.1)) && v13) && (v10.2 == 0)) == true)) rfl (fun hg => o_loadS (ct hg) rfl rfl Ty.a3 rfl) ?_
      refine y_if (g := ((((((v6.length : Int) == (w64 ((v4.length : Int) + 1))) && (v11 == v5.2.1)) && v13) && (v10.2 == 0)) == true)) rfl (fun hg => o_fieldAddrP (k := 2) rfl Ty.f26_1 rfl) ?_
      refine y_if (g := ((((((v6.length : Int) == (w64 ((v4.length : Int) + 1))) && (v11 == v5.2.1)) && v13) && (v10.2 == 0)) == true)) rfl (fun hg => o_loadS (ct hg) rfl rfl Ty.a3 rfl) ?_
      refine y_if (g := ((((((v6.length : Int) == (w64 ((v4.length : Int) + 1))) && (v11 == v5.2.1)) && v13) && (v10.2 == 0)) == true)) rfl (fun hg => o_ari (ct hg) rfl rfl) ?_
      refine y_if (g := ((((((v6.length : Int) == (w64 ((v4.length : Int) + 1))) && (v11 == v5.2.1)) && v13) && (v10.2 == 0)) == true)) rfl (fun hg => o_cmp (ct hg) (ct hg) rfl) ?_
      refine y0 rfl (pk_and rfl rfl rfl (fun q => eqT q)) ?_
      refine y0 rfl (o_move (d := .bool ((((((v6.length : Int) == (w64 ((v4.length : Int) + 1))) && (v11 == v5.2.1)) && v13) && (v10.2 == 0)) && (v10.1.Serial == (w64 (a0.Serial + 1))))) rfl) ?_
      refine y_if (g := (((((((v6.length : Int) == (w64 ((v4.length : Int) + 1))) && (v11 == v5.2.1)) && v13) && (v10.2 == 0)) && (v10.1.Serial == (w64 (a0.Serial + 1)))) == true)) rfl (fun hg => o_fieldAddrP (k := 2) rfl Ty.f26_1 rfl) ?_
      refine y_if (g := (((((((v6.length : Int) == (w64 ((v4.length : Int) + 1))) && (v11 == v5.2.1)) && v13) && (v10.2 == 0)) && (v10.1.Serial == (w64 (a0.Serial + 1)))) == true)) rfl (fun hg => o_loadS (ct hg) rfl rfl Ty.a3 rfl) ?_
      refine y_if (g := (((((((v6.length : Int) == (w64 ((v4.length : Int) + 1))) && (v11 == v5.2.1)) && v13) && (v10.2 == 0)) && (v10.1.Serial == (w64 (a0.Serial + 1)))) == true)) rfl (fun hg => o_fieldAddrP (k := 0) rfl Ty.f29_0 rfl) ?_
      refine y_if (g := (((((((v6.length : Int) == (w64 ((v4.length : Int) + 1))) && (v11 == v5.2.1)) && v13) && (v10.2 == 0)) && (v10.1.Serial == (w64 (a0.Serial + 1)))) == true)) rfl (fun hg => o_loadS (ct hg) rfl rfl Ty.a3 rfl) ?_
      refine y_if (g := (((((((v6.length : Int) == (w64 ((v4.length : Int) + 1))) && (v11 == v5.2.1)) && v13) && (v10.2 == 0)) && (v10.1.Serial == (w64 (a0.Serial + 1)))) == true)) rfl (fun hg => o_cmp (ct hg) (ct hg) rfl) ?_
      refine y0 rfl (pk_and rfl rfl rfl (fun q => eqT q)) ?_
      refine y0 rfl (o_move (d := .bool (((((((v6.length : Int) == (w64 ((v4.length : Int) + 1))) && (v11 == v5.2.1)) && v13) && (v10.2 == 0)) && (v10.1.Serial == (w64 (a0.Serial + 1)))) && (v5.1.Serial == v10.1.Serial))) rfl) ?_
      refine y_if (g := ((((((((v6.length : Int) == (w64 ((v4.length : Int) + 1))) && (v11 == v5.2.1)) && v13) && (v10.2 == 0)) && (v10.1.Serial == (w64 (a0.Serial + 1)))) && (v5.1.Serial == v10.1.Serial)) == true)) rfl (fun hg => o_fieldAddrP (k := 5) rfl Ty.f29_5 rfl) ?_
      refine y_if (g := ((((((((v6.length : Int) == (w64 ((v4.length : Int) + 1))) && (v11 == v5.2.1)) && v13) && (v10.2 == 0)) && (v10.1.Serial == (w64 (a0.Serial + 1)))) && (v5.1.Serial == v10.1.Serial)) == true)) rfl (fun hg => o_loadS (ct hg) rfl rfl Ty.a27 rfl) ?_
      refine y_if (g := ((((((((v6.length : Int) == (w64 ((v4.length : Int) + 1))) && (v11 == v5.2.1)) && v13) && (v10.2 == 0)) && (v10.1.Serial == (w64 (a0.Serial + 1)))) && (v5.1.Serial == v10.1.Serial)) == true)) rfl (fun hg => o_lnL (f := (PV.int .i64)) (ct hg) Ty.e27) ?_
      refine y_if (g := ((((((((v6.length : Int) == (w64 ((v4.length : Int) + 1))) && (v11 == v5.2.1)) && v13) && (v10.2 == 0)) && (v10.1.Serial == (w64 (a0.Serial + 1)))) && (v5.1.Serial == v10.1.Serial)) == true)) rfl (fun hg => o_move (d := .int .i64 a1) rfl) ?_
      refine y_if (g := ((((((((v6.length : Int) == (w64 ((v4.length : Int) + 1))) && (v11 == v5.2.1)) && v13) && (v10.2 == 0)) && (v10.1.Serial == (w64 (a0.Serial + 1)))) && (v5.1.Serial == v10.1.Serial)) == true)) rfl (fun hg => o_cmp (ct hg) (ct hg) rfl) ?_
      refine y0 rfl (pk_and rfl rfl rfl (fun q => eqT q)) ?_
      refine y0 rfl (o_move (d := .bool ((((((((v6.length : Int) == (w64 ((v4.length : Int) + 1))) && (v11 == v5.2.1)) && v13) && (v10.2 == 0)) && (v10.1.Serial == (w64 (a0.Serial + 1)))) && (v5.1.Serial == v10.1.Serial)) && ((v10.1.Fields.length : Int) == a1))) rfl) ?_
      refine y_if (g := (((((((((v6.length : Int) == (w64 ((v4.length : Int) + 1))) && (v11 == v5.2.1)) && v13) && (v10.2 == 0)) && (v10.1.Serial == (w64 (a0.Serial + 1)))) && (v5.1.Serial == v10.1.Serial)) && ((v10.1.Fields.length : Int) == a1)) == true)) rfl (fun hg => o_fieldAddrP (k := 1) rfl Ty.f29_1 rfl) ?_
      refine y_if (g := (((((((((v6.length : Int) == (w64 ((v4.length : Int) + 1))) && (v11 == v5.2.1)) && v13) && (v10.2 == 0)) && (v10.1.Serial == (w64 (a0.Serial + 1)))) && (v5.1.Serial == v10.1.Serial)) && ((v10.1.Fields.length : Int) == a1)) == true)) rfl (fun hg => o_loadS (ct hg) rfl rfl Ty.a3 rfl) ?_
      refine y_if (g := (((((((((v6.length : Int) == (w64 ((v4.length : Int) + 1))) && (v11 == v5.2.1)) && v13) && (v10.2 == 0)) && (v10.1.Serial == (w64 (a0.Serial + 1)))) && (v5.1.Serial == v10.1.Serial)) && ((v10.1.Fields.length : Int) == a1)) == true)) rfl (fun hg => o_cmp (ct hg) rfl rfl) ?_
      refine y0 rfl (pk_and rfl rfl rfl (fun q => eqT q)) ?_
      refine y0 rfl (o_assign (d := .bool (((((((((v6.length : Int) == (w64 ((v4.length : Int) + 1))) && (v11 == v5.2.1)) && v13) && (v10.2 == 0)) && (v10.1.Serial == (w64 (a0.Serial + 1)))) && (v5.1.Serial == v10.1.Serial)) && ((v10.1.Fields.length : Int) == a1)) && (v10.1.Strong == 0))) rfl) ?_
      refine y_nil ?_
      refine pw_ret ?_
      obtain rfl := Option.some.inj h
      exact ⟨rfl, [_], ⟨rfl, trivial⟩, rfl, by first | exact .inl rfl | exact .inr rfl⟩

set_option maxHeartbeats 4000000 in
theorem w06_StoreLive_ok {a0 : store_Store} {a1 : Int} {r : Bool} (h : w06_StoreLive a0 a1 = some r) : PCalls Try.prog 6 [store_Store.Pv a0, .int .i64 a1] (.bool r) := by
  unfold w06_StoreLive at h
  refine pc_intro (N := 80) Try.func6 rfl rfl (Nat.le_of_ble_eq_true rfl) fun w0 imm0 => ?_
  refine sr (by kernel_rfl) ?_
  refine y1 rfl (o_box (d := store_Store.Pv a0) (z := 3) (cl := true) rfl rfl rfl rfl rfl) rfl ?_
  refine y0 rfl (o_assign (d := .bool false) rfl) ?_
  refine y_nil ?_
  refine pw_seq ?_
  refine sr (by kernel_rfl) ?_
  refine y0 rfl (o_loadA (cs := store_Store.Pc a0) rfl rfl rfl Ty.a26 Ty.s26 (Nat.le_of_ble_eq_true rfl) rfl) ?_
  obtain ⟨v1, hv1, h⟩ := bindE h
  refine y0 rfl (o_call (ds := [store_Store.Pv a0]) rfl Ty.k16 rfl (w06_right_ok hv1)) ?_
  refine y0 rfl (o_not rfl rfl) ?_
  refine y0 rfl (o_move (d := .bool (!v1)) rfl) ?_
  obtain ⟨v2, hv2, h⟩ := bindE h
  refine y_if (g := ((!v1) == false)) rfl (fun hg => o_call (ds := []) rfl Ty.k17 rfl (w06_shown_ok (onlyE hv2 hg))) ?_
  refine y_if (g := ((!v1) == false)) rfl (fun hg => o_not (ct hg) rfl) ?_
  refine y0 rfl (pk_or rfl rfl rfl (fun q => eqF q)) ?_
  refine y_nil ?_
  refine pw_cond ((!v1) || (!v2)) rfl (fun hc => ?_) (fun hc => ?_)
  · have h := ifT h hc
    refine sr (by kernel_rfl) ?_
    obtain ⟨v3, hv3, h⟩ := bindE h
    refine y0 rfl (o_call (ds := []) rfl Ty.k17 rfl (w06_shown_ok hv3)) ?_
    refine y0 rfl (o_assign (d := .bool v3) rfl) ?_
    refine y_nil ?_
    refine pw_ret ?_
    obtain rfl := Option.some.inj h
    exact ⟨rfl, [_], ⟨rfl, trivial⟩, rfl, by first | exact .inl rfl | exact .inr rfl⟩
  · have h := ifF h hc
    refine pw_skip ?_
    refine sr (by kernel_rfl) ?_
    refine y0 rfl (o_loadA (cs := store_Store.Pc a0) rfl rfl rfl Ty.a26 Ty.s26 (Nat.le_of_ble_eq_true rfl) rfl) ?_
    obtain ⟨v4, hv4, h⟩ := bindE h
    refine yc rfl (o_callF (ls := []) (ds := [store_Store.Pv a0]) rfl Ty.k30 rfl (store_Live_ok hv4)) ?_
    refine y0 rfl (o_assign (d := .lst false (List.map (PV.int .i64) v4)) rfl) ?_
    refine y_nil ?_
    refine sr (by kernel_rfl) ?_
    refine y0 rfl (o_assign (d := .int .i64 0) rfl) ?_
    refine y_nil ?_
    refine sr (by kernel_rfl) ?_
    refine y0 rfl (o_assign (d := .bool false) rfl) ?_
    refine y_nil ?_
    obtain ⟨κ13, hκ10, h⟩ := jnE h
    refine pw_jn0 (κ := κ13) (r := r) (fun (j14 : Bool) => St.of [(1, .int .i64 a1), (2, .ptr 2 0 0), (5, .lst false (List.map (PV.int .i64) v4)), (7, .bool j14)] [(2, ⟨[store_Store.Pv a0], 0, false, 3, true⟩)]) (fun j14 h => ?_) ?_
    · subst hκ10
      refine sr (by kernel_rfl) ?_
      refine y0 rfl (o_loadA (cs := store_Store.Pc a0) rfl rfl rfl Ty.a26 Ty.s26 (Nat.le_of_ble_eq_true rfl) rfl) ?_
      refine y0 rfl (o_move (d := .int .i64 a1) rfl) ?_
      obtain ⟨v15, hv11, h⟩ := bindE h
      refine yc rfl (o_callF (ls := []) (ds := [store_Store.Pv a0, .int .i64 a1]) rfl Ty.k24 rfl (store_Get_ok hv11)) ?_
      refine y0 rfl (o_move (d := .tup [store_Obj.Pv v15.1, .int .i64 v15.2]) rfl) ?_
      refine y0 rfl (o_extract rfl rfl) ?_
      refine y0 rfl (o_extract rfl rfl) ?_
      refine y1 rfl (o_alloc (d := .agg [.int .i64 0, .int .i64 0, .int .i64 0, .int .i64 0, .bool false, .lst true (List.map (PV.int .i64) [])]) (z := 6) rfl Ty.z29 rfl rfl rfl) rfl ?_
      refine y_sto (x' := store_Obj.Pv v15.1) (cl' := true) rfl rfl (.inr rfl) Ty.s29 ?_
      refine y0 rfl (o_assign (d := .int .i64 v15.2) rfl) ?_
      refine y_nil ?_
      refine sr (by kernel_rfl) ?_
      refine y0 rfl (o_move (d := .int .i64 v15.2) rfl) ?_
      refine y0 rfl (o_cmp rfl rfl rfl) ?_
      refine y0 rfl (o_move (d := .bool j14) rfl) ?_
      refine y0 rfl (o_eqB rfl rfl Ty.u4 rfl) ?_
      refine y0 rfl (o_move (d := .bool ((v15.2 == 0) == j14)) rfl) ?_
      refine y_if (g := (((v15.2 == 0) == j14) == true)) rfl (fun hg => o_move (d := .lst false (List.map (PV.int .i64) v4)) rfl) ?_
      refine y_if (g := (((v15.2 == 0) == j14) == true)) rfl (fun hg => o_lnL (f := (PV.int .i64)) (ct hg) Ty.e27) ?_
      refine y_if (g := (((v15.2 == 0) == j14) == true)) rfl (fun hg => o_fieldAddrP (k := 0) rfl Ty.f26_0 rfl) ?_
      refine y_if (g := (((v15.2 == 0) == j14) == true)) rfl (fun hg => o_fieldAddrP (k := 0) (ct hg) Ty.f24_0 rfl) ?_
      refine y_if (g := (((v15.2 == 0) == j14) == true)) rfl (fun hg => o_loadS (ct hg) rfl rfl Ty.a22 rfl) ?_
      refine y_if (g := (((v15.2 == 0) == j14) == true)) rfl (fun hg => o_lnL (f := slab_Cell_store_Obj.Pv) (ct hg) Ty.e22) ?_
      refine y_if (g := (((v15.2 == 0) == j14) == true)) rfl (fun hg => o_cmp (ct hg) (ct hg) rfl) ?_
      refine y0 rfl (pk_and rfl rfl rfl (fun q => eqT q)) ?_
      refine y0 rfl (o_assign (d := .bool (((v15.2 == 0) == j14) && (decide ((v4.length : Int) ≤ (a0.S.Cells.length : Int))))) rfl) ?_
      refine y_nil ?_
      refine pw_ret ?_
      obtain rfl := Option.some.inj h
      exact ⟨rfl, [_], ⟨rfl, trivial⟩, rfl, by first | exact .inl rfl | exact .inr rfl⟩
    · skip
      refine sr (by kernel_rfl) ?_
      refine y0 rfl (o_assign (d := .int .i64 0) rfl) ?_
      refine y_nil ?_
      refine pw_block ?_
      obtain ⟨e16, hl12, hk13⟩ := bindE h
      refine pw_lp0 (fun (q : Int × Bool × Int) => St.of [(1, .int .i64 a1), (2, .ptr 2 0 0), (5, .lst false (List.map (PV.int .i64) v4)), (6, .int .i64 q.1), (7, .bool q.2.1), (8, .int .i64 q.2.2)] [(2, ⟨[store_Store.Pv a0], 0, false, 3, true⟩)]) hl12 (wk_st _ _ ⟨rfl, rfl, rfl, rfl, rfl, rfl, rfl, rfl, rfl, rfl, rfl, rfl, rfl, rfl, rfl, rfl, rfl, rfl, trivial⟩ ⟨rowLe_same rfl rfl rfl (fun q => nomatch q) rfl rfl rfl, trivial⟩) (fun q21 x20 h hx14 => ?_)
      obtain ⟨s17, s18, s19⟩ := q21
      refine pw_seq ?_
      refine sr (by kernel_rfl) ?_
      refine y0 rfl (o_move (d := .int .i64 s19) rfl) ?_
      refine y0 rfl (o_move (d := .lst false (List.map (PV.int .i64) v4)) rfl) ?_
      refine y0 rfl (o_lnL (f := (PV.int .i64)) rfl Ty.e27) ?_
      refine y0 rfl (o_cmp rfl rfl rfl) ?_
      refine y0 rfl (o_move (d := .bool (decide (s19 < (v4.length : Int)))) rfl) ?_
      refine y_if (g := ((decide (s19 < (v4.length : Int))) == true)) rfl (fun hg => o_move (d := .int .i64 s19) rfl) ?_
      refine y_if (g := ((decide (s19 < (v4.length : Int))) == true)) rfl (fun hg => o_cmp (ct hg) rfl rfl) ?_
      refine y0 rfl (pk_and rfl rfl rfl (fun q => eqT q)) ?_
      refine y_nil ?_
      refine pw_cond ((decide (s19 < (v4.length : Int))) && (decide (s19 < 30))) rfl (fun hc => ?_) (fun hc => ?_)
      · have h := ifT h hc
        refine pw_skip ?_
        refine pw_seq ?_
        refine pw_block ?_
        refine dr [] Ty.mix (by kernel_rfl) (by kernel_rfl) ?_
        refine d0 rfl (o_loadA (cs := store_Store.Pc a0) rfl rfl rfl Ty.a26 Ty.s26 (Nat.le_of_ble_eq_true rfl) rfl) rfl ?_
        refine d7 rfl (fun _ hN => o_move (d := .lst false (List.map (PV.int .i64) v4)) rfl) rfl ?_
        refine d7 rfl (fun _ hN => o_move (d := .int .i64 s19) rfl) rfl ?_
        obtain ⟨v22, hv15, h⟩ := bindE h
        refine d0 rfl (o_ixL (f := (PV.int .i64)) (cs := [.int .i64 v22]) hv15 rfl rfl Ty.e27 Ty.s3 rfl rfl) rfl ?_
        refine d0 rfl (o_loadRS rfl Ty.a3 rfl) rfl ?_
        obtain ⟨v23, hv16, h⟩ := bindE h
        refine d2f rfl (o_callF (ls := []) (ds := [store_Store.Pv a0, .int .i64 v22]) rfl Ty.k24 rfl (store_Get_ok hv16)) rfl ?_
        refine d7 rfl (fun _ hN => o_move (d := .tup [store_Obj.Pv v23.1, .int .i64 v23.2]) rfl) rfl ?_
        refine d7 rfl (fun _ hN => o_extract rfl rfl) rfl ?_
        refine d7 rfl (fun _ hN => o_extract rfl rfl) rfl ?_
        refine d1 rfl (o_alloc (d := .agg [.int .i64 0, .int .i64 0, .int .i64 0, .int .i64 0, .bool false, .lst true (List.map (PV.int .i64) [])]) (z := 6) rfl Ty.z29 rfl rfl rfl) rfl rfl rfl ?_
        refine d_sto (x' := store_Obj.Pv v23.1) (cl' := true) rfl rfl (.inr rfl) Ty.s29 ?_
        refine d7 rfl (fun _ hN => o_assign (d := .int .i64 v23.2) rfl) rfl ?_
        refine d_nil ?_
        refine pw_seq ?_
        refine sr (by kernel_rfl) ?_
        refine y0 rfl (o_move (d := .int .i64 v23.2) rfl) ?_
        refine y0 rfl (o_cmp rfl rfl rfl) ?_
        refine y0 rfl (o_move (d := .bool (v23.2 != 0)) rfl) ?_
        refine y_if (g := ((v23.2 != 0) == false)) rfl (fun hg => o_fieldAddrP (k := 0) rfl Ty.f29_0 rfl) ?_
        refine y_if (g := ((v23.2 != 0) == false)) rfl (fun hg => o_loadS (ct hg) rfl rfl Ty.a3 rfl) ?_
        refine y_if (g := ((v23.2 != 0) == false)) rfl (fun hg => o_move (d := .int .i64 s17) rfl) ?_
        refine y_if (g := ((v23.2 != 0) == false)) rfl (fun hg => o_cmp (ct hg) (ct hg) rfl) ?_
        refine y0 rfl (pk_or rfl rfl rfl (fun q => eqF q)) ?_
        refine y_nil ?_
        refine pw_cond ((v23.2 != 0) || (decide (v23.1.Serial ≤ s17))) rfl (fun hc => ?_) (fun hc => ?_)
        · have h := ifT h hc
          refine sr (by kernel_rfl) ?_
          refine y0 rfl (o_assign (d := .bool false) rfl) ?_
          refine y_nil ?_
          refine pw_ret ?_
          have he := hx14 _ (Option.some.inj h).symm
          have h := hk13
          rw [← he] at h
          obtain rfl := Option.some.inj h
          exact ⟨rfl, [_], ⟨rfl, trivial⟩, rfl, by first | exact .inl rfl | exact .inr rfl⟩
        · have h := ifF h hc
          refine pw_skip ?_
          refine sr (by kernel_rfl) ?_
          refine y0 rfl (o_fieldAddrP (k := 0) rfl Ty.f29_0 rfl) ?_
          refine y0 rfl (o_loadS rfl rfl rfl Ty.a3 rfl) ?_
          refine y0 rfl (o_assign (d := .int .i64 v23.1.Serial) rfl) ?_
          refine y_nil ?_
          refine sr1 (by kernel_rfl) ?_
          refine y0 rfl (o_move (d := .bool s18) rfl) ?_
          refine y0 rfl (o_move (d := .bool s18) rfl) ?_
          refine y_if (g := (s18 == false)) rfl (fun hg => o_move (d := .lst false (List.map (PV.int .i64) v4)) rfl) ?_
          refine y_if (g := (s18 == false)) rfl (fun hg => o_move (d := .int .i64 s19) rfl) ?_
          refine y_if (g := (s18 == false)) rfl (fun hg => o_ixL (f := (PV.int .i64)) (cs := [.int .i64 v22]) hv15 (ct hg) (ct hg) Ty.e27 Ty.s3 rfl rfl) ?_
          refine y_if (g := (s18 == false)) rfl (fun hg => o_loadRS (ct hg) Ty.a3 rfl) ?_
          refine y_if (g := (s18 == false)) rfl (fun hg => o_move (d := .int .i64 a1) rfl) ?_
          refine y_if (g := (s18 == false)) rfl (fun hg => o_cmp (ct hg) (ct hg) rfl) ?_
          refine y0 rfl (pk_or rfl rfl rfl (fun q => eqF q)) ?_
          refine y0 rfl (o_assign (d := .bool (s18 || (v22 == a1))) rfl) ?_
          refine y_nil ?_
          refine sr1 (by kernel_rfl) ?_
          refine y0 rfl (o_move (d := .int .i64 s19) rfl) ?_
          refine y0 rfl (o_ari rfl rfl rfl) ?_
          refine y0 rfl (o_assign (d := .int .i64 (w64 (s19 + 1))) rfl) ?_
          refine y_nil ?_
          exact ⟨rfl, (v23.1.Serial, (s18 || (v22 == a1)), w64 (s19 + 1)), (Option.some.inj h).symm, (wk_st _ _ ⟨rfl, rfl, rfl, rfl, rfl, rfl, rfl, rfl, rfl, rfl, rfl, rfl, rfl, rfl, rfl, rfl, rfl, rfl, trivial⟩ ⟨rowLe_same rfl rfl rfl (fun q => nomatch q) rfl rfl rfl, trivial⟩)⟩
      · have h := ifF h hc
        refine pw_exit ?_
        refine thenQ_exit ?_
        refine thenQ_exit ?_
        refine blockQ_exit ?_
        have he := hx14 _ (Option.some.inj h).symm
        have h := hk13
        rw [← he] at h
        exact ⟨rfl, s18, h, (wk_st _ _ ⟨rfl, rfl, rfl, rfl, rfl, rfl, rfl, rfl, rfl, rfl, rfl, rfl, trivial⟩ ⟨rowLe_same rfl rfl rfl (fun q => nomatch q) rfl rfl rfl, trivial⟩)⟩

end Go.Proofs.Ytpnajadblhkomaa.Ok
