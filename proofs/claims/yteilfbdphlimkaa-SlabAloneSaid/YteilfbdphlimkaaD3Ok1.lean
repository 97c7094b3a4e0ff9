/-
  The functions of the program do as the plain functions do.
-/
import Derived.Test.YteilfbdphlimkaaPw27
import Derived.Test.YteilfbdphlimkaaD3Sh
import Derived.Test.YteilfbdphlimkaaProg
namespace Go.Proofs.Yteilfbdphlimkaa.Ok
open Go Go.Pw Go.Sh Go.Proofs
set_option linter.unusedVariables false
set_option maxRecDepth 100000
abbrev _root_.Go.Sh.slab_Cell_int.Pc (x : slab_Cell_int) : List PV := [.int .i64 x.State, .int .i64 x.Gen, .int .i64 x.Val]
abbrev _root_.Go.Sh.slab_Cell_int.Pv (x : slab_Cell_int) : PV := .agg x.Pc
abbrev _root_.Go.Sh.slab_Slab_int.Pc (x : slab_Slab_int) : List PV := [.lst false (List.map slab_Cell_int.Pv x.Cells), .int .i64 x.Last]
abbrev _root_.Go.Sh.slab_Slab_int.Pv (x : slab_Slab_int) : PV := .agg x.Pc
abbrev _root_.Go.Sh.r03_Cell.Pc (x : r03_Cell) : List PV := [.int .i64 x.State, .int .i64 x.Gen, .int .i64 x.Val]
abbrev _root_.Go.Sh.r03_Cell.Pv (x : r03_Cell) : PV := .agg x.Pc
abbrev _root_.Go.Sh.r03_Slab.Pc (x : r03_Slab) : List PV := [.lst false (List.map r03_Cell.Pv x.Cells), .int .i64 x.Last]
abbrev _root_.Go.Sh.r03_Slab.Pv (x : r03_Slab) : PV := .agg x.Pc
abbrev _root_.Go.Sh.slab_Cell_string.Pc (x : slab_Cell_string) : List PV := [.int .i64 x.State, .int .i64 x.Gen, .str x.Val]
abbrev _root_.Go.Sh.slab_Cell_string.Pv (x : slab_Cell_string) : PV := .agg x.Pc
abbrev _root_.Go.Sh.slab_Slab_string.Pc (x : slab_Slab_string) : List PV := [.lst false (List.map slab_Cell_string.Pv x.Cells), .int .i64 x.Last]
abbrev _root_.Go.Sh.slab_Slab_string.Pv (x : slab_Slab_string) : PV := .agg x.Pc
namespace Ty
theorem a3 : tagg Try.prog 3 = some false := by kernel_rfl
theorem a9 : tagg Try.prog 9 = some false := by kernel_rfl
theorem a22 : tagg Try.prog 22 = some false := by kernel_rfl
theorem a24 : tagg Try.prog 24 = some true := by kernel_rfl
theorem a27 : tagg Try.prog 27 = some false := by kernel_rfl
theorem a29 : tagg Try.prog 29 = some true := by kernel_rfl
theorem a31 : tagg Try.prog 31 = some false := by kernel_rfl
theorem a46 : tagg Try.prog 46 = some true := by kernel_rfl
theorem a57 : tagg Try.prog 57 = some false := by kernel_rfl
theorem a59 : tagg Try.prog 59 = some true := by kernel_rfl
theorem a69 : tagg Try.prog 69 = some true := by kernel_rfl
theorem a72 : tagg Try.prog 72 = some true := by kernel_rfl
theorem a82 : tagg Try.prog 82 = some true := by kernel_rfl
theorem b3 : tbytes Try.prog 3 = some 8 := by kernel_rfl
theorem b69 : tbytes Try.prog 69 = some 24 := by kernel_rfl
theorem b72 : tbytes Try.prog 72 = some 24 := by kernel_rfl
theorem b82 : tbytes Try.prog 82 = some 32 := by kernel_rfl
theorem e22 : telem Try.prog 22 = some 69 := by kernel_rfl
theorem e27 : telem Try.prog 27 = some 72 := by kernel_rfl
theorem e54 : telem Try.prog 54 = some 3 := by kernel_rfl
theorem e56 : telem Try.prog 56 = some 9 := by kernel_rfl
theorem e57 : telem Try.prog 57 = some 82 := by kernel_rfl
theorem f24_0 : foff Try.prog 24 0 = some (0, 22) := by kernel_rfl
theorem f24_1 : foff Try.prog 24 1 = some (1, 3) := by kernel_rfl
theorem f29_0 : foff Try.prog 29 0 = some (0, 27) := by kernel_rfl
theorem f29_1 : foff Try.prog 29 1 = some (1, 3) := by kernel_rfl
theorem f59_0 : foff Try.prog 59 0 = some (0, 57) := by kernel_rfl
theorem f69_0 : foff Try.prog 69 0 = some (0, 3) := by kernel_rfl
theorem f69_1 : foff Try.prog 69 1 = some (1, 3) := by kernel_rfl
theorem f69_2 : foff Try.prog 69 2 = some (2, 3) := by kernel_rfl
theorem f72_0 : foff Try.prog 72 0 = some (0, 3) := by kernel_rfl
theorem f72_1 : foff Try.prog 72 1 = some (1, 3) := by kernel_rfl
theorem f72_2 : foff Try.prog 72 2 = some (2, 3) := by kernel_rfl
theorem f82_0 : foff Try.prog 82 0 = some (0, 3) := by kernel_rfl
theorem f82_1 : foff Try.prog 82 1 = some (1, 3) := by kernel_rfl
theorem f82_2 : foff Try.prog 82 2 = some (2, 9) := by kernel_rfl
theorem i3 : tint Try.prog 3 = some .i64 := by kernel_rfl
theorem k11 : Callable Try.prog 11 := ⟨Try.f11, _, Try.func11, rfl, by decide⟩
theorem k12 : Callable Try.prog 12 := ⟨Try.f12, _, Try.func12, rfl, by decide⟩
theorem k13 : Callable Try.prog 13 := ⟨Try.f13, _, Try.func13, rfl, by decide⟩
theorem k14 : Callable Try.prog 14 := ⟨Try.f14, _, Try.func14, rfl, by decide⟩
theorem k15 : Callable Try.prog 15 := ⟨Try.f15, _, Try.func15, rfl, by decide⟩
theorem k16 : Callable Try.prog 16 := ⟨Try.f16, _, Try.func16, rfl, by decide⟩
theorem k17 : Callable Try.prog 17 := ⟨Try.f17, _, Try.func17, rfl, by decide⟩
theorem k18 : Callable Try.prog 18 := ⟨Try.f18, _, Try.func18, rfl, by decide⟩
theorem k19 : Callable Try.prog 19 := ⟨Try.f19, _, Try.func19, rfl, by decide⟩
theorem k20 : Callable Try.prog 20 := ⟨Try.f20, _, Try.func20, rfl, by decide⟩
theorem k21 : Callable Try.prog 21 := ⟨Try.f21, _, Try.func21, rfl, by decide⟩
theorem k22 : Callable Try.prog 22 := ⟨Try.f22, _, Try.func22, rfl, by decide⟩
theorem k23 : Callable Try.prog 23 := ⟨Try.f23, _, Try.func23, rfl, by decide⟩
theorem k24 : Callable Try.prog 24 := ⟨Try.f24, _, Try.func24, rfl, by decide⟩
theorem k25 : Callable Try.prog 25 := ⟨Try.f25, _, Try.func25, rfl, by decide⟩
theorem k26 : Callable Try.prog 26 := ⟨Try.f26, _, Try.func26, rfl, by decide⟩
theorem k27 : Callable Try.prog 27 := ⟨Try.f27, _, Try.func27, rfl, by decide⟩
theorem k28 : Callable Try.prog 28 := ⟨Try.f28, _, Try.func28, rfl, by decide⟩
theorem k29 : Callable Try.prog 29 := ⟨Try.f29, _, Try.func29, rfl, by decide⟩
theorem k30 : Callable Try.prog 30 := ⟨Try.f30, _, Try.func30, rfl, by decide⟩
theorem k31 : Callable Try.prog 31 := ⟨Try.f31, _, Try.func31, rfl, by decide⟩
theorem k32 : Callable Try.prog 32 := ⟨Try.f32, _, Try.func32, rfl, by decide⟩
theorem k33 : Callable Try.prog 33 := ⟨Try.f33, _, Try.func33, rfl, by decide⟩
theorem k34 : Callable Try.prog 34 := ⟨Try.f34, _, Try.func34, rfl, by decide⟩
theorem k35 : Callable Try.prog 35 := ⟨Try.f35, _, Try.func35, rfl, by decide⟩
theorem k36 : Callable Try.prog 36 := ⟨Try.f36, _, Try.func36, rfl, by decide⟩
theorem k37 : Callable Try.prog 37 := ⟨Try.f37, _, Try.func37, rfl, by decide⟩
theorem k38 : Callable Try.prog 38 := ⟨Try.f38, _, Try.func38, rfl, by decide⟩
theorem k39 : Callable Try.prog 39 := ⟨Try.f39, _, Try.func39, rfl, by decide⟩
theorem k40 : Callable Try.prog 40 := ⟨Try.f40, _, Try.func40, rfl, by decide⟩
theorem k41 : Callable Try.prog 41 := ⟨Try.f41, _, Try.func41, rfl, by decide⟩
theorem k42 : Callable Try.prog 42 := ⟨Try.f42, _, Try.func42, rfl, by decide⟩
theorem k43 : Callable Try.prog 43 := ⟨Try.f43, _, Try.func43, rfl, by decide⟩
theorem k44 : Callable Try.prog 44 := ⟨Try.f44, _, Try.func44, rfl, by decide⟩
theorem k45 : Callable Try.prog 45 := ⟨Try.f45, _, Try.func45, rfl, by decide⟩
theorem k46 : Callable Try.prog 46 := ⟨Try.f46, _, Try.func46, rfl, by decide⟩
theorem k47 : Callable Try.prog 47 := ⟨Try.f47, _, Try.func47, rfl, by decide⟩
theorem k48 : Callable Try.prog 48 := ⟨Try.f48, _, Try.func48, rfl, by decide⟩
theorem k49 : Callable Try.prog 49 := ⟨Try.f49, _, Try.func49, rfl, by decide⟩
theorem k50 : Callable Try.prog 50 := ⟨Try.f50, _, Try.func50, rfl, by decide⟩
theorem k51 : Callable Try.prog 51 := ⟨Try.f51, _, Try.func51, rfl, by decide⟩
theorem k52 : Callable Try.prog 52 := ⟨Try.f52, _, Try.func52, rfl, by decide⟩
theorem k53 : Callable Try.prog 53 := ⟨Try.f53, _, Try.func53, rfl, by decide⟩
theorem p24 : bplaces Try.prog 24 = some (fun i => (#[(0, 1), (1, 1)] : Array (Nat × Nat))[i]?) := by kernel_rfl
theorem p29 : bplaces Try.prog 29 = some (fun i => (#[(0, 1), (1, 1)] : Array (Nat × Nat))[i]?) := by kernel_rfl
theorem p46 : bplaces Try.prog 46 = some (fun i => some (i * 1, 1)) := by kernel_rfl
theorem p59 : bplaces Try.prog 59 = some (fun i => (#[(0, 1), (1, 1)] : Array (Nat × Nat))[i]?) := by kernel_rfl
theorem p69 : bplaces Try.prog 69 = some (fun i => (#[(0, 1), (1, 1), (2, 1)] : Array (Nat × Nat))[i]?) := by kernel_rfl
theorem p72 : bplaces Try.prog 72 = some (fun i => (#[(0, 1), (1, 1), (2, 1)] : Array (Nat × Nat))[i]?) := by kernel_rfl
theorem p82 : bplaces Try.prog 82 = some (fun i => (#[(0, 1), (1, 1), (2, 1)] : Array (Nat × Nat))[i]?) := by kernel_rfl
theorem q46 : fkinds Try.prog 46 = some [1, 1, 1, 1] := by kernel_rfl
theorem q72 : fkinds Try.prog 72 = some [1, 1, 1] := by kernel_rfl
theorem r46 : tarr Try.prog 46 = some (4, 3) := by kernel_rfl
theorem s3 : tsize Try.prog 3 = some 1 := by kernel_rfl
theorem s9 : tsize Try.prog 9 = some 1 := by kernel_rfl
theorem s22 : tsize Try.prog 22 = some 1 := by kernel_rfl
theorem s24 : tsize Try.prog 24 = some 2 := by kernel_rfl
theorem s29 : tsize Try.prog 29 = some 2 := by kernel_rfl
theorem s31 : tsize Try.prog 31 = some 1 := by kernel_rfl
theorem s46 : tsize Try.prog 46 = some 4 := by kernel_rfl
theorem s57 : tsize Try.prog 57 = some 1 := by kernel_rfl
theorem s59 : tsize Try.prog 59 = some 2 := by kernel_rfl
theorem s69 : tsize Try.prog 69 = some 3 := by kernel_rfl
theorem s72 : tsize Try.prog 72 = some 3 := by kernel_rfl
theorem s82 : tsize Try.prog 82 = some 3 := by kernel_rfl
theorem u4 : Try.prog.underlying 4 = some (.bool) := by kernel_rfl
theorem u5 : Try.prog.underlying 5 = some (.int .u8) := by kernel_rfl
theorem z3 : tzero Try.prog 3 = some ((.int .i64 0)) := by kernel_rfl
theorem z24 : tzero Try.prog 24 = some ((.agg #[(.slice none 0 0), (.int .i64 0)])) := by kernel_rfl
theorem z29 : tzero Try.prog 29 = some ((.agg #[(.slice none 0 0), (.int .i64 0)])) := by kernel_rfl
theorem z31 : tzero Try.prog 31 = some ((.int .i64 0)) := by kernel_rfl
theorem z46 : tzero Try.prog 46 = some ((.agg #[(.int .i64 0), (.int .i64 0), (.int .i64 0), (.int .i64 0)])) := by kernel_rfl
theorem z59 : tzero Try.prog 59 = some ((.agg #[(.slice none 0 0), (.int .i64 0)])) := by kernel_rfl
theorem z69 : tzero Try.prog 69 = some ((.agg #[(.int .i64 0), (.int .i64 0), (.int .i64 0)])) := by kernel_rfl
theorem z72 : tzero Try.prog 72 = some ((.agg #[(.int .i64 0), (.int .i64 0), (.int .i64 0)])) := by kernel_rfl
theorem z82 : tzero Try.prog 82 = some ((.agg #[(.int .i64 0), (.int .i64 0), (.string ByteArray.empty)])) := by kernel_rfl
theorem mix : Try.prog.follows .mixedOrders = true := by kernel_rfl
end Ty
set_option maxHeartbeats 4000000 in
theorem w03_its_ok {a0 : slab_Slab_int} {r : r03_Slab} (h : w03_its a0 = some r) : PCalls Try.prog 13 [slab_Slab_int.Pv a0] (r03_Slab.Pv r) := by
  unfold w03_its at h
  refine pc_intro (N := 39) Try.func13 rfl rfl (Nat.le_of_ble_eq_true rfl) fun w0 imm0 => ?_
  refine sr (by kernel_rfl) ?_
  refine y1 rfl (o_box (d := slab_Slab_int.Pv a0) (z := 2) (cl := true) rfl rfl rfl rfl rfl) rfl ?_
  refine y1 rfl (o_alloc (d := .agg [.lst false (List.map r03_Cell.Pv []), .int .i64 0]) (z := 2) rfl Ty.z29 rfl rfl rfl) rfl ?_
  refine y_nil ?_
  refine sr (by kernel_rfl) ?_
  refine y0 rfl (o_nslice rfl Ty.e27 Ty.s72) ?_
  refine y0 rfl (o_assign (d := .lst true (List.map r03_Cell.Pv [])) rfl) ?_
  refine y_nil ?_
  obtain ⟨κ8, hκ6, h⟩ := jnE h
  refine pw_jn0 (κ := κ8) (r := r) (fun (j9 : List r03_Cell) => St.of [(1, .ptr 1 0 0), (2, .ptr 2 0 0), (3, .sl 910003)] [(910003, ⟨List.map r03_Cell.Pv j9, (List.map r03_Cell.Pv j9).length, true, 3, true⟩), (2, ⟨[.agg [.lst false (List.map r03_Cell.Pv []), .int .i64 0]], 0, false, 2, true⟩), (1, ⟨[slab_Slab_int.Pv a0], 0, false, 2, true⟩)]) (fun j9 h => ?_) ?_
  · subst hκ6
    refine sr (by kernel_rfl) ?_
    refine y0 rfl (o_move (d := .sl 910003) rfl) ?_
    refine y0 rfl (o_fieldAddrP (k := 1) rfl Ty.f24_1 rfl) ?_
    refine y0 rfl (o_loadS rfl rfl rfl Ty.a3 rfl) ?_
    refine y0 rfl (o_build (cs := [.sl 910003, .int .i64 a0.Last]) rfl Ty.p29 Ty.z29 rfl rfl rfl) ?_
    refine y_sto (x' := .agg [.sl 910003, .int .i64 a0.Last]) (cl' := false) rfl rfl (.inl rfl) Ty.s29 ?_
    refine y_nil ?_
    refine pw_ret ?_
    obtain rfl := Option.some.inj h
    exact ⟨rfl, [_], ⟨o_loadA rfl rfl rfl Ty.a29 Ty.s29 (Nat.le_of_ble_eq_true rfl) rfl, trivial⟩, rfl, by first | exact .inl rfl | exact .inr rfl⟩
  · skip
    refine sr (by kernel_rfl) ?_
    refine y0 rfl (o_assign (d := .int .i64 0) rfl) ?_
    refine y_nil ?_
    refine pw_block ?_
    obtain ⟨e10, hl7, hk8⟩ := bindE h
    refine pw_lp0 (fun (q : Int × (List r03_Cell)) => St.of [(1, .ptr 1 0 0), (2, .ptr 2 0 0), (3, .sl 910003), (4, .int .i64 q.1)] [(2, ⟨[.agg [.lst false (List.map r03_Cell.Pv []), .int .i64 0]], 0, false, 2, true⟩), (1, ⟨[slab_Slab_int.Pv a0], 0, false, 2, true⟩), (910003, ⟨List.map r03_Cell.Pv q.2, (List.map r03_Cell.Pv q.2).length, true, 3, true⟩)]) hl7 (Wk.trans (wk_nil (t := 3) (l := 920003) (z := 3) rfl rfl) (wk_stP (fun l => if l = 910003 then 920003 else l) _ _ ⟨rfl, rfl, rfl, rfl, rfl, rfl, rfl, rfl, rfl, rfl, rfl, rfl, trivial⟩ ⟨rowLe_ren rfl rfl rfl (fun q => nomatch q) rfl rfl rfl, rowLe_ren rfl rfl rfl (fun q => nomatch q) rfl rfl rfl, rowLe_ren rfl rfl rfl (fun _ => rfl) rfl rfl rfl, trivial⟩ rfl)) (fun q14 x13 h hx9 => ?_)
    obtain ⟨s11, s12⟩ := q14
    refine pw_seq ?_
    refine sr (by kernel_rfl) ?_
    refine y0 rfl (o_move (d := .int .i64 s11) rfl) ?_
    refine y0 rfl (o_fieldAddrP (k := 0) rfl Ty.f24_0 rfl) ?_
    refine y0 rfl (o_loadS rfl rfl rfl Ty.a22 rfl) ?_
    refine y0 rfl (o_lnL (f := slab_Cell_int.Pv) rfl Ty.e22) ?_
    refine y0 rfl (o_cmp rfl rfl rfl) ?_
    refine y_nil ?_
    refine pw_cond (decide (s11 < (a0.Cells.length : Int))) rfl (fun hc => ?_) (fun hc => ?_)
    · have h := ifT h hc
      refine pw_skip ?_
      refine pw_seq ?_
      refine pw_block ?_
      refine pw_drw [] Ty.mix (by kernel_rfl) (by kernel_rfl) ?_
      refine d7 rfl (fun _ hN => o_move (d := .sl 910003) rfl) rfl ?_
      refine d7 rfl (fun _ hN => o_fieldAddrP (k := 0) rfl Ty.f24_0 rfl) rfl ?_
      refine d0 rfl (o_loadS rfl rfl rfl Ty.a22 rfl) rfl ?_
      refine d7 rfl (fun _ hN => o_move (d := .int .i64 s11) rfl) rfl ?_
      obtain ⟨v15, hv10, h⟩ := bindE h
      refine d0 rfl (o_ixL (f := slab_Cell_int.Pv) (cs := slab_Cell_int.Pc v15) hv10 rfl rfl Ty.e22 Ty.s69 rfl rfl) rfl ?_
      refine d7 rfl (fun _ hN => o_fieldAddrR rfl Ty.f69_0 rfl) rfl ?_
      refine d0 rfl (o_loadRS rfl Ty.a3 rfl) rfl ?_
      refine d7 rfl (fun _ hN => o_fieldAddrP (k := 0) rfl Ty.f24_0 rfl) rfl ?_
      refine d0 rfl (o_loadS rfl rfl rfl Ty.a22 rfl) rfl ?_
      refine d7 rfl (fun _ hN => o_move (d := .int .i64 s11) rfl) rfl ?_
      refine d0 rfl (o_ixL (f := slab_Cell_int.Pv) (cs := slab_Cell_int.Pc v15) hv10 rfl rfl Ty.e22 Ty.s69 rfl rfl) rfl ?_
      refine d7 rfl (fun _ hN => o_fieldAddrR rfl Ty.f69_1 rfl) rfl ?_
      refine d0 rfl (o_loadRS rfl Ty.a3 rfl) rfl ?_
      refine d7 rfl (fun _ hN => o_fieldAddrP (k := 0) rfl Ty.f24_0 rfl) rfl ?_
      refine d0 rfl (o_loadS rfl rfl rfl Ty.a22 rfl) rfl ?_
      refine d7 rfl (fun _ hN => o_move (d := .int .i64 s11) rfl) rfl ?_
      refine d0 rfl (o_ixL (f := slab_Cell_int.Pv) (cs := slab_Cell_int.Pc v15) hv10 rfl rfl Ty.e22 Ty.s69 rfl rfl) rfl ?_
      refine d7 rfl (fun _ hN => o_fieldAddrR rfl Ty.f69_2 rfl) rfl ?_
      refine d0 rfl (o_loadRS rfl Ty.a3 rfl) rfl ?_
      refine d7 rfl (fun _ hN => o_build (cs := [.int .i64 v15.State, .int .i64 v15.Gen, .int .i64 v15.Val]) rfl Ty.p72 Ty.z72 rfl rfl rfl) rfl ?_
      refine d1n rfl (o_bI (f := r03_Cell.Pv) (l := [(⟨v15.State, v15.Gen, v15.Val⟩ : r03_Cell)]) rfl Ty.e27 Ty.s72 Ty.z72 rfl rfl (Nat.le_of_ble_eq_true rfl) rfl rfl) rfl ?_
      obtain ⟨v16, hv11, h⟩ := bindE h
      refine d3a rfl (o_apR (f := r03_Cell.Pv) hv11 rfl rfl rfl rfl rfl rfl (.inl ⟨_, rfl, rfl⟩) Ty.e27 Ty.s72 Ty.b72 Ty.z72 rfl (fun _ => rfl)) rfl rfl rfl rfl rfl ?_
      refine d7 rfl (fun _ hN => o_assign (d := .sl 34) rfl) rfl ?_
      refine d_nil ?_
      refine sr1 (by kernel_rfl) ?_
      refine y0 rfl (o_move (d := .int .i64 s11) rfl) ?_
      refine y0 rfl (o_ari rfl rfl rfl) ?_
      refine y0 rfl (o_assign (d := .int .i64 (w64 (s11 + 1))) rfl) ?_
      refine y_nil ?_
      exact ⟨rfl, (w64 (s11 + 1), v16), (Option.some.inj h).symm, (Wk.trans (wk_frz _ [34]) (wk_stP (fun l => if l = 910003 then 34 else l) _ _ ⟨rfl, rfl, rfl, rfl, rfl, rfl, rfl, rfl, rfl, rfl, rfl, rfl, trivial⟩ ⟨rowLe_ren rfl rfl rfl (fun q => nomatch q) rfl rfl rfl, rowLe_ren rfl rfl rfl (fun q => nomatch q) rfl rfl rfl, rowLe_ren rfl rfl rfl (fun _ => rfl) rfl rfl rfl, trivial⟩ rfl))⟩
    · have h := ifF h hc
      refine pw_exit ?_
      refine thenQ_exit ?_
      refine thenQ_exit ?_
      refine blockQ_exit ?_
      have he := hx9 _ (Option.some.inj h).symm
      have h := hk8
      rw [← he] at h
      exact ⟨rfl, s12, h, (Wk.trans (wk_frz _ [910003]) (wk_st _ _ ⟨rfl, rfl, rfl, rfl, rfl, rfl, rfl, rfl, rfl, trivial⟩ ⟨rowLe_same rfl rfl rfl (fun _ => rfl) rfl rfl rfl, rowLe_same rfl rfl rfl (fun q => nomatch q) rfl rfl rfl, rowLe_same rfl rfl rfl (fun q => nomatch q) rfl rfl rfl, trivial⟩))⟩

set_option maxHeartbeats 4000000 in
theorem r03_Right_ok {a0 : r03_Slab} {r : Bool} (h : r03_Right a0 = some r) : PCalls Try.prog 35 [r03_Slab.Pv a0] (.bool r) := by
  unfold r03_Right at h
  refine pc_intro (N := 51) Try.func35 rfl rfl (Nat.le_of_ble_eq_true rfl) fun w0 imm0 => ?_
  refine sr (by kernel_rfl) ?_
  refine y1 rfl (o_box (d := r03_Slab.Pv a0) (z := 2) (cl := true) rfl rfl rfl rfl rfl) rfl ?_
  refine y0 rfl (o_assign (d := .bool false) rfl) ?_
  refine y_nil ?_
  refine pw_seq ?_
  refine sr (by kernel_rfl) ?_
  refine y0 rfl (o_fieldAddrP (k := 0) rfl Ty.f29_0 rfl) ?_
  refine y0 rfl (o_loadS rfl rfl rfl Ty.a27 rfl) ?_
  refine y0 rfl (o_lnL (f := r03_Cell.Pv) rfl Ty.e27) ?_
  refine y0 rfl (o_cmp rfl rfl rfl) ?_
  refine y0 rfl (o_move (d := .bool (decide ((a0.Cells.length : Int) > 24))) rfl) ?_
  refine y_if (g := ((decide ((a0.Cells.length : Int) > 24)) == false)) rfl (fun hg => o_fieldAddrP (k := 1) rfl Ty.f29_1 rfl) ?_
  refine y_if (g := ((decide ((a0.Cells.length : Int) > 24)) == false)) rfl (fun hg => o_loadS (ct hg) rfl rfl Ty.a3 rfl) ?_
  refine y_if (g := ((decide ((a0.Cells.length : Int) > 24)) == false)) rfl (fun hg => o_cmp (ct hg) rfl rfl) ?_
  refine y0 rfl (pk_or rfl rfl rfl (fun q => eqF q)) ?_
  refine y0 rfl (o_move (d := .bool ((decide ((a0.Cells.length : Int) > 24)) || (decide (a0.Last < 0)))) rfl) ?_
  refine y_if (g := (((decide ((a0.Cells.length : Int) > 24)) || (decide (a0.Last < 0))) == false)) rfl (fun hg => o_fieldAddrP (k := 1) rfl Ty.f29_1 rfl) ?_
  refine y_if (g := (((decide ((a0.Cells.length : Int) > 24)) || (decide (a0.Last < 0))) == false)) rfl (fun hg => o_loadS (ct hg) rfl rfl Ty.a3 rfl) ?_
  refine y_if (g := (((decide ((a0.Cells.length : Int) > 24)) || (decide (a0.Last < 0))) == false)) rfl (fun hg => o_cmp (ct hg) rfl rfl) ?_
  refine y0 rfl (pk_or rfl rfl rfl (fun q => eqF q)) ?_
  refine y_nil ?_
  refine pw_cond (((decide ((a0.Cells.length : Int) > 24)) || (decide (a0.Last < 0))) || (decide (a0.Last > 9))) rfl (fun hc => ?_) (fun hc => ?_)
  · have h := ifT h hc
    refine sr (by kernel_rfl) ?_
    refine y0 rfl (o_assign (d := .bool false) rfl) ?_
    refine y_nil ?_
    refine pw_ret ?_
    obtain rfl := Option.some.inj h
    exact ⟨rfl, [_], ⟨rfl, trivial⟩, rfl, by first | exact .inl rfl | exact .inr rfl⟩
  · have h := ifF h hc
    refine pw_skip ?_
    obtain ⟨κ5, hκ5, h⟩ := jnE h
    refine pw_jn0 (κ := κ5) (r := r) (fun (_ : Unit) => St.of [] []) (fun q6 h => ?_) ?_
    · subst hκ5
      refine sr (by kernel_rfl) ?_
      refine y0 rfl (o_assign (d := .bool true) rfl) ?_
      refine y_nil ?_
      refine pw_ret ?_
      obtain rfl := Option.some.inj h
      exact ⟨rfl, [_], ⟨rfl, trivial⟩, rfl, by first | exact .inl rfl | exact .inr rfl⟩
    · skip
      refine sr (by kernel_rfl) ?_
      refine y0 rfl (o_assign (d := .int .i64 0) rfl) ?_
      refine y_nil ?_
      refine pw_block ?_
      obtain ⟨e7, hl6, hk7⟩ := bindE h
      refine pw_lp0 (fun (s8 : Int) => St.of [(1, .ptr 1 0 0), (3, .int .i64 s8)] [(1, ⟨[r03_Slab.Pv a0], 0, false, 2, true⟩)]) hl6 (wk_st _ _ ⟨rfl, rfl, rfl, rfl, rfl, rfl, trivial⟩ ⟨rowLe_same rfl rfl rfl (fun q => nomatch q) rfl rfl rfl, trivial⟩) (fun s8 x9 h hx8 => ?_)
      refine pw_seq ?_
      refine sr (by kernel_rfl) ?_
      refine y0 rfl (o_move (d := .int .i64 s8) rfl) ?_
      refine y0 rfl (o_fieldAddrP (k := 0) rfl Ty.f29_0 rfl) ?_
      refine y0 rfl (o_loadS rfl rfl rfl Ty.a27 rfl) ?_
      refine y0 rfl (o_lnL (f := r03_Cell.Pv) rfl Ty.e27) ?_
      refine y0 rfl (o_cmp rfl rfl rfl) ?_
      refine y_nil ?_
      refine pw_cond (decide (s8 < (a0.Cells.length : Int))) rfl (fun hc => ?_) (fun hc => ?_)
      · have h := ifT h hc
        refine pw_skip ?_
        refine pw_seq ?_
        refine pw_block ?_
        refine sr (by kernel_rfl) ?_
        refine y0 rfl (o_fieldAddrP (k := 0) rfl Ty.f29_0 rfl) ?_
        refine y0 rfl (o_loadS rfl rfl rfl Ty.a27 rfl) ?_
        refine y0 rfl (o_move (d := .int .i64 s8) rfl) ?_
        obtain ⟨v10, hv9, h⟩ := bindE h
        refine y0 rfl (o_ixL (f := r03_Cell.Pv) (cs := r03_Cell.Pc v10) hv9 rfl rfl Ty.e27 Ty.s72 rfl rfl) ?_
        refine y0 rfl (o_loadRA (cs := r03_Cell.Pc v10) rfl Ty.a72 Ty.s72 (Nat.le_of_ble_eq_true rfl) rfl) ?_
        refine y1 rfl (o_alloc (d := .agg [.int .i64 0, .int .i64 0, .int .i64 0]) (z := 3) rfl Ty.z72 rfl rfl rfl) rfl ?_
        refine y_sto (x' := r03_Cell.Pv v10) (cl' := true) rfl rfl (.inl rfl) Ty.s72 ?_
        refine y_nil ?_
        refine sr (by kernel_rfl) ?_
        refine y0 rfl (o_fieldAddrP (k := 0) rfl Ty.f72_0 rfl) ?_
        refine y0 rfl (o_loadS rfl rfl rfl Ty.a3 rfl) ?_
        refine y0 rfl (o_cmp rfl rfl rfl) ?_
        refine y0 rfl (o_move (d := .bool (decide (v10.State < 0))) rfl) ?_
        refine y_if (g := ((decide (v10.State < 0)) == false)) rfl (fun hg => o_fieldAddrP (k := 0) rfl Ty.f72_0 rfl) ?_
        refine y_if (g := ((decide (v10.State < 0)) == false)) rfl (fun hg => o_loadS (ct hg) rfl rfl Ty.a3 rfl) ?_
        refine y_if (g := ((decide (v10.State < 0)) == false)) rfl (fun hg => o_cmp (ct hg) rfl rfl) ?_
        refine y0 rfl (pk_or rfl rfl rfl (fun q => eqF q)) ?_
        refine y0 rfl (o_move (d := .bool ((decide (v10.State < 0)) || (decide (v10.State > 3)))) rfl) ?_
        refine y_if (g := (((decide (v10.State < 0)) || (decide (v10.State > 3))) == false)) rfl (fun hg => o_fieldAddrP (k := 1) rfl Ty.f72_1 rfl) ?_
        refine y_if (g := (((decide (v10.State < 0)) || (decide (v10.State > 3))) == false)) rfl (fun hg => o_loadS (ct hg) rfl rfl Ty.a3 rfl) ?_
        refine y_if (g := (((decide (v10.State < 0)) || (decide (v10.State > 3))) == false)) rfl (fun hg => o_cmp (ct hg) rfl rfl) ?_
        refine y0 rfl (pk_or rfl rfl rfl (fun q => eqF q)) ?_
        refine y0 rfl (o_move (d := .bool (((decide (v10.State < 0)) || (decide (v10.State > 3))) || (decide (v10.Gen < 0)))) rfl) ?_
        refine y_if (g := ((((decide (v10.State < 0)) || (decide (v10.State > 3))) || (decide (v10.Gen < 0))) == false)) rfl (fun hg => o_fieldAddrP (k := 1) rfl Ty.f72_1 rfl) ?_
        refine y_if (g := ((((decide (v10.State < 0)) || (decide (v10.State > 3))) || (decide (v10.Gen < 0))) == false)) rfl (fun hg => o_loadS (ct hg) rfl rfl Ty.a3 rfl) ?_
        refine y_if (g := ((((decide (v10.State < 0)) || (decide (v10.State > 3))) || (decide (v10.Gen < 0))) == false)) rfl (fun hg => o_fieldAddrP (k := 1) rfl Ty.f29_1 rfl) ?_
        refine y_if (g := ((((decide (v10.State < 0)) || (decide (v10.State > 3))) || (decide (v10.Gen < 0))) == false)) rfl (fun hg => o_loadS (ct hg) rfl rfl Ty.a3 rfl) ?_
        refine y_if (g := ((((decide (v10.State < 0)) || (decide (v10.State > 3))) || (decide (v10.Gen < 0))) == false)) rfl (fun hg => o_cmp (ct hg) (ct hg) rfl) ?_
        refine y0 rfl (pk_or rfl rfl rfl (fun q => eqF q)) ?_
        refine y_nil ?_
        refine pw_cond ((((decide (v10.State < 0)) || (decide (v10.State > 3))) || (decide (v10.Gen < 0))) || (decide (v10.Gen > a0.Last))) rfl (fun hc => ?_) (fun hc => ?_)
        · have h := ifT h hc
          refine sr (by kernel_rfl) ?_
          refine y0 rfl (o_assign (d := .bool false) rfl) ?_
          refine y_nil ?_
          refine pw_ret ?_
          have he := hx8 _ (Option.some.inj h).symm
          have h := hk7
          rw [← he] at h
          obtain rfl := Option.some.inj h
          exact ⟨rfl, [_], ⟨rfl, trivial⟩, rfl, by first | exact .inl rfl | exact .inr rfl⟩
        · have h := ifF h hc
          refine pw_skip ?_
          refine sr1 (by kernel_rfl) ?_
          refine y0 rfl (o_move (d := .int .i64 s8) rfl) ?_
          refine y0 rfl (o_ari rfl rfl rfl) ?_
          refine y0 rfl (o_assign (d := .int .i64 (w64 (s8 + 1))) rfl) ?_
          refine y_nil ?_
          exact ⟨rfl, w64 (s8 + 1), (Option.some.inj h).symm, (wk_st _ _ ⟨rfl, rfl, rfl, rfl, rfl, rfl, trivial⟩ ⟨rowLe_same rfl rfl rfl (fun q => nomatch q) rfl rfl rfl, trivial⟩)⟩
      · have h := ifF h hc
        refine pw_exit ?_
        refine thenQ_exit ?_
        refine thenQ_exit ?_
        refine blockQ_exit ?_
        have he := hx8 _ (Option.some.inj h).symm
        have h := hk7
        rw [← he] at h
        exact ⟨rfl, (), h, (wk_st _ _ trivial trivial)⟩

set_option maxHeartbeats 4000000 in
theorem w03_right_ok {a0 : slab_Slab_int} {r : Bool} (h : w03_right a0 = some r) : PCalls Try.prog 11 [slab_Slab_int.Pv a0] (.bool r) := by
  unfold w03_right at h
  refine pc_intro (N := 12) Try.func11 rfl rfl (Nat.le_of_ble_eq_true rfl) fun w0 imm0 => ?_
  refine sr (by kernel_rfl) ?_
  refine y1 rfl (o_box (d := slab_Slab_int.Pv a0) (z := 2) (cl := true) rfl rfl rfl rfl rfl) rfl ?_
  refine y0 rfl (o_assign (d := .bool false) rfl) ?_
  refine y_nil ?_
  refine sr (by kernel_rfl) ?_
  refine y0 rfl (o_fieldAddrP (k := 0) rfl Ty.f24_0 rfl) ?_
  refine y0 rfl (o_loadS rfl rfl rfl Ty.a22 rfl) ?_
  refine y0 rfl (o_lnL (f := slab_Cell_int.Pv) rfl Ty.e22) ?_
  refine y0 rfl (o_cmp rfl rfl rfl) ?_
  refine y0 rfl (o_move (d := .bool (decide ((a0.Cells.length : Int) ≤ 24))) rfl) ?_
  refine y_if (g := ((decide ((a0.Cells.length : Int) ≤ 24)) == true)) rfl (fun hg => o_loadA (cs := slab_Slab_int.Pc a0) rfl rfl rfl Ty.a24 Ty.s24 (Nat.le_of_ble_eq_true rfl) rfl) ?_
  obtain ⟨v1, hv1, h⟩ := bindE h
  refine y_ifc (g := ((decide ((a0.Cells.length : Int) ≤ 24)) == true)) rfl (fun hg => o_callF (ls := []) (ds := [slab_Slab_int.Pv a0]) rfl Ty.k13 (consE (ct hg) rfl) (w03_its_ok (onlyE hv1 hg))) ?_
  obtain ⟨v2, hv2, h⟩ := bindE h
  refine y_if (g := ((decide ((a0.Cells.length : Int) ≤ 24)) == true)) rfl (fun hg => o_call (ds := [r03_Slab.Pv v1]) rfl Ty.k35 (consE (ct hg) rfl) (r03_Right_ok (onlyE hv2 hg))) ?_
  refine y0 rfl (pk_and rfl rfl rfl (fun q => eqT q)) ?_
  refine y0 rfl (o_assign (d := .bool ((decide ((a0.Cells.length : Int) ≤ 24)) && v2)) rfl) ?_
  refine y_nil ?_
  refine pw_ret ?_
  obtain rfl := Option.some.inj h
  exact ⟨rfl, [_], ⟨rfl, trivial⟩, rfl, by first | exact .inl rfl | exact .inr rfl⟩

set_option maxHeartbeats 4000000 in
theorem slab_New_int_ok {a0 : Int} {a1 : Int} {r : slab_Slab_int} (h : slab_New_int a0 a1 = some r) : PCalls Try.prog 29 [.int .i64 a0, .int .i64 a1] (slab_Slab_int.Pv r) := by
  unfold slab_New_int at h
  refine pc_intro (N := 24) Try.func29 rfl rfl (Nat.le_of_ble_eq_true rfl) fun w0 imm0 => ?_
  refine sr (by kernel_rfl) ?_
  refine y1 rfl (o_alloc (d := .agg [.lst false (List.map slab_Cell_int.Pv []), .int .i64 0]) (z := 2) rfl Ty.z24 rfl rfl rfl) rfl ?_
  refine y_nil ?_
  refine pw_seq ?_
  refine sr (by kernel_rfl) ?_
  refine y0 rfl (o_move (d := .int .i64 a0) rfl) ?_
  refine y0 rfl (o_cmp rfl rfl rfl) ?_
  refine y0 rfl (o_move (d := .bool (decide (a0 < 0))) rfl) ?_
  refine y_if (g := ((decide (a0 < 0)) == false)) rfl (fun hg => o_move (d := .int .i64 a0) rfl) ?_
  refine y_if (g := ((decide (a0 < 0)) == false)) rfl (fun hg => o_cmp (ct hg) rfl rfl) ?_
  refine y0 rfl (pk_or rfl rfl rfl (fun q => eqF q)) ?_
  refine y0 rfl (o_move (d := .bool ((decide (a0 < 0)) || (decide (a0 > 24)))) rfl) ?_
  refine y_if (g := (((decide (a0 < 0)) || (decide (a0 > 24))) == false)) rfl (fun hg => o_move (d := .int .i64 a1) rfl) ?_
  refine y_if (g := (((decide (a0 < 0)) || (decide (a0 > 24))) == false)) rfl (fun hg => o_cmp (ct hg) rfl rfl) ?_
  refine y0 rfl (pk_or rfl rfl rfl (fun q => eqF q)) ?_
  refine y0 rfl (o_move (d := .bool (((decide (a0 < 0)) || (decide (a0 > 24))) || (decide (a1 < 0)))) rfl) ?_
  refine y_if (g := ((((decide (a0 < 0)) || (decide (a0 > 24))) || (decide (a1 < 0))) == false)) rfl (fun hg => o_move (d := .int .i64 a1) rfl) ?_
  refine y_if (g := ((((decide (a0 < 0)) || (decide (a0 > 24))) || (decide (a1 < 0))) == false)) rfl (fun hg => o_cmp (ct hg) rfl rfl) ?_
  refine y0 rfl (pk_or rfl rfl rfl (fun q => eqF q)) ?_
  refine y_nil ?_
  refine pw_cond ((((decide (a0 < 0)) || (decide (a0 > 24))) || (decide (a1 < 0))) || (decide (a1 > 9))) rfl (fun hc => ?_) (fun hc => ?_)
  · have h := ifT h hc
    refine sr (by kernel_rfl) ?_
    refine y0 rfl (o_build (cs := [.lst false (List.map slab_Cell_int.Pv []), .int .i64 0]) rfl Ty.p24 Ty.z24 rfl rfl rfl) ?_
    refine y_sto (x' := .agg [.lst false (List.map slab_Cell_int.Pv []), .int .i64 0]) (cl' := true) rfl rfl (.inr rfl) Ty.s24 ?_
    refine y_nil ?_
    refine pw_ret ?_
    obtain rfl := Option.some.inj h
    exact ⟨rfl, [_], ⟨o_loadA rfl rfl rfl Ty.a24 Ty.s24 (Nat.le_of_ble_eq_true rfl) rfl, trivial⟩, rfl, by first | exact .inl rfl | exact .inr rfl⟩
  · have h := ifF h hc
    refine pw_skip ?_
    refine sr (by kernel_rfl) ?_
    refine y0 rfl (o_move (d := .int .i64 a0) rfl) ?_
    obtain ⟨v1, hv1, h⟩ := bindE h
    refine y1 rfl (o_mk (f := slab_Cell_int.Pv) hv1 rfl rfl rfl Ty.e22 Ty.s69 Ty.z69 Ty.b69 rfl rfl rfl rfl) rfl ?_
    refine y0 rfl (o_move (d := .int .i64 a1) rfl) ?_
    refine y0 rfl (o_build (cs := [.sl 21, .int .i64 a1]) rfl Ty.p24 Ty.z24 rfl rfl rfl) ?_
    refine y_sto (x' := .agg [.sl 21, .int .i64 a1]) (cl' := false) rfl rfl (.inl rfl) Ty.s24 ?_
    refine y_nil ?_
    refine pw_ret ?_
    obtain rfl := Option.some.inj h
    exact ⟨rfl, [_], ⟨o_loadA rfl rfl rfl Ty.a24 Ty.s24 (Nat.le_of_ble_eq_true rfl) rfl, trivial⟩, rfl, by first | exact .inl rfl | exact .inr rfl⟩

set_option maxHeartbeats 4000000 in
theorem slab_free_int_ok {a0 : slab_Slab_int} {r : slab_Slab_int} (h : slab_free_int a0 = some r) : PCalls Try.prog 36 [slab_Slab_int.Pv a0] (.fn (.func 48) [.rptr (slab_Slab_int.Pc r)]) := by
  unfold slab_free_int at h
  refine pc_intro (N := 4) Try.func36 rfl rfl (Nat.le_of_ble_eq_true rfl) fun w0 imm0 => ?_
  refine sr (by kernel_rfl) ?_
  refine y1 rfl (o_box (d := slab_Slab_int.Pv a0) (z := 2) (cl := true) rfl rfl rfl rfl rfl) rfl ?_
  refine y0 rfl (o_assign (d := .nilfn) rfl) ?_
  refine y_nil ?_
  refine sr (by kernel_rfl) ?_
  refine y0 rfl (o_mkFunc rfl) ?_
  refine y0 rfl (o_assign (d := .fn (.func 48) [.ptr 1 0 0]) rfl) ?_
  refine y_nil ?_
  refine pw_ret ?_
  obtain rfl := Option.some.inj h
  exact ⟨rfl, [_], ⟨rfl, trivial⟩, rfl, by first | exact .inl rfl | exact .inr rfl⟩

set_option maxHeartbeats 4000000 in
theorem slices_Clone_slab_Cell_int_slab_Cell_int_okN {a0 r : List slab_Cell_int} (h : slices_Clone_slab_Cell_int_slab_Cell_int a0 = some r) : PCallsN Try.prog 49 [.lst false (List.map slab_Cell_int.Pv a0)] ⟨List.map slab_Cell_int.Pv r, 0, true, 3, true⟩ := by
  unfold slices_Clone_slab_Cell_int_slab_Cell_int at h
  refine pc_introN (N := 8) Try.func49 rfl rfl (Nat.le_of_ble_eq_true rfl) fun w0 imm0 => ?_
  refine sr (by kernel_rfl) ?_
  refine y0 rfl (o_assign (d := .lst true (List.map slab_Cell_int.Pv [])) rfl) ?_
  refine y_nil ?_
  refine pw_seq ?_
  refine sr (by kernel_rfl) ?_
  refine y0 rfl (o_move (d := .lst false (List.map slab_Cell_int.Pv a0)) rfl) ?_
  refine y_eqnil rfl Ty.e22 fun b hb => ?_
  refine y_nil ?_
  refine pw_cond b rfl (fun hc => ?_) (fun hc => ?_)
  · obtain rfl : a0 = [] := by simpa using hb hc
    refine sr (by kernel_rfl) ?_
    refine y0 rfl (o_assign (d := .lst true (List.map slab_Cell_int.Pv [])) rfl) ?_
    refine y_nil ?_
    refine pw_wk (wk_nil (t := 2) (l := 920000) (z := 3) rfl rfl) ?_
    refine pw_ret ?_
    obtain rfl := Option.some.inj h
    exact ⟨rfl, _, _, rfl, rfl, rfl, rfl⟩
  · refine pw_skip ?_
    refine sr (by kernel_rfl) ?_
    refine y0 rfl (o_nslice rfl Ty.e22 Ty.s69) ?_
    refine y0 rfl (o_move (d := .lst false (List.map slab_Cell_int.Pv a0)) rfl) ?_
    refine y1 rfl (o_apT (f := slab_Cell_int.Pv) h rfl rfl (.inl ⟨_, rfl, rfl⟩) Ty.e22 Ty.s69 Ty.b69 Ty.z69 rfl (fun _ => rfl)) rfl ?_
    refine y0 rfl (o_assign (d := .sl 7) rfl) ?_
    refine y_nil ?_
    refine pw_ret ?_
    exact ⟨rfl, _, _, rfl, rfl, rfl, rfl⟩

set_option maxHeartbeats 4000000 in
theorem slices_Clone_slab_Cell_int_slab_Cell_int_ok {a0 r : List slab_Cell_int} (h : slices_Clone_slab_Cell_int_slab_Cell_int a0 = some r) : PCalls Try.prog 49 [.lst false (List.map slab_Cell_int.Pv a0)] (.lst false (List.map slab_Cell_int.Pv r)) := pcalls_ofN (slices_Clone_slab_Cell_int_slab_Cell_int_okN h) rfl

set_option maxHeartbeats 4000000 in
theorem slab_with_int_ok {a0 : slab_Slab_int} {a1 : Int} {a2 : slab_Cell_int} {r : slab_Slab_int} (h : slab_with_int a0 a1 a2 = some r) : PCalls Try.prog 37 [slab_Slab_int.Pv a0, .int .i64 a1, slab_Cell_int.Pv a2] (slab_Slab_int.Pv r) := by
  unfold slab_with_int at h
  refine pc_intro (N := 17) Try.func37 rfl rfl (Nat.le_of_ble_eq_true rfl) fun w0 imm0 => ?_
  refine sr (by kernel_rfl) ?_
  refine y1 rfl (o_box (d := slab_Slab_int.Pv a0) (z := 2) (cl := true) rfl rfl rfl rfl rfl) rfl ?_
  refine y1 rfl (o_box (d := slab_Cell_int.Pv a2) (z := 3) (cl := true) rfl rfl rfl rfl rfl) rfl ?_
  refine y1 rfl (o_alloc (d := .agg [.lst false (List.map slab_Cell_int.Pv []), .int .i64 0]) (z := 2) rfl Ty.z24 rfl rfl rfl) rfl ?_
  refine y_nil ?_
  refine sr (by kernel_rfl) ?_
  refine y0 rfl (o_fieldAddrP (k := 0) rfl Ty.f24_0 rfl) ?_
  refine y0 rfl (o_loadS rfl rfl rfl Ty.a22 rfl) ?_
  obtain ⟨v1, hv1, h⟩ := bindE h
  refine ycN rfl (o_callN (ls := []) (ds := [.lst false (List.map slab_Cell_int.Pv a0.Cells)]) rfl Ty.k49 rfl (slices_Clone_slab_Cell_int_slab_Cell_int_okN hv1)) rfl rfl ?_
  refine y0 rfl (o_fieldAddrP (k := 0) rfl Ty.f24_0 rfl) ?_
  refine y_sto (x' := .agg [.sl 9, .int .i64 a0.Last]) (cl' := false) rfl rfl (.inl rfl) Ty.s22 ?_
  refine y_nil ?_
  refine sr (by kernel_rfl) ?_
  refine y0 rfl (o_fieldAddrP (k := 0) rfl Ty.f24_0 rfl) ?_
  refine y0 rfl (o_loadS rfl rfl rfl Ty.a22 rfl) ?_
  refine y0 rfl (o_move (d := .int .i64 a1) rfl) ?_
  refine y0 rfl (o_loadA (cs := slab_Cell_int.Pc a2) rfl rfl rfl Ty.a69 Ty.s69 (Nat.le_of_ble_eq_true rfl) rfl) ?_
  obtain ⟨v2, hv2, h⟩ := bindE h
  refine y0 rfl (o_ixR (f := slab_Cell_int.Pv) hv2 rfl rfl rfl rfl Ty.e22 Ty.s69 rfl) ?_
  refine y_stE (f := slab_Cell_int.Pv) (v := a2) hv2 rfl rfl (.inl rfl) Ty.s69 ?_
  refine y_nil ?_
  refine sr (by kernel_rfl) ?_
  refine y0 rfl (o_loadA (cs := [.sl 9, .int .i64 a0.Last]) rfl rfl rfl Ty.a24 Ty.s24 (Nat.le_of_ble_eq_true rfl) rfl) ?_
  refine y_sto (x' := .agg [.sl 9, .int .i64 a0.Last]) (cl' := false) rfl rfl (.inl rfl) Ty.s24 ?_
  refine y_nil ?_
  refine pw_ret ?_
  obtain rfl := Option.some.inj h
  exact ⟨rfl, [_], ⟨o_loadA rfl rfl rfl Ty.a24 Ty.s24 (Nat.le_of_ble_eq_true rfl) rfl, trivial⟩, rfl, by first | exact .inl rfl | exact .inr rfl⟩

set_option maxHeartbeats 4000000 in
theorem handle_Pack_ok {a0 : Int} {a1 : Int} {r : Int} (h : handle_Pack a0 a1 = some r) : PCalls Try.prog 38 [.int .i64 a0, .int .i64 a1] (.int .i64 r) := by
  unfold handle_Pack at h
  refine pc_intro (N := 25) Try.func38 rfl rfl (Nat.le_of_ble_eq_true rfl) fun w0 imm0 => ?_
  refine sr (by kernel_rfl) ?_
  refine y0 rfl (o_assign (d := .int .i64 0) rfl) ?_
  refine y_nil ?_
  refine pw_seq ?_
  refine sr (by kernel_rfl) ?_
  refine y0 rfl (o_move (d := .int .i64 a0) rfl) ?_
  refine y0 rfl (o_cmp rfl rfl rfl) ?_
  refine y0 rfl (o_move (d := .bool (decide (a0 < 0))) rfl) ?_
  refine y_if (g := ((decide (a0 < 0)) == false)) rfl (fun hg => o_move (d := .int .i64 a0) rfl) ?_
  refine y_if (g := ((decide (a0 < 0)) == false)) rfl (fun hg => o_cmp (ct hg) rfl rfl) ?_
  refine y0 rfl (pk_or rfl rfl rfl (fun q => eqF q)) ?_
  refine y0 rfl (o_move (d := .bool ((decide (a0 < 0)) || (decide (a0 ≥ 24)))) rfl) ?_
  refine y_if (g := (((decide (a0 < 0)) || (decide (a0 ≥ 24))) == false)) rfl (fun hg => o_move (d := .int .i64 a1) rfl) ?_
  refine y_if (g := (((decide (a0 < 0)) || (decide (a0 ≥ 24))) == false)) rfl (fun hg => o_cmp (ct hg) rfl rfl) ?_
  refine y0 rfl (pk_or rfl rfl rfl (fun q => eqF q)) ?_
  refine y0 rfl (o_move (d := .bool (((decide (a0 < 0)) || (decide (a0 ≥ 24))) || (decide (a1 < 0)))) rfl) ?_
  refine y_if (g := ((((decide (a0 < 0)) || (decide (a0 ≥ 24))) || (decide (a1 < 0))) == false)) rfl (fun hg => o_move (d := .int .i64 a1) rfl) ?_
  refine y_if (g := ((((decide (a0 < 0)) || (decide (a0 ≥ 24))) || (decide (a1 < 0))) == false)) rfl (fun hg => o_cmp (ct hg) rfl rfl) ?_
  refine y0 rfl (pk_or rfl rfl rfl (fun q => eqF q)) ?_
  refine y_nil ?_
  refine pw_cond ((((decide (a0 < 0)) || (decide (a0 ≥ 24))) || (decide (a1 < 0))) || (decide (a1 > 9))) rfl (fun hc => ?_) (fun hc => ?_)
  · have h := ifT h hc
    refine sr (by kernel_rfl) ?_
    refine y0 rfl (o_assign (d := .int .i64 0) rfl) ?_
    refine y_nil ?_
    refine pw_ret ?_
    obtain rfl := Option.some.inj h
    exact ⟨rfl, [_], ⟨rfl, trivial⟩, rfl, by first | exact .inl rfl | exact .inr rfl⟩
  · have h := ifF h hc
    refine pw_skip ?_
    refine sr (by kernel_rfl) ?_
    refine y0 rfl (o_move (d := .int .i64 a0) rfl) ?_
    refine y0 rfl (o_ari rfl rfl rfl) ?_
    refine y0 rfl (o_ari rfl rfl rfl) ?_
    refine y0 rfl (o_move (d := .int .i64 a1) rfl) ?_
    refine y0 rfl (o_ari rfl rfl rfl) ?_
    refine y0 rfl (o_ari rfl rfl rfl) ?_
    refine y0 rfl (o_assign (d := .int .i64 (w64 ((w64 (1 + (w64 (a0 * 1)))) + (w64 (a1 * 32))))) rfl) ?_
    refine y_nil ?_
    refine pw_ret ?_
    obtain rfl := Option.some.inj h
    exact ⟨rfl, [_], ⟨rfl, trivial⟩, rfl, by first | exact .inl rfl | exact .inr rfl⟩

set_option maxHeartbeats 4000000 in
theorem slab_Take_int_ok {a0 : slab_Slab_int} {a1 : Int} {r : slab_Slab_int × Int × Int} (h : slab_Take_int a0 a1 = some r) : PCalls Try.prog 14 [slab_Slab_int.Pv a0, .int .i64 a1] (.tup [slab_Slab_int.Pv r.1, .int .i64 r.2.1, .int .i64 r.2.2]) := by
  unfold slab_Take_int at h
  refine pc_intro (N := 28) Try.func14 rfl rfl (Nat.le_of_ble_eq_true rfl) fun w0 imm0 => ?_
  refine sr (by kernel_rfl) ?_
  refine y1 rfl (o_box (d := slab_Slab_int.Pv a0) (z := 2) (cl := true) rfl rfl rfl rfl rfl) rfl ?_
  refine y1 rfl (o_box (d := .int .i64 a1) (z := 1) (cl := true) rfl rfl rfl rfl rfl) rfl ?_
  refine y1 rfl (o_alloc (d := .agg [.lst false (List.map slab_Cell_int.Pv []), .int .i64 0]) (z := 2) rfl Ty.z24 rfl rfl rfl) rfl ?_
  refine y1 rfl (o_alloc (d := .int .i64 0) (z := 1) rfl Ty.z3 rfl rfl rfl) rfl ?_
  refine y1 rfl (o_alloc (d := .int .i64 0) (z := 1) rfl Ty.z31 rfl rfl rfl) rfl ?_
  refine y_nil ?_
  obtain ⟨κ9, hκ17, h⟩ := jnE h
  refine pw_jn0 (κ := κ9) (r := r) (fun (_ : Unit) => St.of [(2, .ptr 2005 0 0), (4, .ptr 2003 0 0), (5, .ptr 2002 0 0), (6, .ptr 2001 0 0)] [(2001, ⟨[.int .i64 0], 0, false, 1, true⟩), (2002, ⟨[.int .i64 0], 0, false, 1, true⟩), (2003, ⟨[.agg [.lst false (List.map slab_Cell_int.Pv []), .int .i64 0]], 0, false, 2, true⟩), (2005, ⟨[slab_Slab_int.Pv a0], 0, false, 2, true⟩)]) (fun q10 h => ?_) ?_
  · subst hκ17
    refine sr (by kernel_rfl) ?_
    refine y0 rfl (o_loadA (cs := slab_Slab_int.Pc a0) rfl rfl rfl Ty.a24 Ty.s24 (Nat.le_of_ble_eq_true rfl) rfl) ?_
    refine y_sto (x' := slab_Slab_int.Pv a0) (cl' := true) rfl rfl (.inr rfl) Ty.s24 ?_
    refine y_sto (x' := .int .i64 0) (cl' := true) rfl rfl (.inl rfl) Ty.s3 ?_
    refine y_sto (x' := .int .i64 4) (cl' := true) rfl rfl (.inl rfl) Ty.s31 ?_
    refine y_nil ?_
    refine pw_ret ?_
    obtain rfl := Option.some.inj h
    exact ⟨rfl, [_, _, _], ⟨o_loadA rfl rfl rfl Ty.a24 Ty.s24 (Nat.le_of_ble_eq_true rfl) rfl, ⟨o_loadS rfl rfl rfl Ty.a3 rfl, ⟨o_loadS rfl rfl rfl Ty.a31 rfl, trivial⟩⟩⟩, rfl, by first | exact .inl rfl | exact .inr rfl⟩
  · skip
    refine sr (by kernel_rfl) ?_
    refine y0 rfl (o_loadA (cs := slab_Slab_int.Pc a0) rfl rfl rfl Ty.a24 Ty.s24 (Nat.le_of_ble_eq_true rfl) rfl) ?_
    obtain ⟨v11, hv18, h⟩ := bindE h
    refine yc rfl (o_callF (ls := []) (ds := [slab_Slab_int.Pv a0]) rfl Ty.k36 rfl (slab_free_int_ok hv18)) ?_
    refine y_nil ?_
    refine pw_block ?_
    refine pw_wk (wk_stP (fun l => if l = 2006 then 6 else if l = 2007 then 5 else if l = 2008 then 4 else if l = 2009 then 3 else if l = 2010 then 2 else l) [(2, .ptr 2010 0 0), (3, .ptr 2009 0 0), (4, .ptr 2008 0 0), (5, .ptr 2007 0 0), (6, .ptr 2006 0 0), (10, .fn (.func 48) [.rptr (slab_Slab_int.Pc v11)])] [(2006, ⟨[.int .i64 0], 0, false, 1, true⟩), (2007, ⟨[.int .i64 0], 0, false, 1, true⟩), (2008, ⟨[.agg [.lst false (List.map slab_Cell_int.Pv []), .int .i64 0]], 0, false, 2, true⟩), (2009, ⟨[.int .i64 a1], 0, false, 1, true⟩), (2010, ⟨[slab_Slab_int.Pv a0], 0, false, 2, true⟩)] ⟨rfl, rfl, rfl, rfl, rfl, rfl, rfl, rfl, rfl, rfl, rfl, rfl, rfl, rfl, rfl, rfl, rfl, rfl, trivial⟩ ⟨rowLe_ren rfl rfl rfl (fun q => nomatch q) rfl rfl rfl, rowLe_ren rfl rfl rfl (fun q => nomatch q) rfl rfl rfl, rowLe_ren rfl rfl rfl (fun q => nomatch q) rfl rfl rfl, rowLe_ren rfl rfl rfl (fun q => nomatch q) rfl rfl rfl, rowLe_ren rfl rfl rfl (fun q => nomatch q) rfl rfl rfl, trivial⟩ rfl) ?_
    refine pw_range (fn := Try.f48) (N1 := 23) rfl Try.func48 rfl rfl (Nat.le_of_ble_eq_true rfl) rfl Ty.k48 rfl rfl (fun l19 e20 o21 hR22 => ?_)
    refine sr (by kernel_rfl) ?_
    refine y0 rfl (o_fieldAddrR rfl Ty.f24_0 rfl) ?_
    refine y0 rfl (o_loadRS rfl Ty.a22 rfl) ?_
    refine y0 rfl (o_lnL (f := slab_Cell_int.Pv) rfl Ty.e22) ?_
    refine y0 rfl (o_move (d := .int .i64 0) rfl) ?_
    refine y_nil ?_
    refine pw_block ?_
    obtain ⟨e12, hl23, hk24⟩ := bindE h
    refine pw_lp0 (fun (s13 : Int) => St.of [(1000002, .ptr 2010 0 0), (1000003, .ptr 2009 0 0), (1000004, .ptr 2008 0 0), (1000005, .ptr 2007 0 0), (1000006, .ptr 2006 0 0), (1000010, .fn (.func 48) [.rptr (slab_Slab_int.Pc v11)]), (0, .fn (.yield l19) []), (6, .lst false (List.map slab_Cell_int.Pv v11.Cells)), (7, .int .i64 (v11.Cells.length : Int)), (8, .int .i64 s13)] [(2006, ⟨[.int .i64 0], 0, false, 1, true⟩), (2007, ⟨[.int .i64 0], 0, false, 1, true⟩), (2008, ⟨[.agg [.lst false (List.map slab_Cell_int.Pv []), .int .i64 0]], 0, false, 2, true⟩), (2009, ⟨[.int .i64 a1], 0, false, 1, true⟩), (2010, ⟨[slab_Slab_int.Pv a0], 0, false, 2, true⟩)]) hl23 (wk_st _ _ ⟨rfl, rfl, rfl, rfl, rfl, rfl, rfl, rfl, rfl, rfl, rfl, rfl, rfl, rfl, rfl, rfl, rfl, rfl, rfl, rfl, rfl, rfl, rfl, rfl, rfl, rfl, rfl, rfl, rfl, rfl, trivial⟩ ⟨rowLe_same rfl rfl rfl (fun q => nomatch q) rfl rfl rfl, rowLe_same rfl rfl rfl (fun q => nomatch q) rfl rfl rfl, rowLe_same rfl rfl rfl (fun q => nomatch q) rfl rfl rfl, rowLe_same rfl rfl rfl (fun q => nomatch q) rfl rfl rfl, rowLe_same rfl rfl rfl (fun q => nomatch q) rfl rfl rfl, trivial⟩) (fun s13 x14 h hx25 => ?_)
    refine sr (by kernel_rfl) ?_
    refine y0 rfl (o_cmp rfl rfl rfl) ?_
    refine y_nil ?_
    refine pw_seq ?_
    refine pw_cond (decide (s13 < (v11.Cells.length : Int))) rfl (fun hc => ?_) (fun hc => ?_)
    · have h := ifT h hc
      refine pw_skip ?_
      refine pw_seq ?_
      refine pw_block ?_
      refine sr (by kernel_rfl) ?_
      refine y0 rfl (o_move (d := .int .i64 s13) rfl) ?_
      obtain ⟨v15, hv26, h⟩ := bindE h
      refine y0 rfl (o_ixL (f := slab_Cell_int.Pv) (cs := slab_Cell_int.Pc v15) hv26 rfl rfl Ty.e22 Ty.s69 rfl rfl) ?_
      refine y0 rfl (o_loadRA (cs := slab_Cell_int.Pc v15) rfl Ty.a69 Ty.s69 (Nat.le_of_ble_eq_true rfl) rfl) ?_
      refine y1 rfl (o_alloc (d := .agg [.int .i64 0, .int .i64 0, .int .i64 0]) (z := 3) rfl Ty.z69 rfl rfl rfl) rfl ?_
      refine y0 rfl (o_assign (d := .int .i64 s13) rfl) ?_
      refine y_sto (x' := slab_Cell_int.Pv v15) (cl' := true) rfl rfl (.inl rfl) Ty.s69 ?_
      refine y_nil ?_
      refine sr (by kernel_rfl) ?_
      refine y0 rfl (o_fieldAddrP (k := 0) rfl Ty.f69_0 rfl) ?_
      refine y0 rfl (o_loadS rfl rfl rfl Ty.a3 rfl) ?_
      refine y0 rfl (o_cmp rfl rfl rfl) ?_
      refine y0 rfl (o_move (d := .bool (v15.State == 0)) rfl) ?_
      refine y_if (g := ((v15.State == 0) == true)) rfl (fun hg => o_move (d := .fn (.yield l19) []) rfl) ?_
      refine y_if (g := ((v15.State == 0) == true)) rfl (fun hg => o_move (d := .int .i64 s13) rfl) ?_
      rcases Bool.eq_false_or_eq_true ((v15.State == 0) == true) with hg27 | hg27
      · have h := ifT h hg27
        refine y_wk (wk_st [(1000002, .ptr 2010 0 0), (1000003, .ptr 2009 0 0), (1000004, .ptr 2008 0 0), (1000005, .ptr 2007 0 0), (1000006, .ptr 2006 0 0), (1000010, .fn (.func 48) [.rptr (slab_Slab_int.Pc v11)]), (0, .fn (.yield l19) []), (6, .lst false (List.map slab_Cell_int.Pv v11.Cells)), (7, .int .i64 (v11.Cells.length : Int)), (8, .int .i64 s13), (16, .bool (v15.State == 0)), (17, .fn (.yield l19) []), (18, .int .i64 s13)] [(2006, ⟨[.int .i64 0], 0, false, 1, true⟩), (2007, ⟨[.int .i64 0], 0, false, 1, true⟩), (2008, ⟨[.agg [.lst false (List.map slab_Cell_int.Pv []), .int .i64 0]], 0, false, 2, true⟩), (2009, ⟨[.int .i64 a1], 0, false, 1, true⟩), (2010, ⟨[slab_Slab_int.Pv a0], 0, false, 2, true⟩)] ⟨rfl, rfl, rfl, rfl, rfl, rfl, rfl, rfl, rfl, rfl, rfl, rfl, rfl, rfl, rfl, rfl, rfl, rfl, rfl, rfl, rfl, rfl, rfl, rfl, rfl, rfl, rfl, rfl, rfl, rfl, rfl, rfl, rfl, (ct hg27), rfl, rfl, (ct hg27), rfl, rfl, trivial⟩ ⟨rowLe_same rfl rfl rfl (fun q => nomatch q) rfl rfl rfl, rowLe_same rfl rfl rfl (fun q => nomatch q) rfl rfl rfl, rowLe_same rfl rfl rfl (fun q => nomatch q) rfl rfl rfl, rowLe_same rfl rfl rfl (fun q => nomatch q) rfl rfl rfl, rowLe_same rfl rfl rfl (fun q => nomatch q) rfl rfl rfl, trivial⟩) ?_
        refine y_yield hR22 (congrArg some hg27) rfl rfl rfl rfl rfl (fun e28 o29 o30 => ?_)
        refine sr1 (by kernel_rfl) ?_
        refine y0 rfl (o_assign (d := .int .i64 s13) rfl) ?_
        refine y_nil ?_
        refine ⟨rfl, ?_⟩
        refine pw_block ?_
        refine sr (by kernel_rfl) ?_
        refine y0 rfl (o_fieldAddrP (k := 0) rfl Ty.f24_0 rfl) ?_
        refine y0 rfl (o_loadS rfl rfl rfl Ty.a22 rfl) ?_
        refine y0 rfl (o_move (d := .int .i64 s13) rfl) ?_
        obtain ⟨v16, hv31, h⟩ := bindE h
        refine y0 rfl (o_ixL (f := slab_Cell_int.Pv) (cs := slab_Cell_int.Pc v16) hv31 rfl rfl Ty.e22 Ty.s69 rfl rfl) ?_
        refine y0 rfl (o_fieldAddrR rfl Ty.f69_1 rfl) ?_
        refine y0 rfl (o_loadRS rfl Ty.a3 rfl) ?_
        refine y0 rfl (o_assign (d := .int .i64 v16.Gen) rfl) ?_
        refine y_nil ?_
        refine sr (by kernel_rfl) ?_
        refine y0 rfl (o_loadA (cs := slab_Slab_int.Pc a0) rfl rfl rfl Ty.a24 Ty.s24 (Nat.le_of_ble_eq_true rfl) rfl) ?_
        refine y0 rfl (o_move (d := .int .i64 s13) rfl) ?_
        refine y0 rfl (o_move (d := .int .i64 v16.Gen) rfl) ?_
        refine y0 rfl (o_loadS rfl rfl rfl Ty.a3 rfl) ?_
        refine y0 rfl (o_build (cs := [.int .i64 1, .int .i64 v16.Gen, .int .i64 a1]) rfl Ty.p69 Ty.z69 rfl rfl rfl) ?_
        obtain ⟨v17, hv32, h⟩ := bindE h
        refine yc rfl (o_callF (ls := []) (ds := [slab_Slab_int.Pv a0, .int .i64 s13, .agg [.int .i64 1, .int .i64 v16.Gen, .int .i64 a1]]) rfl Ty.k37 rfl (slab_with_int_ok hv32)) ?_
        refine y0 rfl (o_move (d := .int .i64 s13) rfl) ?_
        refine y0 rfl (o_move (d := .int .i64 v16.Gen) rfl) ?_
        obtain ⟨v18, hv33, h⟩ := bindE h
        refine y0 rfl (o_call (ds := [.int .i64 s13, .int .i64 v16.Gen]) rfl Ty.k38 rfl (handle_Pack_ok hv33)) ?_
        refine y_sto (x' := slab_Slab_int.Pv v17) (cl' := true) rfl rfl (.inr rfl) Ty.s24 ?_
        refine y_sto (x' := .int .i64 v18) (cl' := true) rfl rfl (.inl rfl) Ty.s3 ?_
        refine y_sto (x' := .int .i64 0) (cl' := true) rfl rfl (.inl rfl) Ty.s31 ?_
        refine y_nil ?_
        refine pw_ret ?_
        refine ⟨rfl, ?_⟩
        refine y_wk (wk_st [(1000002, .ptr 2010 0 0), (1000003, .ptr 2009 0 0), (1000004, .ptr 2008 0 0), (1000005, .ptr 2007 0 0), (1000006, .ptr 2006 0 0), (1000010, .fn (.func 48) [.rptr (slab_Slab_int.Pc v11)]), (0, .fn (.yield l19) []), (6, .lst false (List.map slab_Cell_int.Pv v11.Cells)), (7, .int .i64 (v11.Cells.length : Int)), (8, .int .i64 s13), (16, .bool (v15.State == 0)), (19, .bool false)] [(2006, ⟨[.int .i64 0], 0, false, 1, true⟩), (2007, ⟨[.int .i64 v18], 0, false, 1, true⟩), (2008, ⟨[slab_Slab_int.Pv v17], 0, false, 2, true⟩), (2009, ⟨[.int .i64 a1], 0, false, 1, true⟩), (2010, ⟨[slab_Slab_int.Pv a0], 0, false, 2, true⟩)] ⟨rfl, rfl, rfl, rfl, rfl, rfl, rfl, rfl, rfl, rfl, rfl, rfl, rfl, rfl, rfl, rfl, rfl, rfl, rfl, rfl, rfl, rfl, rfl, rfl, rfl, rfl, rfl, rfl, rfl, rfl, rfl, rfl, rfl, rfl, rfl, rfl, trivial⟩ ⟨rowLe_same rfl rfl rfl (fun q => nomatch q) rfl rfl rfl, rowLe_same rfl rfl rfl (fun q => nomatch q) rfl rfl rfl, rowLe_same rfl rfl rfl (fun q => nomatch q) rfl rfl rfl, rowLe_same rfl rfl rfl (fun q => nomatch q) rfl rfl rfl, rowLe_same rfl rfl rfl (fun q => nomatch q) rfl rfl rfl, trivial⟩) ?_
        refine y0 (congrArg some hg27) (o_not rfl rfl) ?_
        refine y0 rfl (pk_andT rfl rfl hg27) ?_
        refine y_nil ?_
        refine pw_cond true rfl (fun _ => ?_) (fun q => nomatch q)
        refine pw_ret ?_
        refine .inr ⟨.ret, rfl, jmpR ?_⟩
        have he := hx25 _ (Option.some.inj h).symm
        have h := hk24
        rw [← he] at h
        obtain rfl := Option.some.inj h
        exact ⟨rfl, [_, _, _], ⟨o_loadA rfl rfl rfl Ty.a24 Ty.s24 (Nat.le_of_ble_eq_true rfl) rfl, ⟨o_loadS rfl rfl rfl Ty.a3 rfl, ⟨o_loadS rfl rfl rfl Ty.a31 rfl, trivial⟩⟩⟩, rfl, by first | exact .inl rfl | exact .inr rfl⟩
      · have h := ifF h hg27
        refine y_skip (congrArg some hg27) ?_
        refine y_skip (congrArg some hg27) ?_
        refine y0 rfl (pk_andF rfl rfl hg27) ?_
        refine y_nil ?_
        refine pw_cond false rfl (fun q => nomatch q) (fun _ => ?_)
        refine pw_skip ?_
        refine sr1 (by kernel_rfl) ?_
        refine y0 rfl (o_ari rfl rfl rfl) ?_
        refine y0 rfl (o_move (d := .int .i64 (w64 (s13 + 1))) rfl) ?_
        refine y_nil ?_
        exact ⟨rfl, w64 (s13 + 1), (Option.some.inj h).symm, (wk_st _ _ ⟨rfl, rfl, rfl, rfl, rfl, rfl, rfl, rfl, rfl, rfl, rfl, rfl, rfl, rfl, rfl, rfl, rfl, rfl, rfl, rfl, rfl, rfl, rfl, rfl, rfl, rfl, rfl, rfl, rfl, rfl, trivial⟩ ⟨rowLe_same rfl rfl rfl (fun q => nomatch q) rfl rfl rfl, rowLe_same rfl rfl rfl (fun q => nomatch q) rfl rfl rfl, rowLe_same rfl rfl rfl (fun q => nomatch q) rfl rfl rfl, rowLe_same rfl rfl rfl (fun q => nomatch q) rfl rfl rfl, rowLe_same rfl rfl rfl (fun q => nomatch q) rfl rfl rfl, trivial⟩)⟩
    · have h := ifF h hc
      refine pw_exit ?_
      refine thenQ_exit ?_
      refine thenQ_exit ?_
      refine blockQ_exit ?_
      refine .inl ⟨rfl, ?_⟩
      have he := hx25 _ (Option.some.inj h).symm
      have h := hk24
      rw [← he] at h
      exact ⟨rfl, (), h, (wk_stP (fun l => if l = 2005 then 2010 else if l = 2003 then 2008 else if l = 2002 then 2007 else if l = 2001 then 2006 else l) _ _ ⟨rfl, rfl, rfl, rfl, rfl, rfl, rfl, rfl, rfl, rfl, rfl, rfl, trivial⟩ ⟨rowLe_ren rfl rfl rfl (fun q => nomatch q) rfl rfl rfl, rowLe_ren rfl rfl rfl (fun q => nomatch q) rfl rfl rfl, rowLe_ren rfl rfl rfl (fun q => nomatch q) rfl rfl rfl, rowLe_ren rfl rfl rfl (fun q => nomatch q) rfl rfl rfl, trivial⟩ rfl)⟩

set_option maxHeartbeats 4000000 in
theorem handle_parts_ok {a0 : Int} {r : Int × Int × Bool} (h : handle_parts a0 = some r) : PCalls Try.prog 50 [.int .i64 a0] (.tup [.int .i64 r.1, .int .i64 r.2.1, .bool r.2.2]) := by
  unfold handle_parts at h
  refine pc_intro (N := 22) Try.func50 rfl rfl (Nat.le_of_ble_eq_true rfl) fun w0 imm0 => ?_
  refine sr (by kernel_rfl) ?_
  refine y0 rfl (o_assign (d := .int .i64 0) rfl) ?_
  refine y0 rfl (o_assign (d := .int .i64 0) rfl) ?_
  refine y0 rfl (o_assign (d := .bool false) rfl) ?_
  refine y_nil ?_
  refine pw_seq ?_
  refine sr (by kernel_rfl) ?_
  refine y0 rfl (o_move (d := .int .i64 a0) rfl) ?_
  refine y0 rfl (o_cmp rfl rfl rfl) ?_
  refine y_nil ?_
  refine pw_cond (decide (a0 < 1)) rfl (fun hc => ?_) (fun hc => ?_)
  · have h := ifT h hc
    refine sr (by kernel_rfl) ?_
    refine y0 rfl (o_assign (d := .int .i64 (-1)) rfl) ?_
    refine y0 rfl (o_assign (d := .int .i64 (-1)) rfl) ?_
    refine y0 rfl (o_assign (d := .bool false) rfl) ?_
    refine y_nil ?_
    refine pw_ret ?_
    obtain rfl := Option.some.inj h
    exact ⟨rfl, [_, _, _], ⟨rfl, ⟨rfl, ⟨rfl, trivial⟩⟩⟩, rfl, by first | exact .inl rfl | exact .inr rfl⟩
  · have h := ifF h hc
    refine pw_skip ?_
    refine sr (by kernel_rfl) ?_
    refine y0 rfl (o_move (d := .int .i64 a0) rfl) ?_
    refine y0 rfl (o_ari rfl rfl rfl) ?_
    obtain ⟨v1, hv1, h⟩ := bindE h
    refine y0 rfl (o_ari rfl rfl hv1) ?_
    obtain ⟨v2, hv2, h⟩ := bindE h
    refine y0 rfl (o_ari rfl rfl hv2) ?_
    refine y0 rfl (o_move (d := .int .i64 a0) rfl) ?_
    refine y0 rfl (o_ari rfl rfl rfl) ?_
    obtain ⟨v3, hv3, h⟩ := bindE h
    refine y0 rfl (o_ari rfl rfl hv3) ?_
    refine y0 rfl (o_assign (d := .int .i64 v2) rfl) ?_
    refine y0 rfl (o_assign (d := .int .i64 v3) rfl) ?_
    refine y_nil ?_
    refine pw_seq ?_
    refine sr (by kernel_rfl) ?_
    refine y0 rfl (o_move (d := .int .i64 v2) rfl) ?_
    refine y0 rfl (o_cmp rfl rfl rfl) ?_
    refine y0 rfl (o_move (d := .bool (decide (v2 ≥ 24))) rfl) ?_
    refine y_if (g := ((decide (v2 ≥ 24)) == false)) rfl (fun hg => o_move (d := .int .i64 v3) rfl) ?_
    refine y_if (g := ((decide (v2 ≥ 24)) == false)) rfl (fun hg => o_cmp (ct hg) rfl rfl) ?_
    refine y0 rfl (pk_or rfl rfl rfl (fun q => eqF q)) ?_
    refine y_nil ?_
    refine pw_cond ((decide (v2 ≥ 24)) || (decide (v3 > 9))) rfl (fun hc => ?_) (fun hc => ?_)
    · have h := ifT h hc
      refine sr (by kernel_rfl) ?_
      refine y0 rfl (o_assign (d := .int .i64 (-1)) rfl) ?_
      refine y0 rfl (o_assign (d := .int .i64 (-1)) rfl) ?_
      refine y0 rfl (o_assign (d := .bool false) rfl) ?_
      refine y_nil ?_
      refine pw_ret ?_
      obtain rfl := Option.some.inj h
      exact ⟨rfl, [_, _, _], ⟨rfl, ⟨rfl, ⟨rfl, trivial⟩⟩⟩, rfl, by first | exact .inl rfl | exact .inr rfl⟩
    · have h := ifF h hc
      refine pw_skip ?_
      refine sr (by kernel_rfl) ?_
      refine y0 rfl (o_move (d := .int .i64 v2) rfl) ?_
      refine y0 rfl (o_move (d := .int .i64 v3) rfl) ?_
      refine y0 rfl (o_assign (d := .int .i64 v2) rfl) ?_
      refine y0 rfl (o_assign (d := .int .i64 v3) rfl) ?_
      refine y0 rfl (o_assign (d := .bool true) rfl) ?_
      refine y_nil ?_
      refine pw_ret ?_
      obtain rfl := Option.some.inj h
      exact ⟨rfl, [_, _, _], ⟨rfl, ⟨rfl, ⟨rfl, trivial⟩⟩⟩, rfl, by first | exact .inl rfl | exact .inr rfl⟩

set_option maxHeartbeats 4000000 in
theorem handle_Slot_ok {a0 : Int} {r : Int} (h : handle_Slot a0 = some r) : PCalls Try.prog 41 [.int .i64 a0] (.int .i64 r) := by
  unfold handle_Slot at h
  refine pc_intro (N := 13) Try.func41 rfl rfl (Nat.le_of_ble_eq_true rfl) fun w0 imm0 => ?_
  refine sr (by kernel_rfl) ?_
  refine y0 rfl (o_assign (d := .int .i64 0) rfl) ?_
  refine y_nil ?_
  refine sr (by kernel_rfl) ?_
  refine y0 rfl (o_move (d := .int .i64 a0) rfl) ?_
  obtain ⟨v1, hv1, h⟩ := bindE h
  refine y0 rfl (o_call (ds := [.int .i64 a0]) rfl Ty.k50 rfl (handle_parts_ok hv1)) ?_
  refine y0 rfl (o_move (d := .tup [.int .i64 v1.1, .int .i64 v1.2.1, .bool v1.2.2]) rfl) ?_
  refine y0 rfl (o_extract rfl rfl) ?_
  refine y0 rfl (o_extract rfl rfl) ?_
  refine y0 rfl (o_extract rfl rfl) ?_
  refine y0 rfl (o_assign (d := .int .i64 v1.1) rfl) ?_
  refine y0 rfl (o_assign (d := .int .i64 v1.2.1) rfl) ?_
  refine y0 rfl (o_assign (d := .bool v1.2.2) rfl) ?_
  refine y_nil ?_
  refine sr (by kernel_rfl) ?_
  refine y0 rfl (o_move (d := .int .i64 v1.1) rfl) ?_
  refine y0 rfl (o_assign (d := .int .i64 v1.1) rfl) ?_
  refine y_nil ?_
  refine pw_ret ?_
  obtain rfl := Option.some.inj h
  exact ⟨rfl, [_], ⟨rfl, trivial⟩, rfl, by first | exact .inl rfl | exact .inr rfl⟩

set_option maxHeartbeats 4000000 in
theorem handle_Gen_ok {a0 : Int} {r : Int} (h : handle_Gen a0 = some r) : PCalls Try.prog 42 [.int .i64 a0] (.int .i64 r) := by
  unfold handle_Gen at h
  refine pc_intro (N := 13) Try.func42 rfl rfl (Nat.le_of_ble_eq_true rfl) fun w0 imm0 => ?_
  refine sr (by kernel_rfl) ?_
  refine y0 rfl (o_assign (d := .int .i64 0) rfl) ?_
  refine y_nil ?_
  refine sr (by kernel_rfl) ?_
  refine y0 rfl (o_move (d := .int .i64 a0) rfl) ?_
  obtain ⟨v1, hv1, h⟩ := bindE h
  refine y0 rfl (o_call (ds := [.int .i64 a0]) rfl Ty.k50 rfl (handle_parts_ok hv1)) ?_
  refine y0 rfl (o_move (d := .tup [.int .i64 v1.1, .int .i64 v1.2.1, .bool v1.2.2]) rfl) ?_
  refine y0 rfl (o_extract rfl rfl) ?_
  refine y0 rfl (o_extract rfl rfl) ?_
  refine y0 rfl (o_extract rfl rfl) ?_
  refine y0 rfl (o_assign (d := .int .i64 v1.1) rfl) ?_
  refine y0 rfl (o_assign (d := .int .i64 v1.2.1) rfl) ?_
  refine y0 rfl (o_assign (d := .bool v1.2.2) rfl) ?_
  refine y_nil ?_
  refine sr (by kernel_rfl) ?_
  refine y0 rfl (o_move (d := .int .i64 v1.2.1) rfl) ?_
  refine y0 rfl (o_assign (d := .int .i64 v1.2.1) rfl) ?_
  refine y_nil ?_
  refine pw_ret ?_
  obtain rfl := Option.some.inj h
  exact ⟨rfl, [_], ⟨rfl, trivial⟩, rfl, by first | exact .inl rfl | exact .inr rfl⟩

set_option maxHeartbeats 4000000 in
theorem slab_Find_int_ok {a0 : slab_Slab_int} {a1 : Int} {r : Int × Int} (h : slab_Find_int a0 a1 = some r) : PCalls Try.prog 16 [slab_Slab_int.Pv a0, .int .i64 a1] (.tup [.int .i64 r.1, .int .i64 r.2]) := by
  unfold slab_Find_int at h
  refine pc_intro (N := 42) Try.func16 rfl rfl (Nat.le_of_ble_eq_true rfl) fun w0 imm0 => ?_
  refine sr (by kernel_rfl) ?_
  refine y1 rfl (o_box (d := slab_Slab_int.Pv a0) (z := 2) (cl := true) rfl rfl rfl rfl rfl) rfl ?_
  refine y0 rfl (o_assign (d := .int .i64 0) rfl) ?_
  refine y0 rfl (o_assign (d := .int .i64 0) rfl) ?_
  refine y_nil ?_
  refine pw_seq ?_
  refine sr (by kernel_rfl) ?_
  refine y0 rfl (o_move (d := .int .i64 a1) rfl) ?_
  refine y0 rfl (o_cmp rfl rfl rfl) ?_
  refine y_nil ?_
  refine pw_cond (a1 == 0) rfl (fun hc => ?_) (fun hc => ?_)
  · have h := ifT h hc
    refine sr (by kernel_rfl) ?_
    refine y0 rfl (o_assign (d := .int .i64 (-1)) rfl) ?_
    refine y0 rfl (o_assign (d := .int .i64 2) rfl) ?_
    refine y_nil ?_
    refine pw_ret ?_
    obtain rfl := Option.some.inj h
    exact ⟨rfl, [_, _], ⟨rfl, ⟨rfl, trivial⟩⟩, rfl, by first | exact .inl rfl | exact .inr rfl⟩
  · have h := ifF h hc
    refine pw_skip ?_
    refine sr (by kernel_rfl) ?_
    refine y0 rfl (o_move (d := .int .i64 a1) rfl) ?_
    obtain ⟨v1, hv1, h⟩ := bindE h
    refine y0 rfl (o_call (ds := [.int .i64 a1]) rfl Ty.k41 rfl (handle_Slot_ok hv1)) ?_
    refine y0 rfl (o_assign (d := .int .i64 v1) rfl) ?_
    refine y_nil ?_
    refine pw_seq ?_
    refine sr (by kernel_rfl) ?_
    refine y0 rfl (o_move (d := .int .i64 v1) rfl) ?_
    refine y0 rfl (o_cmp rfl rfl rfl) ?_
    refine y0 rfl (o_move (d := .bool (decide (v1 < 0))) rfl) ?_
    refine y_if (g := ((decide (v1 < 0)) == false)) rfl (fun hg => o_move (d := .int .i64 v1) rfl) ?_
    refine y_if (g := ((decide (v1 < 0)) == false)) rfl (fun hg => o_fieldAddrP (k := 0) rfl Ty.f24_0 rfl) ?_
    refine y_if (g := ((decide (v1 < 0)) == false)) rfl (fun hg => o_loadS (ct hg) rfl rfl Ty.a22 rfl) ?_
    refine y_if (g := ((decide (v1 < 0)) == false)) rfl (fun hg => o_lnL (f := slab_Cell_int.Pv) (ct hg) Ty.e22) ?_
    refine y_if (g := ((decide (v1 < 0)) == false)) rfl (fun hg => o_cmp (ct hg) (ct hg) rfl) ?_
    refine y0 rfl (pk_or rfl rfl rfl (fun q => eqF q)) ?_
    refine y_nil ?_
    refine pw_cond ((decide (v1 < 0)) || (decide (v1 ≥ (a0.Cells.length : Int)))) rfl (fun hc => ?_) (fun hc => ?_)
    · have h := ifT h hc
      refine sr (by kernel_rfl) ?_
      refine y0 rfl (o_assign (d := .int .i64 (-1)) rfl) ?_
      refine y0 rfl (o_assign (d := .int .i64 3) rfl) ?_
      refine y_nil ?_
      refine pw_ret ?_
      obtain rfl := Option.some.inj h
      exact ⟨rfl, [_, _], ⟨rfl, ⟨rfl, trivial⟩⟩, rfl, by first | exact .inl rfl | exact .inr rfl⟩
    · have h := ifF h hc
      refine pw_skip ?_
      refine sr (by kernel_rfl) ?_
      refine y0 rfl (o_fieldAddrP (k := 0) rfl Ty.f24_0 rfl) ?_
      refine y0 rfl (o_loadS rfl rfl rfl Ty.a22 rfl) ?_
      refine y0 rfl (o_move (d := .int .i64 v1) rfl) ?_
      obtain ⟨v2, hv2, h⟩ := bindE h
      refine y0 rfl (o_ixL (f := slab_Cell_int.Pv) (cs := slab_Cell_int.Pc v2) hv2 rfl rfl Ty.e22 Ty.s69 rfl rfl) ?_
      refine y0 rfl (o_loadRA (cs := slab_Cell_int.Pc v2) rfl Ty.a69 Ty.s69 (Nat.le_of_ble_eq_true rfl) rfl) ?_
      refine y1 rfl (o_alloc (d := .agg [.int .i64 0, .int .i64 0, .int .i64 0]) (z := 3) rfl Ty.z69 rfl rfl rfl) rfl ?_
      refine y_sto (x' := slab_Cell_int.Pv v2) (cl' := true) rfl rfl (.inl rfl) Ty.s69 ?_
      refine y_nil ?_
      refine pw_seq ?_
      refine dr [] Ty.mix (by kernel_rfl) (by kernel_rfl) ?_
      refine d7 rfl (fun _ hN => o_fieldAddrP (k := 1) rfl Ty.f69_1 rfl) rfl ?_
      refine d0 rfl (o_loadS rfl rfl rfl Ty.a3 rfl) rfl ?_
      refine d7 rfl (fun _ hN => o_move (d := .int .i64 a1) rfl) rfl ?_
      obtain ⟨v3, hv3, h⟩ := bindE h
      refine d2 rfl (o_call (ds := [.int .i64 a1]) rfl Ty.k42 rfl (handle_Gen_ok hv3)) rfl ?_
      refine d7 rfl (fun _ hN => o_cmp rfl rfl rfl) rfl ?_
      refine d7 rfl (fun _ hN => o_move (d := .bool (v2.Gen != v3)) rfl) rfl ?_
      refine d_if7 (g := ((v2.Gen != v3) == false)) rfl (fun hg _ hN => o_fieldAddrP (k := 0) rfl Ty.f69_0 rfl) rfl ?_
      refine d_if0 (g := ((v2.Gen != v3) == false)) rfl (fun hg => o_loadS (ct hg) rfl rfl Ty.a3 rfl) rfl ?_
      refine d_if7 (g := ((v2.Gen != v3) == false)) rfl (fun hg _ hN => o_cmp (ct hg) rfl rfl) rfl ?_
      refine d_if7 (g := ((v2.Gen != v3) == false)) rfl (fun hg _ hN => o_move (d := .bool (v2.State != 1)) (ct hg)) rfl ?_
      refine d_if7 (g := (((v2.Gen != v3) == false) && ((v2.State != 1) == true))) (want2 rfl rfl rfl) (fun hg _ hN => o_fieldAddrP (k := 0) rfl Ty.f69_0 rfl) rfl ?_
      refine d_if0 (g := (((v2.Gen != v3) == false) && ((v2.State != 1) == true))) (want2 rfl rfl rfl) (fun hg => o_loadS (ct hg) rfl rfl Ty.a3 rfl) rfl ?_
      refine d_if7 (g := (((v2.Gen != v3) == false) && ((v2.State != 1) == true))) (want2 rfl rfl rfl) (fun hg _ hN => o_cmp (ct hg) rfl rfl) rfl ?_
      refine d_if7 (g := ((v2.Gen != v3) == false)) rfl (fun hg _ hN => pk_and (ct hg) rfl rfl (fun q => andI hg (eqT q))) rfl ?_
      refine d7 rfl (fun _ hN => pk_or rfl rfl rfl (fun q => eqF q)) rfl ?_
      refine d_nil ?_
      refine pw_cond ((v2.Gen != v3) || ((v2.State != 1) && (v2.State != 2))) rfl (fun hc => ?_) (fun hc => ?_)
      · have h := ifT h hc
        refine sr (by kernel_rfl) ?_
        refine y0 rfl (o_assign (d := .int .i64 (-1)) rfl) ?_
        refine y0 rfl (o_assign (d := .int .i64 3) rfl) ?_
        refine y_nil ?_
        refine pw_ret ?_
        obtain rfl := Option.some.inj h
        exact ⟨rfl, [_, _], ⟨rfl, ⟨rfl, trivial⟩⟩, rfl, by first | exact .inl rfl | exact .inr rfl⟩
      · have h := ifF h hc
        refine pw_skip ?_
        refine sr (by kernel_rfl) ?_
        refine y0 rfl (o_move (d := .int .i64 v1) rfl) ?_
        refine y0 rfl (o_assign (d := .int .i64 v1) rfl) ?_
        refine y0 rfl (o_assign (d := .int .i64 0) rfl) ?_
        refine y_nil ?_
        refine pw_ret ?_
        obtain rfl := Option.some.inj h
        exact ⟨rfl, [_, _], ⟨rfl, ⟨rfl, trivial⟩⟩, rfl, by first | exact .inl rfl | exact .inr rfl⟩

set_option maxHeartbeats 4000000 in
theorem slab_Get_int_ok {a0 : slab_Slab_int} {a1 : Int} {r : Int × Int} (h : slab_Get_int a0 a1 = some r) : PCalls Try.prog 18 [slab_Slab_int.Pv a0, .int .i64 a1] (.tup [.int .i64 r.1, .int .i64 r.2]) := by
  unfold slab_Get_int at h
  refine pc_intro (N := 33) Try.func18 rfl rfl (Nat.le_of_ble_eq_true rfl) fun w0 imm0 => ?_
  refine sr (by kernel_rfl) ?_
  refine y1 rfl (o_box (d := slab_Slab_int.Pv a0) (z := 2) (cl := true) rfl rfl rfl rfl rfl) rfl ?_
  refine y0 rfl (o_assign (d := .int .i64 0) rfl) ?_
  refine y0 rfl (o_assign (d := .int .i64 0) rfl) ?_
  refine y_nil ?_
  refine sr (by kernel_rfl) ?_
  refine y0 rfl (o_assign (d := .int .i64 0) rfl) ?_
  refine y_nil ?_
  refine sr (by kernel_rfl) ?_
  refine y0 rfl (o_loadA (cs := slab_Slab_int.Pc a0) rfl rfl rfl Ty.a24 Ty.s24 (Nat.le_of_ble_eq_true rfl) rfl) ?_
  refine y0 rfl (o_move (d := .int .i64 a1) rfl) ?_
  obtain ⟨v1, hv1, h⟩ := bindE h
  refine y0 rfl (o_call (ds := [slab_Slab_int.Pv a0, .int .i64 a1]) rfl Ty.k16 rfl (slab_Find_int_ok hv1)) ?_
  refine y0 rfl (o_move (d := .tup [.int .i64 v1.1, .int .i64 v1.2]) rfl) ?_
  refine y0 rfl (o_extract rfl rfl) ?_
  refine y0 rfl (o_extract rfl rfl) ?_
  refine y0 rfl (o_assign (d := .int .i64 v1.1) rfl) ?_
  refine y0 rfl (o_assign (d := .int .i64 v1.2) rfl) ?_
  refine y_nil ?_
  refine pw_seq ?_
  refine sr (by kernel_rfl) ?_
  refine y0 rfl (o_move (d := .int .i64 v1.2) rfl) ?_
  refine y0 rfl (o_cmp rfl rfl rfl) ?_
  refine y_nil ?_
  refine pw_cond (v1.2 != 0) rfl (fun hc => ?_) (fun hc => ?_)
  · have h := ifT h hc
    refine sr (by kernel_rfl) ?_
    refine y0 rfl (o_move (d := .int .i64 0) rfl) ?_
    refine y0 rfl (o_move (d := .int .i64 v1.2) rfl) ?_
    refine y0 rfl (o_assign (d := .int .i64 0) rfl) ?_
    refine y0 rfl (o_assign (d := .int .i64 v1.2) rfl) ?_
    refine y_nil ?_
    refine pw_ret ?_
    obtain rfl := Option.some.inj h
    exact ⟨rfl, [_, _], ⟨rfl, ⟨rfl, trivial⟩⟩, rfl, by first | exact .inl rfl | exact .inr rfl⟩
  · have h := ifF h hc
    refine pw_skip ?_
    refine pw_seq ?_
    refine sr (by kernel_rfl) ?_
    refine y0 rfl (o_fieldAddrP (k := 0) rfl Ty.f24_0 rfl) ?_
    refine y0 rfl (o_loadS rfl rfl rfl Ty.a22 rfl) ?_
    refine y0 rfl (o_move (d := .int .i64 v1.1) rfl) ?_
    obtain ⟨v2, hv2, h⟩ := bindE h
    refine y0 rfl (o_ixL (f := slab_Cell_int.Pv) (cs := slab_Cell_int.Pc v2) hv2 rfl rfl Ty.e22 Ty.s69 rfl rfl) ?_
    refine y0 rfl (o_fieldAddrR rfl Ty.f69_0 rfl) ?_
    refine y0 rfl (o_loadRS rfl Ty.a3 rfl) ?_
    refine y0 rfl (o_cmp rfl rfl rfl) ?_
    refine y_nil ?_
    refine pw_cond (v2.State == 2) rfl (fun hc => ?_) (fun hc => ?_)
    · have h := ifT h hc
      refine sr (by kernel_rfl) ?_
      refine y0 rfl (o_move (d := .int .i64 0) rfl) ?_
      refine y0 rfl (o_assign (d := .int .i64 0) rfl) ?_
      refine y0 rfl (o_assign (d := .int .i64 3) rfl) ?_
      refine y_nil ?_
      refine pw_ret ?_
      obtain rfl := Option.some.inj h
      exact ⟨rfl, [_, _], ⟨rfl, ⟨rfl, trivial⟩⟩, rfl, by first | exact .inl rfl | exact .inr rfl⟩
    · have h := ifF h hc
      refine pw_skip ?_
      refine sr (by kernel_rfl) ?_
      refine y0 rfl (o_fieldAddrP (k := 0) rfl Ty.f24_0 rfl) ?_
      refine y0 rfl (o_loadS rfl rfl rfl Ty.a22 rfl) ?_
      refine y0 rfl (o_move (d := .int .i64 v1.1) rfl) ?_
      refine y0 rfl (o_ixL (f := slab_Cell_int.Pv) (cs := slab_Cell_int.Pc v2) hv2 rfl rfl Ty.e22 Ty.s69 rfl rfl) ?_
      refine y0 rfl (o_fieldAddrR rfl Ty.f69_2 rfl) ?_
      refine y0 rfl (o_loadRS rfl Ty.a3 rfl) ?_
      refine y0 rfl (o_assign (d := .int .i64 v2.Val) rfl) ?_
      refine y0 rfl (o_assign (d := .int .i64 0) rfl) ?_
      refine y_nil ?_
      refine pw_ret ?_
      obtain rfl := Option.some.inj h
      exact ⟨rfl, [_, _], ⟨rfl, ⟨rfl, trivial⟩⟩, rfl, by first | exact .inl rfl | exact .inr rfl⟩

set_option maxHeartbeats 4000000 in
theorem slab_Give_int_ok {a0 : slab_Slab_int} {a1 : Int} {r : slab_Slab_int × Int} (h : slab_Give_int a0 a1 = some r) : PCalls Try.prog 25 [slab_Slab_int.Pv a0, .int .i64 a1] (.tup [slab_Slab_int.Pv r.1, .int .i64 r.2]) := by
  unfold slab_Give_int at h
  refine pc_intro (N := 40) Try.func25 rfl rfl (Nat.le_of_ble_eq_true rfl) fun w0 imm0 => ?_
  refine sr (by kernel_rfl) ?_
  refine y1 rfl (o_box (d := slab_Slab_int.Pv a0) (z := 2) (cl := true) rfl rfl rfl rfl rfl) rfl ?_
  refine y1 rfl (o_alloc (d := .agg [.lst false (List.map slab_Cell_int.Pv []), .int .i64 0]) (z := 2) rfl Ty.z24 rfl rfl rfl) rfl ?_
  refine y0 rfl (o_assign (d := .int .i64 0) rfl) ?_
  refine y_nil ?_
  refine sr (by kernel_rfl) ?_
  refine y0 rfl (o_loadA (cs := slab_Slab_int.Pc a0) rfl rfl rfl Ty.a24 Ty.s24 (Nat.le_of_ble_eq_true rfl) rfl) ?_
  refine y0 rfl (o_move (d := .int .i64 a1) rfl) ?_
  obtain ⟨v1, hv1, h⟩ := bindE h
  refine y0 rfl (o_call (ds := [slab_Slab_int.Pv a0, .int .i64 a1]) rfl Ty.k16 rfl (slab_Find_int_ok hv1)) ?_
  refine y0 rfl (o_move (d := .tup [.int .i64 v1.1, .int .i64 v1.2]) rfl) ?_
  refine y0 rfl (o_extract rfl rfl) ?_
  refine y0 rfl (o_extract rfl rfl) ?_
  refine y0 rfl (o_assign (d := .int .i64 v1.1) rfl) ?_
  refine y0 rfl (o_assign (d := .int .i64 v1.2) rfl) ?_
  refine y_nil ?_
  refine pw_seq ?_
  refine sr (by kernel_rfl) ?_
  refine y0 rfl (o_move (d := .int .i64 v1.2) rfl) ?_
  refine y0 rfl (o_cmp rfl rfl rfl) ?_
  refine y_nil ?_
  refine pw_cond (v1.2 != 0) rfl (fun hc => ?_) (fun hc => ?_)
  · have h := ifT h hc
    refine sr (by kernel_rfl) ?_
    refine y0 rfl (o_loadA (cs := slab_Slab_int.Pc a0) rfl rfl rfl Ty.a24 Ty.s24 (Nat.le_of_ble_eq_true rfl) rfl) ?_
    refine y0 rfl (o_move (d := .int .i64 v1.2) rfl) ?_
    refine y_sto (x' := slab_Slab_int.Pv a0) (cl' := true) rfl rfl (.inr rfl) Ty.s24 ?_
    refine y0 rfl (o_assign (d := .int .i64 v1.2) rfl) ?_
    refine y_nil ?_
    refine pw_ret ?_
    obtain rfl := Option.some.inj h
    exact ⟨rfl, [_, _], ⟨o_loadA rfl rfl rfl Ty.a24 Ty.s24 (Nat.le_of_ble_eq_true rfl) rfl, ⟨rfl, trivial⟩⟩, rfl, by first | exact .inl rfl | exact .inr rfl⟩
  · have h := ifF h hc
    refine pw_skip ?_
    refine sr (by kernel_rfl) ?_
    refine y0 rfl (o_fieldAddrP (k := 0) rfl Ty.f24_0 rfl) ?_
    refine y0 rfl (o_loadS rfl rfl rfl Ty.a22 rfl) ?_
    refine y0 rfl (o_move (d := .int .i64 v1.1) rfl) ?_
    obtain ⟨v2, hv2, h⟩ := bindE h
    refine y0 rfl (o_ixL (f := slab_Cell_int.Pv) (cs := slab_Cell_int.Pc v2) hv2 rfl rfl Ty.e22 Ty.s69 rfl rfl) ?_
    refine y0 rfl (o_fieldAddrR rfl Ty.f69_1 rfl) ?_
    refine y0 rfl (o_loadRS rfl Ty.a3 rfl) ?_
    refine y0 rfl (o_assign (d := .int .i64 v2.Gen) rfl) ?_
    refine y_nil ?_
    refine pw_seq ?_
    refine sr (by kernel_rfl) ?_
    refine y0 rfl (o_move (d := .int .i64 v2.Gen) rfl) ?_
    refine y0 rfl (o_fieldAddrP (k := 1) rfl Ty.f24_1 rfl) ?_
    refine y0 rfl (o_loadS rfl rfl rfl Ty.a3 rfl) ?_
    refine y0 rfl (o_cmp rfl rfl rfl) ?_
    refine y_nil ?_
    refine pw_cond (v2.Gen == a0.Last) rfl (fun hc => ?_) (fun hc => ?_)
    · have h := ifT h hc
      refine sr (by kernel_rfl) ?_
      refine y0 rfl (o_loadA (cs := slab_Slab_int.Pc a0) rfl rfl rfl Ty.a24 Ty.s24 (Nat.le_of_ble_eq_true rfl) rfl) ?_
      refine y0 rfl (o_move (d := .int .i64 v1.1) rfl) ?_
      refine y0 rfl (o_move (d := .int .i64 v2.Gen) rfl) ?_
      refine y0 rfl (o_build (cs := [.int .i64 3, .int .i64 v2.Gen, .int .i64 0]) rfl Ty.p69 Ty.z69 rfl rfl rfl) ?_
      obtain ⟨v3, hv3, h⟩ := bindE h
      refine yc rfl (o_callF (ls := []) (ds := [slab_Slab_int.Pv a0, .int .i64 v1.1, .agg [.int .i64 3, .int .i64 v2.Gen, .int .i64 0]]) rfl Ty.k37 rfl (slab_with_int_ok hv3)) ?_
      refine y_sto (x' := slab_Slab_int.Pv v3) (cl' := true) rfl rfl (.inr rfl) Ty.s24 ?_
      refine y0 rfl (o_assign (d := .int .i64 0) rfl) ?_
      refine y_nil ?_
      refine pw_ret ?_
      obtain rfl := Option.some.inj h
      exact ⟨rfl, [_, _], ⟨o_loadA rfl rfl rfl Ty.a24 Ty.s24 (Nat.le_of_ble_eq_true rfl) rfl, ⟨rfl, trivial⟩⟩, rfl, by first | exact .inl rfl | exact .inr rfl⟩
    · have h := ifF h hc
      refine pw_skip ?_
      refine sr (by kernel_rfl) ?_
      refine y0 rfl (o_loadA (cs := slab_Slab_int.Pc a0) rfl rfl rfl Ty.a24 Ty.s24 (Nat.le_of_ble_eq_true rfl) rfl) ?_
      refine y0 rfl (o_move (d := .int .i64 v1.1) rfl) ?_
      refine y0 rfl (o_move (d := .int .i64 v2.Gen) rfl) ?_
      refine y0 rfl (o_ari rfl rfl rfl) ?_
      refine y0 rfl (o_build (cs := [.int .i64 0, .int .i64 (w64 (v2.Gen + 1)), .int .i64 0]) rfl Ty.p69 Ty.z69 rfl rfl rfl) ?_
      obtain ⟨v4, hv4, h⟩ := bindE h
      refine yc rfl (o_callF (ls := []) (ds := [slab_Slab_int.Pv a0, .int .i64 v1.1, .agg [.int .i64 0, .int .i64 (w64 (v2.Gen + 1)), .int .i64 0]]) rfl Ty.k37 rfl (slab_with_int_ok hv4)) ?_
      refine y_sto (x' := slab_Slab_int.Pv v4) (cl' := true) rfl rfl (.inr rfl) Ty.s24 ?_
      refine y0 rfl (o_assign (d := .int .i64 0) rfl) ?_
      refine y_nil ?_
      refine pw_ret ?_
      obtain rfl := Option.some.inj h
      exact ⟨rfl, [_, _], ⟨o_loadA rfl rfl rfl Ty.a24 Ty.s24 (Nat.le_of_ble_eq_true rfl) rfl, ⟨rfl, trivial⟩⟩, rfl, by first | exact .inl rfl | exact .inr rfl⟩

set_option maxHeartbeats 4000000 in
theorem slab_Kill_int_ok {a0 : slab_Slab_int} {a1 : Int} {r : slab_Slab_int × Int} (h : slab_Kill_int a0 a1 = some r) : PCalls Try.prog 23 [slab_Slab_int.Pv a0, .int .i64 a1] (.tup [slab_Slab_int.Pv r.1, .int .i64 r.2]) := by
  unfold slab_Kill_int at h
  refine pc_intro (N := 26) Try.func23 rfl rfl (Nat.le_of_ble_eq_true rfl) fun w0 imm0 => ?_
  refine sr (by kernel_rfl) ?_
  refine y1 rfl (o_box (d := slab_Slab_int.Pv a0) (z := 2) (cl := true) rfl rfl rfl rfl rfl) rfl ?_
  refine y1 rfl (o_alloc (d := .agg [.lst false (List.map slab_Cell_int.Pv []), .int .i64 0]) (z := 2) rfl Ty.z24 rfl rfl rfl) rfl ?_
  refine y0 rfl (o_assign (d := .int .i64 0) rfl) ?_
  refine y_nil ?_
  refine sr (by kernel_rfl) ?_
  refine y0 rfl (o_loadA (cs := slab_Slab_int.Pc a0) rfl rfl rfl Ty.a24 Ty.s24 (Nat.le_of_ble_eq_true rfl) rfl) ?_
  refine y0 rfl (o_move (d := .int .i64 a1) rfl) ?_
  obtain ⟨v1, hv1, h⟩ := bindE h
  refine y0 rfl (o_call (ds := [slab_Slab_int.Pv a0, .int .i64 a1]) rfl Ty.k18 rfl (slab_Get_int_ok hv1)) ?_
  refine y0 rfl (o_move (d := .tup [.int .i64 v1.1, .int .i64 v1.2]) rfl) ?_
  refine y0 rfl (o_extract rfl rfl) ?_
  refine y0 rfl (o_extract rfl rfl) ?_
  refine y0 rfl (o_assign (d := .int .i64 v1.1) rfl) ?_
  refine y0 rfl (o_assign (d := .int .i64 v1.2) rfl) ?_
  refine y_nil ?_
  refine pw_seq ?_
  refine sr (by kernel_rfl) ?_
  refine y0 rfl (o_move (d := .int .i64 v1.2) rfl) ?_
  refine y0 rfl (o_cmp rfl rfl rfl) ?_
  refine y_nil ?_
  refine pw_cond (v1.2 != 0) rfl (fun hc => ?_) (fun hc => ?_)
  · have h := ifT h hc
    refine sr (by kernel_rfl) ?_
    refine y0 rfl (o_loadA (cs := slab_Slab_int.Pc a0) rfl rfl rfl Ty.a24 Ty.s24 (Nat.le_of_ble_eq_true rfl) rfl) ?_
    refine y0 rfl (o_move (d := .int .i64 v1.2) rfl) ?_
    refine y_sto (x' := slab_Slab_int.Pv a0) (cl' := true) rfl rfl (.inr rfl) Ty.s24 ?_
    refine y0 rfl (o_assign (d := .int .i64 v1.2) rfl) ?_
    refine y_nil ?_
    refine pw_ret ?_
    obtain rfl := Option.some.inj h
    exact ⟨rfl, [_, _], ⟨o_loadA rfl rfl rfl Ty.a24 Ty.s24 (Nat.le_of_ble_eq_true rfl) rfl, ⟨rfl, trivial⟩⟩, rfl, by first | exact .inl rfl | exact .inr rfl⟩
  · have h := ifF h hc
    refine pw_skip ?_
    refine dr [] Ty.mix (by kernel_rfl) (by kernel_rfl) ?_
    refine d0 rfl (o_loadA (cs := slab_Slab_int.Pc a0) rfl rfl rfl Ty.a24 Ty.s24 (Nat.le_of_ble_eq_true rfl) rfl) rfl ?_
    refine d7 rfl (fun _ hN => o_move (d := .int .i64 a1) rfl) rfl ?_
    obtain ⟨v2, hv2, h⟩ := bindE h
    refine d2 rfl (o_call (ds := [.int .i64 a1]) rfl Ty.k41 rfl (handle_Slot_ok hv2)) rfl ?_
    refine d7 rfl (fun _ hN => o_move (d := .int .i64 a1) rfl) rfl ?_
    obtain ⟨v3, hv3, h⟩ := bindE h
    refine d2 rfl (o_call (ds := [.int .i64 a1]) rfl Ty.k42 rfl (handle_Gen_ok hv3)) rfl ?_
    refine d7 rfl (fun _ hN => o_move (d := .int .i64 v1.1) rfl) rfl ?_
    refine d7 rfl (fun _ hN => o_build (cs := [.int .i64 2, .int .i64 v3, .int .i64 v1.1]) rfl Ty.p69 Ty.z69 rfl rfl rfl) rfl ?_
    obtain ⟨v4, hv4, h⟩ := bindE h
    refine d2f rfl (o_callF (ls := []) (ds := [slab_Slab_int.Pv a0, .int .i64 v2, .agg [.int .i64 2, .int .i64 v3, .int .i64 v1.1]]) rfl Ty.k37 rfl (slab_with_int_ok hv4)) rfl ?_
    refine d_sto (x' := slab_Slab_int.Pv v4) (cl' := true) rfl rfl (.inr rfl) Ty.s24 ?_
    refine d7 rfl (fun _ hN => o_assign (d := .int .i64 0) rfl) rfl ?_
    refine d_nil ?_
    refine pw_ret ?_
    obtain rfl := Option.some.inj h
    exact ⟨rfl, [_, _], ⟨o_loadA rfl rfl rfl Ty.a24 Ty.s24 (Nat.le_of_ble_eq_true rfl) rfl, ⟨rfl, trivial⟩⟩, rfl, by first | exact .inl rfl | exact .inr rfl⟩

set_option maxHeartbeats 4000000 in
theorem slab_Tally_int_ok {a0 : slab_Slab_int} {r : A4} (h : slab_Tally_int a0 = some r) : PCalls Try.prog 27 [slab_Slab_int.Pv a0] (A4.Pv r) := by
  unfold slab_Tally_int at h
  refine pc_intro (N := 21) Try.func27 rfl rfl (Nat.le_of_ble_eq_true rfl) fun w0 imm0 => ?_
  refine sr (by kernel_rfl) ?_
  refine y1 rfl (o_box (d := slab_Slab_int.Pv a0) (z := 2) (cl := true) rfl rfl rfl rfl rfl) rfl ?_
  refine y1 rfl (o_alloc (d := .agg [.int .i64 0, .int .i64 0, .int .i64 0, .int .i64 0]) (z := 4) rfl Ty.z46 rfl rfl rfl) rfl ?_
  refine y_nil ?_
  refine sr (by kernel_rfl) ?_
  refine y1 rfl (o_alloc (d := .agg [.int .i64 0, .int .i64 0, .int .i64 0, .int .i64 0]) (z := 4) rfl Ty.z46 rfl rfl rfl) rfl ?_
  refine y_nil ?_
  obtain ⟨κ8, hκ6, h⟩ := jnE h
  refine pw_jn0 (κ := κ8) (r := r) (fun (j9 : A4) => St.of [(2, .ptr 2 0 0), (3, .ptr 3 0 0)] [(3, ⟨[A4.Pv j9], 0, false, 4, true⟩), (2, ⟨[.agg [.int .i64 0, .int .i64 0, .int .i64 0, .int .i64 0]], 0, false, 4, true⟩)]) (fun j9 h => ?_) ?_
  · subst hκ6
    refine sr (by kernel_rfl) ?_
    refine y0 rfl (o_loadA (cs := A4.Pc j9) rfl rfl rfl Ty.a46 Ty.s46 (Nat.le_of_ble_eq_true rfl) rfl) ?_
    refine y_sto (x' := A4.Pv j9) (cl' := true) rfl rfl (.inl rfl) Ty.s46 ?_
    refine y_nil ?_
    refine pw_ret ?_
    obtain rfl := Option.some.inj h
    exact ⟨rfl, [_], ⟨o_loadA rfl rfl rfl Ty.a46 Ty.s46 (Nat.le_of_ble_eq_true rfl) rfl, trivial⟩, rfl, by first | exact .inl rfl | exact .inr rfl⟩
  · skip
    refine sr (by kernel_rfl) ?_
    refine y0 rfl (o_fieldAddrP (k := 0) rfl Ty.f24_0 rfl) ?_
    refine y0 rfl (o_loadS rfl rfl rfl Ty.a22 rfl) ?_
    refine y0 rfl (o_lnL (f := slab_Cell_int.Pv) rfl Ty.e22) ?_
    refine y0 rfl (o_move (d := .int .i64 0) rfl) ?_
    refine y_nil ?_
    refine pw_block ?_
    obtain ⟨e10, hl7, hk8⟩ := bindE h
    refine pw_lp0 (fun (q : Int × A4) => St.of [(2, .ptr 2 0 0), (3, .ptr 3 0 0), (7, .lst false (List.map slab_Cell_int.Pv a0.Cells)), (8, .int .i64 (a0.Cells.length : Int)), (9, .int .i64 q.1)] [(3, ⟨[A4.Pv q.2], 0, false, 4, true⟩), (2, ⟨[.agg [.int .i64 0, .int .i64 0, .int .i64 0, .int .i64 0]], 0, false, 4, true⟩)]) hl7 (wk_st _ _ ⟨rfl, rfl, rfl, rfl, rfl, rfl, rfl, rfl, rfl, rfl, rfl, rfl, rfl, rfl, rfl, trivial⟩ ⟨rowLe_same rfl rfl rfl (fun q => nomatch q) rfl rfl rfl, rowLe_same rfl rfl rfl (fun q => nomatch q) rfl rfl rfl, trivial⟩) (fun q14 x13 h hx9 => ?_)
    obtain ⟨s11, s12⟩ := q14
    refine sr (by kernel_rfl) ?_
    refine y0 rfl (o_cmp rfl rfl rfl) ?_
    refine y_nil ?_
    refine pw_seq ?_
    refine pw_cond (decide (s11 < (a0.Cells.length : Int))) rfl (fun hc => ?_) (fun hc => ?_)
    · have h := ifT h hc
      refine pw_skip ?_
      refine pw_seq ?_
      refine pw_block ?_
      refine sr (by kernel_rfl) ?_
      obtain ⟨v15, hv10, h⟩ := bindE h
      refine y0 rfl (o_ixL (f := slab_Cell_int.Pv) (cs := slab_Cell_int.Pc v15) hv10 rfl rfl Ty.e22 Ty.s69 rfl rfl) ?_
      refine y0 rfl (o_loadRA (cs := slab_Cell_int.Pc v15) rfl Ty.a69 Ty.s69 (Nat.le_of_ble_eq_true rfl) rfl) ?_
      refine y1 rfl (o_alloc (d := .agg [.int .i64 0, .int .i64 0, .int .i64 0]) (z := 3) rfl Ty.z69 rfl rfl rfl) rfl ?_
      refine y_sto (x' := slab_Cell_int.Pv v15) (cl' := true) rfl rfl (.inl rfl) Ty.s69 ?_
      refine y_nil ?_
      refine sr1 (by kernel_rfl) ?_
      refine y0 rfl (o_fieldAddrP (k := 0) rfl Ty.f69_0 rfl) ?_
      refine y0 rfl (o_loadS rfl rfl rfl Ty.a3 rfl) ?_
      obtain ⟨v16, hv11, h⟩ := bindE h
      refine y0 rfl (o_ixA hv11 rfl rfl Ty.r46 Ty.s3) ?_
      refine y0 rfl (o_loadS rfl rfl rfl Ty.a3 (A4.get hv11)) ?_
      refine y0 rfl (o_ari rfl rfl rfl) ?_
      refine y0 rfl (o_ixA hv11 rfl rfl Ty.r46 Ty.s3) ?_
      refine y_stA hv11 rfl rfl (.inl rfl) rfl Ty.s3 ?_
      refine y_nil ?_
      refine sr1 (by kernel_rfl) ?_
      refine y0 rfl (o_ari rfl rfl rfl) ?_
      refine y0 rfl (o_move (d := .int .i64 (w64 (s11 + 1))) rfl) ?_
      refine y_nil ?_
      exact ⟨rfl, (w64 (s11 + 1), (A4.st s12 v15.State (w64 (v16 + 1)))), (Option.some.inj h).symm, (wk_st _ _ ⟨rfl, rfl, rfl, rfl, rfl, rfl, rfl, rfl, rfl, rfl, rfl, rfl, rfl, rfl, rfl, trivial⟩ ⟨rowLe_same rfl rfl rfl (fun q => nomatch q) rfl rfl rfl, rowLe_same rfl rfl rfl (fun q => nomatch q) rfl rfl rfl, trivial⟩)⟩
    · have h := ifF h hc
      refine pw_exit ?_
      refine thenQ_exit ?_
      refine thenQ_exit ?_
      refine blockQ_exit ?_
      have he := hx9 _ (Option.some.inj h).symm
      have h := hk8
      rw [← he] at h
      exact ⟨rfl, s12, h, (wk_st _ _ ⟨rfl, rfl, rfl, rfl, rfl, rfl, trivial⟩ ⟨rowLe_same rfl rfl rfl (fun q => nomatch q) rfl rfl rfl, rowLe_same rfl rfl rfl (fun q => nomatch q) rfl rfl rfl, trivial⟩)⟩

set_option maxHeartbeats 4000000 in
theorem w03_shown_ok  {r : Bool} (h : w03_shown = some r) : PCalls Try.prog 12 [] (.bool r) := by
  unfold w03_shown at h
  refine pc_intro (N := 135) Try.func12 rfl rfl (Nat.le_of_ble_eq_true rfl) fun w0 imm0 => ?_
  refine sr (by kernel_rfl) ?_
  refine y0 rfl (o_assign (d := .bool false) rfl) ?_
  refine y_nil ?_
  refine sr (by kernel_rfl) ?_
  obtain ⟨v1, hv1, h⟩ := bindE h
  refine yc rfl (o_callF (ls := []) (ds := [.int .i64 1, .int .i64 1]) rfl Ty.k29 rfl (slab_New_int_ok hv1)) ?_
  refine y1 rfl (o_alloc (d := .agg [.lst false (List.map slab_Cell_int.Pv []), .int .i64 0]) (z := 2) rfl Ty.z24 rfl rfl rfl) rfl ?_
  refine y_sto (x' := slab_Slab_int.Pv v1) (cl' := true) rfl rfl (.inr rfl) Ty.s24 ?_
  refine y_nil ?_
  refine sr (by kernel_rfl) ?_
  refine y0 rfl (o_loadA (cs := slab_Slab_int.Pc v1) rfl rfl rfl Ty.a24 Ty.s24 (Nat.le_of_ble_eq_true rfl) rfl) ?_
  obtain ⟨v2, hv2, h⟩ := bindE h
  refine yc rfl (o_callF (ls := []) (ds := [slab_Slab_int.Pv v1, .int .i64 7]) rfl Ty.k14 rfl (slab_Take_int_ok hv2)) ?_
  refine y0 rfl (o_move (d := .tup [slab_Slab_int.Pv v2.1, .int .i64 v2.2.1, .int .i64 v2.2.2]) rfl) ?_
  refine y0 rfl (o_extract rfl rfl) ?_
  refine y0 rfl (o_extract rfl rfl) ?_
  refine y0 rfl (o_extract rfl rfl) ?_
  refine y1 rfl (o_alloc (d := .agg [.lst false (List.map slab_Cell_int.Pv []), .int .i64 0]) (z := 2) rfl Ty.z24 rfl rfl rfl) rfl ?_
  refine y_sto (x' := slab_Slab_int.Pv v2.1) (cl' := true) rfl rfl (.inr rfl) Ty.s24 ?_
  refine y0 rfl (o_assign (d := .int .i64 v2.2.1) rfl) ?_
  refine y0 rfl (o_assign (d := .int .i64 v2.2.2) rfl) ?_
  refine y_nil ?_
  refine sr (by kernel_rfl) ?_
  refine y0 rfl (o_loadA (cs := slab_Slab_int.Pc v2.1) rfl rfl rfl Ty.a24 Ty.s24 (Nat.le_of_ble_eq_true rfl) rfl) ?_
  obtain ⟨v3, hv3, h⟩ := bindE h
  refine yc rfl (o_callF (ls := []) (ds := [slab_Slab_int.Pv v2.1, .int .i64 8]) rfl Ty.k14 rfl (slab_Take_int_ok hv3)) ?_
  refine y0 rfl (o_move (d := .tup [slab_Slab_int.Pv v3.1, .int .i64 v3.2.1, .int .i64 v3.2.2]) rfl) ?_
  refine y0 rfl (o_extract rfl rfl) ?_
  refine y0 rfl (o_extract rfl rfl) ?_
  refine y0 rfl (o_extract rfl rfl) ?_
  refine y1 rfl (o_alloc (d := .agg [.lst false (List.map slab_Cell_int.Pv []), .int .i64 0]) (z := 2) rfl Ty.z24 rfl rfl rfl) rfl ?_
  refine y_sto (x' := slab_Slab_int.Pv v3.1) (cl' := true) rfl rfl (.inr rfl) Ty.s24 ?_
  refine y0 rfl (o_assign (d := .int .i64 v3.2.1) rfl) ?_
  refine y0 rfl (o_assign (d := .int .i64 v3.2.2) rfl) ?_
  refine y_nil ?_
  refine sr (by kernel_rfl) ?_
  refine y0 rfl (o_loadA (cs := slab_Slab_int.Pc v2.1) rfl rfl rfl Ty.a24 Ty.s24 (Nat.le_of_ble_eq_true rfl) rfl) ?_
  refine y0 rfl (o_move (d := .int .i64 v2.2.1) rfl) ?_
  obtain ⟨v4, hv4, h⟩ := bindE h
  refine y0 rfl (o_call (ds := [slab_Slab_int.Pv v2.1, .int .i64 v2.2.1]) rfl Ty.k18 rfl (slab_Get_int_ok hv4)) ?_
  refine y0 rfl (o_move (d := .tup [.int .i64 v4.1, .int .i64 v4.2]) rfl) ?_
  refine y0 rfl (o_extract rfl rfl) ?_
  refine y0 rfl (o_extract rfl rfl) ?_
  refine y0 rfl (o_assign (d := .int .i64 v4.1) rfl) ?_
  refine y0 rfl (o_assign (d := .int .i64 v4.2) rfl) ?_
  refine y_nil ?_
  refine sr (by kernel_rfl) ?_
  refine y0 rfl (o_loadA (cs := slab_Slab_int.Pc v2.1) rfl rfl rfl Ty.a24 Ty.s24 (Nat.le_of_ble_eq_true rfl) rfl) ?_
  refine y0 rfl (o_move (d := .int .i64 v2.2.1) rfl) ?_
  obtain ⟨v5, hv5, h⟩ := bindE h
  refine yc rfl (o_callF (ls := []) (ds := [slab_Slab_int.Pv v2.1, .int .i64 v2.2.1]) rfl Ty.k25 rfl (slab_Give_int_ok hv5)) ?_
  refine y0 rfl (o_move (d := .tup [slab_Slab_int.Pv v5.1, .int .i64 v5.2]) rfl) ?_
  refine y0 rfl (o_extract rfl rfl) ?_
  refine y0 rfl (o_extract rfl rfl) ?_
  refine y1 rfl (o_alloc (d := .agg [.lst false (List.map slab_Cell_int.Pv []), .int .i64 0]) (z := 2) rfl Ty.z24 rfl rfl rfl) rfl ?_
  refine y_sto (x' := slab_Slab_int.Pv v5.1) (cl' := true) rfl rfl (.inr rfl) Ty.s24 ?_
  refine y0 rfl (o_assign (d := .int .i64 v5.2) rfl) ?_
  refine y_nil ?_
  refine sr (by kernel_rfl) ?_
  refine y0 rfl (o_loadA (cs := slab_Slab_int.Pc v5.1) rfl rfl rfl Ty.a24 Ty.s24 (Nat.le_of_ble_eq_true rfl) rfl) ?_
  refine y0 rfl (o_move (d := .int .i64 v2.2.1) rfl) ?_
  obtain ⟨v6, hv6, h⟩ := bindE h
  refine y0 rfl (o_call (ds := [slab_Slab_int.Pv v5.1, .int .i64 v2.2.1]) rfl Ty.k18 rfl (slab_Get_int_ok hv6)) ?_
  refine y0 rfl (o_move (d := .tup [.int .i64 v6.1, .int .i64 v6.2]) rfl) ?_
  refine y0 rfl (o_extract rfl rfl) ?_
  refine y0 rfl (o_extract rfl rfl) ?_
  refine y0 rfl (o_assign (d := .int .i64 v6.1) rfl) ?_
  refine y0 rfl (o_assign (d := .int .i64 v6.2) rfl) ?_
  refine y_nil ?_
  refine sr (by kernel_rfl) ?_
  refine y0 rfl (o_loadA (cs := slab_Slab_int.Pc v5.1) rfl rfl rfl Ty.a24 Ty.s24 (Nat.le_of_ble_eq_true rfl) rfl) ?_
  obtain ⟨v7, hv7, h⟩ := bindE h
  refine yc rfl (o_callF (ls := []) (ds := [slab_Slab_int.Pv v5.1, .int .i64 9]) rfl Ty.k14 rfl (slab_Take_int_ok hv7)) ?_
  refine y0 rfl (o_move (d := .tup [slab_Slab_int.Pv v7.1, .int .i64 v7.2.1, .int .i64 v7.2.2]) rfl) ?_
  refine y0 rfl (o_extract rfl rfl) ?_
  refine y0 rfl (o_extract rfl rfl) ?_
  refine y0 rfl (o_extract rfl rfl) ?_
  refine y1 rfl (o_alloc (d := .agg [.lst false (List.map slab_Cell_int.Pv []), .int .i64 0]) (z := 2) rfl Ty.z24 rfl rfl rfl) rfl ?_
  refine y_sto (x' := slab_Slab_int.Pv v7.1) (cl' := true) rfl rfl (.inr rfl) Ty.s24 ?_
  refine y0 rfl (o_assign (d := .int .i64 v7.2.1) rfl) ?_
  refine y0 rfl (o_assign (d := .int .i64 v7.2.2) rfl) ?_
  refine y_nil ?_
  refine sr (by kernel_rfl) ?_
  refine y0 rfl (o_loadA (cs := slab_Slab_int.Pc v7.1) rfl rfl rfl Ty.a24 Ty.s24 (Nat.le_of_ble_eq_true rfl) rfl) ?_
  refine y0 rfl (o_move (d := .int .i64 v7.2.1) rfl) ?_
  obtain ⟨v8, hv8, h⟩ := bindE h
  refine yc rfl (o_callF (ls := []) (ds := [slab_Slab_int.Pv v7.1, .int .i64 v7.2.1]) rfl Ty.k23 rfl (slab_Kill_int_ok hv8)) ?_
  refine y0 rfl (o_move (d := .tup [slab_Slab_int.Pv v8.1, .int .i64 v8.2]) rfl) ?_
  refine y0 rfl (o_extract rfl rfl) ?_
  refine y0 rfl (o_extract rfl rfl) ?_
  refine y1 rfl (o_alloc (d := .agg [.lst false (List.map slab_Cell_int.Pv []), .int .i64 0]) (z := 2) rfl Ty.z24 rfl rfl rfl) rfl ?_
  refine y_sto (x' := slab_Slab_int.Pv v8.1) (cl' := true) rfl rfl (.inr rfl) Ty.s24 ?_
  refine y0 rfl (o_assign (d := .int .i64 v8.2) rfl) ?_
  refine y_nil ?_
  refine sr (by kernel_rfl) ?_
  refine y0 rfl (o_loadA (cs := slab_Slab_int.Pc v8.1) rfl rfl rfl Ty.a24 Ty.s24 (Nat.le_of_ble_eq_true rfl) rfl) ?_
  refine y0 rfl (o_move (d := .int .i64 v7.2.1) rfl) ?_
  obtain ⟨v9, hv9, h⟩ := bindE h
  refine y0 rfl (o_call (ds := [slab_Slab_int.Pv v8.1, .int .i64 v7.2.1]) rfl Ty.k18 rfl (slab_Get_int_ok hv9)) ?_
  refine y0 rfl (o_move (d := .tup [.int .i64 v9.1, .int .i64 v9.2]) rfl) ?_
  refine y0 rfl (o_extract rfl rfl) ?_
  refine y0 rfl (o_extract rfl rfl) ?_
  refine y0 rfl (o_assign (d := .int .i64 v9.1) rfl) ?_
  refine y0 rfl (o_assign (d := .int .i64 v9.2) rfl) ?_
  refine y_nil ?_
  refine sr (by kernel_rfl) ?_
  refine y0 rfl (o_loadA (cs := slab_Slab_int.Pc v8.1) rfl rfl rfl Ty.a24 Ty.s24 (Nat.le_of_ble_eq_true rfl) rfl) ?_
  refine y0 rfl (o_move (d := .int .i64 v7.2.1) rfl) ?_
  obtain ⟨v10, hv10, h⟩ := bindE h
  refine yc rfl (o_callF (ls := []) (ds := [slab_Slab_int.Pv v8.1, .int .i64 v7.2.1]) rfl Ty.k25 rfl (slab_Give_int_ok hv10)) ?_
  refine y0 rfl (o_move (d := .tup [slab_Slab_int.Pv v10.1, .int .i64 v10.2]) rfl) ?_
  refine y0 rfl (o_extract rfl rfl) ?_
  refine y0 rfl (o_extract rfl rfl) ?_
  refine y1 rfl (o_alloc (d := .agg [.lst false (List.map slab_Cell_int.Pv []), .int .i64 0]) (z := 2) rfl Ty.z24 rfl rfl rfl) rfl ?_
  refine y_sto (x' := slab_Slab_int.Pv v10.1) (cl' := true) rfl rfl (.inr rfl) Ty.s24 ?_
  refine y0 rfl (o_assign (d := .int .i64 v10.2) rfl) ?_
  refine y_nil ?_
  refine sr (by kernel_rfl) ?_
  refine y0 rfl (o_loadA (cs := slab_Slab_int.Pc v10.1) rfl rfl rfl Ty.a24 Ty.s24 (Nat.le_of_ble_eq_true rfl) rfl) ?_
  obtain ⟨v11, hv11, h⟩ := bindE h
  refine yc rfl (o_callF (ls := []) (ds := [slab_Slab_int.Pv v10.1, .int .i64 1]) rfl Ty.k14 rfl (slab_Take_int_ok hv11)) ?_
  refine y0 rfl (o_move (d := .tup [slab_Slab_int.Pv v11.1, .int .i64 v11.2.1, .int .i64 v11.2.2]) rfl) ?_
  refine y0 rfl (o_extract rfl rfl) ?_
  refine y0 rfl (o_extract rfl rfl) ?_
  refine y0 rfl (o_extract rfl rfl) ?_
  refine y1 rfl (o_alloc (d := .agg [.lst false (List.map slab_Cell_int.Pv []), .int .i64 0]) (z := 2) rfl Ty.z24 rfl rfl rfl) rfl ?_
  refine y_sto (x' := slab_Slab_int.Pv v11.1) (cl' := true) rfl rfl (.inr rfl) Ty.s24 ?_
  refine y0 rfl (o_assign (d := .int .i64 v11.2.1) rfl) ?_
  refine y0 rfl (o_assign (d := .int .i64 v11.2.2) rfl) ?_
  refine y_nil ?_
  refine sr (by kernel_rfl) ?_
  refine y0 rfl (o_move (d := .int .i64 v2.2.1) rfl) ?_
  refine y0 rfl (o_cmp rfl rfl rfl) ?_
  refine y0 rfl (o_move (d := .bool (v2.2.1 == 1)) rfl) ?_
  refine y_if (g := ((v2.2.1 == 1) == true)) rfl (fun hg => o_move (d := .int .i64 v2.2.2) rfl) ?_
  refine y_if (g := ((v2.2.1 == 1) == true)) rfl (fun hg => o_cmp (ct hg) rfl rfl) ?_
  refine y0 rfl (pk_and rfl rfl rfl (fun q => eqT q)) ?_
  refine y0 rfl (o_move (d := .bool ((v2.2.1 == 1) && (v2.2.2 == 0))) rfl) ?_
  refine y_if (g := (((v2.2.1 == 1) && (v2.2.2 == 0)) == true)) rfl (fun hg => o_move (d := .int .i64 v3.2.2) rfl) ?_
  refine y_if (g := (((v2.2.1 == 1) && (v2.2.2 == 0)) == true)) rfl (fun hg => o_cmp (ct hg) rfl rfl) ?_
  refine y0 rfl (pk_and rfl rfl rfl (fun q => eqT q)) ?_
  refine y0 rfl (o_move (d := .bool (((v2.2.1 == 1) && (v2.2.2 == 0)) && (v3.2.2 == 4))) rfl) ?_
  refine y_if (g := ((((v2.2.1 == 1) && (v2.2.2 == 0)) && (v3.2.2 == 4)) == true)) rfl (fun hg => o_move (d := .int .i64 v4.1) rfl) ?_
  refine y_if (g := ((((v2.2.1 == 1) && (v2.2.2 == 0)) && (v3.2.2 == 4)) == true)) rfl (fun hg => o_cmp (ct hg) rfl rfl) ?_
  refine y0 rfl (pk_and rfl rfl rfl (fun q => eqT q)) ?_
  refine y0 rfl (o_move (d := .bool ((((v2.2.1 == 1) && (v2.2.2 == 0)) && (v3.2.2 == 4)) && (v4.1 == 7))) rfl) ?_
  refine y_if (g := (((((v2.2.1 == 1) && (v2.2.2 == 0)) && (v3.2.2 == 4)) && (v4.1 == 7)) == true)) rfl (fun hg => o_move (d := .int .i64 v4.2) rfl) ?_
  refine y_if (g := (((((v2.2.1 == 1) && (v2.2.2 == 0)) && (v3.2.2 == 4)) && (v4.1 == 7)) == true)) rfl (fun hg => o_cmp (ct hg) rfl rfl) ?_
  refine y0 rfl (pk_and rfl rfl rfl (fun q => eqT q)) ?_
  refine y0 rfl (o_move (d := .bool (((((v2.2.1 == 1) && (v2.2.2 == 0)) && (v3.2.2 == 4)) && (v4.1 == 7)) && (v4.2 == 0))) rfl) ?_
  refine y_if (g := ((((((v2.2.1 == 1) && (v2.2.2 == 0)) && (v3.2.2 == 4)) && (v4.1 == 7)) && (v4.2 == 0)) == true)) rfl (fun hg => o_move (d := .int .i64 v5.2) rfl) ?_
  refine y_if (g := ((((((v2.2.1 == 1) && (v2.2.2 == 0)) && (v3.2.2 == 4)) && (v4.1 == 7)) && (v4.2 == 0)) == true)) rfl (fun hg => o_cmp (ct hg) rfl rfl) ?_
  refine y0 rfl (pk_and rfl rfl rfl (fun q => eqT q)) ?_
  refine y0 rfl (o_move (d := .bool ((((((v2.2.1 == 1) && (v2.2.2 == 0)) && (v3.2.2 == 4)) && (v4.1 == 7)) && (v4.2 == 0)) && (v5.2 == 0))) rfl) ?_
  refine y_if (g := (((((((v2.2.1 == 1) && (v2.2.2 == 0)) && (v3.2.2 == 4)) && (v4.1 == 7)) && (v4.2 == 0)) && (v5.2 == 0)) == true)) rfl (fun hg => o_move (d := .int .i64 v6.2) rfl) ?_
  refine y_if (g := (((((((v2.2.1 == 1) && (v2.2.2 == 0)) && (v3.2.2 == 4)) && (v4.1 == 7)) && (v4.2 == 0)) && (v5.2 == 0)) == true)) rfl (fun hg => o_cmp (ct hg) rfl rfl) ?_
  refine y0 rfl (pk_and rfl rfl rfl (fun q => eqT q)) ?_
  refine y0 rfl (o_move (d := .bool (((((((v2.2.1 == 1) && (v2.2.2 == 0)) && (v3.2.2 == 4)) && (v4.1 == 7)) && (v4.2 == 0)) && (v5.2 == 0)) && (v6.2 == 3))) rfl) ?_
  refine y_if (g := ((((((((v2.2.1 == 1) && (v2.2.2 == 0)) && (v3.2.2 == 4)) && (v4.1 == 7)) && (v4.2 == 0)) && (v5.2 == 0)) && (v6.2 == 3)) == true)) rfl (fun hg => o_move (d := .int .i64 v7.2.1) rfl) ?_
  refine y_if (g := ((((((((v2.2.1 == 1) && (v2.2.2 == 0)) && (v3.2.2 == 4)) && (v4.1 == 7)) && (v4.2 == 0)) && (v5.2 == 0)) && (v6.2 == 3)) == true)) rfl (fun hg => o_cmp (ct hg) rfl rfl) ?_
  refine y0 rfl (pk_and rfl rfl rfl (fun q => eqT q)) ?_
  refine y0 rfl (o_move (d := .bool ((((((((v2.2.1 == 1) && (v2.2.2 == 0)) && (v3.2.2 == 4)) && (v4.1 == 7)) && (v4.2 == 0)) && (v5.2 == 0)) && (v6.2 == 3)) && (v7.2.1 == 33))) rfl) ?_
  refine y_if (g := (((((((((v2.2.1 == 1) && (v2.2.2 == 0)) && (v3.2.2 == 4)) && (v4.1 == 7)) && (v4.2 == 0)) && (v5.2 == 0)) && (v6.2 == 3)) && (v7.2.1 == 33)) == true)) rfl (fun hg => o_move (d := .int .i64 v9.2) rfl) ?_
  refine y_if (g := (((((((((v2.2.1 == 1) && (v2.2.2 == 0)) && (v3.2.2 == 4)) && (v4.1 == 7)) && (v4.2 == 0)) && (v5.2 == 0)) && (v6.2 == 3)) && (v7.2.1 == 33)) == true)) rfl (fun hg => o_cmp (ct hg) rfl rfl) ?_
  refine y0 rfl (pk_and rfl rfl rfl (fun q => eqT q)) ?_
  refine y0 rfl (o_move (d := .bool (((((((((v2.2.1 == 1) && (v2.2.2 == 0)) && (v3.2.2 == 4)) && (v4.1 == 7)) && (v4.2 == 0)) && (v5.2 == 0)) && (v6.2 == 3)) && (v7.2.1 == 33)) && (v9.2 == 3))) rfl) ?_
  refine y_if (g := ((((((((((v2.2.1 == 1) && (v2.2.2 == 0)) && (v3.2.2 == 4)) && (v4.1 == 7)) && (v4.2 == 0)) && (v5.2 == 0)) && (v6.2 == 3)) && (v7.2.1 == 33)) && (v9.2 == 3)) == true)) rfl (fun hg => o_move (d := .int .i64 v10.2) rfl) ?_
  refine y_if (g := ((((((((((v2.2.1 == 1) && (v2.2.2 == 0)) && (v3.2.2 == 4)) && (v4.1 == 7)) && (v4.2 == 0)) && (v5.2 == 0)) && (v6.2 == 3)) && (v7.2.1 == 33)) && (v9.2 == 3)) == true)) rfl (fun hg => o_cmp (ct hg) rfl rfl) ?_
  refine y0 rfl (pk_and rfl rfl rfl (fun q => eqT q)) ?_
  refine y0 rfl (o_move (d := .bool ((((((((((v2.2.1 == 1) && (v2.2.2 == 0)) && (v3.2.2 == 4)) && (v4.1 == 7)) && (v4.2 == 0)) && (v5.2 == 0)) && (v6.2 == 3)) && (v7.2.1 == 33)) && (v9.2 == 3)) && (v10.2 == 0))) rfl) ?_
  refine y_if (g := (((((((((((v2.2.1 == 1) && (v2.2.2 == 0)) && (v3.2.2 == 4)) && (v4.1 == 7)) && (v4.2 == 0)) && (v5.2 == 0)) && (v6.2 == 3)) && (v7.2.1 == 33)) && (v9.2 == 3)) && (v10.2 == 0)) == true)) rfl (fun hg => o_move (d := .int .i64 v11.2.2) rfl) ?_
  refine y_if (g := (((((((((((v2.2.1 == 1) && (v2.2.2 == 0)) && (v3.2.2 == 4)) && (v4.1 == 7)) && (v4.2 == 0)) && (v5.2 == 0)) && (v6.2 == 3)) && (v7.2.1 == 33)) && (v9.2 == 3)) && (v10.2 == 0)) == true)) rfl (fun hg => o_cmp (ct hg) rfl rfl) ?_
  refine y0 rfl (pk_and rfl rfl rfl (fun q => eqT q)) ?_
  refine y0 rfl (o_move (d := .bool (((((((((((v2.2.1 == 1) && (v2.2.2 == 0)) && (v3.2.2 == 4)) && (v4.1 == 7)) && (v4.2 == 0)) && (v5.2 == 0)) && (v6.2 == 3)) && (v7.2.1 == 33)) && (v9.2 == 3)) && (v10.2 == 0)) && (v11.2.2 == 4))) rfl) ?_
  refine y_if (g := ((((((((((((v2.2.1 == 1) && (v2.2.2 == 0)) && (v3.2.2 == 4)) && (v4.1 == 7)) && (v4.2 == 0)) && (v5.2 == 0)) && (v6.2 == 3)) && (v7.2.1 == 33)) && (v9.2 == 3)) && (v10.2 == 0)) && (v11.2.2 == 4)) == true)) rfl (fun hg => o_loadA (cs := slab_Slab_int.Pc v10.1) rfl rfl rfl Ty.a24 Ty.s24 (Nat.le_of_ble_eq_true rfl) rfl) ?_
  obtain ⟨v12, hv12, h⟩ := bindE h
  refine y_if (g := ((((((((((((v2.2.1 == 1) && (v2.2.2 == 0)) && (v3.2.2 == 4)) && (v4.1 == 7)) && (v4.2 == 0)) && (v5.2 == 0)) && (v6.2 == 3)) && (v7.2.1 == 33)) && (v9.2 == 3)) && (v10.2 == 0)) && (v11.2.2 == 4)) == true)) rfl (fun hg => o_call (ds := [slab_Slab_int.Pv v10.1]) rfl Ty.k27 (consE (ct hg) rfl) (slab_Tally_int_ok (onlyE hv12 hg))) ?_
  refine y_if (g := ((((((((((((v2.2.1 == 1) && (v2.2.2 == 0)) && (v3.2.2 == 4)) && (v4.1 == 7)) && (v4.2 == 0)) && (v5.2 == 0)) && (v6.2 == 3)) && (v7.2.1 == 33)) && (v9.2 == 3)) && (v10.2 == 0)) && (v11.2.2 == 4)) == true)) rfl (fun hg => o_build (cs := [.int .i64 0, .int .i64 0, .int .i64 0, .int .i64 1]) rfl Ty.p46 Ty.z46 rfl rfl rfl) ?_
  refine y_if (g := ((((((((((((v2.2.1 == 1) && (v2.2.2 == 0)) && (v3.2.2 == 4)) && (v4.1 == 7)) && (v4.2 == 0)) && (v5.2 == 0)) && (v6.2 == 3)) && (v7.2.1 == 33)) && (v9.2 == 3)) && (v10.2 == 0)) && (v11.2.2 == 4)) == true)) rfl (fun hg => o_eqA (xs := A4.Pc v12) (ys := [.int .i64 0, .int .i64 0, .int .i64 0, .int .i64 1]) Ty.q46 (ct hg) (ct hg) rfl) ?_
  refine y0 rfl (pk_and rfl rfl rfl (fun q => eqT q)) ?_
  refine y0 rfl (o_assign (d := .bool ((((((((((((v2.2.1 == 1) && (v2.2.2 == 0)) && (v3.2.2 == 4)) && (v4.1 == 7)) && (v4.2 == 0)) && (v5.2 == 0)) && (v6.2 == 3)) && (v7.2.1 == 33)) && (v9.2 == 3)) && (v10.2 == 0)) && (v11.2.2 == 4)) && ((v12.a == 0) && ((v12.b == 0) && ((v12.c == 0) && ((v12.d == 1) && true)))))) rfl) ?_
  refine y_nil ?_
  refine pw_ret ?_
  obtain rfl := Option.some.inj h
  exact ⟨rfl, [_], ⟨rfl, trivial⟩, rfl, by first | exact .inl rfl | exact .inr rfl⟩

set_option maxHeartbeats 4000000 in
theorem r03_with_ok {a0 : r03_Slab} {a1 : Int} {a2 : r03_Cell} {r : r03_Slab} (h : r03_with a0 a1 a2 = some r) : PCalls Try.prog 39 [r03_Slab.Pv a0, .int .i64 a1, r03_Cell.Pv a2] (r03_Slab.Pv r) := by
  unfold r03_with at h
  refine pc_intro (N := 20) Try.func39 rfl rfl (Nat.le_of_ble_eq_true rfl) fun w0 imm0 => ?_
  refine sr (by kernel_rfl) ?_
  refine y1 rfl (o_box (d := r03_Slab.Pv a0) (z := 2) (cl := true) rfl rfl rfl rfl rfl) rfl ?_
  refine y1 rfl (o_box (d := r03_Cell.Pv a2) (z := 3) (cl := true) rfl rfl rfl rfl rfl) rfl ?_
  refine y1 rfl (o_alloc (d := .agg [.lst false (List.map r03_Cell.Pv []), .int .i64 0]) (z := 2) rfl Ty.z29 rfl rfl rfl) rfl ?_
  refine y_nil ?_
  refine sr (by kernel_rfl) ?_
  refine y0 rfl (o_nslice rfl Ty.e27 Ty.s72) ?_
  refine y0 rfl (o_fieldAddrP (k := 0) rfl Ty.f29_0 rfl) ?_
  refine y0 rfl (o_loadS rfl rfl rfl Ty.a27 rfl) ?_
  obtain ⟨v1, hv1, h⟩ := bindE h
  refine y1 rfl (o_apT (f := r03_Cell.Pv) hv1 rfl rfl (.inl ⟨_, rfl, rfl⟩) Ty.e27 Ty.s72 Ty.b72 Ty.z72 rfl (fun _ => rfl)) rfl ?_
  refine y0 rfl (o_assign (d := .sl 11) rfl) ?_
  refine y_nil ?_
  refine sr (by kernel_rfl) ?_
  refine y0 rfl (o_move (d := .sl 11) rfl) ?_
  refine y0 rfl (o_move (d := .int .i64 a1) rfl) ?_
  refine y0 rfl (o_loadA (cs := r03_Cell.Pc a2) rfl rfl rfl Ty.a72 Ty.s72 (Nat.le_of_ble_eq_true rfl) rfl) ?_
  obtain ⟨v2, hv2, h⟩ := bindE h
  refine y0 rfl (o_ixR (f := r03_Cell.Pv) hv2 rfl rfl rfl rfl Ty.e27 Ty.s72 rfl) ?_
  refine y_stE (f := r03_Cell.Pv) (v := a2) hv2 rfl rfl (.inl rfl) Ty.s72 ?_
  refine y_nil ?_
  refine sr (by kernel_rfl) ?_
  refine y0 rfl (o_move (d := .sl 11) rfl) ?_
  refine y0 rfl (o_fieldAddrP (k := 1) rfl Ty.f29_1 rfl) ?_
  refine y0 rfl (o_loadS rfl rfl rfl Ty.a3 rfl) ?_
  refine y0 rfl (o_build (cs := [.sl 11, .int .i64 a0.Last]) rfl Ty.p29 Ty.z29 rfl rfl rfl) ?_
  refine y_sto (x' := .agg [.sl 11, .int .i64 a0.Last]) (cl' := false) rfl rfl (.inl rfl) Ty.s29 ?_
  refine y_nil ?_
  refine pw_ret ?_
  obtain rfl := Option.some.inj h
  exact ⟨rfl, [_], ⟨o_loadA rfl rfl rfl Ty.a29 Ty.s29 (Nat.le_of_ble_eq_true rfl) rfl, trivial⟩, rfl, by first | exact .inl rfl | exact .inr rfl⟩

set_option maxHeartbeats 4000000 in
theorem r01_Pack_ok {a0 : Int} {a1 : Int} {r : Int} (h : r01_Pack a0 a1 = some r) : PCalls Try.prog 40 [.int .i64 a0, .int .i64 a1] (.int .i64 r) := by
  unfold r01_Pack at h
  refine pc_intro (N := 24) Try.func40 rfl rfl (Nat.le_of_ble_eq_true rfl) fun w0 imm0 => ?_
  refine sr (by kernel_rfl) ?_
  refine y0 rfl (o_assign (d := .int .i64 0) rfl) ?_
  refine y_nil ?_
  refine pw_seq ?_
  refine sr (by kernel_rfl) ?_
  refine y0 rfl (o_move (d := .int .i64 a0) rfl) ?_
  refine y0 rfl (o_cmp rfl rfl rfl) ?_
  refine y0 rfl (o_move (d := .bool (decide (a0 < 0))) rfl) ?_
  refine y_if (g := ((decide (a0 < 0)) == false)) rfl (fun hg => o_move (d := .int .i64 a0) rfl) ?_
  refine y_if (g := ((decide (a0 < 0)) == false)) rfl (fun hg => o_cmp (ct hg) rfl rfl) ?_
  refine y0 rfl (pk_or rfl rfl rfl (fun q => eqF q)) ?_
  refine y0 rfl (o_move (d := .bool ((decide (a0 < 0)) || (decide (a0 > 23)))) rfl) ?_
  refine y_if (g := (((decide (a0 < 0)) || (decide (a0 > 23))) == false)) rfl (fun hg => o_move (d := .int .i64 a1) rfl) ?_
  refine y_if (g := (((decide (a0 < 0)) || (decide (a0 > 23))) == false)) rfl (fun hg => o_cmp (ct hg) rfl rfl) ?_
  refine y0 rfl (pk_or rfl rfl rfl (fun q => eqF q)) ?_
  refine y0 rfl (o_move (d := .bool (((decide (a0 < 0)) || (decide (a0 > 23))) || (decide (a1 < 0)))) rfl) ?_
  refine y_if (g := ((((decide (a0 < 0)) || (decide (a0 > 23))) || (decide (a1 < 0))) == false)) rfl (fun hg => o_move (d := .int .i64 a1) rfl) ?_
  refine y_if (g := ((((decide (a0 < 0)) || (decide (a0 > 23))) || (decide (a1 < 0))) == false)) rfl (fun hg => o_cmp (ct hg) rfl rfl) ?_
  refine y0 rfl (pk_or rfl rfl rfl (fun q => eqF q)) ?_
  refine y_nil ?_
  refine pw_cond ((((decide (a0 < 0)) || (decide (a0 > 23))) || (decide (a1 < 0))) || (decide (a1 > 9))) rfl (fun hc => ?_) (fun hc => ?_)
  · have h := ifT h hc
    refine sr (by kernel_rfl) ?_
    refine y0 rfl (o_assign (d := .int .i64 0) rfl) ?_
    refine y_nil ?_
    refine pw_ret ?_
    obtain rfl := Option.some.inj h
    exact ⟨rfl, [_], ⟨rfl, trivial⟩, rfl, by first | exact .inl rfl | exact .inr rfl⟩
  · have h := ifF h hc
    refine pw_skip ?_
    refine sr (by kernel_rfl) ?_
    refine y0 rfl (o_move (d := .int .i64 a0) rfl) ?_
    refine y0 rfl (o_ari rfl rfl rfl) ?_
    refine y0 rfl (o_move (d := .int .i64 a1) rfl) ?_
    refine y0 rfl (o_ari rfl rfl rfl) ?_
    refine y0 rfl (o_ari rfl rfl rfl) ?_
    refine y0 rfl (o_assign (d := .int .i64 (w64 ((w64 (1 + a0)) + (w64 (32 * a1))))) rfl) ?_
    refine y_nil ?_
    refine pw_ret ?_
    obtain rfl := Option.some.inj h
    exact ⟨rfl, [_], ⟨rfl, trivial⟩, rfl, by first | exact .inl rfl | exact .inr rfl⟩

set_option maxHeartbeats 4000000 in
theorem r03_Take_ok {a0 : r03_Slab} {a1 : Int} {r : r03_Slab × Int × Int} (h : r03_Take a0 a1 = some r) : PCalls Try.prog 15 [r03_Slab.Pv a0, .int .i64 a1] (.tup [r03_Slab.Pv r.1, .int .i64 r.2.1, .int .i64 r.2.2]) := by
  unfold r03_Take at h
  refine pc_intro (N := 39) Try.func15 rfl rfl (Nat.le_of_ble_eq_true rfl) fun w0 imm0 => ?_
  refine sr (by kernel_rfl) ?_
  refine y1 rfl (o_box (d := r03_Slab.Pv a0) (z := 2) (cl := true) rfl rfl rfl rfl rfl) rfl ?_
  refine y1 rfl (o_alloc (d := .agg [.lst false (List.map r03_Cell.Pv []), .int .i64 0]) (z := 2) rfl Ty.z29 rfl rfl rfl) rfl ?_
  refine y0 rfl (o_assign (d := .int .i64 0) rfl) ?_
  refine y0 rfl (o_assign (d := .int .i64 0) rfl) ?_
  refine y_nil ?_
  obtain ⟨κ7, hκ7, h⟩ := jnE h
  refine pw_jn0 (κ := κ7) (r := r) (fun (_ : Unit) => St.of [(2, .ptr 2 0 0), (4, .ptr 4 0 0)] [(4, ⟨[.agg [.lst false (List.map r03_Cell.Pv []), .int .i64 0]], 0, false, 2, true⟩), (2, ⟨[r03_Slab.Pv a0], 0, false, 2, true⟩)]) (fun q8 h => ?_) ?_
  · subst hκ7
    refine sr (by kernel_rfl) ?_
    refine y0 rfl (o_loadA (cs := r03_Slab.Pc a0) rfl rfl rfl Ty.a29 Ty.s29 (Nat.le_of_ble_eq_true rfl) rfl) ?_
    refine y_sto (x' := r03_Slab.Pv a0) (cl' := true) rfl rfl (.inr rfl) Ty.s29 ?_
    refine y0 rfl (o_assign (d := .int .i64 0) rfl) ?_
    refine y0 rfl (o_assign (d := .int .i64 4) rfl) ?_
    refine y_nil ?_
    refine pw_ret ?_
    obtain rfl := Option.some.inj h
    exact ⟨rfl, [_, _, _], ⟨o_loadA rfl rfl rfl Ty.a29 Ty.s29 (Nat.le_of_ble_eq_true rfl) rfl, ⟨rfl, ⟨rfl, trivial⟩⟩⟩, rfl, by first | exact .inl rfl | exact .inr rfl⟩
  · skip
    refine sr (by kernel_rfl) ?_
    refine y0 rfl (o_assign (d := .int .i64 0) rfl) ?_
    refine y_nil ?_
    refine pw_block ?_
    obtain ⟨e9, hl8, hk9⟩ := bindE h
    refine pw_lp0 (fun (s10 : Int) => St.of [(1, .int .i64 a1), (2, .ptr 2 0 0), (4, .ptr 4 0 0), (7, .int .i64 s10)] [(4, ⟨[.agg [.lst false (List.map r03_Cell.Pv []), .int .i64 0]], 0, false, 2, true⟩), (2, ⟨[r03_Slab.Pv a0], 0, false, 2, true⟩)]) hl8 (wk_st _ _ ⟨rfl, rfl, rfl, rfl, rfl, rfl, rfl, rfl, rfl, rfl, rfl, rfl, trivial⟩ ⟨rowLe_same rfl rfl rfl (fun q => nomatch q) rfl rfl rfl, rowLe_same rfl rfl rfl (fun q => nomatch q) rfl rfl rfl, trivial⟩) (fun s10 x11 h hx10 => ?_)
    refine pw_seq ?_
    refine sr (by kernel_rfl) ?_
    refine y0 rfl (o_move (d := .int .i64 s10) rfl) ?_
    refine y0 rfl (o_fieldAddrP (k := 0) rfl Ty.f29_0 rfl) ?_
    refine y0 rfl (o_loadS rfl rfl rfl Ty.a27 rfl) ?_
    refine y0 rfl (o_lnL (f := r03_Cell.Pv) rfl Ty.e27) ?_
    refine y0 rfl (o_cmp rfl rfl rfl) ?_
    refine y_nil ?_
    refine pw_cond (decide (s10 < (a0.Cells.length : Int))) rfl (fun hc => ?_) (fun hc => ?_)
    · have h := ifT h hc
      refine pw_skip ?_
      refine pw_seq ?_
      refine pw_block ?_
      refine sr (by kernel_rfl) ?_
      refine y0 rfl (o_fieldAddrP (k := 0) rfl Ty.f29_0 rfl) ?_
      refine y0 rfl (o_loadS rfl rfl rfl Ty.a27 rfl) ?_
      refine y0 rfl (o_move (d := .int .i64 s10) rfl) ?_
      obtain ⟨v12, hv11, h⟩ := bindE h
      refine y0 rfl (o_ixL (f := r03_Cell.Pv) (cs := r03_Cell.Pc v12) hv11 rfl rfl Ty.e27 Ty.s72 rfl rfl) ?_
      refine y0 rfl (o_fieldAddrR rfl Ty.f72_0 rfl) ?_
      refine y0 rfl (o_loadRS rfl Ty.a3 rfl) ?_
      refine y0 rfl (o_cmp rfl rfl rfl) ?_
      refine y_nil ?_
      refine pw_cond (v12.State == 0) rfl (fun hc => ?_) (fun hc => ?_)
      · have h := ifT h hc
        refine sr (by kernel_rfl) ?_
        refine y0 rfl (o_fieldAddrP (k := 0) rfl Ty.f29_0 rfl) ?_
        refine y0 rfl (o_loadS rfl rfl rfl Ty.a27 rfl) ?_
        refine y0 rfl (o_move (d := .int .i64 s10) rfl) ?_
        refine y0 rfl (o_ixL (f := r03_Cell.Pv) (cs := r03_Cell.Pc v12) hv11 rfl rfl Ty.e27 Ty.s72 rfl rfl) ?_
        refine y0 rfl (o_fieldAddrR rfl Ty.f72_1 rfl) ?_
        refine y0 rfl (o_loadRS rfl Ty.a3 rfl) ?_
        refine y0 rfl (o_assign (d := .int .i64 v12.Gen) rfl) ?_
        refine y_nil ?_
        refine sr (by kernel_rfl) ?_
        refine y0 rfl (o_loadA (cs := r03_Slab.Pc a0) rfl rfl rfl Ty.a29 Ty.s29 (Nat.le_of_ble_eq_true rfl) rfl) ?_
        refine y0 rfl (o_move (d := .int .i64 s10) rfl) ?_
        refine y0 rfl (o_move (d := .int .i64 v12.Gen) rfl) ?_
        refine y0 rfl (o_move (d := .int .i64 a1) rfl) ?_
        refine y0 rfl (o_build (cs := [.int .i64 1, .int .i64 v12.Gen, .int .i64 a1]) rfl Ty.p72 Ty.z72 rfl rfl rfl) ?_
        obtain ⟨v13, hv12, h⟩ := bindE h
        refine yc rfl (o_callF (ls := []) (ds := [r03_Slab.Pv a0, .int .i64 s10, .agg [.int .i64 1, .int .i64 v12.Gen, .int .i64 a1]]) rfl Ty.k39 rfl (r03_with_ok hv12)) ?_
        refine y0 rfl (o_move (d := .int .i64 s10) rfl) ?_
        refine y0 rfl (o_move (d := .int .i64 v12.Gen) rfl) ?_
        obtain ⟨v14, hv13, h⟩ := bindE h
        refine y0 rfl (o_call (ds := [.int .i64 s10, .int .i64 v12.Gen]) rfl Ty.k40 rfl (r01_Pack_ok hv13)) ?_
        refine y_sto (x' := r03_Slab.Pv v13) (cl' := true) rfl rfl (.inr rfl) Ty.s29 ?_
        refine y0 rfl (o_assign (d := .int .i64 v14) rfl) ?_
        refine y0 rfl (o_assign (d := .int .i64 0) rfl) ?_
        refine y_nil ?_
        refine pw_ret ?_
        have he := hx10 _ (Option.some.inj h).symm
        have h := hk9
        rw [← he] at h
        obtain rfl := Option.some.inj h
        exact ⟨rfl, [_, _, _], ⟨o_loadA rfl rfl rfl Ty.a29 Ty.s29 (Nat.le_of_ble_eq_true rfl) rfl, ⟨rfl, ⟨rfl, trivial⟩⟩⟩, rfl, by first | exact .inl rfl | exact .inr rfl⟩
      · have h := ifF h hc
        refine pw_skip ?_
        refine sr1 (by kernel_rfl) ?_
        refine y0 rfl (o_move (d := .int .i64 s10) rfl) ?_
        refine y0 rfl (o_ari rfl rfl rfl) ?_
        refine y0 rfl (o_assign (d := .int .i64 (w64 (s10 + 1))) rfl) ?_
        refine y_nil ?_
        exact ⟨rfl, w64 (s10 + 1), (Option.some.inj h).symm, (wk_st _ _ ⟨rfl, rfl, rfl, rfl, rfl, rfl, rfl, rfl, rfl, rfl, rfl, rfl, trivial⟩ ⟨rowLe_same rfl rfl rfl (fun q => nomatch q) rfl rfl rfl, rowLe_same rfl rfl rfl (fun q => nomatch q) rfl rfl rfl, trivial⟩)⟩
    · have h := ifF h hc
      refine pw_exit ?_
      refine thenQ_exit ?_
      refine thenQ_exit ?_
      refine blockQ_exit ?_
      have he := hx10 _ (Option.some.inj h).symm
      have h := hk9
      rw [← he] at h
      exact ⟨rfl, (), h, (wk_st _ _ ⟨rfl, rfl, rfl, rfl, rfl, rfl, trivial⟩ ⟨rowLe_same rfl rfl rfl (fun q => nomatch q) rfl rfl rfl, rowLe_same rfl rfl rfl (fun q => nomatch q) rfl rfl rfl, trivial⟩)⟩

set_option maxHeartbeats 4000000 in
theorem r01_Valid_ok {a0 : Int} {r : Bool} (h : r01_Valid a0 = some r) : PCalls Try.prog 51 [.int .i64 a0] (.bool r) := by
  unfold r01_Valid at h
  refine pc_intro (N := 18) Try.func51 rfl rfl (Nat.le_of_ble_eq_true rfl) fun w0 imm0 => ?_
  refine sr (by kernel_rfl) ?_
  refine y0 rfl (o_assign (d := .bool false) rfl) ?_
  refine y_nil ?_
  refine pw_seq ?_
  refine sr (by kernel_rfl) ?_
  refine y0 rfl (o_move (d := .int .i64 a0) rfl) ?_
  refine y0 rfl (o_cmp rfl rfl rfl) ?_
  refine y0 rfl (o_move (d := .bool (decide (a0 < 1))) rfl) ?_
  refine y_if (g := ((decide (a0 < 1)) == false)) rfl (fun hg => o_move (d := .int .i64 a0) rfl) ?_
  refine y_if (g := ((decide (a0 < 1)) == false)) rfl (fun hg => o_cmp (ct hg) rfl rfl) ?_
  refine y0 rfl (pk_or rfl rfl rfl (fun q => eqF q)) ?_
  refine y_nil ?_
  refine pw_cond ((decide (a0 < 1)) || (decide (a0 > 400))) rfl (fun hc => ?_) (fun hc => ?_)
  · have h := ifT h hc
    refine sr (by kernel_rfl) ?_
    refine y0 rfl (o_assign (d := .bool false) rfl) ?_
    refine y_nil ?_
    refine pw_ret ?_
    obtain rfl := Option.some.inj h
    exact ⟨rfl, [_], ⟨rfl, trivial⟩, rfl, by first | exact .inl rfl | exact .inr rfl⟩
  · have h := ifF h hc
    refine pw_skip ?_
    refine sr (by kernel_rfl) ?_
    refine y0 rfl (o_move (d := .int .i64 a0) rfl) ?_
    refine y0 rfl (o_ari rfl rfl rfl) ?_
    obtain ⟨v1, hv1, h⟩ := bindE h
    refine y0 rfl (o_ari rfl rfl hv1) ?_
    refine y0 rfl (o_move (d := .int .i64 a0) rfl) ?_
    refine y0 rfl (o_ari rfl rfl rfl) ?_
    obtain ⟨v2, hv2, h⟩ := bindE h
    refine y0 rfl (o_ari rfl rfl hv2) ?_
    obtain ⟨v3, hv3, h⟩ := bindE h
    refine y0 rfl (o_call (ds := [.int .i64 v1, .int .i64 v2]) rfl Ty.k40 rfl (r01_Pack_ok hv3)) ?_
    refine y0 rfl (o_move (d := .int .i64 a0) rfl) ?_
    refine y0 rfl (o_cmp rfl rfl rfl) ?_
    refine y0 rfl (o_assign (d := .bool (v3 == a0)) rfl) ?_
    refine y_nil ?_
    refine pw_ret ?_
    obtain rfl := Option.some.inj h
    exact ⟨rfl, [_], ⟨rfl, trivial⟩, rfl, by first | exact .inl rfl | exact .inr rfl⟩

set_option maxHeartbeats 4000000 in
theorem r01_Slot_ok {a0 : Int} {r : Int} (h : r01_Slot a0 = some r) : PCalls Try.prog 43 [.int .i64 a0] (.int .i64 r) := by
  unfold r01_Slot at h
  refine pc_intro (N := 9) Try.func43 rfl rfl (Nat.le_of_ble_eq_true rfl) fun w0 imm0 => ?_
  refine sr (by kernel_rfl) ?_
  refine y0 rfl (o_assign (d := .int .i64 0) rfl) ?_
  refine y_nil ?_
  refine pw_seq ?_
  refine sr (by kernel_rfl) ?_
  refine y0 rfl (o_move (d := .int .i64 a0) rfl) ?_
  obtain ⟨v1, hv1, h⟩ := bindE h
  refine y0 rfl (o_call (ds := [.int .i64 a0]) rfl Ty.k51 rfl (r01_Valid_ok hv1)) ?_
  refine y0 rfl (o_not rfl rfl) ?_
  refine y_nil ?_
  refine pw_cond (!v1) rfl (fun hc => ?_) (fun hc => ?_)
  · have h := ifT h hc
    refine sr (by kernel_rfl) ?_
    refine y0 rfl (o_assign (d := .int .i64 (-1)) rfl) ?_
    refine y_nil ?_
    refine pw_ret ?_
    obtain rfl := Option.some.inj h
    exact ⟨rfl, [_], ⟨rfl, trivial⟩, rfl, by first | exact .inl rfl | exact .inr rfl⟩
  · have h := ifF h hc
    refine pw_skip ?_
    refine sr (by kernel_rfl) ?_
    refine y0 rfl (o_move (d := .int .i64 a0) rfl) ?_
    refine y0 rfl (o_ari rfl rfl rfl) ?_
    obtain ⟨v2, hv2, h⟩ := bindE h
    refine y0 rfl (o_ari rfl rfl hv2) ?_
    refine y0 rfl (o_assign (d := .int .i64 v2) rfl) ?_
    refine y_nil ?_
    refine pw_ret ?_
    obtain rfl := Option.some.inj h
    exact ⟨rfl, [_], ⟨rfl, trivial⟩, rfl, by first | exact .inl rfl | exact .inr rfl⟩

set_option maxHeartbeats 4000000 in
theorem r01_Gen_ok {a0 : Int} {r : Int} (h : r01_Gen a0 = some r) : PCalls Try.prog 44 [.int .i64 a0] (.int .i64 r) := by
  unfold r01_Gen at h
  refine pc_intro (N := 9) Try.func44 rfl rfl (Nat.le_of_ble_eq_true rfl) fun w0 imm0 => ?_
  refine sr (by kernel_rfl) ?_
  refine y0 rfl (o_assign (d := .int .i64 0) rfl) ?_
  refine y_nil ?_
  refine pw_seq ?_
  refine sr (by kernel_rfl) ?_
  refine y0 rfl (o_move (d := .int .i64 a0) rfl) ?_
  obtain ⟨v1, hv1, h⟩ := bindE h
  refine y0 rfl (o_call (ds := [.int .i64 a0]) rfl Ty.k51 rfl (r01_Valid_ok hv1)) ?_
  refine y0 rfl (o_not rfl rfl) ?_
  refine y_nil ?_
  refine pw_cond (!v1) rfl (fun hc => ?_) (fun hc => ?_)
  · have h := ifT h hc
    refine sr (by kernel_rfl) ?_
    refine y0 rfl (o_assign (d := .int .i64 (-1)) rfl) ?_
    refine y_nil ?_
    refine pw_ret ?_
    obtain rfl := Option.some.inj h
    exact ⟨rfl, [_], ⟨rfl, trivial⟩, rfl, by first | exact .inl rfl | exact .inr rfl⟩
  · have h := ifF h hc
    refine pw_skip ?_
    refine sr (by kernel_rfl) ?_
    refine y0 rfl (o_move (d := .int .i64 a0) rfl) ?_
    refine y0 rfl (o_ari rfl rfl rfl) ?_
    obtain ⟨v2, hv2, h⟩ := bindE h
    refine y0 rfl (o_ari rfl rfl hv2) ?_
    refine y0 rfl (o_assign (d := .int .i64 v2) rfl) ?_
    refine y_nil ?_
    refine pw_ret ?_
    obtain rfl := Option.some.inj h
    exact ⟨rfl, [_], ⟨rfl, trivial⟩, rfl, by first | exact .inl rfl | exact .inr rfl⟩

set_option maxHeartbeats 4000000 in
theorem r03_Find_ok {a0 : r03_Slab} {a1 : Int} {r : Int × Int} (h : r03_Find a0 a1 = some r) : PCalls Try.prog 17 [r03_Slab.Pv a0, .int .i64 a1] (.tup [.int .i64 r.1, .int .i64 r.2]) := by
  unfold r03_Find at h
  refine pc_intro (N := 42) Try.func17 rfl rfl (Nat.le_of_ble_eq_true rfl) fun w0 imm0 => ?_
  refine sr (by kernel_rfl) ?_
  refine y1 rfl (o_box (d := r03_Slab.Pv a0) (z := 2) (cl := true) rfl rfl rfl rfl rfl) rfl ?_
  refine y0 rfl (o_assign (d := .int .i64 0) rfl) ?_
  refine y0 rfl (o_assign (d := .int .i64 0) rfl) ?_
  refine y_nil ?_
  refine pw_seq ?_
  refine sr (by kernel_rfl) ?_
  refine y0 rfl (o_move (d := .int .i64 a1) rfl) ?_
  refine y0 rfl (o_cmp rfl rfl rfl) ?_
  refine y_nil ?_
  refine pw_cond (a1 == 0) rfl (fun hc => ?_) (fun hc => ?_)
  · have h := ifT h hc
    refine sr (by kernel_rfl) ?_
    refine y0 rfl (o_assign (d := .int .i64 (-1)) rfl) ?_
    refine y0 rfl (o_assign (d := .int .i64 2) rfl) ?_
    refine y_nil ?_
    refine pw_ret ?_
    obtain rfl := Option.some.inj h
    exact ⟨rfl, [_, _], ⟨rfl, ⟨rfl, trivial⟩⟩, rfl, by first | exact .inl rfl | exact .inr rfl⟩
  · have h := ifF h hc
    refine pw_skip ?_
    refine sr (by kernel_rfl) ?_
    refine y0 rfl (o_move (d := .int .i64 a1) rfl) ?_
    obtain ⟨v1, hv1, h⟩ := bindE h
    refine y0 rfl (o_call (ds := [.int .i64 a1]) rfl Ty.k43 rfl (r01_Slot_ok hv1)) ?_
    refine y0 rfl (o_assign (d := .int .i64 v1) rfl) ?_
    refine y_nil ?_
    refine pw_seq ?_
    refine sr (by kernel_rfl) ?_
    refine y0 rfl (o_move (d := .int .i64 v1) rfl) ?_
    refine y0 rfl (o_cmp rfl rfl rfl) ?_
    refine y0 rfl (o_move (d := .bool (decide (v1 < 0))) rfl) ?_
    refine y_if (g := ((decide (v1 < 0)) == false)) rfl (fun hg => o_move (d := .int .i64 v1) rfl) ?_
    refine y_if (g := ((decide (v1 < 0)) == false)) rfl (fun hg => o_fieldAddrP (k := 0) rfl Ty.f29_0 rfl) ?_
    refine y_if (g := ((decide (v1 < 0)) == false)) rfl (fun hg => o_loadS (ct hg) rfl rfl Ty.a27 rfl) ?_
    refine y_if (g := ((decide (v1 < 0)) == false)) rfl (fun hg => o_lnL (f := r03_Cell.Pv) (ct hg) Ty.e27) ?_
    refine y_if (g := ((decide (v1 < 0)) == false)) rfl (fun hg => o_cmp (ct hg) (ct hg) rfl) ?_
    refine y0 rfl (pk_or rfl rfl rfl (fun q => eqF q)) ?_
    refine y_nil ?_
    refine pw_cond ((decide (v1 < 0)) || (decide (v1 ≥ (a0.Cells.length : Int)))) rfl (fun hc => ?_) (fun hc => ?_)
    · have h := ifT h hc
      refine sr (by kernel_rfl) ?_
      refine y0 rfl (o_assign (d := .int .i64 (-1)) rfl) ?_
      refine y0 rfl (o_assign (d := .int .i64 3) rfl) ?_
      refine y_nil ?_
      refine pw_ret ?_
      obtain rfl := Option.some.inj h
      exact ⟨rfl, [_, _], ⟨rfl, ⟨rfl, trivial⟩⟩, rfl, by first | exact .inl rfl | exact .inr rfl⟩
    · have h := ifF h hc
      refine pw_skip ?_
      refine sr (by kernel_rfl) ?_
      refine y0 rfl (o_fieldAddrP (k := 0) rfl Ty.f29_0 rfl) ?_
      refine y0 rfl (o_loadS rfl rfl rfl Ty.a27 rfl) ?_
      refine y0 rfl (o_move (d := .int .i64 v1) rfl) ?_
      obtain ⟨v2, hv2, h⟩ := bindE h
      refine y0 rfl (o_ixL (f := r03_Cell.Pv) (cs := r03_Cell.Pc v2) hv2 rfl rfl Ty.e27 Ty.s72 rfl rfl) ?_
      refine y0 rfl (o_loadRA (cs := r03_Cell.Pc v2) rfl Ty.a72 Ty.s72 (Nat.le_of_ble_eq_true rfl) rfl) ?_
      refine y1 rfl (o_alloc (d := .agg [.int .i64 0, .int .i64 0, .int .i64 0]) (z := 3) rfl Ty.z72 rfl rfl rfl) rfl ?_
      refine y_sto (x' := r03_Cell.Pv v2) (cl' := true) rfl rfl (.inl rfl) Ty.s72 ?_
      refine y_nil ?_
      refine pw_seq ?_
      refine dr [] Ty.mix (by kernel_rfl) (by kernel_rfl) ?_
      refine d7 rfl (fun _ hN => o_fieldAddrP (k := 1) rfl Ty.f72_1 rfl) rfl ?_
      refine d0 rfl (o_loadS rfl rfl rfl Ty.a3 rfl) rfl ?_
      refine d7 rfl (fun _ hN => o_move (d := .int .i64 a1) rfl) rfl ?_
      obtain ⟨v3, hv3, h⟩ := bindE h
      refine d2 rfl (o_call (ds := [.int .i64 a1]) rfl Ty.k44 rfl (r01_Gen_ok hv3)) rfl ?_
      refine d7 rfl (fun _ hN => o_cmp rfl rfl rfl) rfl ?_
      refine d7 rfl (fun _ hN => o_move (d := .bool (v2.Gen != v3)) rfl) rfl ?_
      refine d_if7 (g := ((v2.Gen != v3) == false)) rfl (fun hg _ hN => o_fieldAddrP (k := 0) rfl Ty.f72_0 rfl) rfl ?_
      refine d_if0 (g := ((v2.Gen != v3) == false)) rfl (fun hg => o_loadS (ct hg) rfl rfl Ty.a3 rfl) rfl ?_
      refine d_if7 (g := ((v2.Gen != v3) == false)) rfl (fun hg _ hN => o_cmp (ct hg) rfl rfl) rfl ?_
      refine d_if7 (g := ((v2.Gen != v3) == false)) rfl (fun hg _ hN => o_move (d := .bool (v2.State != 1)) (ct hg)) rfl ?_
      refine d_if7 (g := (((v2.Gen != v3) == false) && ((v2.State != 1) == true))) (want2 rfl rfl rfl) (fun hg _ hN => o_fieldAddrP (k := 0) rfl Ty.f72_0 rfl) rfl ?_
      refine d_if0 (g := (((v2.Gen != v3) == false) && ((v2.State != 1) == true))) (want2 rfl rfl rfl) (fun hg => o_loadS (ct hg) rfl rfl Ty.a3 rfl) rfl ?_
      refine d_if7 (g := (((v2.Gen != v3) == false) && ((v2.State != 1) == true))) (want2 rfl rfl rfl) (fun hg _ hN => o_cmp (ct hg) rfl rfl) rfl ?_
      refine d_if7 (g := ((v2.Gen != v3) == false)) rfl (fun hg _ hN => pk_and (ct hg) rfl rfl (fun q => andI hg (eqT q))) rfl ?_
      refine d7 rfl (fun _ hN => pk_or rfl rfl rfl (fun q => eqF q)) rfl ?_
      refine d_nil ?_
      refine pw_cond ((v2.Gen != v3) || ((v2.State != 1) && (v2.State != 2))) rfl (fun hc => ?_) (fun hc => ?_)
      · have h := ifT h hc
        refine sr (by kernel_rfl) ?_
        refine y0 rfl (o_assign (d := .int .i64 (-1)) rfl) ?_
        refine y0 rfl (o_assign (d := .int .i64 3) rfl) ?_
        refine y_nil ?_
        refine pw_ret ?_
        obtain rfl := Option.some.inj h
        exact ⟨rfl, [_, _], ⟨rfl, ⟨rfl, trivial⟩⟩, rfl, by first | exact .inl rfl | exact .inr rfl⟩
      · have h := ifF h hc
        refine pw_skip ?_
        refine sr (by kernel_rfl) ?_
        refine y0 rfl (o_move (d := .int .i64 v1) rfl) ?_
        refine y0 rfl (o_assign (d := .int .i64 v1) rfl) ?_
        refine y0 rfl (o_assign (d := .int .i64 0) rfl) ?_
        refine y_nil ?_
        refine pw_ret ?_
        obtain rfl := Option.some.inj h
        exact ⟨rfl, [_, _], ⟨rfl, ⟨rfl, trivial⟩⟩, rfl, by first | exact .inl rfl | exact .inr rfl⟩

set_option maxHeartbeats 4000000 in
theorem r03_Get_ok {a0 : r03_Slab} {a1 : Int} {r : Int × Int} (h : r03_Get a0 a1 = some r) : PCalls Try.prog 19 [r03_Slab.Pv a0, .int .i64 a1] (.tup [.int .i64 r.1, .int .i64 r.2]) := by
  unfold r03_Get at h
  refine pc_intro (N := 30) Try.func19 rfl rfl (Nat.le_of_ble_eq_true rfl) fun w0 imm0 => ?_
  refine sr (by kernel_rfl) ?_
  refine y1 rfl (o_box (d := r03_Slab.Pv a0) (z := 2) (cl := true) rfl rfl rfl rfl rfl) rfl ?_
  refine y0 rfl (o_assign (d := .int .i64 0) rfl) ?_
  refine y0 rfl (o_assign (d := .int .i64 0) rfl) ?_
  refine y_nil ?_
  refine sr (by kernel_rfl) ?_
  refine y0 rfl (o_loadA (cs := r03_Slab.Pc a0) rfl rfl rfl Ty.a29 Ty.s29 (Nat.le_of_ble_eq_true rfl) rfl) ?_
  refine y0 rfl (o_move (d := .int .i64 a1) rfl) ?_
  obtain ⟨v1, hv1, h⟩ := bindE h
  refine y0 rfl (o_call (ds := [r03_Slab.Pv a0, .int .i64 a1]) rfl Ty.k17 rfl (r03_Find_ok hv1)) ?_
  refine y0 rfl (o_move (d := .tup [.int .i64 v1.1, .int .i64 v1.2]) rfl) ?_
  refine y0 rfl (o_extract rfl rfl) ?_
  refine y0 rfl (o_extract rfl rfl) ?_
  refine y0 rfl (o_assign (d := .int .i64 v1.1) rfl) ?_
  refine y0 rfl (o_assign (d := .int .i64 v1.2) rfl) ?_
  refine y_nil ?_
  refine pw_seq ?_
  refine sr (by kernel_rfl) ?_
  refine y0 rfl (o_move (d := .int .i64 v1.2) rfl) ?_
  refine y0 rfl (o_cmp rfl rfl rfl) ?_
  refine y_nil ?_
  refine pw_cond (v1.2 != 0) rfl (fun hc => ?_) (fun hc => ?_)
  · have h := ifT h hc
    refine sr (by kernel_rfl) ?_
    refine y0 rfl (o_move (d := .int .i64 v1.2) rfl) ?_
    refine y0 rfl (o_assign (d := .int .i64 0) rfl) ?_
    refine y0 rfl (o_assign (d := .int .i64 v1.2) rfl) ?_
    refine y_nil ?_
    refine pw_ret ?_
    obtain rfl := Option.some.inj h
    exact ⟨rfl, [_, _], ⟨rfl, ⟨rfl, trivial⟩⟩, rfl, by first | exact .inl rfl | exact .inr rfl⟩
  · have h := ifF h hc
    refine pw_skip ?_
    refine pw_seq ?_
    refine sr (by kernel_rfl) ?_
    refine y0 rfl (o_fieldAddrP (k := 0) rfl Ty.f29_0 rfl) ?_
    refine y0 rfl (o_loadS rfl rfl rfl Ty.a27 rfl) ?_
    refine y0 rfl (o_move (d := .int .i64 v1.1) rfl) ?_
    obtain ⟨v2, hv2, h⟩ := bindE h
    refine y0 rfl (o_ixL (f := r03_Cell.Pv) (cs := r03_Cell.Pc v2) hv2 rfl rfl Ty.e27 Ty.s72 rfl rfl) ?_
    refine y0 rfl (o_fieldAddrR rfl Ty.f72_0 rfl) ?_
    refine y0 rfl (o_loadRS rfl Ty.a3 rfl) ?_
    refine y0 rfl (o_cmp rfl rfl rfl) ?_
    refine y_nil ?_
    refine pw_cond (v2.State == 2) rfl (fun hc => ?_) (fun hc => ?_)
    · have h := ifT h hc
      refine sr (by kernel_rfl) ?_
      refine y0 rfl (o_assign (d := .int .i64 0) rfl) ?_
      refine y0 rfl (o_assign (d := .int .i64 3) rfl) ?_
      refine y_nil ?_
      refine pw_ret ?_
      obtain rfl := Option.some.inj h
      exact ⟨rfl, [_, _], ⟨rfl, ⟨rfl, trivial⟩⟩, rfl, by first | exact .inl rfl | exact .inr rfl⟩
    · have h := ifF h hc
      refine pw_skip ?_
      refine sr (by kernel_rfl) ?_
      refine y0 rfl (o_fieldAddrP (k := 0) rfl Ty.f29_0 rfl) ?_
      refine y0 rfl (o_loadS rfl rfl rfl Ty.a27 rfl) ?_
      refine y0 rfl (o_move (d := .int .i64 v1.1) rfl) ?_
      refine y0 rfl (o_ixL (f := r03_Cell.Pv) (cs := r03_Cell.Pc v2) hv2 rfl rfl Ty.e27 Ty.s72 rfl rfl) ?_
      refine y0 rfl (o_fieldAddrR rfl Ty.f72_2 rfl) ?_
      refine y0 rfl (o_loadRS rfl Ty.a3 rfl) ?_
      refine y0 rfl (o_assign (d := .int .i64 v2.Val) rfl) ?_
      refine y0 rfl (o_assign (d := .int .i64 0) rfl) ?_
      refine y_nil ?_
      refine pw_ret ?_
      obtain rfl := Option.some.inj h
      exact ⟨rfl, [_, _], ⟨rfl, ⟨rfl, trivial⟩⟩, rfl, by first | exact .inl rfl | exact .inr rfl⟩

set_option maxHeartbeats 4000000 in
theorem r03_Same_ok {a0 : r03_Slab} {a1 : r03_Slab} {r : Bool} (h : r03_Same a0 a1 = some r) : PCalls Try.prog 20 [r03_Slab.Pv a0, r03_Slab.Pv a1] (.bool r) := by
  unfold r03_Same at h
  refine pc_intro (N := 38) Try.func20 rfl rfl (Nat.le_of_ble_eq_true rfl) fun w0 imm0 => ?_
  refine sr (by kernel_rfl) ?_
  refine y1 rfl (o_box (d := r03_Slab.Pv a0) (z := 2) (cl := true) rfl rfl rfl rfl rfl) rfl ?_
  refine y1 rfl (o_box (d := r03_Slab.Pv a1) (z := 2) (cl := true) rfl rfl rfl rfl rfl) rfl ?_
  refine y0 rfl (o_assign (d := .bool false) rfl) ?_
  refine y_nil ?_
  refine pw_seq ?_
  refine sr (by kernel_rfl) ?_
  refine y0 rfl (o_fieldAddrP (k := 1) rfl Ty.f29_1 rfl) ?_
  refine y0 rfl (o_loadS rfl rfl rfl Ty.a3 rfl) ?_
  refine y0 rfl (o_fieldAddrP (k := 1) rfl Ty.f29_1 rfl) ?_
  refine y0 rfl (o_loadS rfl rfl rfl Ty.a3 rfl) ?_
  refine y0 rfl (o_cmp rfl rfl rfl) ?_
  refine y0 rfl (o_move (d := .bool (a0.Last != a1.Last)) rfl) ?_
  refine y_if (g := ((a0.Last != a1.Last) == false)) rfl (fun hg => o_fieldAddrP (k := 0) rfl Ty.f29_0 rfl) ?_
  refine y_if (g := ((a0.Last != a1.Last) == false)) rfl (fun hg => o_loadS (ct hg) rfl rfl Ty.a27 rfl) ?_
  refine y_if (g := ((a0.Last != a1.Last) == false)) rfl (fun hg => o_lnL (f := r03_Cell.Pv) (ct hg) Ty.e27) ?_
  refine y_if (g := ((a0.Last != a1.Last) == false)) rfl (fun hg => o_fieldAddrP (k := 0) rfl Ty.f29_0 rfl) ?_
  refine y_if (g := ((a0.Last != a1.Last) == false)) rfl (fun hg => o_loadS (ct hg) rfl rfl Ty.a27 rfl) ?_
  refine y_if (g := ((a0.Last != a1.Last) == false)) rfl (fun hg => o_lnL (f := r03_Cell.Pv) (ct hg) Ty.e27) ?_
  refine y_if (g := ((a0.Last != a1.Last) == false)) rfl (fun hg => o_cmp (ct hg) (ct hg) rfl) ?_
  refine y0 rfl (pk_or rfl rfl rfl (fun q => eqF q)) ?_
  refine y_nil ?_
  refine pw_cond ((a0.Last != a1.Last) || ((a0.Cells.length : Int) != (a1.Cells.length : Int))) rfl (fun hc => ?_) (fun hc => ?_)
  · have h := ifT h hc
    refine sr (by kernel_rfl) ?_
    refine y0 rfl (o_assign (d := .bool false) rfl) ?_
    refine y_nil ?_
    refine pw_ret ?_
    obtain rfl := Option.some.inj h
    exact ⟨rfl, [_], ⟨rfl, trivial⟩, rfl, by first | exact .inl rfl | exact .inr rfl⟩
  · have h := ifF h hc
    refine pw_skip ?_
    obtain ⟨κ6, hκ6, h⟩ := jnE h
    refine pw_jn0 (κ := κ6) (r := r) (fun (_ : Unit) => St.of [] []) (fun q7 h => ?_) ?_
    · subst hκ6
      refine sr (by kernel_rfl) ?_
      refine y0 rfl (o_assign (d := .bool true) rfl) ?_
      refine y_nil ?_
      refine pw_ret ?_
      obtain rfl := Option.some.inj h
      exact ⟨rfl, [_], ⟨rfl, trivial⟩, rfl, by first | exact .inl rfl | exact .inr rfl⟩
    · skip
      refine sr (by kernel_rfl) ?_
      refine y0 rfl (o_assign (d := .int .i64 0) rfl) ?_
      refine y_nil ?_
      refine pw_block ?_
      obtain ⟨e8, hl7, hk8⟩ := bindE h
      refine pw_lp0 (fun (s9 : Int) => St.of [(2, .ptr 2 0 0), (3, .ptr 3 0 0), (5, .int .i64 s9)] [(3, ⟨[r03_Slab.Pv a1], 0, false, 2, true⟩), (2, ⟨[r03_Slab.Pv a0], 0, false, 2, true⟩)]) hl7 (wk_st _ _ ⟨rfl, rfl, rfl, rfl, rfl, rfl, rfl, rfl, rfl, trivial⟩ ⟨rowLe_same rfl rfl rfl (fun q => nomatch q) rfl rfl rfl, rowLe_same rfl rfl rfl (fun q => nomatch q) rfl rfl rfl, trivial⟩) (fun s9 x10 h hx9 => ?_)
      refine pw_seq ?_
      refine sr (by kernel_rfl) ?_
      refine y0 rfl (o_move (d := .int .i64 s9) rfl) ?_
      refine y0 rfl (o_fieldAddrP (k := 0) rfl Ty.f29_0 rfl) ?_
      refine y0 rfl (o_loadS rfl rfl rfl Ty.a27 rfl) ?_
      refine y0 rfl (o_lnL (f := r03_Cell.Pv) rfl Ty.e27) ?_
      refine y0 rfl (o_cmp rfl rfl rfl) ?_
      refine y_nil ?_
      refine pw_cond (decide (s9 < (a0.Cells.length : Int))) rfl (fun hc => ?_) (fun hc => ?_)
      · have h := ifT h hc
        refine pw_skip ?_
        refine pw_seq ?_
        refine pw_block ?_
        refine dr [] Ty.mix (by kernel_rfl) (by kernel_rfl) ?_
        refine d7 rfl (fun _ hN => o_fieldAddrP (k := 0) rfl Ty.f29_0 rfl) rfl ?_
        refine d0 rfl (o_loadS rfl rfl rfl Ty.a27 rfl) rfl ?_
        refine d7 rfl (fun _ hN => o_move (d := .int .i64 s9) rfl) rfl ?_
        obtain ⟨v11, hv10, h⟩ := bindE h
        refine d0 rfl (o_ixL (f := r03_Cell.Pv) (cs := r03_Cell.Pc v11) hv10 rfl rfl Ty.e27 Ty.s72 rfl rfl) rfl ?_
        refine d0 rfl (o_loadRA (cs := r03_Cell.Pc v11) rfl Ty.a72 Ty.s72 (Nat.le_of_ble_eq_true rfl) rfl) rfl ?_
        refine d7 rfl (fun _ hN => o_fieldAddrP (k := 0) rfl Ty.f29_0 rfl) rfl ?_
        refine d0 rfl (o_loadS rfl rfl rfl Ty.a27 rfl) rfl ?_
        refine d7 rfl (fun _ hN => o_move (d := .int .i64 s9) rfl) rfl ?_
        obtain ⟨v12, hv11, h⟩ := bindE h
        refine d0 rfl (o_ixL (f := r03_Cell.Pv) (cs := r03_Cell.Pc v12) hv11 rfl rfl Ty.e27 Ty.s72 rfl rfl) rfl ?_
        refine d0 rfl (o_loadRA (cs := r03_Cell.Pc v12) rfl Ty.a72 Ty.s72 (Nat.le_of_ble_eq_true rfl) rfl) rfl ?_
        refine d7 rfl (fun _ hN => o_neA (xs := r03_Cell.Pc v11) (ys := r03_Cell.Pc v12) Ty.q72 rfl rfl rfl rfl) rfl ?_
        refine d_nil ?_
        refine pw_cond (!((v11.State == v12.State) && ((v11.Gen == v12.Gen) && ((v11.Val == v12.Val) && true)))) rfl (fun hc => ?_) (fun hc => ?_)
        · have h := ifT h hc
          refine sr (by kernel_rfl) ?_
          refine y0 rfl (o_assign (d := .bool false) rfl) ?_
          refine y_nil ?_
          refine pw_ret ?_
          have he := hx9 _ (Option.some.inj h).symm
          have h := hk8
          rw [← he] at h
          obtain rfl := Option.some.inj h
          exact ⟨rfl, [_], ⟨rfl, trivial⟩, rfl, by first | exact .inl rfl | exact .inr rfl⟩
        · have h := ifF h hc
          refine pw_skip ?_
          refine sr1 (by kernel_rfl) ?_
          refine y0 rfl (o_move (d := .int .i64 s9) rfl) ?_
          refine y0 rfl (o_ari rfl rfl rfl) ?_
          refine y0 rfl (o_assign (d := .int .i64 (w64 (s9 + 1))) rfl) ?_
          refine y_nil ?_
          exact ⟨rfl, w64 (s9 + 1), (Option.some.inj h).symm, (wk_st _ _ ⟨rfl, rfl, rfl, rfl, rfl, rfl, rfl, rfl, rfl, trivial⟩ ⟨rowLe_same rfl rfl rfl (fun q => nomatch q) rfl rfl rfl, rowLe_same rfl rfl rfl (fun q => nomatch q) rfl rfl rfl, trivial⟩)⟩
      · have h := ifF h hc
        refine pw_exit ?_
        refine thenQ_exit ?_
        refine thenQ_exit ?_
        refine blockQ_exit ?_
        have he := hx9 _ (Option.some.inj h).symm
        have h := hk8
        rw [← he] at h
        exact ⟨rfl, (), h, (wk_st _ _ trivial trivial)⟩

set_option maxHeartbeats 4000000 in
theorem slab_Set_int_ok {a0 : slab_Slab_int} {a1 : Int} {a2 : Int} {r : slab_Slab_int × Int} (h : slab_Set_int a0 a1 a2 = some r) : PCalls Try.prog 21 [slab_Slab_int.Pv a0, .int .i64 a1, .int .i64 a2] (.tup [slab_Slab_int.Pv r.1, .int .i64 r.2]) := by
  unfold slab_Set_int at h
  refine pc_intro (N := 32) Try.func21 rfl rfl (Nat.le_of_ble_eq_true rfl) fun w0 imm0 => ?_
  refine sr (by kernel_rfl) ?_
  refine y1 rfl (o_box (d := slab_Slab_int.Pv a0) (z := 2) (cl := true) rfl rfl rfl rfl rfl) rfl ?_
  refine y1 rfl (o_alloc (d := .agg [.lst false (List.map slab_Cell_int.Pv []), .int .i64 0]) (z := 2) rfl Ty.z24 rfl rfl rfl) rfl ?_
  refine y0 rfl (o_assign (d := .int .i64 0) rfl) ?_
  refine y_nil ?_
  refine sr (by kernel_rfl) ?_
  refine y0 rfl (o_loadA (cs := slab_Slab_int.Pc a0) rfl rfl rfl Ty.a24 Ty.s24 (Nat.le_of_ble_eq_true rfl) rfl) ?_
  refine y0 rfl (o_move (d := .int .i64 a1) rfl) ?_
  obtain ⟨v1, hv1, h⟩ := bindE h
  refine y0 rfl (o_call (ds := [slab_Slab_int.Pv a0, .int .i64 a1]) rfl Ty.k16 rfl (slab_Find_int_ok hv1)) ?_
  refine y0 rfl (o_move (d := .tup [.int .i64 v1.1, .int .i64 v1.2]) rfl) ?_
  refine y0 rfl (o_extract rfl rfl) ?_
  refine y0 rfl (o_extract rfl rfl) ?_
  refine y0 rfl (o_assign (d := .int .i64 v1.1) rfl) ?_
  refine y0 rfl (o_assign (d := .int .i64 v1.2) rfl) ?_
  refine y_nil ?_
  refine pw_seq ?_
  refine sr (by kernel_rfl) ?_
  refine y0 rfl (o_move (d := .int .i64 v1.2) rfl) ?_
  refine y0 rfl (o_cmp rfl rfl rfl) ?_
  refine y_nil ?_
  refine pw_cond (v1.2 != 0) rfl (fun hc => ?_) (fun hc => ?_)
  · have h := ifT h hc
    refine sr (by kernel_rfl) ?_
    refine y0 rfl (o_loadA (cs := slab_Slab_int.Pc a0) rfl rfl rfl Ty.a24 Ty.s24 (Nat.le_of_ble_eq_true rfl) rfl) ?_
    refine y0 rfl (o_move (d := .int .i64 v1.2) rfl) ?_
    refine y_sto (x' := slab_Slab_int.Pv a0) (cl' := true) rfl rfl (.inr rfl) Ty.s24 ?_
    refine y0 rfl (o_assign (d := .int .i64 v1.2) rfl) ?_
    refine y_nil ?_
    refine pw_ret ?_
    obtain rfl := Option.some.inj h
    exact ⟨rfl, [_, _], ⟨o_loadA rfl rfl rfl Ty.a24 Ty.s24 (Nat.le_of_ble_eq_true rfl) rfl, ⟨rfl, trivial⟩⟩, rfl, by first | exact .inl rfl | exact .inr rfl⟩
  · have h := ifF h hc
    refine pw_skip ?_
    refine sr (by kernel_rfl) ?_
    refine y0 rfl (o_fieldAddrP (k := 0) rfl Ty.f24_0 rfl) ?_
    refine y0 rfl (o_loadS rfl rfl rfl Ty.a22 rfl) ?_
    refine y0 rfl (o_move (d := .int .i64 v1.1) rfl) ?_
    obtain ⟨v2, hv2, h⟩ := bindE h
    refine y0 rfl (o_ixL (f := slab_Cell_int.Pv) (cs := slab_Cell_int.Pc v2) hv2 rfl rfl Ty.e22 Ty.s69 rfl rfl) ?_
    refine y0 rfl (o_loadRA (cs := slab_Cell_int.Pc v2) rfl Ty.a69 Ty.s69 (Nat.le_of_ble_eq_true rfl) rfl) ?_
    refine y1 rfl (o_alloc (d := .agg [.int .i64 0, .int .i64 0, .int .i64 0]) (z := 3) rfl Ty.z69 rfl rfl rfl) rfl ?_
    refine y_sto (x' := slab_Cell_int.Pv v2) (cl' := true) rfl rfl (.inl rfl) Ty.s69 ?_
    refine y_nil ?_
    refine sr (by kernel_rfl) ?_
    refine y0 rfl (o_move (d := .int .i64 a2) rfl) ?_
    refine y0 rfl (o_fieldAddrP (k := 2) rfl Ty.f69_2 rfl) ?_
    refine y_sto (x' := .agg [.int .i64 v2.State, .int .i64 v2.Gen, .int .i64 a2]) (cl' := true) rfl rfl (.inl rfl) Ty.s3 ?_
    refine y_nil ?_
    refine sr (by kernel_rfl) ?_
    refine y0 rfl (o_loadA (cs := slab_Slab_int.Pc a0) rfl rfl rfl Ty.a24 Ty.s24 (Nat.le_of_ble_eq_true rfl) rfl) ?_
    refine y0 rfl (o_move (d := .int .i64 v1.1) rfl) ?_
    refine y0 rfl (o_loadA (cs := [.int .i64 v2.State, .int .i64 v2.Gen, .int .i64 a2]) rfl rfl rfl Ty.a69 Ty.s69 (Nat.le_of_ble_eq_true rfl) rfl) ?_
    obtain ⟨v3, hv3, h⟩ := bindE h
    refine yc rfl (o_callF (ls := []) (ds := [slab_Slab_int.Pv a0, .int .i64 v1.1, .agg [.int .i64 v2.State, .int .i64 v2.Gen, .int .i64 a2]]) rfl Ty.k37 rfl (slab_with_int_ok hv3)) ?_
    refine y_sto (x' := slab_Slab_int.Pv v3) (cl' := true) rfl rfl (.inr rfl) Ty.s24 ?_
    refine y0 rfl (o_assign (d := .int .i64 0) rfl) ?_
    refine y_nil ?_
    refine pw_ret ?_
    obtain rfl := Option.some.inj h
    exact ⟨rfl, [_, _], ⟨o_loadA rfl rfl rfl Ty.a24 Ty.s24 (Nat.le_of_ble_eq_true rfl) rfl, ⟨rfl, trivial⟩⟩, rfl, by first | exact .inl rfl | exact .inr rfl⟩

set_option maxHeartbeats 4000000 in
theorem r03_Set_ok {a0 : r03_Slab} {a1 : Int} {a2 : Int} {r : r03_Slab × Int} (h : r03_Set a0 a1 a2 = some r) : PCalls Try.prog 22 [r03_Slab.Pv a0, .int .i64 a1, .int .i64 a2] (.tup [r03_Slab.Pv r.1, .int .i64 r.2]) := by
  unfold r03_Set at h
  refine pc_intro (N := 37) Try.func22 rfl rfl (Nat.le_of_ble_eq_true rfl) fun w0 imm0 => ?_
  refine sr (by kernel_rfl) ?_
  refine y1 rfl (o_box (d := r03_Slab.Pv a0) (z := 2) (cl := true) rfl rfl rfl rfl rfl) rfl ?_
  refine y1 rfl (o_alloc (d := .agg [.lst false (List.map r03_Cell.Pv []), .int .i64 0]) (z := 2) rfl Ty.z29 rfl rfl rfl) rfl ?_
  refine y0 rfl (o_assign (d := .int .i64 0) rfl) ?_
  refine y_nil ?_
  refine sr (by kernel_rfl) ?_
  refine y0 rfl (o_loadA (cs := r03_Slab.Pc a0) rfl rfl rfl Ty.a29 Ty.s29 (Nat.le_of_ble_eq_true rfl) rfl) ?_
  refine y0 rfl (o_move (d := .int .i64 a1) rfl) ?_
  obtain ⟨v1, hv1, h⟩ := bindE h
  refine y0 rfl (o_call (ds := [r03_Slab.Pv a0, .int .i64 a1]) rfl Ty.k17 rfl (r03_Find_ok hv1)) ?_
  refine y0 rfl (o_move (d := .tup [.int .i64 v1.1, .int .i64 v1.2]) rfl) ?_
  refine y0 rfl (o_extract rfl rfl) ?_
  refine y0 rfl (o_extract rfl rfl) ?_
  refine y0 rfl (o_assign (d := .int .i64 v1.1) rfl) ?_
  refine y0 rfl (o_assign (d := .int .i64 v1.2) rfl) ?_
  refine y_nil ?_
  refine pw_seq ?_
  refine sr (by kernel_rfl) ?_
  refine y0 rfl (o_move (d := .int .i64 v1.2) rfl) ?_
  refine y0 rfl (o_cmp rfl rfl rfl) ?_
  refine y_nil ?_
  refine pw_cond (v1.2 != 0) rfl (fun hc => ?_) (fun hc => ?_)
  · have h := ifT h hc
    refine sr (by kernel_rfl) ?_
    refine y0 rfl (o_loadA (cs := r03_Slab.Pc a0) rfl rfl rfl Ty.a29 Ty.s29 (Nat.le_of_ble_eq_true rfl) rfl) ?_
    refine y0 rfl (o_move (d := .int .i64 v1.2) rfl) ?_
    refine y_sto (x' := r03_Slab.Pv a0) (cl' := true) rfl rfl (.inr rfl) Ty.s29 ?_
    refine y0 rfl (o_assign (d := .int .i64 v1.2) rfl) ?_
    refine y_nil ?_
    refine pw_ret ?_
    obtain rfl := Option.some.inj h
    exact ⟨rfl, [_, _], ⟨o_loadA rfl rfl rfl Ty.a29 Ty.s29 (Nat.le_of_ble_eq_true rfl) rfl, ⟨rfl, trivial⟩⟩, rfl, by first | exact .inl rfl | exact .inr rfl⟩
  · have h := ifF h hc
    refine pw_skip ?_
    refine dr [] Ty.mix (by kernel_rfl) (by kernel_rfl) ?_
    refine d0 rfl (o_loadA (cs := r03_Slab.Pc a0) rfl rfl rfl Ty.a29 Ty.s29 (Nat.le_of_ble_eq_true rfl) rfl) rfl ?_
    refine d7 rfl (fun _ hN => o_move (d := .int .i64 v1.1) rfl) rfl ?_
    refine d7 rfl (fun _ hN => o_fieldAddrP (k := 0) rfl Ty.f29_0 rfl) rfl ?_
    refine d0 rfl (o_loadS rfl rfl rfl Ty.a27 rfl) rfl ?_
    refine d7 rfl (fun _ hN => o_move (d := .int .i64 v1.1) rfl) rfl ?_
    obtain ⟨v2, hv2, h⟩ := bindE h
    refine d0 rfl (o_ixL (f := r03_Cell.Pv) (cs := r03_Cell.Pc v2) hv2 rfl rfl Ty.e27 Ty.s72 rfl rfl) rfl ?_
    refine d7 rfl (fun _ hN => o_fieldAddrR rfl Ty.f72_0 rfl) rfl ?_
    refine d0 rfl (o_loadRS rfl Ty.a3 rfl) rfl ?_
    refine d7 rfl (fun _ hN => o_fieldAddrP (k := 0) rfl Ty.f29_0 rfl) rfl ?_
    refine d0 rfl (o_loadS rfl rfl rfl Ty.a27 rfl) rfl ?_
    refine d7 rfl (fun _ hN => o_move (d := .int .i64 v1.1) rfl) rfl ?_
    refine d0 rfl (o_ixL (f := r03_Cell.Pv) (cs := r03_Cell.Pc v2) hv2 rfl rfl Ty.e27 Ty.s72 rfl rfl) rfl ?_
    refine d7 rfl (fun _ hN => o_fieldAddrR rfl Ty.f72_1 rfl) rfl ?_
    refine d0 rfl (o_loadRS rfl Ty.a3 rfl) rfl ?_
    refine d7 rfl (fun _ hN => o_move (d := .int .i64 a2) rfl) rfl ?_
    refine d7 rfl (fun _ hN => o_build (cs := [.int .i64 v2.State, .int .i64 v2.Gen, .int .i64 a2]) rfl Ty.p72 Ty.z72 rfl rfl rfl) rfl ?_
    obtain ⟨v3, hv3, h⟩ := bindE h
    refine d2f rfl (o_callF (ls := []) (ds := [r03_Slab.Pv a0, .int .i64 v1.1, .agg [.int .i64 v2.State, .int .i64 v2.Gen, .int .i64 a2]]) rfl Ty.k39 rfl (r03_with_ok hv3)) rfl ?_
    refine d_sto (x' := r03_Slab.Pv v3) (cl' := true) rfl rfl (.inr rfl) Ty.s29 ?_
    refine d7 rfl (fun _ hN => o_assign (d := .int .i64 0) rfl) rfl ?_
    refine d_nil ?_
    refine pw_ret ?_
    obtain rfl := Option.some.inj h
    exact ⟨rfl, [_, _], ⟨o_loadA rfl rfl rfl Ty.a29 Ty.s29 (Nat.le_of_ble_eq_true rfl) rfl, ⟨rfl, trivial⟩⟩, rfl, by first | exact .inl rfl | exact .inr rfl⟩

set_option maxHeartbeats 4000000 in
theorem r03_Kill_ok {a0 : r03_Slab} {a1 : Int} {r : r03_Slab × Int} (h : r03_Kill a0 a1 = some r) : PCalls Try.prog 24 [r03_Slab.Pv a0, .int .i64 a1] (.tup [r03_Slab.Pv r.1, .int .i64 r.2]) := by
  unfold r03_Kill at h
  refine pc_intro (N := 42) Try.func24 rfl rfl (Nat.le_of_ble_eq_true rfl) fun w0 imm0 => ?_
  refine sr (by kernel_rfl) ?_
  refine y1 rfl (o_box (d := r03_Slab.Pv a0) (z := 2) (cl := true) rfl rfl rfl rfl rfl) rfl ?_
  refine y1 rfl (o_alloc (d := .agg [.lst false (List.map r03_Cell.Pv []), .int .i64 0]) (z := 2) rfl Ty.z29 rfl rfl rfl) rfl ?_
  refine y0 rfl (o_assign (d := .int .i64 0) rfl) ?_
  refine y_nil ?_
  refine sr (by kernel_rfl) ?_
  refine y0 rfl (o_loadA (cs := r03_Slab.Pc a0) rfl rfl rfl Ty.a29 Ty.s29 (Nat.le_of_ble_eq_true rfl) rfl) ?_
  refine y0 rfl (o_move (d := .int .i64 a1) rfl) ?_
  obtain ⟨v1, hv1, h⟩ := bindE h
  refine y0 rfl (o_call (ds := [r03_Slab.Pv a0, .int .i64 a1]) rfl Ty.k19 rfl (r03_Get_ok hv1)) ?_
  refine y0 rfl (o_move (d := .tup [.int .i64 v1.1, .int .i64 v1.2]) rfl) ?_
  refine y0 rfl (o_extract rfl rfl) ?_
  refine y0 rfl (o_extract rfl rfl) ?_
  refine y0 rfl (o_assign (d := .int .i64 v1.1) rfl) ?_
  refine y0 rfl (o_assign (d := .int .i64 v1.2) rfl) ?_
  refine y_nil ?_
  refine pw_seq ?_
  refine sr (by kernel_rfl) ?_
  refine y0 rfl (o_move (d := .int .i64 v1.2) rfl) ?_
  refine y0 rfl (o_cmp rfl rfl rfl) ?_
  refine y_nil ?_
  refine pw_cond (v1.2 != 0) rfl (fun hc => ?_) (fun hc => ?_)
  · have h := ifT h hc
    refine sr (by kernel_rfl) ?_
    refine y0 rfl (o_loadA (cs := r03_Slab.Pc a0) rfl rfl rfl Ty.a29 Ty.s29 (Nat.le_of_ble_eq_true rfl) rfl) ?_
    refine y0 rfl (o_move (d := .int .i64 v1.2) rfl) ?_
    refine y_sto (x' := r03_Slab.Pv a0) (cl' := true) rfl rfl (.inr rfl) Ty.s29 ?_
    refine y0 rfl (o_assign (d := .int .i64 v1.2) rfl) ?_
    refine y_nil ?_
    refine pw_ret ?_
    obtain rfl := Option.some.inj h
    exact ⟨rfl, [_, _], ⟨o_loadA rfl rfl rfl Ty.a29 Ty.s29 (Nat.le_of_ble_eq_true rfl) rfl, ⟨rfl, trivial⟩⟩, rfl, by first | exact .inl rfl | exact .inr rfl⟩
  · have h := ifF h hc
    refine pw_skip ?_
    refine sr (by kernel_rfl) ?_
    refine y0 rfl (o_loadA (cs := r03_Slab.Pc a0) rfl rfl rfl Ty.a29 Ty.s29 (Nat.le_of_ble_eq_true rfl) rfl) ?_
    refine y0 rfl (o_move (d := .int .i64 a1) rfl) ?_
    obtain ⟨v2, hv2, h⟩ := bindE h
    refine y0 rfl (o_call (ds := [r03_Slab.Pv a0, .int .i64 a1]) rfl Ty.k17 rfl (r03_Find_ok hv2)) ?_
    refine y0 rfl (o_move (d := .tup [.int .i64 v2.1, .int .i64 v2.2]) rfl) ?_
    refine y0 rfl (o_extract rfl rfl) ?_
    refine y0 rfl (o_extract rfl rfl) ?_
    refine y0 rfl (o_assign (d := .int .i64 v2.1) rfl) ?_
    refine y0 rfl (o_assign (d := .int .i64 v2.2) rfl) ?_
    refine y_nil ?_
    refine dr [] Ty.mix (by kernel_rfl) (by kernel_rfl) ?_
    refine d0 rfl (o_loadA (cs := r03_Slab.Pc a0) rfl rfl rfl Ty.a29 Ty.s29 (Nat.le_of_ble_eq_true rfl) rfl) rfl ?_
    refine d7 rfl (fun _ hN => o_move (d := .int .i64 v2.1) rfl) rfl ?_
    refine d7 rfl (fun _ hN => o_fieldAddrP (k := 0) rfl Ty.f29_0 rfl) rfl ?_
    refine d0 rfl (o_loadS rfl rfl rfl Ty.a27 rfl) rfl ?_
    refine d7 rfl (fun _ hN => o_move (d := .int .i64 v2.1) rfl) rfl ?_
    obtain ⟨v3, hv3, h⟩ := bindE h
    refine d0 rfl (o_ixL (f := r03_Cell.Pv) (cs := r03_Cell.Pc v3) hv3 rfl rfl Ty.e27 Ty.s72 rfl rfl) rfl ?_
    refine d7 rfl (fun _ hN => o_fieldAddrR rfl Ty.f72_1 rfl) rfl ?_
    refine d0 rfl (o_loadRS rfl Ty.a3 rfl) rfl ?_
    refine d7 rfl (fun _ hN => o_fieldAddrP (k := 0) rfl Ty.f29_0 rfl) rfl ?_
    refine d0 rfl (o_loadS rfl rfl rfl Ty.a27 rfl) rfl ?_
    refine d7 rfl (fun _ hN => o_move (d := .int .i64 v2.1) rfl) rfl ?_
    refine d0 rfl (o_ixL (f := r03_Cell.Pv) (cs := r03_Cell.Pc v3) hv3 rfl rfl Ty.e27 Ty.s72 rfl rfl) rfl ?_
    refine d7 rfl (fun _ hN => o_fieldAddrR rfl Ty.f72_2 rfl) rfl ?_
    refine d0 rfl (o_loadRS rfl Ty.a3 rfl) rfl ?_
    refine d7 rfl (fun _ hN => o_build (cs := [.int .i64 2, .int .i64 v3.Gen, .int .i64 v3.Val]) rfl Ty.p72 Ty.z72 rfl rfl rfl) rfl ?_
    obtain ⟨v4, hv4, h⟩ := bindE h
    refine d2f rfl (o_callF (ls := []) (ds := [r03_Slab.Pv a0, .int .i64 v2.1, .agg [.int .i64 2, .int .i64 v3.Gen, .int .i64 v3.Val]]) rfl Ty.k39 rfl (r03_with_ok hv4)) rfl ?_
    refine d_sto (x' := r03_Slab.Pv v4) (cl' := true) rfl rfl (.inr rfl) Ty.s29 ?_
    refine d7 rfl (fun _ hN => o_assign (d := .int .i64 0) rfl) rfl ?_
    refine d_nil ?_
    refine pw_ret ?_
    obtain rfl := Option.some.inj h
    exact ⟨rfl, [_, _], ⟨o_loadA rfl rfl rfl Ty.a29 Ty.s29 (Nat.le_of_ble_eq_true rfl) rfl, ⟨rfl, trivial⟩⟩, rfl, by first | exact .inl rfl | exact .inr rfl⟩

set_option maxHeartbeats 4000000 in
theorem r03_Give_ok {a0 : r03_Slab} {a1 : Int} {r : r03_Slab × Int} (h : r03_Give a0 a1 = some r) : PCalls Try.prog 26 [r03_Slab.Pv a0, .int .i64 a1] (.tup [r03_Slab.Pv r.1, .int .i64 r.2]) := by
  unfold r03_Give at h
  refine pc_intro (N := 40) Try.func26 rfl rfl (Nat.le_of_ble_eq_true rfl) fun w0 imm0 => ?_
  refine sr (by kernel_rfl) ?_
  refine y1 rfl (o_box (d := r03_Slab.Pv a0) (z := 2) (cl := true) rfl rfl rfl rfl rfl) rfl ?_
  refine y1 rfl (o_alloc (d := .agg [.lst false (List.map r03_Cell.Pv []), .int .i64 0]) (z := 2) rfl Ty.z29 rfl rfl rfl) rfl ?_
  refine y0 rfl (o_assign (d := .int .i64 0) rfl) ?_
  refine y_nil ?_
  refine sr (by kernel_rfl) ?_
  refine y0 rfl (o_loadA (cs := r03_Slab.Pc a0) rfl rfl rfl Ty.a29 Ty.s29 (Nat.le_of_ble_eq_true rfl) rfl) ?_
  refine y0 rfl (o_move (d := .int .i64 a1) rfl) ?_
  obtain ⟨v1, hv1, h⟩ := bindE h
  refine y0 rfl (o_call (ds := [r03_Slab.Pv a0, .int .i64 a1]) rfl Ty.k17 rfl (r03_Find_ok hv1)) ?_
  refine y0 rfl (o_move (d := .tup [.int .i64 v1.1, .int .i64 v1.2]) rfl) ?_
  refine y0 rfl (o_extract rfl rfl) ?_
  refine y0 rfl (o_extract rfl rfl) ?_
  refine y0 rfl (o_assign (d := .int .i64 v1.1) rfl) ?_
  refine y0 rfl (o_assign (d := .int .i64 v1.2) rfl) ?_
  refine y_nil ?_
  refine pw_seq ?_
  refine sr (by kernel_rfl) ?_
  refine y0 rfl (o_move (d := .int .i64 v1.2) rfl) ?_
  refine y0 rfl (o_cmp rfl rfl rfl) ?_
  refine y_nil ?_
  refine pw_cond (v1.2 != 0) rfl (fun hc => ?_) (fun hc => ?_)
  · have h := ifT h hc
    refine sr (by kernel_rfl) ?_
    refine y0 rfl (o_loadA (cs := r03_Slab.Pc a0) rfl rfl rfl Ty.a29 Ty.s29 (Nat.le_of_ble_eq_true rfl) rfl) ?_
    refine y0 rfl (o_move (d := .int .i64 v1.2) rfl) ?_
    refine y_sto (x' := r03_Slab.Pv a0) (cl' := true) rfl rfl (.inr rfl) Ty.s29 ?_
    refine y0 rfl (o_assign (d := .int .i64 v1.2) rfl) ?_
    refine y_nil ?_
    refine pw_ret ?_
    obtain rfl := Option.some.inj h
    exact ⟨rfl, [_, _], ⟨o_loadA rfl rfl rfl Ty.a29 Ty.s29 (Nat.le_of_ble_eq_true rfl) rfl, ⟨rfl, trivial⟩⟩, rfl, by first | exact .inl rfl | exact .inr rfl⟩
  · have h := ifF h hc
    refine pw_skip ?_
    refine sr (by kernel_rfl) ?_
    refine y0 rfl (o_fieldAddrP (k := 0) rfl Ty.f29_0 rfl) ?_
    refine y0 rfl (o_loadS rfl rfl rfl Ty.a27 rfl) ?_
    refine y0 rfl (o_move (d := .int .i64 v1.1) rfl) ?_
    obtain ⟨v2, hv2, h⟩ := bindE h
    refine y0 rfl (o_ixL (f := r03_Cell.Pv) (cs := r03_Cell.Pc v2) hv2 rfl rfl Ty.e27 Ty.s72 rfl rfl) ?_
    refine y0 rfl (o_fieldAddrR rfl Ty.f72_1 rfl) ?_
    refine y0 rfl (o_loadRS rfl Ty.a3 rfl) ?_
    refine y0 rfl (o_assign (d := .int .i64 v2.Gen) rfl) ?_
    refine y_nil ?_
    refine pw_seq ?_
    refine sr (by kernel_rfl) ?_
    refine y0 rfl (o_move (d := .int .i64 v2.Gen) rfl) ?_
    refine y0 rfl (o_fieldAddrP (k := 1) rfl Ty.f29_1 rfl) ?_
    refine y0 rfl (o_loadS rfl rfl rfl Ty.a3 rfl) ?_
    refine y0 rfl (o_cmp rfl rfl rfl) ?_
    refine y_nil ?_
    refine pw_cond (decide (v2.Gen ≥ a0.Last)) rfl (fun hc => ?_) (fun hc => ?_)
    · have h := ifT h hc
      refine sr (by kernel_rfl) ?_
      refine y0 rfl (o_loadA (cs := r03_Slab.Pc a0) rfl rfl rfl Ty.a29 Ty.s29 (Nat.le_of_ble_eq_true rfl) rfl) ?_
      refine y0 rfl (o_move (d := .int .i64 v1.1) rfl) ?_
      refine y0 rfl (o_move (d := .int .i64 v2.Gen) rfl) ?_
      refine y0 rfl (o_build (cs := [.int .i64 3, .int .i64 v2.Gen, .int .i64 0]) rfl Ty.p72 Ty.z72 rfl rfl rfl) ?_
      obtain ⟨v3, hv3, h⟩ := bindE h
      refine yc rfl (o_callF (ls := []) (ds := [r03_Slab.Pv a0, .int .i64 v1.1, .agg [.int .i64 3, .int .i64 v2.Gen, .int .i64 0]]) rfl Ty.k39 rfl (r03_with_ok hv3)) ?_
      refine y_sto (x' := r03_Slab.Pv v3) (cl' := true) rfl rfl (.inr rfl) Ty.s29 ?_
      refine y0 rfl (o_assign (d := .int .i64 0) rfl) ?_
      refine y_nil ?_
      refine pw_ret ?_
      obtain rfl := Option.some.inj h
      exact ⟨rfl, [_, _], ⟨o_loadA rfl rfl rfl Ty.a29 Ty.s29 (Nat.le_of_ble_eq_true rfl) rfl, ⟨rfl, trivial⟩⟩, rfl, by first | exact .inl rfl | exact .inr rfl⟩
    · have h := ifF h hc
      refine pw_skip ?_
      refine sr (by kernel_rfl) ?_
      refine y0 rfl (o_loadA (cs := r03_Slab.Pc a0) rfl rfl rfl Ty.a29 Ty.s29 (Nat.le_of_ble_eq_true rfl) rfl) ?_
      refine y0 rfl (o_move (d := .int .i64 v1.1) rfl) ?_
      refine y0 rfl (o_move (d := .int .i64 v2.Gen) rfl) ?_
      refine y0 rfl (o_ari rfl rfl rfl) ?_
      refine y0 rfl (o_build (cs := [.int .i64 0, .int .i64 (w64 (v2.Gen + 1)), .int .i64 0]) rfl Ty.p72 Ty.z72 rfl rfl rfl) ?_
      obtain ⟨v4, hv4, h⟩ := bindE h
      refine yc rfl (o_callF (ls := []) (ds := [r03_Slab.Pv a0, .int .i64 v1.1, .agg [.int .i64 0, .int .i64 (w64 (v2.Gen + 1)), .int .i64 0]]) rfl Ty.k39 rfl (r03_with_ok hv4)) ?_
      refine y_sto (x' := r03_Slab.Pv v4) (cl' := true) rfl rfl (.inr rfl) Ty.s29 ?_
      refine y0 rfl (o_assign (d := .int .i64 0) rfl) ?_
      refine y_nil ?_
      refine pw_ret ?_
      obtain rfl := Option.some.inj h
      exact ⟨rfl, [_, _], ⟨o_loadA rfl rfl rfl Ty.a29 Ty.s29 (Nat.le_of_ble_eq_true rfl) rfl, ⟨rfl, trivial⟩⟩, rfl, by first | exact .inl rfl | exact .inr rfl⟩

set_option maxHeartbeats 4000000 in
theorem r03_Tally_ok {a0 : r03_Slab} {r : A4} (h : r03_Tally a0 = some r) : PCalls Try.prog 28 [r03_Slab.Pv a0] (A4.Pv r) := by
  unfold r03_Tally at h
  refine pc_intro (N := 25) Try.func28 rfl rfl (Nat.le_of_ble_eq_true rfl) fun w0 imm0 => ?_
  refine sr (by kernel_rfl) ?_
  refine y1 rfl (o_box (d := r03_Slab.Pv a0) (z := 2) (cl := true) rfl rfl rfl rfl rfl) rfl ?_
  refine y1 rfl (o_alloc (d := .agg [.int .i64 0, .int .i64 0, .int .i64 0, .int .i64 0]) (z := 4) rfl Ty.z46 rfl rfl rfl) rfl ?_
  refine y_nil ?_
  refine sr (by kernel_rfl) ?_
  refine y0 rfl (o_build (cs := [.int .i64 0, .int .i64 0, .int .i64 0, .int .i64 0]) rfl Ty.p46 Ty.z46 rfl rfl rfl) ?_
  refine y1 rfl (o_alloc (d := .agg [.int .i64 0, .int .i64 0, .int .i64 0, .int .i64 0]) (z := 4) rfl Ty.z46 rfl rfl rfl) rfl ?_
  refine y_sto (x' := .agg [.int .i64 0, .int .i64 0, .int .i64 0, .int .i64 0]) (cl' := true) rfl rfl (.inl rfl) Ty.s46 ?_
  refine y_nil ?_
  obtain ⟨κ8, hκ6, h⟩ := jnE h
  refine pw_jn0 (κ := κ8) (r := r) (fun (j9 : A4) => St.of [(2, .ptr 2 0 0), (3, .ptr 3 0 0)] [(3, ⟨[A4.Pv j9], 0, false, 4, true⟩), (2, ⟨[.agg [.int .i64 0, .int .i64 0, .int .i64 0, .int .i64 0]], 0, false, 4, true⟩)]) (fun j9 h => ?_) ?_
  · subst hκ6
    refine sr (by kernel_rfl) ?_
    refine y0 rfl (o_loadA (cs := A4.Pc j9) rfl rfl rfl Ty.a46 Ty.s46 (Nat.le_of_ble_eq_true rfl) rfl) ?_
    refine y_sto (x' := A4.Pv j9) (cl' := true) rfl rfl (.inl rfl) Ty.s46 ?_
    refine y_nil ?_
    refine pw_ret ?_
    obtain rfl := Option.some.inj h
    exact ⟨rfl, [_], ⟨o_loadA rfl rfl rfl Ty.a46 Ty.s46 (Nat.le_of_ble_eq_true rfl) rfl, trivial⟩, rfl, by first | exact .inl rfl | exact .inr rfl⟩
  · skip
    refine sr (by kernel_rfl) ?_
    refine y0 rfl (o_assign (d := .int .i64 0) rfl) ?_
    refine y_nil ?_
    refine pw_block ?_
    obtain ⟨e10, hl7, hk8⟩ := bindE h
    refine pw_lp0 (fun (q : Int × A4) => St.of [(1, .ptr 1 0 0), (2, .ptr 2 0 0), (3, .ptr 3 0 0), (4, .int .i64 q.1)] [(3, ⟨[A4.Pv q.2], 0, false, 4, true⟩), (2, ⟨[.agg [.int .i64 0, .int .i64 0, .int .i64 0, .int .i64 0]], 0, false, 4, true⟩), (1, ⟨[r03_Slab.Pv a0], 0, false, 2, true⟩)]) hl7 (wk_st _ _ ⟨rfl, rfl, rfl, rfl, rfl, rfl, rfl, rfl, rfl, rfl, rfl, rfl, trivial⟩ ⟨rowLe_same rfl rfl rfl (fun q => nomatch q) rfl rfl rfl, rowLe_same rfl rfl rfl (fun q => nomatch q) rfl rfl rfl, rowLe_same rfl rfl rfl (fun q => nomatch q) rfl rfl rfl, trivial⟩) (fun q14 x13 h hx9 => ?_)
    obtain ⟨s11, s12⟩ := q14
    refine pw_seq ?_
    refine sr (by kernel_rfl) ?_
    refine y0 rfl (o_move (d := .int .i64 s11) rfl) ?_
    refine y0 rfl (o_fieldAddrP (k := 0) rfl Ty.f29_0 rfl) ?_
    refine y0 rfl (o_loadS rfl rfl rfl Ty.a27 rfl) ?_
    refine y0 rfl (o_lnL (f := r03_Cell.Pv) rfl Ty.e27) ?_
    refine y0 rfl (o_cmp rfl rfl rfl) ?_
    refine y_nil ?_
    refine pw_cond (decide (s11 < (a0.Cells.length : Int))) rfl (fun hc => ?_) (fun hc => ?_)
    · have h := ifT h hc
      refine pw_skip ?_
      refine pw_seq ?_
      refine pw_block ?_
      refine sr1 (by kernel_rfl) ?_
      refine y0 rfl (o_fieldAddrP (k := 0) rfl Ty.f29_0 rfl) ?_
      refine y0 rfl (o_loadS rfl rfl rfl Ty.a27 rfl) ?_
      refine y0 rfl (o_move (d := .int .i64 s11) rfl) ?_
      obtain ⟨v15, hv10, h⟩ := bindE h
      refine y0 rfl (o_ixL (f := r03_Cell.Pv) (cs := r03_Cell.Pc v15) hv10 rfl rfl Ty.e27 Ty.s72 rfl rfl) ?_
      refine y0 rfl (o_fieldAddrR rfl Ty.f72_0 rfl) ?_
      refine y0 rfl (o_loadRS rfl Ty.a3 rfl) ?_
      refine y0 rfl (o_bitand rfl rfl) ?_
      obtain ⟨v16, hv11, h⟩ := bindE h
      refine y0 rfl (o_ixA hv11 rfl rfl Ty.r46 Ty.s3) ?_
      refine y0 rfl (o_loadS rfl rfl rfl Ty.a3 (A4.get hv11)) ?_
      refine y0 rfl (o_ari rfl rfl rfl) ?_
      refine y0 rfl (o_ixA hv11 rfl rfl Ty.r46 Ty.s3) ?_
      refine y_stA hv11 rfl rfl (.inl rfl) rfl Ty.s3 ?_
      refine y_nil ?_
      refine sr1 (by kernel_rfl) ?_
      refine y0 rfl (o_move (d := .int .i64 s11) rfl) ?_
      refine y0 rfl (o_ari rfl rfl rfl) ?_
      refine y0 rfl (o_assign (d := .int .i64 (w64 (s11 + 1))) rfl) ?_
      refine y_nil ?_
      exact ⟨rfl, (w64 (s11 + 1), (A4.st s12 (bitand .i64 v15.State 3) (w64 (v16 + 1)))), (Option.some.inj h).symm, (wk_st _ _ ⟨rfl, rfl, rfl, rfl, rfl, rfl, rfl, rfl, rfl, rfl, rfl, rfl, trivial⟩ ⟨rowLe_same rfl rfl rfl (fun q => nomatch q) rfl rfl rfl, rowLe_same rfl rfl rfl (fun q => nomatch q) rfl rfl rfl, rowLe_same rfl rfl rfl (fun q => nomatch q) rfl rfl rfl, trivial⟩)⟩
    · have h := ifF h hc
      refine pw_exit ?_
      refine thenQ_exit ?_
      refine thenQ_exit ?_
      refine blockQ_exit ?_
      have he := hx9 _ (Option.some.inj h).symm
      have h := hk8
      rw [← he] at h
      exact ⟨rfl, s12, h, (wk_st _ _ ⟨rfl, rfl, rfl, rfl, rfl, rfl, trivial⟩ ⟨rowLe_same rfl rfl rfl (fun q => nomatch q) rfl rfl rfl, rowLe_same rfl rfl rfl (fun q => nomatch q) rfl rfl rfl, trivial⟩)⟩

set_option maxHeartbeats 4000000 in
theorem w03_SlabActs_ok {a0 : slab_Slab_int} {a1 : Int} {a2 : Int} {r : Bool} (h : w03_SlabActs a0 a1 a2 = some r) : PCalls Try.prog 3 [slab_Slab_int.Pv a0, .int .i64 a1, .int .i64 a2] (.bool r) := by
  unfold w03_SlabActs at h
  refine pc_intro (N := 193) Try.func3 rfl rfl (Nat.le_of_ble_eq_true rfl) fun w0 imm0 => ?_
  refine sr (by kernel_rfl) ?_
  refine y1 rfl (o_box (d := slab_Slab_int.Pv a0) (z := 2) (cl := true) rfl rfl rfl rfl rfl) rfl ?_
  refine y0 rfl (o_assign (d := .bool false) rfl) ?_
  refine y_nil ?_
  refine pw_seq ?_
  refine sr (by kernel_rfl) ?_
  refine y0 rfl (o_loadA (cs := slab_Slab_int.Pc a0) rfl rfl rfl Ty.a24 Ty.s24 (Nat.le_of_ble_eq_true rfl) rfl) ?_
  obtain ⟨v1, hv1, h⟩ := bindE h
  refine y0 rfl (o_call (ds := [slab_Slab_int.Pv a0]) rfl Ty.k11 rfl (w03_right_ok hv1)) ?_
  refine y0 rfl (o_not rfl rfl) ?_
  refine y0 rfl (o_move (d := .bool (!v1)) rfl) ?_
  obtain ⟨v2, hv2, h⟩ := bindE h
  refine y_if (g := ((!v1) == false)) rfl (fun hg => o_call (ds := []) rfl Ty.k12 rfl (w03_shown_ok (onlyE hv2 hg))) ?_
  refine y_if (g := ((!v1) == false)) rfl (fun hg => o_not (ct hg) rfl) ?_
  refine y0 rfl (pk_or rfl rfl rfl (fun q => eqF q)) ?_
  refine y_nil ?_
  refine pw_cond ((!v1) || (!v2)) rfl (fun hc => ?_) (fun hc => ?_)
  · have h := ifT h hc
    refine sr (by kernel_rfl) ?_
    obtain ⟨v3, hv3, h⟩ := bindE h
    refine y0 rfl (o_call (ds := []) rfl Ty.k12 rfl (w03_shown_ok hv3)) ?_
    refine y0 rfl (o_assign (d := .bool v3) rfl) ?_
    refine y_nil ?_
    refine pw_ret ?_
    obtain rfl := Option.some.inj h
    exact ⟨rfl, [_], ⟨rfl, trivial⟩, rfl, by first | exact .inl rfl | exact .inr rfl⟩
  · have h := ifF h hc
    refine pw_skip ?_
    refine sr (by kernel_rfl) ?_
    refine y0 rfl (o_loadA (cs := slab_Slab_int.Pc a0) rfl rfl rfl Ty.a24 Ty.s24 (Nat.le_of_ble_eq_true rfl) rfl) ?_
    obtain ⟨v4, hv4, h⟩ := bindE h
    refine yc rfl (o_callF (ls := []) (ds := [slab_Slab_int.Pv a0]) rfl Ty.k13 rfl (w03_its_ok hv4)) ?_
    refine y1 rfl (o_alloc (d := .agg [.lst false (List.map r03_Cell.Pv []), .int .i64 0]) (z := 2) rfl Ty.z29 rfl rfl rfl) rfl ?_
    refine y_sto (x' := r03_Slab.Pv v4) (cl' := true) rfl rfl (.inr rfl) Ty.s29 ?_
    refine y_nil ?_
    refine sr (by kernel_rfl) ?_
    refine y0 rfl (o_loadA (cs := slab_Slab_int.Pc a0) rfl rfl rfl Ty.a24 Ty.s24 (Nat.le_of_ble_eq_true rfl) rfl) ?_
    refine y0 rfl (o_move (d := .int .i64 a2) rfl) ?_
    obtain ⟨v5, hv5, h⟩ := bindE h
    refine yc rfl (o_callF (ls := []) (ds := [slab_Slab_int.Pv a0, .int .i64 a2]) rfl Ty.k14 rfl (slab_Take_int_ok hv5)) ?_
    refine y0 rfl (o_move (d := .tup [slab_Slab_int.Pv v5.1, .int .i64 v5.2.1, .int .i64 v5.2.2]) rfl) ?_
    refine y0 rfl (o_extract rfl rfl) ?_
    refine y0 rfl (o_extract rfl rfl) ?_
    refine y0 rfl (o_extract rfl rfl) ?_
    refine y1 rfl (o_alloc (d := .agg [.lst false (List.map slab_Cell_int.Pv []), .int .i64 0]) (z := 2) rfl Ty.z24 rfl rfl rfl) rfl ?_
    refine y_sto (x' := slab_Slab_int.Pv v5.1) (cl' := true) rfl rfl (.inr rfl) Ty.s24 ?_
    refine y0 rfl (o_assign (d := .int .i64 v5.2.1) rfl) ?_
    refine y0 rfl (o_assign (d := .int .i64 v5.2.2) rfl) ?_
    refine y_nil ?_
    refine sr (by kernel_rfl) ?_
    refine y0 rfl (o_loadA (cs := r03_Slab.Pc v4) rfl rfl rfl Ty.a29 Ty.s29 (Nat.le_of_ble_eq_true rfl) rfl) ?_
    refine y0 rfl (o_move (d := .int .i64 a2) rfl) ?_
    obtain ⟨v6, hv6, h⟩ := bindE h
    refine yc rfl (o_callF (ls := []) (ds := [r03_Slab.Pv v4, .int .i64 a2]) rfl Ty.k15 rfl (r03_Take_ok hv6)) ?_
    refine y0 rfl (o_move (d := .tup [r03_Slab.Pv v6.1, .int .i64 v6.2.1, .int .i64 v6.2.2]) rfl) ?_
    refine y0 rfl (o_extract rfl rfl) ?_
    refine y0 rfl (o_extract rfl rfl) ?_
    refine y0 rfl (o_extract rfl rfl) ?_
    refine y1 rfl (o_alloc (d := .agg [.lst false (List.map r03_Cell.Pv []), .int .i64 0]) (z := 2) rfl Ty.z29 rfl rfl rfl) rfl ?_
    refine y_sto (x' := r03_Slab.Pv v6.1) (cl' := true) rfl rfl (.inr rfl) Ty.s29 ?_
    refine y0 rfl (o_assign (d := .int .i64 v6.2.1) rfl) ?_
    refine y0 rfl (o_assign (d := .int .i64 v6.2.2) rfl) ?_
    refine y_nil ?_
    refine sr (by kernel_rfl) ?_
    refine y0 rfl (o_loadA (cs := slab_Slab_int.Pc a0) rfl rfl rfl Ty.a24 Ty.s24 (Nat.le_of_ble_eq_true rfl) rfl) ?_
    refine y0 rfl (o_move (d := .int .i64 a1) rfl) ?_
    obtain ⟨v7, hv7, h⟩ := bindE h
    refine y0 rfl (o_call (ds := [slab_Slab_int.Pv a0, .int .i64 a1]) rfl Ty.k16 rfl (slab_Find_int_ok hv7)) ?_
    refine y0 rfl (o_move (d := .tup [.int .i64 v7.1, .int .i64 v7.2]) rfl) ?_
    refine y0 rfl (o_extract rfl rfl) ?_
    refine y0 rfl (o_extract rfl rfl) ?_
    refine y0 rfl (o_assign (d := .int .i64 v7.1) rfl) ?_
    refine y0 rfl (o_assign (d := .int .i64 v7.2) rfl) ?_
    refine y_nil ?_
    refine sr (by kernel_rfl) ?_
    refine y0 rfl (o_loadA (cs := r03_Slab.Pc v4) rfl rfl rfl Ty.a29 Ty.s29 (Nat.le_of_ble_eq_true rfl) rfl) ?_
    refine y0 rfl (o_move (d := .int .i64 a1) rfl) ?_
    obtain ⟨v8, hv8, h⟩ := bindE h
    refine y0 rfl (o_call (ds := [r03_Slab.Pv v4, .int .i64 a1]) rfl Ty.k17 rfl (r03_Find_ok hv8)) ?_
    refine y0 rfl (o_move (d := .tup [.int .i64 v8.1, .int .i64 v8.2]) rfl) ?_
    refine y0 rfl (o_extract rfl rfl) ?_
    refine y0 rfl (o_extract rfl rfl) ?_
    refine y0 rfl (o_assign (d := .int .i64 v8.1) rfl) ?_
    refine y0 rfl (o_assign (d := .int .i64 v8.2) rfl) ?_
    refine y_nil ?_
    refine sr (by kernel_rfl) ?_
    refine y0 rfl (o_loadA (cs := slab_Slab_int.Pc a0) rfl rfl rfl Ty.a24 Ty.s24 (Nat.le_of_ble_eq_true rfl) rfl) ?_
    refine y0 rfl (o_move (d := .int .i64 a1) rfl) ?_
    obtain ⟨v9, hv9, h⟩ := bindE h
    refine y0 rfl (o_call (ds := [slab_Slab_int.Pv a0, .int .i64 a1]) rfl Ty.k18 rfl (slab_Get_int_ok hv9)) ?_
    refine y0 rfl (o_move (d := .tup [.int .i64 v9.1, .int .i64 v9.2]) rfl) ?_
    refine y0 rfl (o_extract rfl rfl) ?_
    refine y0 rfl (o_extract rfl rfl) ?_
    refine y0 rfl (o_assign (d := .int .i64 v9.1) rfl) ?_
    refine y0 rfl (o_assign (d := .int .i64 v9.2) rfl) ?_
    refine y_nil ?_
    refine sr (by kernel_rfl) ?_
    refine y0 rfl (o_loadA (cs := r03_Slab.Pc v4) rfl rfl rfl Ty.a29 Ty.s29 (Nat.le_of_ble_eq_true rfl) rfl) ?_
    refine y0 rfl (o_move (d := .int .i64 a1) rfl) ?_
    obtain ⟨v10, hv10, h⟩ := bindE h
    refine y0 rfl (o_call (ds := [r03_Slab.Pv v4, .int .i64 a1]) rfl Ty.k19 rfl (r03_Get_ok hv10)) ?_
    refine y0 rfl (o_move (d := .tup [.int .i64 v10.1, .int .i64 v10.2]) rfl) ?_
    refine y0 rfl (o_extract rfl rfl) ?_
    refine y0 rfl (o_extract rfl rfl) ?_
    refine y0 rfl (o_assign (d := .int .i64 v10.1) rfl) ?_
    refine y0 rfl (o_assign (d := .int .i64 v10.2) rfl) ?_
    refine y_nil ?_
    refine pw_seq ?_
    refine dr [] Ty.mix (by kernel_rfl) (by kernel_rfl) ?_
    refine d0 rfl (o_loadA (cs := slab_Slab_int.Pc v5.1) rfl rfl rfl Ty.a24 Ty.s24 (Nat.le_of_ble_eq_true rfl) rfl) rfl ?_
    obtain ⟨v11, hv11, h⟩ := bindE h
    refine d2f rfl (o_callF (ls := []) (ds := [slab_Slab_int.Pv v5.1]) rfl Ty.k13 rfl (w03_its_ok hv11)) rfl ?_
    refine d0 rfl (o_loadA (cs := r03_Slab.Pc v6.1) rfl rfl rfl Ty.a29 Ty.s29 (Nat.le_of_ble_eq_true rfl) rfl) rfl ?_
    obtain ⟨v12, hv12, h⟩ := bindE h
    refine d2 rfl (o_call (ds := [r03_Slab.Pv v11, r03_Slab.Pv v6.1]) rfl Ty.k20 rfl (r03_Same_ok hv12)) rfl ?_
    refine d7 rfl (fun _ hN => o_not rfl rfl) rfl ?_
    refine d7 rfl (fun _ hN => o_move (d := .bool (!v12)) rfl) rfl ?_
    refine d_if7 (g := ((!v12) == false)) rfl (fun hg _ hN => o_move (d := .int .i64 v5.2.1) rfl) rfl ?_
    refine d_if7 (g := ((!v12) == false)) rfl (fun hg _ hN => o_move (d := .int .i64 v6.2.1) rfl) rfl ?_
    refine d_if7 (g := ((!v12) == false)) rfl (fun hg _ hN => o_cmp (ct hg) (ct hg) rfl) rfl ?_
    refine d7 rfl (fun _ hN => pk_or rfl rfl rfl (fun q => eqF q)) rfl ?_
    refine d7 rfl (fun _ hN => o_move (d := .bool ((!v12) || (v5.2.1 != v6.2.1))) rfl) rfl ?_
    refine d_if7 (g := (((!v12) || (v5.2.1 != v6.2.1)) == false)) rfl (fun hg _ hN => o_move (d := .int .i64 v5.2.2) rfl) rfl ?_
    refine d_if7 (g := (((!v12) || (v5.2.1 != v6.2.1)) == false)) rfl (fun hg _ hN => o_move (d := .int .i64 v6.2.2) rfl) rfl ?_
    refine d_if7 (g := (((!v12) || (v5.2.1 != v6.2.1)) == false)) rfl (fun hg _ hN => o_cmp (ct hg) (ct hg) rfl) rfl ?_
    refine d7 rfl (fun _ hN => pk_or rfl rfl rfl (fun q => eqF q)) rfl ?_
    refine d7 rfl (fun _ hN => o_move (d := .bool (((!v12) || (v5.2.1 != v6.2.1)) || (v5.2.2 != v6.2.2))) rfl) rfl ?_
    refine d_if7 (g := ((((!v12) || (v5.2.1 != v6.2.1)) || (v5.2.2 != v6.2.2)) == false)) rfl (fun hg _ hN => o_move (d := .int .i64 v7.1) rfl) rfl ?_
    refine d_if7 (g := ((((!v12) || (v5.2.1 != v6.2.1)) || (v5.2.2 != v6.2.2)) == false)) rfl (fun hg _ hN => o_move (d := .int .i64 v8.1) rfl) rfl ?_
    refine d_if7 (g := ((((!v12) || (v5.2.1 != v6.2.1)) || (v5.2.2 != v6.2.2)) == false)) rfl (fun hg _ hN => o_cmp (ct hg) (ct hg) rfl) rfl ?_
    refine d7 rfl (fun _ hN => pk_or rfl rfl rfl (fun q => eqF q)) rfl ?_
    refine d7 rfl (fun _ hN => o_move (d := .bool ((((!v12) || (v5.2.1 != v6.2.1)) || (v5.2.2 != v6.2.2)) || (v7.1 != v8.1))) rfl) rfl ?_
    refine d_if7 (g := (((((!v12) || (v5.2.1 != v6.2.1)) || (v5.2.2 != v6.2.2)) || (v7.1 != v8.1)) == false)) rfl (fun hg _ hN => o_move (d := .int .i64 v7.2) rfl) rfl ?_
    refine d_if7 (g := (((((!v12) || (v5.2.1 != v6.2.1)) || (v5.2.2 != v6.2.2)) || (v7.1 != v8.1)) == false)) rfl (fun hg _ hN => o_move (d := .int .i64 v8.2) rfl) rfl ?_
    refine d_if7 (g := (((((!v12) || (v5.2.1 != v6.2.1)) || (v5.2.2 != v6.2.2)) || (v7.1 != v8.1)) == false)) rfl (fun hg _ hN => o_cmp (ct hg) (ct hg) rfl) rfl ?_
    refine d7 rfl (fun _ hN => pk_or rfl rfl rfl (fun q => eqF q)) rfl ?_
    refine d7 rfl (fun _ hN => o_move (d := .bool (((((!v12) || (v5.2.1 != v6.2.1)) || (v5.2.2 != v6.2.2)) || (v7.1 != v8.1)) || (v7.2 != v8.2))) rfl) rfl ?_
    refine d_if7 (g := ((((((!v12) || (v5.2.1 != v6.2.1)) || (v5.2.2 != v6.2.2)) || (v7.1 != v8.1)) || (v7.2 != v8.2)) == false)) rfl (fun hg _ hN => o_move (d := .int .i64 v9.1) rfl) rfl ?_
    refine d_if7 (g := ((((((!v12) || (v5.2.1 != v6.2.1)) || (v5.2.2 != v6.2.2)) || (v7.1 != v8.1)) || (v7.2 != v8.2)) == false)) rfl (fun hg _ hN => o_move (d := .int .i64 v10.1) rfl) rfl ?_
    refine d_if7 (g := ((((((!v12) || (v5.2.1 != v6.2.1)) || (v5.2.2 != v6.2.2)) || (v7.1 != v8.1)) || (v7.2 != v8.2)) == false)) rfl (fun hg _ hN => o_cmp (ct hg) (ct hg) rfl) rfl ?_
    refine d7 rfl (fun _ hN => pk_or rfl rfl rfl (fun q => eqF q)) rfl ?_
    refine d7 rfl (fun _ hN => o_move (d := .bool ((((((!v12) || (v5.2.1 != v6.2.1)) || (v5.2.2 != v6.2.2)) || (v7.1 != v8.1)) || (v7.2 != v8.2)) || (v9.1 != v10.1))) rfl) rfl ?_
    refine d_if7 (g := (((((((!v12) || (v5.2.1 != v6.2.1)) || (v5.2.2 != v6.2.2)) || (v7.1 != v8.1)) || (v7.2 != v8.2)) || (v9.1 != v10.1)) == false)) rfl (fun hg _ hN => o_move (d := .int .i64 v9.2) rfl) rfl ?_
    refine d_if7 (g := (((((((!v12) || (v5.2.1 != v6.2.1)) || (v5.2.2 != v6.2.2)) || (v7.1 != v8.1)) || (v7.2 != v8.2)) || (v9.1 != v10.1)) == false)) rfl (fun hg _ hN => o_move (d := .int .i64 v10.2) rfl) rfl ?_
    refine d_if7 (g := (((((((!v12) || (v5.2.1 != v6.2.1)) || (v5.2.2 != v6.2.2)) || (v7.1 != v8.1)) || (v7.2 != v8.2)) || (v9.1 != v10.1)) == false)) rfl (fun hg _ hN => o_cmp (ct hg) (ct hg) rfl) rfl ?_
    refine d7 rfl (fun _ hN => pk_or rfl rfl rfl (fun q => eqF q)) rfl ?_
    refine d_nil ?_
    refine pw_cond (((((((!v12) || (v5.2.1 != v6.2.1)) || (v5.2.2 != v6.2.2)) || (v7.1 != v8.1)) || (v7.2 != v8.2)) || (v9.1 != v10.1)) || (v9.2 != v10.2)) rfl (fun hc => ?_) (fun hc => ?_)
    · have h := ifT h hc
      refine sr (by kernel_rfl) ?_
      refine y0 rfl (o_assign (d := .bool false) rfl) ?_
      refine y_nil ?_
      refine pw_ret ?_
      obtain rfl := Option.some.inj h
      exact ⟨rfl, [_], ⟨rfl, trivial⟩, rfl, by first | exact .inl rfl | exact .inr rfl⟩
    · have h := ifF h hc
      refine pw_skip ?_
      refine sr (by kernel_rfl) ?_
      refine y0 rfl (o_loadA (cs := slab_Slab_int.Pc a0) rfl rfl rfl Ty.a24 Ty.s24 (Nat.le_of_ble_eq_true rfl) rfl) ?_
      refine y0 rfl (o_move (d := .int .i64 a1) rfl) ?_
      refine y0 rfl (o_move (d := .int .i64 a2) rfl) ?_
      obtain ⟨v13, hv13, h⟩ := bindE h
      refine yc rfl (o_callF (ls := []) (ds := [slab_Slab_int.Pv a0, .int .i64 a1, .int .i64 a2]) rfl Ty.k21 rfl (slab_Set_int_ok hv13)) ?_
      refine y0 rfl (o_move (d := .tup [slab_Slab_int.Pv v13.1, .int .i64 v13.2]) rfl) ?_
      refine y0 rfl (o_extract rfl rfl) ?_
      refine y0 rfl (o_extract rfl rfl) ?_
      refine y1 rfl (o_alloc (d := .agg [.lst false (List.map slab_Cell_int.Pv []), .int .i64 0]) (z := 2) rfl Ty.z24 rfl rfl rfl) rfl ?_
      refine y_sto (x' := slab_Slab_int.Pv v13.1) (cl' := true) rfl rfl (.inr rfl) Ty.s24 ?_
      refine y0 rfl (o_assign (d := .int .i64 v13.2) rfl) ?_
      refine y_nil ?_
      refine sr (by kernel_rfl) ?_
      refine y0 rfl (o_loadA (cs := r03_Slab.Pc v4) rfl rfl rfl Ty.a29 Ty.s29 (Nat.le_of_ble_eq_true rfl) rfl) ?_
      refine y0 rfl (o_move (d := .int .i64 a1) rfl) ?_
      refine y0 rfl (o_move (d := .int .i64 a2) rfl) ?_
      obtain ⟨v14, hv14, h⟩ := bindE h
      refine yc rfl (o_callF (ls := []) (ds := [r03_Slab.Pv v4, .int .i64 a1, .int .i64 a2]) rfl Ty.k22 rfl (r03_Set_ok hv14)) ?_
      refine y0 rfl (o_move (d := .tup [r03_Slab.Pv v14.1, .int .i64 v14.2]) rfl) ?_
      refine y0 rfl (o_extract rfl rfl) ?_
      refine y0 rfl (o_extract rfl rfl) ?_
      refine y1 rfl (o_alloc (d := .agg [.lst false (List.map r03_Cell.Pv []), .int .i64 0]) (z := 2) rfl Ty.z29 rfl rfl rfl) rfl ?_
      refine y_sto (x' := r03_Slab.Pv v14.1) (cl' := true) rfl rfl (.inr rfl) Ty.s29 ?_
      refine y0 rfl (o_assign (d := .int .i64 v14.2) rfl) ?_
      refine y_nil ?_
      refine sr (by kernel_rfl) ?_
      refine y0 rfl (o_loadA (cs := slab_Slab_int.Pc a0) rfl rfl rfl Ty.a24 Ty.s24 (Nat.le_of_ble_eq_true rfl) rfl) ?_
      refine y0 rfl (o_move (d := .int .i64 a1) rfl) ?_
      obtain ⟨v15, hv15, h⟩ := bindE h
      refine yc rfl (o_callF (ls := []) (ds := [slab_Slab_int.Pv a0, .int .i64 a1]) rfl Ty.k23 rfl (slab_Kill_int_ok hv15)) ?_
      refine y0 rfl (o_move (d := .tup [slab_Slab_int.Pv v15.1, .int .i64 v15.2]) rfl) ?_
      refine y0 rfl (o_extract rfl rfl) ?_
      refine y0 rfl (o_extract rfl rfl) ?_
      refine y1 rfl (o_alloc (d := .agg [.lst false (List.map slab_Cell_int.Pv []), .int .i64 0]) (z := 2) rfl Ty.z24 rfl rfl rfl) rfl ?_
      refine y_sto (x' := slab_Slab_int.Pv v15.1) (cl' := true) rfl rfl (.inr rfl) Ty.s24 ?_
      refine y0 rfl (o_assign (d := .int .i64 v15.2) rfl) ?_
      refine y_nil ?_
      refine sr (by kernel_rfl) ?_
      refine y0 rfl (o_loadA (cs := r03_Slab.Pc v4) rfl rfl rfl Ty.a29 Ty.s29 (Nat.le_of_ble_eq_true rfl) rfl) ?_
      refine y0 rfl (o_move (d := .int .i64 a1) rfl) ?_
      obtain ⟨v16, hv16, h⟩ := bindE h
      refine yc rfl (o_callF (ls := []) (ds := [r03_Slab.Pv v4, .int .i64 a1]) rfl Ty.k24 rfl (r03_Kill_ok hv16)) ?_
      refine y0 rfl (o_move (d := .tup [r03_Slab.Pv v16.1, .int .i64 v16.2]) rfl) ?_
      refine y0 rfl (o_extract rfl rfl) ?_
      refine y0 rfl (o_extract rfl rfl) ?_
      refine y1 rfl (o_alloc (d := .agg [.lst false (List.map r03_Cell.Pv []), .int .i64 0]) (z := 2) rfl Ty.z29 rfl rfl rfl) rfl ?_
      refine y_sto (x' := r03_Slab.Pv v16.1) (cl' := true) rfl rfl (.inr rfl) Ty.s29 ?_
      refine y0 rfl (o_assign (d := .int .i64 v16.2) rfl) ?_
      refine y_nil ?_
      refine sr (by kernel_rfl) ?_
      refine y0 rfl (o_loadA (cs := slab_Slab_int.Pc a0) rfl rfl rfl Ty.a24 Ty.s24 (Nat.le_of_ble_eq_true rfl) rfl) ?_
      refine y0 rfl (o_move (d := .int .i64 a1) rfl) ?_
      obtain ⟨v17, hv17, h⟩ := bindE h
      refine yc rfl (o_callF (ls := []) (ds := [slab_Slab_int.Pv a0, .int .i64 a1]) rfl Ty.k25 rfl (slab_Give_int_ok hv17)) ?_
      refine y0 rfl (o_move (d := .tup [slab_Slab_int.Pv v17.1, .int .i64 v17.2]) rfl) ?_
      refine y0 rfl (o_extract rfl rfl) ?_
      refine y0 rfl (o_extract rfl rfl) ?_
      refine y1 rfl (o_alloc (d := .agg [.lst false (List.map slab_Cell_int.Pv []), .int .i64 0]) (z := 2) rfl Ty.z24 rfl rfl rfl) rfl ?_
      refine y_sto (x' := slab_Slab_int.Pv v17.1) (cl' := true) rfl rfl (.inr rfl) Ty.s24 ?_
      refine y0 rfl (o_assign (d := .int .i64 v17.2) rfl) ?_
      refine y_nil ?_
      refine sr (by kernel_rfl) ?_
      refine y0 rfl (o_loadA (cs := r03_Slab.Pc v4) rfl rfl rfl Ty.a29 Ty.s29 (Nat.le_of_ble_eq_true rfl) rfl) ?_
      refine y0 rfl (o_move (d := .int .i64 a1) rfl) ?_
      obtain ⟨v18, hv18, h⟩ := bindE h
      refine yc rfl (o_callF (ls := []) (ds := [r03_Slab.Pv v4, .int .i64 a1]) rfl Ty.k26 rfl (r03_Give_ok hv18)) ?_
      refine y0 rfl (o_move (d := .tup [r03_Slab.Pv v18.1, .int .i64 v18.2]) rfl) ?_
      refine y0 rfl (o_extract rfl rfl) ?_
      refine y0 rfl (o_extract rfl rfl) ?_
      refine y1 rfl (o_alloc (d := .agg [.lst false (List.map r03_Cell.Pv []), .int .i64 0]) (z := 2) rfl Ty.z29 rfl rfl rfl) rfl ?_
      refine y_sto (x' := r03_Slab.Pv v18.1) (cl' := true) rfl rfl (.inr rfl) Ty.s29 ?_
      refine y0 rfl (o_assign (d := .int .i64 v18.2) rfl) ?_
      refine y_nil ?_
      refine dr [] Ty.mix (by kernel_rfl) (by kernel_rfl) ?_
      refine d0 rfl (o_loadA (cs := slab_Slab_int.Pc v13.1) rfl rfl rfl Ty.a24 Ty.s24 (Nat.le_of_ble_eq_true rfl) rfl) rfl ?_
      obtain ⟨v19, hv19, h⟩ := bindE h
      refine d2f rfl (o_callF (ls := []) (ds := [slab_Slab_int.Pv v13.1]) rfl Ty.k13 rfl (w03_its_ok hv19)) rfl ?_
      refine d0 rfl (o_loadA (cs := r03_Slab.Pc v14.1) rfl rfl rfl Ty.a29 Ty.s29 (Nat.le_of_ble_eq_true rfl) rfl) rfl ?_
      obtain ⟨v20, hv20, h⟩ := bindE h
      refine d2 rfl (o_call (ds := [r03_Slab.Pv v19, r03_Slab.Pv v14.1]) rfl Ty.k20 rfl (r03_Same_ok hv20)) rfl ?_
      refine d7 rfl (fun _ hN => o_move (d := .bool v20) rfl) rfl ?_
      refine d_if7 (g := (v20 == true)) rfl (fun hg _ hN => o_move (d := .int .i64 v13.2) rfl) rfl ?_
      refine d_if7 (g := (v20 == true)) rfl (fun hg _ hN => o_move (d := .int .i64 v14.2) rfl) rfl ?_
      refine d_if7 (g := (v20 == true)) rfl (fun hg _ hN => o_cmp (ct hg) (ct hg) rfl) rfl ?_
      refine d7 rfl (fun _ hN => pk_and rfl rfl rfl (fun q => eqT q)) rfl ?_
      refine d7 rfl (fun _ hN => o_move (d := .bool (v20 && (v13.2 == v14.2))) rfl) rfl ?_
      refine d_if0 (g := ((v20 && (v13.2 == v14.2)) == true)) rfl (fun hg => o_loadA (cs := slab_Slab_int.Pc v15.1) rfl rfl rfl Ty.a24 Ty.s24 (Nat.le_of_ble_eq_true rfl) rfl) rfl ?_
      obtain ⟨v21, hv21, h⟩ := bindE h
      refine d_if2f (g := ((v20 && (v13.2 == v14.2)) == true)) rfl (fun hg => o_callF (ls := []) (ds := [slab_Slab_int.Pv v15.1]) rfl Ty.k13 (consE (ct hg) rfl) (w03_its_ok (onlyE hv21 hg))) rfl ?_
      refine d_if0 (g := ((v20 && (v13.2 == v14.2)) == true)) rfl (fun hg => o_loadA (cs := r03_Slab.Pc v16.1) rfl rfl rfl Ty.a29 Ty.s29 (Nat.le_of_ble_eq_true rfl) rfl) rfl ?_
      obtain ⟨v22, hv22, h⟩ := bindE h
      refine d_if2 (g := ((v20 && (v13.2 == v14.2)) == true)) rfl (fun hg => o_call (ds := [r03_Slab.Pv v21, r03_Slab.Pv v16.1]) rfl Ty.k20 (consE (ct hg) (consE (ct hg) rfl)) (r03_Same_ok (onlyE hv22 hg))) rfl ?_
      refine d7 rfl (fun _ hN => pk_and rfl rfl rfl (fun q => eqT q)) rfl ?_
      refine d7 rfl (fun _ hN => o_move (d := .bool ((v20 && (v13.2 == v14.2)) && v22)) rfl) rfl ?_
      refine d_if7 (g := (((v20 && (v13.2 == v14.2)) && v22) == true)) rfl (fun hg _ hN => o_move (d := .int .i64 v15.2) rfl) rfl ?_
      refine d_if7 (g := (((v20 && (v13.2 == v14.2)) && v22) == true)) rfl (fun hg _ hN => o_move (d := .int .i64 v16.2) rfl) rfl ?_
      refine d_if7 (g := (((v20 && (v13.2 == v14.2)) && v22) == true)) rfl (fun hg _ hN => o_cmp (ct hg) (ct hg) rfl) rfl ?_
      refine d7 rfl (fun _ hN => pk_and rfl rfl rfl (fun q => eqT q)) rfl ?_
      refine d7 rfl (fun _ hN => o_move (d := .bool (((v20 && (v13.2 == v14.2)) && v22) && (v15.2 == v16.2))) rfl) rfl ?_
      refine d_if0 (g := ((((v20 && (v13.2 == v14.2)) && v22) && (v15.2 == v16.2)) == true)) rfl (fun hg => o_loadA (cs := slab_Slab_int.Pc v17.1) rfl rfl rfl Ty.a24 Ty.s24 (Nat.le_of_ble_eq_true rfl) rfl) rfl ?_
      obtain ⟨v23, hv23, h⟩ := bindE h
      refine d_if2f (g := ((((v20 && (v13.2 == v14.2)) && v22) && (v15.2 == v16.2)) == true)) rfl (fun hg => o_callF (ls := []) (ds := [slab_Slab_int.Pv v17.1]) rfl Ty.k13 (consE (ct hg) rfl) (w03_its_ok (onlyE hv23 hg))) rfl ?_
      refine d_if0 (g := ((((v20 && (v13.2 == v14.2)) && v22) && (v15.2 == v16.2)) == true)) rfl (fun hg => o_loadA (cs := r03_Slab.Pc v18.1) rfl rfl rfl Ty.a29 Ty.s29 (Nat.le_of_ble_eq_true rfl) rfl) rfl ?_
      obtain ⟨v24, hv24, h⟩ := bindE h
      refine d_if2 (g := ((((v20 && (v13.2 == v14.2)) && v22) && (v15.2 == v16.2)) == true)) rfl (fun hg => o_call (ds := [r03_Slab.Pv v23, r03_Slab.Pv v18.1]) rfl Ty.k20 (consE (ct hg) (consE (ct hg) rfl)) (r03_Same_ok (onlyE hv24 hg))) rfl ?_
      refine d7 rfl (fun _ hN => pk_and rfl rfl rfl (fun q => eqT q)) rfl ?_
      refine d7 rfl (fun _ hN => o_move (d := .bool ((((v20 && (v13.2 == v14.2)) && v22) && (v15.2 == v16.2)) && v24)) rfl) rfl ?_
      refine d_if7 (g := (((((v20 && (v13.2 == v14.2)) && v22) && (v15.2 == v16.2)) && v24) == true)) rfl (fun hg _ hN => o_move (d := .int .i64 v17.2) rfl) rfl ?_
      refine d_if7 (g := (((((v20 && (v13.2 == v14.2)) && v22) && (v15.2 == v16.2)) && v24) == true)) rfl (fun hg _ hN => o_move (d := .int .i64 v18.2) rfl) rfl ?_
      refine d_if7 (g := (((((v20 && (v13.2 == v14.2)) && v22) && (v15.2 == v16.2)) && v24) == true)) rfl (fun hg _ hN => o_cmp (ct hg) (ct hg) rfl) rfl ?_
      refine d7 rfl (fun _ hN => pk_and rfl rfl rfl (fun q => eqT q)) rfl ?_
      refine d7 rfl (fun _ hN => o_move (d := .bool (((((v20 && (v13.2 == v14.2)) && v22) && (v15.2 == v16.2)) && v24) && (v17.2 == v18.2))) rfl) rfl ?_
      refine d_if0 (g := ((((((v20 && (v13.2 == v14.2)) && v22) && (v15.2 == v16.2)) && v24) && (v17.2 == v18.2)) == true)) rfl (fun hg => o_loadA (cs := slab_Slab_int.Pc a0) rfl rfl rfl Ty.a24 Ty.s24 (Nat.le_of_ble_eq_true rfl) rfl) rfl ?_
      obtain ⟨v25, hv25, h⟩ := bindE h
      refine d_if2 (g := ((((((v20 && (v13.2 == v14.2)) && v22) && (v15.2 == v16.2)) && v24) && (v17.2 == v18.2)) == true)) rfl (fun hg => o_call (ds := [slab_Slab_int.Pv a0]) rfl Ty.k27 (consE (ct hg) rfl) (slab_Tally_int_ok (onlyE hv25 hg))) rfl ?_
      refine d_if0 (g := ((((((v20 && (v13.2 == v14.2)) && v22) && (v15.2 == v16.2)) && v24) && (v17.2 == v18.2)) == true)) rfl (fun hg => o_loadA (cs := r03_Slab.Pc v4) rfl rfl rfl Ty.a29 Ty.s29 (Nat.le_of_ble_eq_true rfl) rfl) rfl ?_
      obtain ⟨v26, hv26, h⟩ := bindE h
      refine d_if2 (g := ((((((v20 && (v13.2 == v14.2)) && v22) && (v15.2 == v16.2)) && v24) && (v17.2 == v18.2)) == true)) rfl (fun hg => o_call (ds := [r03_Slab.Pv v4]) rfl Ty.k28 (consE (ct hg) rfl) (r03_Tally_ok (onlyE hv26 hg))) rfl ?_
      refine d_if7 (g := ((((((v20 && (v13.2 == v14.2)) && v22) && (v15.2 == v16.2)) && v24) && (v17.2 == v18.2)) == true)) rfl (fun hg _ hN => o_eqA (xs := A4.Pc v25) (ys := A4.Pc v26) Ty.q46 (ct hg) (ct hg) rfl) rfl ?_
      refine d7 rfl (fun _ hN => pk_and rfl rfl rfl (fun q => eqT q)) rfl ?_
      refine d7 rfl (fun _ hN => o_assign (d := .bool ((((((v20 && (v13.2 == v14.2)) && v22) && (v15.2 == v16.2)) && v24) && (v17.2 == v18.2)) && ((v25.a == v26.a) && ((v25.b == v26.b) && ((v25.c == v26.c) && ((v25.d == v26.d) && true)))))) rfl) rfl ?_
      refine d_nil ?_
      refine pw_ret ?_
      obtain rfl := Option.some.inj h
      exact ⟨rfl, [_], ⟨rfl, trivial⟩, rfl, by first | exact .inl rfl | exact .inr rfl⟩

set_option maxHeartbeats 4000000 in
theorem r03_New_ok {a0 : Int} {a1 : Int} {r : r03_Slab} (h : r03_New a0 a1 = some r) : PCalls Try.prog 30 [.int .i64 a0, .int .i64 a1] (r03_Slab.Pv r) := by
  unfold r03_New at h
  refine pc_intro (N := 24) Try.func30 rfl rfl (Nat.le_of_ble_eq_true rfl) fun w0 imm0 => ?_
  refine sr (by kernel_rfl) ?_
  refine y1 rfl (o_alloc (d := .agg [.lst false (List.map r03_Cell.Pv []), .int .i64 0]) (z := 2) rfl Ty.z29 rfl rfl rfl) rfl ?_
  refine y_nil ?_
  refine pw_seq ?_
  refine sr (by kernel_rfl) ?_
  refine y0 rfl (o_move (d := .int .i64 a0) rfl) ?_
  refine y0 rfl (o_cmp rfl rfl rfl) ?_
  refine y0 rfl (o_move (d := .bool (decide (a0 < 0))) rfl) ?_
  refine y_if (g := ((decide (a0 < 0)) == false)) rfl (fun hg => o_move (d := .int .i64 a0) rfl) ?_
  refine y_if (g := ((decide (a0 < 0)) == false)) rfl (fun hg => o_cmp (ct hg) rfl rfl) ?_
  refine y0 rfl (pk_or rfl rfl rfl (fun q => eqF q)) ?_
  refine y0 rfl (o_move (d := .bool ((decide (a0 < 0)) || (decide (a0 > 24)))) rfl) ?_
  refine y_if (g := (((decide (a0 < 0)) || (decide (a0 > 24))) == false)) rfl (fun hg => o_move (d := .int .i64 a1) rfl) ?_
  refine y_if (g := (((decide (a0 < 0)) || (decide (a0 > 24))) == false)) rfl (fun hg => o_cmp (ct hg) rfl rfl) ?_
  refine y0 rfl (pk_or rfl rfl rfl (fun q => eqF q)) ?_
  refine y0 rfl (o_move (d := .bool (((decide (a0 < 0)) || (decide (a0 > 24))) || (decide (a1 < 0)))) rfl) ?_
  refine y_if (g := ((((decide (a0 < 0)) || (decide (a0 > 24))) || (decide (a1 < 0))) == false)) rfl (fun hg => o_move (d := .int .i64 a1) rfl) ?_
  refine y_if (g := ((((decide (a0 < 0)) || (decide (a0 > 24))) || (decide (a1 < 0))) == false)) rfl (fun hg => o_cmp (ct hg) rfl rfl) ?_
  refine y0 rfl (pk_or rfl rfl rfl (fun q => eqF q)) ?_
  refine y_nil ?_
  refine pw_cond ((((decide (a0 < 0)) || (decide (a0 > 24))) || (decide (a1 < 0))) || (decide (a1 > 9))) rfl (fun hc => ?_) (fun hc => ?_)
  · have h := ifT h hc
    refine sr (by kernel_rfl) ?_
    refine y0 rfl (o_build (cs := [.lst false (List.map r03_Cell.Pv []), .int .i64 0]) rfl Ty.p29 Ty.z29 rfl rfl rfl) ?_
    refine y_sto (x' := .agg [.lst false (List.map r03_Cell.Pv []), .int .i64 0]) (cl' := true) rfl rfl (.inr rfl) Ty.s29 ?_
    refine y_nil ?_
    refine pw_ret ?_
    obtain rfl := Option.some.inj h
    exact ⟨rfl, [_], ⟨o_loadA rfl rfl rfl Ty.a29 Ty.s29 (Nat.le_of_ble_eq_true rfl) rfl, trivial⟩, rfl, by first | exact .inl rfl | exact .inr rfl⟩
  · have h := ifF h hc
    refine pw_skip ?_
    refine sr (by kernel_rfl) ?_
    refine y0 rfl (o_move (d := .int .i64 a0) rfl) ?_
    obtain ⟨v1, hv1, h⟩ := bindE h
    refine y1 rfl (o_mk (f := r03_Cell.Pv) hv1 rfl rfl rfl Ty.e27 Ty.s72 Ty.z72 Ty.b72 rfl rfl rfl rfl) rfl ?_
    refine y0 rfl (o_move (d := .int .i64 a1) rfl) ?_
    refine y0 rfl (o_build (cs := [.sl 21, .int .i64 a1]) rfl Ty.p29 Ty.z29 rfl rfl rfl) ?_
    refine y_sto (x' := .agg [.sl 21, .int .i64 a1]) (cl' := false) rfl rfl (.inl rfl) Ty.s29 ?_
    refine y_nil ?_
    refine pw_ret ?_
    obtain rfl := Option.some.inj h
    exact ⟨rfl, [_], ⟨o_loadA rfl rfl rfl Ty.a29 Ty.s29 (Nat.le_of_ble_eq_true rfl) rfl, trivial⟩, rfl, by first | exact .inl rfl | exact .inr rfl⟩

set_option maxHeartbeats 4000000 in
theorem w03_SlabNew_ok {a0 : Int} {a1 : Int} {r : Bool} (h : w03_SlabNew a0 a1 = some r) : PCalls Try.prog 4 [.int .i64 a0, .int .i64 a1] (.bool r) := by
  unfold w03_SlabNew at h
  refine pc_intro (N := 24) Try.func4 rfl rfl (Nat.le_of_ble_eq_true rfl) fun w0 imm0 => ?_
  refine sr (by kernel_rfl) ?_
  refine y0 rfl (o_assign (d := .bool false) rfl) ?_
  refine y_nil ?_
  refine sr (by kernel_rfl) ?_
  refine y0 rfl (o_move (d := .int .i64 a0) rfl) ?_
  refine y0 rfl (o_move (d := .int .i64 a1) rfl) ?_
  obtain ⟨v1, hv1, h⟩ := bindE h
  refine yc rfl (o_callF (ls := []) (ds := [.int .i64 a0, .int .i64 a1]) rfl Ty.k29 rfl (slab_New_int_ok hv1)) ?_
  refine y1 rfl (o_alloc (d := .agg [.lst false (List.map slab_Cell_int.Pv []), .int .i64 0]) (z := 2) rfl Ty.z24 rfl rfl rfl) rfl ?_
  refine y_sto (x' := slab_Slab_int.Pv v1) (cl' := true) rfl rfl (.inr rfl) Ty.s24 ?_
  refine y_nil ?_
  refine sr (by kernel_rfl) ?_
  refine y0 rfl (o_fieldAddrP (k := 0) rfl Ty.f24_0 rfl) ?_
  refine y0 rfl (o_loadS rfl rfl rfl Ty.a22 rfl) ?_
  refine y0 rfl (o_lnL (f := slab_Cell_int.Pv) rfl Ty.e22) ?_
  refine y0 rfl (o_cmp rfl rfl rfl) ?_
  refine y0 rfl (o_move (d := .bool (decide ((v1.Cells.length : Int) ≤ 24))) rfl) ?_
  refine y_if (g := ((decide ((v1.Cells.length : Int) ≤ 24)) == true)) rfl (fun hg => o_loadA (cs := slab_Slab_int.Pc v1) rfl rfl rfl Ty.a24 Ty.s24 (Nat.le_of_ble_eq_true rfl) rfl) ?_
  obtain ⟨v2, hv2, h⟩ := bindE h
  refine y_ifc (g := ((decide ((v1.Cells.length : Int) ≤ 24)) == true)) rfl (fun hg => o_callF (ls := []) (ds := [slab_Slab_int.Pv v1]) rfl Ty.k13 (consE (ct hg) rfl) (w03_its_ok (onlyE hv2 hg))) ?_
  refine y_if (g := ((decide ((v1.Cells.length : Int) ≤ 24)) == true)) rfl (fun hg => o_move (d := .int .i64 a0) rfl) ?_
  refine y_if (g := ((decide ((v1.Cells.length : Int) ≤ 24)) == true)) rfl (fun hg => o_move (d := .int .i64 a1) rfl) ?_
  obtain ⟨v3, hv3, h⟩ := bindE h
  refine y_ifc (g := ((decide ((v1.Cells.length : Int) ≤ 24)) == true)) rfl (fun hg => o_callF (ls := []) (ds := [.int .i64 a0, .int .i64 a1]) rfl Ty.k30 (consE (ct hg) (consE (ct hg) rfl)) (r03_New_ok (onlyE hv3 hg))) ?_
  obtain ⟨v4, hv4, h⟩ := bindE h
  refine y_if (g := ((decide ((v1.Cells.length : Int) ≤ 24)) == true)) rfl (fun hg => o_call (ds := [r03_Slab.Pv v2, r03_Slab.Pv v3]) rfl Ty.k20 (consE (ct hg) (consE (ct hg) rfl)) (r03_Same_ok (onlyE hv4 hg))) ?_
  refine y0 rfl (pk_and rfl rfl rfl (fun q => eqT q)) ?_
  refine y0 rfl (o_move (d := .bool ((decide ((v1.Cells.length : Int) ≤ 24)) && v4)) rfl) ?_
  obtain ⟨v5, hv5, h⟩ := bindE h
  refine y_if (g := (((decide ((v1.Cells.length : Int) ≤ 24)) && v4) == true)) rfl (fun hg => o_call (ds := []) rfl Ty.k12 rfl (w03_shown_ok (onlyE hv5 hg))) ?_
  refine y0 rfl (pk_and rfl rfl rfl (fun q => eqT q)) ?_
  refine y0 rfl (o_assign (d := .bool (((decide ((v1.Cells.length : Int) ≤ 24)) && v4) && v5)) rfl) ?_
  refine y_nil ?_
  refine pw_ret ?_
  obtain rfl := Option.some.inj h
  exact ⟨rfl, [_], ⟨rfl, trivial⟩, rfl, by first | exact .inl rfl | exact .inr rfl⟩

set_option maxHeartbeats 4000000 in
theorem w03_SlabTakes_ok {a0 : Int} {a1 : Int} {r : Bool} (h : w03_SlabTakes a0 a1 = some r) : PCalls Try.prog 5 [.int .u8 a0, .int .u8 a1] (.bool r) := by
  unfold w03_SlabTakes at h
  refine pc_intro (N := 80) Try.func5 rfl rfl (Nat.le_of_ble_eq_true rfl) fun w0 imm0 => ?_
  refine sr (by kernel_rfl) ?_
  refine y0 rfl (o_assign (d := .bool false) rfl) ?_
  refine y_nil ?_
  refine sr (by kernel_rfl) ?_
  refine y0 rfl (o_move (d := .int .u8 a0) rfl) ?_
  refine y0 rfl (o_conv rfl Ty.u5 Ty.i3 rfl) ?_
  obtain ⟨v1, hv1, h⟩ := bindE h
  refine y0 rfl (o_ari rfl rfl hv1) ?_
  refine y0 rfl (o_assign (d := .int .i64 v1) rfl) ?_
  refine y_nil ?_
  refine sr (by kernel_rfl) ?_
  refine y0 rfl (o_move (d := .int .u8 a1) rfl) ?_
  refine y0 rfl (o_conv rfl Ty.u5 Ty.i3 rfl) ?_
  obtain ⟨v2, hv2, h⟩ := bindE h
  refine y0 rfl (o_ari rfl rfl hv2) ?_
  refine y0 rfl (o_assign (d := .int .i64 v2) rfl) ?_
  refine y_nil ?_
  refine sr (by kernel_rfl) ?_
  refine y0 rfl (o_move (d := .int .i64 v1) rfl) ?_
  refine y0 rfl (o_move (d := .int .i64 v2) rfl) ?_
  obtain ⟨v3, hv3, h⟩ := bindE h
  refine yc rfl (o_callF (ls := []) (ds := [.int .i64 v1, .int .i64 v2]) rfl Ty.k29 rfl (slab_New_int_ok hv3)) ?_
  refine y1 rfl (o_alloc (d := .agg [.lst false (List.map slab_Cell_int.Pv []), .int .i64 0]) (z := 2) rfl Ty.z24 rfl rfl rfl) rfl ?_
  refine y_sto (x' := slab_Slab_int.Pv v3) (cl' := true) rfl rfl (.inr rfl) Ty.s24 ?_
  refine y_nil ?_
  obtain ⟨κ11, hκ9, h⟩ := jnE h
  refine pw_jn0 (κ := κ11) (r := r) (fun (j12 : slab_Slab_int) => St.of [(5, .int .i64 v1), (7, .ptr 7 0 0)] [(7, ⟨[slab_Slab_int.Pv j12], 0, false, 2, true⟩)]) (fun j12 h => ?_) ?_
  · subst hκ9
    refine sr (by kernel_rfl) ?_
    refine y0 rfl (o_loadA (cs := slab_Slab_int.Pc j12) rfl rfl rfl Ty.a24 Ty.s24 (Nat.le_of_ble_eq_true rfl) rfl) ?_
    obtain ⟨v13, hv10, h⟩ := bindE h
    refine yc rfl (o_callF (ls := []) (ds := [slab_Slab_int.Pv j12, .int .i64 1]) rfl Ty.k14 rfl (slab_Take_int_ok hv10)) ?_
    refine y0 rfl (o_move (d := .tup [slab_Slab_int.Pv v13.1, .int .i64 v13.2.1, .int .i64 v13.2.2]) rfl) ?_
    refine y0 rfl (o_extract rfl rfl) ?_
    refine y0 rfl (o_extract rfl rfl) ?_
    refine y0 rfl (o_extract rfl rfl) ?_
    refine y1 rfl (o_alloc (d := .agg [.lst false (List.map slab_Cell_int.Pv []), .int .i64 0]) (z := 2) rfl Ty.z24 rfl rfl rfl) rfl ?_
    refine y_sto (x' := slab_Slab_int.Pv v13.1) (cl' := true) rfl rfl (.inr rfl) Ty.s24 ?_
    refine y0 rfl (o_assign (d := .int .i64 v13.2.1) rfl) ?_
    refine y0 rfl (o_assign (d := .int .i64 v13.2.2) rfl) ?_
    refine y_nil ?_
    refine sr (by kernel_rfl) ?_
    refine y0 rfl (o_move (d := .int .i64 v13.2.2) rfl) ?_
    refine y0 rfl (o_cmp rfl rfl rfl) ?_
    refine y0 rfl (o_move (d := .bool (v13.2.2 == 4)) rfl) ?_
    refine y_if (g := ((v13.2.2 == 4) == true)) rfl (fun hg => o_move (d := .int .i64 v13.2.1) rfl) ?_
    refine y_if (g := ((v13.2.2 == 4) == true)) rfl (fun hg => o_cmp (ct hg) rfl rfl) ?_
    refine y0 rfl (pk_and rfl rfl rfl (fun q => eqT q)) ?_
    refine y0 rfl (o_move (d := .bool ((v13.2.2 == 4) && (v13.2.1 == 0))) rfl) ?_
    refine y_if (g := (((v13.2.2 == 4) && (v13.2.1 == 0)) == true)) rfl (fun hg => o_loadA (cs := slab_Slab_int.Pc j12) rfl rfl rfl Ty.a24 Ty.s24 (Nat.le_of_ble_eq_true rfl) rfl) ?_
    obtain ⟨v14, hv11, h⟩ := bindE h
    refine y_if (g := (((v13.2.2 == 4) && (v13.2.1 == 0)) == true)) rfl (fun hg => o_call (ds := [slab_Slab_int.Pv j12]) rfl Ty.k27 (consE (ct hg) rfl) (slab_Tally_int_ok (onlyE hv11 hg))) ?_
    refine y_if (g := (((v13.2.2 == 4) && (v13.2.1 == 0)) == true)) rfl (fun hg => o_move (d := .int .i64 v1) rfl) ?_
    refine y_if (g := (((v13.2.2 == 4) && (v13.2.1 == 0)) == true)) rfl (fun hg => o_build (cs := [.int .i64 0, .int .i64 0, .int .i64 0, .int .i64 v1]) (consE (partE rfl) (consE (partE rfl) (consE (partE rfl) (consE (partE (ct hg)) rfl)))) Ty.p46 Ty.z46 rfl rfl rfl) ?_
    refine y_if (g := (((v13.2.2 == 4) && (v13.2.1 == 0)) == true)) rfl (fun hg => o_eqA (xs := A4.Pc v14) (ys := [.int .i64 0, .int .i64 0, .int .i64 0, .int .i64 v1]) Ty.q46 (ct hg) (ct hg) rfl) ?_
    refine y0 rfl (pk_and rfl rfl rfl (fun q => eqT q)) ?_
    refine y0 rfl (o_move (d := .bool (((v13.2.2 == 4) && (v13.2.1 == 0)) && ((v14.a == 0) && ((v14.b == 0) && ((v14.c == 0) && ((v14.d == v1) && true)))))) rfl) ?_
    obtain ⟨v15, hv12, h⟩ := bindE h
    refine y_if (g := ((((v13.2.2 == 4) && (v13.2.1 == 0)) && ((v14.a == 0) && ((v14.b == 0) && ((v14.c == 0) && ((v14.d == v1) && true))))) == true)) rfl (fun hg => o_call (ds := []) rfl Ty.k12 rfl (w03_shown_ok (onlyE hv12 hg))) ?_
    refine y0 rfl (pk_and rfl rfl rfl (fun q => eqT q)) ?_
    refine y0 rfl (o_assign (d := .bool ((((v13.2.2 == 4) && (v13.2.1 == 0)) && ((v14.a == 0) && ((v14.b == 0) && ((v14.c == 0) && ((v14.d == v1) && true))))) && v15)) rfl) ?_
    refine y_nil ?_
    refine pw_ret ?_
    obtain rfl := Option.some.inj h
    exact ⟨rfl, [_], ⟨rfl, trivial⟩, rfl, by first | exact .inl rfl | exact .inr rfl⟩
  · skip
    refine sr (by kernel_rfl) ?_
    refine y0 rfl (o_assign (d := .int .i64 0) rfl) ?_
    refine y_nil ?_
    refine pw_block ?_
    obtain ⟨e16, hl13, hk14⟩ := bindE h
    refine pw_lp0 (fun (q : Int × slab_Slab_int) => St.of [(5, .int .i64 v1), (6, .int .i64 v2), (7, .ptr 7 0 0), (8, .int .i64 q.1)] [(7, ⟨[slab_Slab_int.Pv q.2], 0, false, 2, true⟩)]) hl13 (wk_st _ _ ⟨rfl, rfl, rfl, rfl, rfl, rfl, rfl, rfl, rfl, rfl, rfl, rfl, trivial⟩ ⟨rowLe_same rfl rfl rfl (fun q => nomatch q) rfl rfl rfl, trivial⟩) (fun q20 x19 h hx15 => ?_)
    obtain ⟨s17, s18⟩ := q20
    refine pw_seq ?_
    refine sr (by kernel_rfl) ?_
    refine y0 rfl (o_move (d := .int .i64 s17) rfl) ?_
    refine y0 rfl (o_move (d := .int .i64 v1) rfl) ?_
    refine y0 rfl (o_move (d := .int .i64 v2) rfl) ?_
    refine y0 rfl (o_ari rfl rfl rfl) ?_
    refine y0 rfl (o_ari rfl rfl rfl) ?_
    refine y0 rfl (o_cmp rfl rfl rfl) ?_
    refine y_nil ?_
    refine pw_cond (decide (s17 < (w64 (v1 * (w64 (v2 + 1)))))) rfl (fun hc => ?_) (fun hc => ?_)
    · have h := ifT h hc
      refine pw_skip ?_
      refine pw_seq ?_
      refine pw_block ?_
      refine sr (by kernel_rfl) ?_
      refine y0 rfl (o_loadA (cs := slab_Slab_int.Pc s18) rfl rfl rfl Ty.a24 Ty.s24 (Nat.le_of_ble_eq_true rfl) rfl) ?_
      refine y0 rfl (o_move (d := .int .i64 s17) rfl) ?_
      obtain ⟨v21, hv16, h⟩ := bindE h
      refine yc rfl (o_callF (ls := []) (ds := [slab_Slab_int.Pv s18, .int .i64 s17]) rfl Ty.k14 rfl (slab_Take_int_ok hv16)) ?_
      refine y0 rfl (o_move (d := .tup [slab_Slab_int.Pv v21.1, .int .i64 v21.2.1, .int .i64 v21.2.2]) rfl) ?_
      refine y0 rfl (o_extract rfl rfl) ?_
      refine y0 rfl (o_extract rfl rfl) ?_
      refine y0 rfl (o_extract rfl rfl) ?_
      refine y1 rfl (o_alloc (d := .agg [.lst false (List.map slab_Cell_int.Pv []), .int .i64 0]) (z := 2) rfl Ty.z24 rfl rfl rfl) rfl ?_
      refine y_sto (x' := slab_Slab_int.Pv v21.1) (cl' := true) rfl rfl (.inr rfl) Ty.s24 ?_
      refine y0 rfl (o_assign (d := .int .i64 v21.2.1) rfl) ?_
      refine y0 rfl (o_assign (d := .int .i64 v21.2.2) rfl) ?_
      refine y_nil ?_
      refine sr (by kernel_rfl) ?_
      refine y0 rfl (o_loadA (cs := slab_Slab_int.Pc v21.1) rfl rfl rfl Ty.a24 Ty.s24 (Nat.le_of_ble_eq_true rfl) rfl) ?_
      refine y0 rfl (o_move (d := .int .i64 v21.2.1) rfl) ?_
      obtain ⟨v22, hv17, h⟩ := bindE h
      refine yc rfl (o_callF (ls := []) (ds := [slab_Slab_int.Pv v21.1, .int .i64 v21.2.1]) rfl Ty.k25 rfl (slab_Give_int_ok hv17)) ?_
      refine y0 rfl (o_move (d := .tup [slab_Slab_int.Pv v22.1, .int .i64 v22.2]) rfl) ?_
      refine y0 rfl (o_extract rfl rfl) ?_
      refine y0 rfl (o_extract rfl rfl) ?_
      refine y1 rfl (o_alloc (d := .agg [.lst false (List.map slab_Cell_int.Pv []), .int .i64 0]) (z := 2) rfl Ty.z24 rfl rfl rfl) rfl ?_
      refine y_sto (x' := slab_Slab_int.Pv v22.1) (cl' := true) rfl rfl (.inr rfl) Ty.s24 ?_
      refine y0 rfl (o_assign (d := .int .i64 v22.2) rfl) ?_
      refine y_nil ?_
      refine pw_seq ?_
      refine sr (by kernel_rfl) ?_
      refine y0 rfl (o_move (d := .int .i64 v21.2.2) rfl) ?_
      refine y0 rfl (o_cmp rfl rfl rfl) ?_
      refine y0 rfl (o_move (d := .bool (v21.2.2 != 0)) rfl) ?_
      refine y_if (g := ((v21.2.2 != 0) == false)) rfl (fun hg => o_move (d := .int .i64 v22.2) rfl) ?_
      refine y_if (g := ((v21.2.2 != 0) == false)) rfl (fun hg => o_cmp (ct hg) rfl rfl) ?_
      refine y0 rfl (pk_or rfl rfl rfl (fun q => eqF q)) ?_
      refine y0 rfl (o_move (d := .bool ((v21.2.2 != 0) || (v22.2 != 0))) rfl) ?_
      refine y_if (g := (((v21.2.2 != 0) || (v22.2 != 0)) == false)) rfl (fun hg => o_move (d := .int .i64 v21.2.1) rfl) ?_
      refine y_if (g := (((v21.2.2 != 0) || (v22.2 != 0)) == false)) rfl (fun hg => o_cmp (ct hg) rfl rfl) ?_
      refine y0 rfl (pk_or rfl rfl rfl (fun q => eqF q)) ?_
      refine y_nil ?_
      refine pw_cond (((v21.2.2 != 0) || (v22.2 != 0)) || (v21.2.1 == 0)) rfl (fun hc => ?_) (fun hc => ?_)
      · have h := ifT h hc
        refine sr (by kernel_rfl) ?_
        refine y0 rfl (o_assign (d := .bool false) rfl) ?_
        refine y_nil ?_
        refine pw_ret ?_
        have he := hx15 _ (Option.some.inj h).symm
        have h := hk14
        rw [← he] at h
        obtain rfl := Option.some.inj h
        exact ⟨rfl, [_], ⟨rfl, trivial⟩, rfl, by first | exact .inl rfl | exact .inr rfl⟩
      · have h := ifF h hc
        refine pw_skip ?_
        refine sr1 (by kernel_rfl) ?_
        refine y0 rfl (o_loadA (cs := slab_Slab_int.Pc v22.1) rfl rfl rfl Ty.a24 Ty.s24 (Nat.le_of_ble_eq_true rfl) rfl) ?_
        refine y_sto (x' := slab_Slab_int.Pv v22.1) (cl' := true) rfl rfl (.inr rfl) Ty.s24 ?_
        refine y_nil ?_
        refine sr1 (by kernel_rfl) ?_
        refine y0 rfl (o_move (d := .int .i64 s17) rfl) ?_
        refine y0 rfl (o_ari rfl rfl rfl) ?_
        refine y0 rfl (o_assign (d := .int .i64 (w64 (s17 + 1))) rfl) ?_
        refine y_nil ?_
        exact ⟨rfl, (w64 (s17 + 1), v22.1), (Option.some.inj h).symm, (wk_st _ _ ⟨rfl, rfl, rfl, rfl, rfl, rfl, rfl, rfl, rfl, rfl, rfl, rfl, trivial⟩ ⟨rowLe_same rfl rfl rfl (fun q => nomatch q) rfl rfl rfl, trivial⟩)⟩
    · have h := ifF h hc
      refine pw_exit ?_
      refine thenQ_exit ?_
      refine thenQ_exit ?_
      refine blockQ_exit ?_
      have he := hx15 _ (Option.some.inj h).symm
      have h := hk14
      rw [← he] at h
      exact ⟨rfl, s18, h, (wk_st _ _ ⟨rfl, rfl, rfl, rfl, rfl, rfl, trivial⟩ ⟨rowLe_same rfl rfl rfl (fun q => nomatch q) rfl rfl rfl, trivial⟩)⟩

set_option maxHeartbeats 4000000 in
theorem w03_SlabStale_ok {a0 : slab_Slab_int} {a1 : Int} {a2 : List Int} {r : Bool} (h : w03_SlabStale a0 a1 a2 = some r) : PCalls Try.prog 6 [slab_Slab_int.Pv a0, .int .i64 a1, .lst false (List.map (PV.int .i64) a2)] (.bool r) := by
  unfold w03_SlabStale at h
  refine pc_intro (N := 97) Try.func6 rfl rfl (Nat.le_of_ble_eq_true rfl) fun w0 imm0 => ?_
  refine sr (by kernel_rfl) ?_
  refine y1 rfl (o_box (d := slab_Slab_int.Pv a0) (z := 2) (cl := true) rfl rfl rfl rfl rfl) rfl ?_
  refine y0 rfl (o_assign (d := .bool false) rfl) ?_
  refine y_nil ?_
  refine pw_seq ?_
  refine sr (by kernel_rfl) ?_
  refine y0 rfl (o_loadA (cs := slab_Slab_int.Pc a0) rfl rfl rfl Ty.a24 Ty.s24 (Nat.le_of_ble_eq_true rfl) rfl) ?_
  obtain ⟨v1, hv1, h⟩ := bindE h
  refine y0 rfl (o_call (ds := [slab_Slab_int.Pv a0]) rfl Ty.k11 rfl (w03_right_ok hv1)) ?_
  refine y0 rfl (o_not rfl rfl) ?_
  refine y0 rfl (o_move (d := .bool (!v1)) rfl) ?_
  refine y_if (g := ((!v1) == false)) rfl (fun hg => o_move (d := .lst false (List.map (PV.int .i64) a2)) rfl) ?_
  refine y_if (g := ((!v1) == false)) rfl (fun hg => o_lnL (f := (PV.int .i64)) (ct hg) Ty.e54) ?_
  refine y_if (g := ((!v1) == false)) rfl (fun hg => o_cmp (ct hg) rfl rfl) ?_
  refine y0 rfl (pk_or rfl rfl rfl (fun q => eqF q)) ?_
  refine y0 rfl (o_move (d := .bool ((!v1) || (decide ((a2.length : Int) > 40)))) rfl) ?_
  obtain ⟨v2, hv2, h⟩ := bindE h
  refine y_if (g := (((!v1) || (decide ((a2.length : Int) > 40))) == false)) rfl (fun hg => o_call (ds := []) rfl Ty.k12 rfl (w03_shown_ok (onlyE hv2 hg))) ?_
  refine y_if (g := (((!v1) || (decide ((a2.length : Int) > 40))) == false)) rfl (fun hg => o_not (ct hg) rfl) ?_
  refine y0 rfl (pk_or rfl rfl rfl (fun q => eqF q)) ?_
  refine y_nil ?_
  refine pw_cond (((!v1) || (decide ((a2.length : Int) > 40))) || (!v2)) rfl (fun hc => ?_) (fun hc => ?_)
  · have h := ifT h hc
    refine sr (by kernel_rfl) ?_
    obtain ⟨v3, hv3, h⟩ := bindE h
    refine y0 rfl (o_call (ds := []) rfl Ty.k12 rfl (w03_shown_ok hv3)) ?_
    refine y0 rfl (o_assign (d := .bool v3) rfl) ?_
    refine y_nil ?_
    refine pw_ret ?_
    obtain rfl := Option.some.inj h
    exact ⟨rfl, [_], ⟨rfl, trivial⟩, rfl, by first | exact .inl rfl | exact .inr rfl⟩
  · have h := ifF h hc
    refine pw_skip ?_
    refine sr (by kernel_rfl) ?_
    refine y0 rfl (o_loadA (cs := slab_Slab_int.Pc a0) rfl rfl rfl Ty.a24 Ty.s24 (Nat.le_of_ble_eq_true rfl) rfl) ?_
    refine y0 rfl (o_move (d := .int .i64 a1) rfl) ?_
    obtain ⟨v4, hv4, h⟩ := bindE h
    refine yc rfl (o_callF (ls := []) (ds := [slab_Slab_int.Pv a0, .int .i64 a1]) rfl Ty.k25 rfl (slab_Give_int_ok hv4)) ?_
    refine y0 rfl (o_move (d := .tup [slab_Slab_int.Pv v4.1, .int .i64 v4.2]) rfl) ?_
    refine y0 rfl (o_extract rfl rfl) ?_
    refine y0 rfl (o_extract rfl rfl) ?_
    refine y1 rfl (o_alloc (d := .agg [.lst false (List.map slab_Cell_int.Pv []), .int .i64 0]) (z := 2) rfl Ty.z24 rfl rfl rfl) rfl ?_
    refine y_sto (x' := slab_Slab_int.Pv v4.1) (cl' := true) rfl rfl (.inr rfl) Ty.s24 ?_
    refine y0 rfl (o_assign (d := .int .i64 v4.2) rfl) ?_
    refine y_nil ?_
    refine pw_seq ?_
    refine sr (by kernel_rfl) ?_
    refine y0 rfl (o_move (d := .int .i64 v4.2) rfl) ?_
    refine y0 rfl (o_cmp rfl rfl rfl) ?_
    refine y_nil ?_
    refine pw_cond (v4.2 != 0) rfl (fun hc => ?_) (fun hc => ?_)
    · have h := ifT h hc
      refine sr (by kernel_rfl) ?_
      refine y0 rfl (o_assign (d := .bool true) rfl) ?_
      refine y_nil ?_
      refine pw_ret ?_
      obtain rfl := Option.some.inj h
      exact ⟨rfl, [_], ⟨rfl, trivial⟩, rfl, by first | exact .inl rfl | exact .inr rfl⟩
    · have h := ifF h hc
      refine pw_skip ?_
      refine sr (by kernel_rfl) ?_
      refine y0 rfl (o_assign (d := .int .i64 0) rfl) ?_
      refine y_nil ?_
      obtain ⟨κ29, hκ21, h⟩ := jnE h
      refine pw_jn0 (κ := κ29) (r := r) (fun (_ : Unit) => St.of [] []) (fun q30 h => ?_) ?_
      · subst hκ21
        refine sr (by kernel_rfl) ?_
        refine y0 rfl (o_assign (d := .bool true) rfl) ?_
        refine y_nil ?_
        refine pw_ret ?_
        obtain rfl := Option.some.inj h
        exact ⟨rfl, [_], ⟨rfl, trivial⟩, rfl, by first | exact .inl rfl | exact .inr rfl⟩
      · skip
        refine sr (by kernel_rfl) ?_
        refine y0 rfl (o_assign (d := .int .i64 0) rfl) ?_
        refine y_nil ?_
        refine pw_block ?_
        obtain ⟨e31, hl22, hk23⟩ := bindE h
        refine pw_lp0 (fun (q : Int × Int × slab_Slab_int) => St.of [(1, .int .i64 a1), (2, .lst false (List.map (PV.int .i64) a2)), (7, .ptr 7 0 0), (9, .int .i64 q.1), (10, .int .i64 q.2.1)] [(7, ⟨[slab_Slab_int.Pv q.2.2], 0, false, 2, true⟩)]) hl22 (wk_st _ _ ⟨rfl, rfl, rfl, rfl, rfl, rfl, rfl, rfl, rfl, rfl, rfl, rfl, rfl, rfl, rfl, trivial⟩ ⟨rowLe_same rfl rfl rfl (fun q => nomatch q) rfl rfl rfl, trivial⟩) (fun q36 x35 h hx24 => ?_)
        obtain ⟨s32, s33, s34⟩ := q36
        refine pw_seq ?_
        refine sr (by kernel_rfl) ?_
        refine y0 rfl (o_move (d := .int .i64 s33) rfl) ?_
        refine y0 rfl (o_move (d := .lst false (List.map (PV.int .i64) a2)) rfl) ?_
        refine y0 rfl (o_lnL (f := (PV.int .i64)) rfl Ty.e54) ?_
        refine y0 rfl (o_cmp rfl rfl rfl) ?_
        refine y_nil ?_
        refine pw_cond (decide (s33 < (a2.length : Int))) rfl (fun hc => ?_) (fun hc => ?_)
        · have h := ifT h hc
          refine pw_skip ?_
          refine pw_seq ?_
          refine pw_block ?_
          obtain ⟨κ43, hκ30, h⟩ := jnE h
          refine pw_jn0 (κ := κ43) (r := x35) (fun (q : Int × slab_Slab_int) => St.of [(1, .int .i64 a1), (2, .lst false (List.map (PV.int .i64) a2)), (7, .ptr 7 0 0), (9, .int .i64 q.1), (10, .int .i64 s33)] [(7, ⟨[slab_Slab_int.Pv q.2], 0, false, 2, true⟩)]) (fun q46 h => ?_) ?_
          · subst hκ30
            obtain ⟨j44, j45⟩ := q46
            refine sr (by kernel_rfl) ?_
            refine y0 rfl (o_loadA (cs := slab_Slab_int.Pc j45) rfl rfl rfl Ty.a24 Ty.s24 (Nat.le_of_ble_eq_true rfl) rfl) ?_
            refine y0 rfl (o_move (d := .int .i64 a1) rfl) ?_
            obtain ⟨v47, hv31, h⟩ := bindE h
            refine y0 rfl (o_call (ds := [slab_Slab_int.Pv j45, .int .i64 a1]) rfl Ty.k18 rfl (slab_Get_int_ok hv31)) ?_
            refine y0 rfl (o_move (d := .tup [.int .i64 v47.1, .int .i64 v47.2]) rfl) ?_
            refine y0 rfl (o_extract rfl rfl) ?_
            refine y0 rfl (o_extract rfl rfl) ?_
            refine y0 rfl (o_assign (d := .int .i64 v47.1) rfl) ?_
            refine y0 rfl (o_assign (d := .int .i64 v47.2) rfl) ?_
            refine y_nil ?_
            refine sr (by kernel_rfl) ?_
            refine y0 rfl (o_loadA (cs := slab_Slab_int.Pc j45) rfl rfl rfl Ty.a24 Ty.s24 (Nat.le_of_ble_eq_true rfl) rfl) ?_
            refine y0 rfl (o_move (d := .int .i64 a1) rfl) ?_
            obtain ⟨v48, hv32, h⟩ := bindE h
            refine y0 rfl (o_call (ds := [slab_Slab_int.Pv j45, .int .i64 a1]) rfl Ty.k16 rfl (slab_Find_int_ok hv32)) ?_
            refine y0 rfl (o_move (d := .tup [.int .i64 v48.1, .int .i64 v48.2]) rfl) ?_
            refine y0 rfl (o_extract rfl rfl) ?_
            refine y0 rfl (o_extract rfl rfl) ?_
            refine y0 rfl (o_assign (d := .int .i64 v48.1) rfl) ?_
            refine y0 rfl (o_assign (d := .int .i64 v48.2) rfl) ?_
            refine y_nil ?_
            refine sr (by kernel_rfl) ?_
            refine y0 rfl (o_move (d := .int .i64 v47.2) rfl) ?_
            refine y0 rfl (o_cmp rfl rfl rfl) ?_
            refine y0 rfl (o_move (d := .bool (v47.2 != 3)) rfl) ?_
            refine y_if (g := ((v47.2 != 3) == false)) rfl (fun hg => o_move (d := .int .i64 v48.2) rfl) ?_
            refine y_if (g := ((v47.2 != 3) == false)) rfl (fun hg => o_cmp (ct hg) rfl rfl) ?_
            refine y0 rfl (pk_or rfl rfl rfl (fun q => eqF q)) ?_
            refine y0 rfl (o_move (d := .bool ((v47.2 != 3) || (v48.2 != 3))) rfl) ?_
            refine y_if (g := (((v47.2 != 3) || (v48.2 != 3)) == false)) rfl (fun hg => o_move (d := .int .i64 j44) rfl) ?_
            refine y_if (g := (((v47.2 != 3) || (v48.2 != 3)) == false)) rfl (fun hg => o_move (d := .int .i64 a1) rfl) ?_
            refine y_if (g := (((v47.2 != 3) || (v48.2 != 3)) == false)) rfl (fun hg => o_cmp (ct hg) (ct hg) rfl) ?_
            refine y0 rfl (pk_or rfl rfl rfl (fun q => eqF q)) ?_
            refine y_nil ?_
            refine pw_cond (((v47.2 != 3) || (v48.2 != 3)) || (j44 == a1)) rfl (fun hc => ?_) (fun hc => ?_)
            · have h := ifT h hc
              refine sr (by kernel_rfl) ?_
              refine y0 rfl (o_assign (d := .bool false) rfl) ?_
              refine y_nil ?_
              refine pw_ret ?_
              have he := hx24 _ (Option.some.inj h).symm
              have h := hk23
              rw [← he] at h
              obtain rfl := Option.some.inj h
              exact ⟨rfl, [_], ⟨rfl, trivial⟩, rfl, by first | exact .inl rfl | exact .inr rfl⟩
            · have h := ifF h hc
              refine pw_skip ?_
              refine sr1 (by kernel_rfl) ?_
              refine y0 rfl (o_move (d := .int .i64 s33) rfl) ?_
              refine y0 rfl (o_ari rfl rfl rfl) ?_
              refine y0 rfl (o_assign (d := .int .i64 (w64 (s33 + 1))) rfl) ?_
              refine y_nil ?_
              exact ⟨rfl, (j44, w64 (s33 + 1), j45), (Option.some.inj h).symm, (wk_st _ _ ⟨rfl, rfl, rfl, rfl, rfl, rfl, rfl, rfl, rfl, rfl, rfl, rfl, rfl, rfl, rfl, trivial⟩ ⟨rowLe_same rfl rfl rfl (fun q => nomatch q) rfl rfl rfl, trivial⟩)⟩
          · skip
            refine sr (by kernel_rfl) ?_
            refine y0 rfl (o_move (d := .lst false (List.map (PV.int .i64) a2)) rfl) ?_
            refine y0 rfl (o_move (d := .int .i64 s33) rfl) ?_
            obtain ⟨v49, hv33, h⟩ := bindE h
            refine y0 rfl (o_ixL (f := (PV.int .i64)) (cs := [.int .i64 v49]) hv33 rfl rfl Ty.e54 Ty.s3 rfl rfl) ?_
            refine y0 rfl (o_loadRS rfl Ty.a3 rfl) ?_
            obtain ⟨v50, hv34, h⟩ := bindE h
            refine y0 rfl (o_ari rfl rfl hv34) ?_
            refine y0 rfl (o_cmp rfl rfl rfl) ?_
            refine y_nil ?_
            refine pw_cond (v50 == 0) rfl (fun hc => ?_) (fun hc => ?_)
            · have h := ifT h hc
              refine dr [] Ty.mix (by kernel_rfl) (by kernel_rfl) ?_
              refine d0 rfl (o_loadA (cs := slab_Slab_int.Pc s34) rfl rfl rfl Ty.a24 Ty.s24 (Nat.le_of_ble_eq_true rfl) rfl) rfl ?_
              refine d7 rfl (fun _ hN => o_move (d := .lst false (List.map (PV.int .i64) a2)) rfl) rfl ?_
              refine d7 rfl (fun _ hN => o_move (d := .int .i64 s33) rfl) rfl ?_
              refine d0 rfl (o_ixL (f := (PV.int .i64)) (cs := [.int .i64 v49]) hv33 rfl rfl Ty.e54 Ty.s3 rfl rfl) rfl ?_
              refine d0 rfl (o_loadRS rfl Ty.a3 rfl) rfl ?_
              obtain ⟨v51, hv35, h⟩ := bindE h
              refine d2f rfl (o_callF (ls := []) (ds := [slab_Slab_int.Pv s34, .int .i64 v49]) rfl Ty.k14 rfl (slab_Take_int_ok hv35)) rfl ?_
              refine d7 rfl (fun _ hN => o_move (d := .tup [slab_Slab_int.Pv v51.1, .int .i64 v51.2.1, .int .i64 v51.2.2]) rfl) rfl ?_
              refine d7 rfl (fun _ hN => o_extract rfl rfl) rfl ?_
              refine d7 rfl (fun _ hN => o_extract rfl rfl) rfl ?_
              refine d7 rfl (fun _ hN => o_extract rfl rfl) rfl ?_
              refine d1 rfl (o_alloc (d := .agg [.lst false (List.map slab_Cell_int.Pv []), .int .i64 0]) (z := 2) rfl Ty.z24 rfl rfl rfl) rfl rfl rfl ?_
              refine d_sto (x' := slab_Slab_int.Pv v51.1) (cl' := true) rfl rfl (.inr rfl) Ty.s24 ?_
              refine d7 rfl (fun _ hN => o_assign (d := .int .i64 v51.2.1) rfl) rfl ?_
              refine d7 rfl (fun _ hN => o_assign (d := .int .i64 v51.2.2) rfl) rfl ?_
              refine d_nil ?_
              obtain ⟨κ52, hκ36, h⟩ := jnE h
              refine pw_jn0 (κ := κ52) (r := x35) (fun (j53 : Int) => St.of [(1, .int .i64 a1), (2, .lst false (List.map (PV.int .i64) a2)), (7, .ptr 7 0 0), (9, .int .i64 j53), (10, .int .i64 s33), (11, .ptr 11 0 0)] [(11, ⟨[slab_Slab_int.Pv v51.1], 0, false, 2, true⟩), (7, ⟨[slab_Slab_int.Pv s34], 0, false, 2, true⟩)]) (fun j53 h => ?_) ?_
              · subst hκ36
                refine sr1 (by kernel_rfl) ?_
                refine y0 rfl (o_loadA (cs := slab_Slab_int.Pc v51.1) rfl rfl rfl Ty.a24 Ty.s24 (Nat.le_of_ble_eq_true rfl) rfl) ?_
                refine y_sto (x' := slab_Slab_int.Pv v51.1) (cl' := true) rfl rfl (.inr rfl) Ty.s24 ?_
                refine y_nil ?_
                exact ⟨rfl, (j53, v51.1), h, (wk_st _ _ ⟨rfl, rfl, rfl, rfl, rfl, rfl, rfl, rfl, rfl, rfl, rfl, rfl, rfl, rfl, rfl, trivial⟩ ⟨rowLe_same rfl rfl rfl (fun q => nomatch q) rfl rfl rfl, trivial⟩)⟩
              · skip
                refine sr (by kernel_rfl) ?_
                refine y0 rfl (o_move (d := .int .i64 v51.2.2) rfl) ?_
                refine y0 rfl (o_cmp rfl rfl rfl) ?_
                refine y_nil ?_
                refine pw_cond (v51.2.2 == 0) rfl (fun hc => ?_) (fun hc => ?_)
                · have h := ifT h hc
                  refine sr1 (by kernel_rfl) ?_
                  refine y0 rfl (o_move (d := .int .i64 v51.2.1) rfl) ?_
                  refine y0 rfl (o_assign (d := .int .i64 v51.2.1) rfl) ?_
                  refine y_nil ?_
                  exact ⟨rfl, v51.2.1, h, (wk_st _ _ ⟨rfl, rfl, rfl, rfl, rfl, rfl, rfl, rfl, rfl, rfl, rfl, rfl, rfl, rfl, rfl, rfl, rfl, rfl, trivial⟩ ⟨rowLe_same rfl rfl rfl (fun q => nomatch q) rfl rfl rfl, rowLe_same rfl rfl rfl (fun q => nomatch q) rfl rfl rfl, trivial⟩)⟩
                · have h := ifF h hc
                  refine pw_skip ?_
                  exact ⟨rfl, s32, h, (wk_st _ _ ⟨rfl, rfl, rfl, rfl, rfl, rfl, rfl, rfl, rfl, rfl, rfl, rfl, rfl, rfl, rfl, rfl, rfl, rfl, trivial⟩ ⟨rowLe_same rfl rfl rfl (fun q => nomatch q) rfl rfl rfl, rowLe_same rfl rfl rfl (fun q => nomatch q) rfl rfl rfl, trivial⟩)⟩
            · have h := ifF h hc
              refine sr (by kernel_rfl) ?_
              refine y0 rfl (o_loadA (cs := slab_Slab_int.Pc s34) rfl rfl rfl Ty.a24 Ty.s24 (Nat.le_of_ble_eq_true rfl) rfl) ?_
              refine y0 rfl (o_move (d := .int .i64 s32) rfl) ?_
              obtain ⟨v54, hv37, h⟩ := bindE h
              refine yc rfl (o_callF (ls := []) (ds := [slab_Slab_int.Pv s34, .int .i64 s32]) rfl Ty.k25 rfl (slab_Give_int_ok hv37)) ?_
              refine y0 rfl (o_move (d := .tup [slab_Slab_int.Pv v54.1, .int .i64 v54.2]) rfl) ?_
              refine y0 rfl (o_extract rfl rfl) ?_
              refine y0 rfl (o_extract rfl rfl) ?_
              refine y1 rfl (o_alloc (d := .agg [.lst false (List.map slab_Cell_int.Pv []), .int .i64 0]) (z := 2) rfl Ty.z24 rfl rfl rfl) rfl ?_
              refine y_sto (x' := slab_Slab_int.Pv v54.1) (cl' := true) rfl rfl (.inr rfl) Ty.s24 ?_
              refine y0 rfl (o_assign (d := .int .i64 v54.2) rfl) ?_
              refine y_nil ?_
              refine sr1 (by kernel_rfl) ?_
              refine y0 rfl (o_loadA (cs := slab_Slab_int.Pc v54.1) rfl rfl rfl Ty.a24 Ty.s24 (Nat.le_of_ble_eq_true rfl) rfl) ?_
              refine y_sto (x' := slab_Slab_int.Pv v54.1) (cl' := true) rfl rfl (.inr rfl) Ty.s24 ?_
              refine y_nil ?_
              exact ⟨rfl, (s32, v54.1), h, (wk_st _ _ ⟨rfl, rfl, rfl, rfl, rfl, rfl, rfl, rfl, rfl, rfl, rfl, rfl, rfl, rfl, rfl, trivial⟩ ⟨rowLe_same rfl rfl rfl (fun q => nomatch q) rfl rfl rfl, trivial⟩)⟩
        · have h := ifF h hc
          refine pw_exit ?_
          refine thenQ_exit ?_
          refine thenQ_exit ?_
          refine blockQ_exit ?_
          have he := hx24 _ (Option.some.inj h).symm
          have h := hk23
          rw [← he] at h
          exact ⟨rfl, (), h, (wk_st _ _ trivial trivial)⟩

set_option maxHeartbeats 4000000 in
theorem w03_SlabTallies_ok {a0 : slab_Slab_int} {a1 : Int} {a2 : Int} {r : Bool} (h : w03_SlabTallies a0 a1 a2 = some r) : PCalls Try.prog 7 [slab_Slab_int.Pv a0, .int .i64 a1, .int .i64 a2] (.bool r) := by
  unfold w03_SlabTallies at h
  refine pc_intro (N := 180) Try.func7 rfl rfl (Nat.le_of_ble_eq_true rfl) fun w0 imm0 => ?_
  refine sr (by kernel_rfl) ?_
  refine y1 rfl (o_box (d := slab_Slab_int.Pv a0) (z := 2) (cl := true) rfl rfl rfl rfl rfl) rfl ?_
  refine y0 rfl (o_assign (d := .bool false) rfl) ?_
  refine y_nil ?_
  refine pw_seq ?_
  refine sr (by kernel_rfl) ?_
  refine y0 rfl (o_loadA (cs := slab_Slab_int.Pc a0) rfl rfl rfl Ty.a24 Ty.s24 (Nat.le_of_ble_eq_true rfl) rfl) ?_
  obtain ⟨v1, hv1, h⟩ := bindE h
  refine y0 rfl (o_call (ds := [slab_Slab_int.Pv a0]) rfl Ty.k11 rfl (w03_right_ok hv1)) ?_
  refine y0 rfl (o_not rfl rfl) ?_
  refine y0 rfl (o_move (d := .bool (!v1)) rfl) ?_
  obtain ⟨v2, hv2, h⟩ := bindE h
  refine y_if (g := ((!v1) == false)) rfl (fun hg => o_call (ds := []) rfl Ty.k12 rfl (w03_shown_ok (onlyE hv2 hg))) ?_
  refine y_if (g := ((!v1) == false)) rfl (fun hg => o_not (ct hg) rfl) ?_
  refine y0 rfl (pk_or rfl rfl rfl (fun q => eqF q)) ?_
  refine y_nil ?_
  refine pw_cond ((!v1) || (!v2)) rfl (fun hc => ?_) (fun hc => ?_)
  · have h := ifT h hc
    refine sr (by kernel_rfl) ?_
    obtain ⟨v3, hv3, h⟩ := bindE h
    refine y0 rfl (o_call (ds := []) rfl Ty.k12 rfl (w03_shown_ok hv3)) ?_
    refine y0 rfl (o_assign (d := .bool v3) rfl) ?_
    refine y_nil ?_
    refine pw_ret ?_
    obtain rfl := Option.some.inj h
    exact ⟨rfl, [_], ⟨rfl, trivial⟩, rfl, by first | exact .inl rfl | exact .inr rfl⟩
  · have h := ifF h hc
    refine pw_skip ?_
    refine sr (by kernel_rfl) ?_
    refine y0 rfl (o_loadA (cs := slab_Slab_int.Pc a0) rfl rfl rfl Ty.a24 Ty.s24 (Nat.le_of_ble_eq_true rfl) rfl) ?_
    obtain ⟨v4, hv4, h⟩ := bindE h
    refine y0 rfl (o_call (ds := [slab_Slab_int.Pv a0]) rfl Ty.k27 rfl (slab_Tally_int_ok hv4)) ?_
    refine y1 rfl (o_alloc (d := .agg [.int .i64 0, .int .i64 0, .int .i64 0, .int .i64 0]) (z := 4) rfl Ty.z46 rfl rfl rfl) rfl ?_
    refine y_sto (x' := A4.Pv v4) (cl' := true) rfl rfl (.inl rfl) Ty.s46 ?_
    refine y_nil ?_
    refine sr (by kernel_rfl) ?_
    refine y0 rfl (o_loadA (cs := slab_Slab_int.Pc a0) rfl rfl rfl Ty.a24 Ty.s24 (Nat.le_of_ble_eq_true rfl) rfl) ?_
    refine y0 rfl (o_move (d := .int .i64 a2) rfl) ?_
    obtain ⟨v5, hv5, h⟩ := bindE h
    refine yc rfl (o_callF (ls := []) (ds := [slab_Slab_int.Pv a0, .int .i64 a2]) rfl Ty.k14 rfl (slab_Take_int_ok hv5)) ?_
    refine y0 rfl (o_move (d := .tup [slab_Slab_int.Pv v5.1, .int .i64 v5.2.1, .int .i64 v5.2.2]) rfl) ?_
    refine y0 rfl (o_extract rfl rfl) ?_
    refine y0 rfl (o_extract rfl rfl) ?_
    refine y0 rfl (o_extract rfl rfl) ?_
    refine y1 rfl (o_alloc (d := .agg [.lst false (List.map slab_Cell_int.Pv []), .int .i64 0]) (z := 2) rfl Ty.z24 rfl rfl rfl) rfl ?_
    refine y_sto (x' := slab_Slab_int.Pv v5.1) (cl' := true) rfl rfl (.inr rfl) Ty.s24 ?_
    refine y0 rfl (o_assign (d := .int .i64 v5.2.1) rfl) ?_
    refine y0 rfl (o_assign (d := .int .i64 v5.2.2) rfl) ?_
    refine y_nil ?_
    refine sr (by kernel_rfl) ?_
    refine y0 rfl (o_loadA (cs := slab_Slab_int.Pc a0) rfl rfl rfl Ty.a24 Ty.s24 (Nat.le_of_ble_eq_true rfl) rfl) ?_
    refine y0 rfl (o_move (d := .int .i64 a1) rfl) ?_
    obtain ⟨v6, hv6, h⟩ := bindE h
    refine yc rfl (o_callF (ls := []) (ds := [slab_Slab_int.Pv a0, .int .i64 a1]) rfl Ty.k23 rfl (slab_Kill_int_ok hv6)) ?_
    refine y0 rfl (o_move (d := .tup [slab_Slab_int.Pv v6.1, .int .i64 v6.2]) rfl) ?_
    refine y0 rfl (o_extract rfl rfl) ?_
    refine y0 rfl (o_extract rfl rfl) ?_
    refine y1 rfl (o_alloc (d := .agg [.lst false (List.map slab_Cell_int.Pv []), .int .i64 0]) (z := 2) rfl Ty.z24 rfl rfl rfl) rfl ?_
    refine y_sto (x' := slab_Slab_int.Pv v6.1) (cl' := true) rfl rfl (.inr rfl) Ty.s24 ?_
    refine y0 rfl (o_assign (d := .int .i64 v6.2) rfl) ?_
    refine y_nil ?_
    refine sr (by kernel_rfl) ?_
    refine y0 rfl (o_loadA (cs := slab_Slab_int.Pc a0) rfl rfl rfl Ty.a24 Ty.s24 (Nat.le_of_ble_eq_true rfl) rfl) ?_
    refine y0 rfl (o_move (d := .int .i64 a1) rfl) ?_
    obtain ⟨v7, hv7, h⟩ := bindE h
    refine yc rfl (o_callF (ls := []) (ds := [slab_Slab_int.Pv a0, .int .i64 a1]) rfl Ty.k25 rfl (slab_Give_int_ok hv7)) ?_
    refine y0 rfl (o_move (d := .tup [slab_Slab_int.Pv v7.1, .int .i64 v7.2]) rfl) ?_
    refine y0 rfl (o_extract rfl rfl) ?_
    refine y0 rfl (o_extract rfl rfl) ?_
    refine y1 rfl (o_alloc (d := .agg [.lst false (List.map slab_Cell_int.Pv []), .int .i64 0]) (z := 2) rfl Ty.z24 rfl rfl rfl) rfl ?_
    refine y_sto (x' := slab_Slab_int.Pv v7.1) (cl' := true) rfl rfl (.inr rfl) Ty.s24 ?_
    refine y0 rfl (o_assign (d := .int .i64 v7.2) rfl) ?_
    refine y_nil ?_
    refine sr (by kernel_rfl) ?_
    refine y0 rfl (o_loadA (cs := slab_Slab_int.Pc v5.1) rfl rfl rfl Ty.a24 Ty.s24 (Nat.le_of_ble_eq_true rfl) rfl) ?_
    obtain ⟨v8, hv8, h⟩ := bindE h
    refine y0 rfl (o_call (ds := [slab_Slab_int.Pv v5.1]) rfl Ty.k27 rfl (slab_Tally_int_ok hv8)) ?_
    refine y1 rfl (o_alloc (d := .agg [.int .i64 0, .int .i64 0, .int .i64 0, .int .i64 0]) (z := 4) rfl Ty.z46 rfl rfl rfl) rfl ?_
    refine y_sto (x' := A4.Pv v8) (cl' := true) rfl rfl (.inl rfl) Ty.s46 ?_
    refine y_nil ?_
    refine sr (by kernel_rfl) ?_
    refine y0 rfl (o_loadA (cs := slab_Slab_int.Pc v6.1) rfl rfl rfl Ty.a24 Ty.s24 (Nat.le_of_ble_eq_true rfl) rfl) ?_
    obtain ⟨v9, hv9, h⟩ := bindE h
    refine y0 rfl (o_call (ds := [slab_Slab_int.Pv v6.1]) rfl Ty.k27 rfl (slab_Tally_int_ok hv9)) ?_
    refine y1 rfl (o_alloc (d := .agg [.int .i64 0, .int .i64 0, .int .i64 0, .int .i64 0]) (z := 4) rfl Ty.z46 rfl rfl rfl) rfl ?_
    refine y_sto (x' := A4.Pv v9) (cl' := true) rfl rfl (.inl rfl) Ty.s46 ?_
    refine y_nil ?_
    refine sr (by kernel_rfl) ?_
    refine y0 rfl (o_loadA (cs := slab_Slab_int.Pc v7.1) rfl rfl rfl Ty.a24 Ty.s24 (Nat.le_of_ble_eq_true rfl) rfl) ?_
    obtain ⟨v10, hv10, h⟩ := bindE h
    refine y0 rfl (o_call (ds := [slab_Slab_int.Pv v7.1]) rfl Ty.k27 rfl (slab_Tally_int_ok hv10)) ?_
    refine y1 rfl (o_alloc (d := .agg [.int .i64 0, .int .i64 0, .int .i64 0, .int .i64 0]) (z := 4) rfl Ty.z46 rfl rfl rfl) rfl ?_
    refine y_sto (x' := A4.Pv v10) (cl' := true) rfl rfl (.inl rfl) Ty.s46 ?_
    refine y_nil ?_
    refine pw_seq ?_
    refine sr (by kernel_rfl) ?_
    refine y0 rfl (o_idxA (m := 0) (k2 := 0) rfl rfl rfl (Nat.le_of_ble_eq_true rfl) Ty.r46 Ty.s3 rfl) ?_
    refine y0 rfl (o_loadS rfl rfl rfl Ty.a3 rfl) ?_
    refine y0 rfl (o_idxA (m := 1) (k2 := 1) rfl rfl rfl (Nat.le_of_ble_eq_true rfl) Ty.r46 Ty.s3 rfl) ?_
    refine y0 rfl (o_loadS rfl rfl rfl Ty.a3 rfl) ?_
    refine y0 rfl (o_ari rfl rfl rfl) ?_
    refine y0 rfl (o_idxA (m := 2) (k2 := 2) rfl rfl rfl (Nat.le_of_ble_eq_true rfl) Ty.r46 Ty.s3 rfl) ?_
    refine y0 rfl (o_loadS rfl rfl rfl Ty.a3 rfl) ?_
    refine y0 rfl (o_ari rfl rfl rfl) ?_
    refine y0 rfl (o_idxA (m := 3) (k2 := 3) rfl rfl rfl (Nat.le_of_ble_eq_true rfl) Ty.r46 Ty.s3 rfl) ?_
    refine y0 rfl (o_loadS rfl rfl rfl Ty.a3 rfl) ?_
    refine y0 rfl (o_ari rfl rfl rfl) ?_
    refine y0 rfl (o_fieldAddrP (k := 0) rfl Ty.f24_0 rfl) ?_
    refine y0 rfl (o_loadS rfl rfl rfl Ty.a22 rfl) ?_
    refine y0 rfl (o_lnL (f := slab_Cell_int.Pv) rfl Ty.e22) ?_
    refine y0 rfl (o_cmp rfl rfl rfl) ?_
    refine y0 rfl (o_move (d := .bool ((w64 ((w64 ((w64 (v4.a + v4.b)) + v4.c)) + v4.d)) != (a0.Cells.length : Int))) rfl) ?_
    refine y_if (g := (((w64 ((w64 ((w64 (v4.a + v4.b)) + v4.c)) + v4.d)) != (a0.Cells.length : Int)) == false)) rfl (fun hg => o_move (d := .int .i64 v5.2.2) rfl) ?_
    refine y_if (g := (((w64 ((w64 ((w64 (v4.a + v4.b)) + v4.c)) + v4.d)) != (a0.Cells.length : Int)) == false)) rfl (fun hg => o_cmp (ct hg) rfl rfl) ?_
    refine y_if (g := (((w64 ((w64 ((w64 (v4.a + v4.b)) + v4.c)) + v4.d)) != (a0.Cells.length : Int)) == false)) rfl (fun hg => o_move (d := .bool (v5.2.2 == 0)) (ct hg)) ?_
    refine y_if (g := ((((w64 ((w64 ((w64 (v4.a + v4.b)) + v4.c)) + v4.d)) != (a0.Cells.length : Int)) == false) && ((v5.2.2 == 0) == true))) (want2 rfl rfl rfl) (fun hg => o_idxA (m := 0) (k2 := 0) rfl rfl rfl (Nat.le_of_ble_eq_true rfl) Ty.r46 Ty.s3 rfl) ?_
    refine y_if (g := ((((w64 ((w64 ((w64 (v4.a + v4.b)) + v4.c)) + v4.d)) != (a0.Cells.length : Int)) == false) && ((v5.2.2 == 0) == true))) (want2 rfl rfl rfl) (fun hg => o_loadS (ct hg) rfl rfl Ty.a3 rfl) ?_
    refine y_if (g := ((((w64 ((w64 ((w64 (v4.a + v4.b)) + v4.c)) + v4.d)) != (a0.Cells.length : Int)) == false) && ((v5.2.2 == 0) == true))) (want2 rfl rfl rfl) (fun hg => o_idxA (m := 0) (k2 := 0) rfl rfl rfl (Nat.le_of_ble_eq_true rfl) Ty.r46 Ty.s3 rfl) ?_
    refine y_if (g := ((((w64 ((w64 ((w64 (v4.a + v4.b)) + v4.c)) + v4.d)) != (a0.Cells.length : Int)) == false) && ((v5.2.2 == 0) == true))) (want2 rfl rfl rfl) (fun hg => o_loadS (ct hg) rfl rfl Ty.a3 rfl) ?_
    refine y_if (g := ((((w64 ((w64 ((w64 (v4.a + v4.b)) + v4.c)) + v4.d)) != (a0.Cells.length : Int)) == false) && ((v5.2.2 == 0) == true))) (want2 rfl rfl rfl) (fun hg => o_ari (ct hg) rfl rfl) ?_
    refine y_if (g := ((((w64 ((w64 ((w64 (v4.a + v4.b)) + v4.c)) + v4.d)) != (a0.Cells.length : Int)) == false) && ((v5.2.2 == 0) == true))) (want2 rfl rfl rfl) (fun hg => o_cmp (ct hg) (ct hg) rfl) ?_
    refine y_if (g := ((((w64 ((w64 ((w64 (v4.a + v4.b)) + v4.c)) + v4.d)) != (a0.Cells.length : Int)) == false) && ((v5.2.2 == 0) == true))) (want2 rfl rfl rfl) (fun hg => o_move (d := .bool (v8.a != (w64 (v4.a - 1)))) (ct hg)) ?_
    refine y_if (g := (((((w64 ((w64 ((w64 (v4.a + v4.b)) + v4.c)) + v4.d)) != (a0.Cells.length : Int)) == false) && ((v5.2.2 == 0) == true)) && ((v8.a != (w64 (v4.a - 1))) == false))) (want2 rfl rfl rfl) (fun hg => o_idxA (m := 1) (k2 := 1) rfl rfl rfl (Nat.le_of_ble_eq_true rfl) Ty.r46 Ty.s3 rfl) ?_
    refine y_if (g := (((((w64 ((w64 ((w64 (v4.a + v4.b)) + v4.c)) + v4.d)) != (a0.Cells.length : Int)) == false) && ((v5.2.2 == 0) == true)) && ((v8.a != (w64 (v4.a - 1))) == false))) (want2 rfl rfl rfl) (fun hg => o_loadS (ct hg) rfl rfl Ty.a3 rfl) ?_
    refine y_if (g := (((((w64 ((w64 ((w64 (v4.a + v4.b)) + v4.c)) + v4.d)) != (a0.Cells.length : Int)) == false) && ((v5.2.2 == 0) == true)) && ((v8.a != (w64 (v4.a - 1))) == false))) (want2 rfl rfl rfl) (fun hg => o_idxA (m := 1) (k2 := 1) rfl rfl rfl (Nat.le_of_ble_eq_true rfl) Ty.r46 Ty.s3 rfl) ?_
    refine y_if (g := (((((w64 ((w64 ((w64 (v4.a + v4.b)) + v4.c)) + v4.d)) != (a0.Cells.length : Int)) == false) && ((v5.2.2 == 0) == true)) && ((v8.a != (w64 (v4.a - 1))) == false))) (want2 rfl rfl rfl) (fun hg => o_loadS (ct hg) rfl rfl Ty.a3 rfl) ?_
    refine y_if (g := (((((w64 ((w64 ((w64 (v4.a + v4.b)) + v4.c)) + v4.d)) != (a0.Cells.length : Int)) == false) && ((v5.2.2 == 0) == true)) && ((v8.a != (w64 (v4.a - 1))) == false))) (want2 rfl rfl rfl) (fun hg => o_ari (ct hg) rfl rfl) ?_
    refine y_if (g := (((((w64 ((w64 ((w64 (v4.a + v4.b)) + v4.c)) + v4.d)) != (a0.Cells.length : Int)) == false) && ((v5.2.2 == 0) == true)) && ((v8.a != (w64 (v4.a - 1))) == false))) (want2 rfl rfl rfl) (fun hg => o_cmp (ct hg) (ct hg) rfl) ?_
    refine y_if (g := ((((w64 ((w64 ((w64 (v4.a + v4.b)) + v4.c)) + v4.d)) != (a0.Cells.length : Int)) == false) && ((v5.2.2 == 0) == true))) (want2 rfl rfl rfl) (fun hg => pk_or (ct hg) rfl rfl (fun q => andI hg (eqF q))) ?_
    refine y_if (g := (((w64 ((w64 ((w64 (v4.a + v4.b)) + v4.c)) + v4.d)) != (a0.Cells.length : Int)) == false)) rfl (fun hg => pk_and (ct hg) rfl rfl (fun q => andI hg (eqT q))) ?_
    refine y0 rfl (pk_or rfl rfl rfl (fun q => eqF q)) ?_
    refine y0 rfl (o_move (d := .bool (((w64 ((w64 ((w64 (v4.a + v4.b)) + v4.c)) + v4.d)) != (a0.Cells.length : Int)) || ((v5.2.2 == 0) && ((v8.a != (w64 (v4.a - 1))) || (v8.b != (w64 (v4.b + 1))))))) rfl) ?_
    refine y_if (g := ((((w64 ((w64 ((w64 (v4.a + v4.b)) + v4.c)) + v4.d)) != (a0.Cells.length : Int)) || ((v5.2.2 == 0) && ((v8.a != (w64 (v4.a - 1))) || (v8.b != (w64 (v4.b + 1)))))) == false)) rfl (fun hg => o_move (d := .int .i64 v5.2.2) rfl) ?_
    refine y_if (g := ((((w64 ((w64 ((w64 (v4.a + v4.b)) + v4.c)) + v4.d)) != (a0.Cells.length : Int)) || ((v5.2.2 == 0) && ((v8.a != (w64 (v4.a - 1))) || (v8.b != (w64 (v4.b + 1)))))) == false)) rfl (fun hg => o_cmp (ct hg) rfl rfl) ?_
    refine y_if (g := ((((w64 ((w64 ((w64 (v4.a + v4.b)) + v4.c)) + v4.d)) != (a0.Cells.length : Int)) || ((v5.2.2 == 0) && ((v8.a != (w64 (v4.a - 1))) || (v8.b != (w64 (v4.b + 1)))))) == false)) rfl (fun hg => o_move (d := .bool (v5.2.2 != 0)) (ct hg)) ?_
    refine y_if (g := (((((w64 ((w64 ((w64 (v4.a + v4.b)) + v4.c)) + v4.d)) != (a0.Cells.length : Int)) || ((v5.2.2 == 0) && ((v8.a != (w64 (v4.a - 1))) || (v8.b != (w64 (v4.b + 1)))))) == false) && ((v5.2.2 != 0) == true))) (want2 rfl rfl rfl) (fun hg => o_loadA (cs := A4.Pc v8) rfl rfl rfl Ty.a46 Ty.s46 (Nat.le_of_ble_eq_true rfl) rfl) ?_
    refine y_if (g := (((((w64 ((w64 ((w64 (v4.a + v4.b)) + v4.c)) + v4.d)) != (a0.Cells.length : Int)) || ((v5.2.2 == 0) && ((v8.a != (w64 (v4.a - 1))) || (v8.b != (w64 (v4.b + 1)))))) == false) && ((v5.2.2 != 0) == true))) (want2 rfl rfl rfl) (fun hg => o_loadA (cs := A4.Pc v4) rfl rfl rfl Ty.a46 Ty.s46 (Nat.le_of_ble_eq_true rfl) rfl) ?_
    refine y_if (g := (((((w64 ((w64 ((w64 (v4.a + v4.b)) + v4.c)) + v4.d)) != (a0.Cells.length : Int)) || ((v5.2.2 == 0) && ((v8.a != (w64 (v4.a - 1))) || (v8.b != (w64 (v4.b + 1)))))) == false) && ((v5.2.2 != 0) == true))) (want2 rfl rfl rfl) (fun hg => o_neA (xs := A4.Pc v8) (ys := A4.Pc v4) Ty.q46 (ct hg) (ct hg) rfl rfl) ?_
    refine y_if (g := (((((w64 ((w64 ((w64 (v4.a + v4.b)) + v4.c)) + v4.d)) != (a0.Cells.length : Int)) || ((v5.2.2 == 0) && ((v8.a != (w64 (v4.a - 1))) || (v8.b != (w64 (v4.b + 1)))))) == false) && ((v5.2.2 != 0) == true))) (want2 rfl rfl rfl) (fun hg => o_move (d := .bool (!((v8.a == v4.a) && ((v8.b == v4.b) && ((v8.c == v4.c) && ((v8.d == v4.d) && true)))))) (ct hg)) ?_
    refine y_if (g := ((((((w64 ((w64 ((w64 (v4.a + v4.b)) + v4.c)) + v4.d)) != (a0.Cells.length : Int)) || ((v5.2.2 == 0) && ((v8.a != (w64 (v4.a - 1))) || (v8.b != (w64 (v4.b + 1)))))) == false) && ((v5.2.2 != 0) == true)) && ((!((v8.a == v4.a) && ((v8.b == v4.b) && ((v8.c == v4.c) && ((v8.d == v4.d) && true))))) == false))) (want2 rfl rfl rfl) (fun hg => o_idxA (m := 0) (k2 := 0) rfl rfl rfl (Nat.le_of_ble_eq_true rfl) Ty.r46 Ty.s3 rfl) ?_
    refine y_if (g := ((((((w64 ((w64 ((w64 (v4.a + v4.b)) + v4.c)) + v4.d)) != (a0.Cells.length : Int)) || ((v5.2.2 == 0) && ((v8.a != (w64 (v4.a - 1))) || (v8.b != (w64 (v4.b + 1)))))) == false) && ((v5.2.2 != 0) == true)) && ((!((v8.a == v4.a) && ((v8.b == v4.b) && ((v8.c == v4.c) && ((v8.d == v4.d) && true))))) == false))) (want2 rfl rfl rfl) (fun hg => o_loadS (ct hg) rfl rfl Ty.a3 rfl) ?_
    refine y_if (g := ((((((w64 ((w64 ((w64 (v4.a + v4.b)) + v4.c)) + v4.d)) != (a0.Cells.length : Int)) || ((v5.2.2 == 0) && ((v8.a != (w64 (v4.a - 1))) || (v8.b != (w64 (v4.b + 1)))))) == false) && ((v5.2.2 != 0) == true)) && ((!((v8.a == v4.a) && ((v8.b == v4.b) && ((v8.c == v4.c) && ((v8.d == v4.d) && true))))) == false))) (want2 rfl rfl rfl) (fun hg => o_cmp (ct hg) rfl rfl) ?_
    refine y_if (g := (((((w64 ((w64 ((w64 (v4.a + v4.b)) + v4.c)) + v4.d)) != (a0.Cells.length : Int)) || ((v5.2.2 == 0) && ((v8.a != (w64 (v4.a - 1))) || (v8.b != (w64 (v4.b + 1)))))) == false) && ((v5.2.2 != 0) == true))) (want2 rfl rfl rfl) (fun hg => pk_or (ct hg) rfl rfl (fun q => andI hg (eqF q))) ?_
    refine y_if (g := ((((w64 ((w64 ((w64 (v4.a + v4.b)) + v4.c)) + v4.d)) != (a0.Cells.length : Int)) || ((v5.2.2 == 0) && ((v8.a != (w64 (v4.a - 1))) || (v8.b != (w64 (v4.b + 1)))))) == false)) rfl (fun hg => pk_and (ct hg) rfl rfl (fun q => andI hg (eqT q))) ?_
    refine y0 rfl (pk_or rfl rfl rfl (fun q => eqF q)) ?_
    refine y_nil ?_
    refine pw_cond ((((w64 ((w64 ((w64 (v4.a + v4.b)) + v4.c)) + v4.d)) != (a0.Cells.length : Int)) || ((v5.2.2 == 0) && ((v8.a != (w64 (v4.a - 1))) || (v8.b != (w64 (v4.b + 1)))))) || ((v5.2.2 != 0) && ((!((v8.a == v4.a) && ((v8.b == v4.b) && ((v8.c == v4.c) && ((v8.d == v4.d) && true))))) || (v4.a != 0)))) rfl (fun hc => ?_) (fun hc => ?_)
    · have h := ifT h hc
      refine sr (by kernel_rfl) ?_
      refine y0 rfl (o_assign (d := .bool false) rfl) ?_
      refine y_nil ?_
      refine pw_ret ?_
      obtain rfl := Option.some.inj h
      exact ⟨rfl, [_], ⟨rfl, trivial⟩, rfl, by first | exact .inl rfl | exact .inr rfl⟩
    · have h := ifF h hc
      refine pw_skip ?_
      refine pw_seq ?_
      refine sr (by kernel_rfl) ?_
      refine y0 rfl (o_move (d := .int .i64 v6.2) rfl) ?_
      refine y0 rfl (o_cmp rfl rfl rfl) ?_
      refine y0 rfl (o_move (d := .bool (v6.2 == 0)) rfl) ?_
      refine y_if (g := ((v6.2 == 0) == true)) rfl (fun hg => o_idxA (m := 1) (k2 := 1) rfl rfl rfl (Nat.le_of_ble_eq_true rfl) Ty.r46 Ty.s3 rfl) ?_
      refine y_if (g := ((v6.2 == 0) == true)) rfl (fun hg => o_loadS (ct hg) rfl rfl Ty.a3 rfl) ?_
      refine y_if (g := ((v6.2 == 0) == true)) rfl (fun hg => o_idxA (m := 1) (k2 := 1) rfl rfl rfl (Nat.le_of_ble_eq_true rfl) Ty.r46 Ty.s3 rfl) ?_
      refine y_if (g := ((v6.2 == 0) == true)) rfl (fun hg => o_loadS (ct hg) rfl rfl Ty.a3 rfl) ?_
      refine y_if (g := ((v6.2 == 0) == true)) rfl (fun hg => o_ari (ct hg) rfl rfl) ?_
      refine y_if (g := ((v6.2 == 0) == true)) rfl (fun hg => o_cmp (ct hg) (ct hg) rfl) ?_
      refine y_if (g := ((v6.2 == 0) == true)) rfl (fun hg => o_move (d := .bool (v9.b != (w64 (v4.b - 1)))) (ct hg)) ?_
      refine y_if (g := (((v6.2 == 0) == true) && ((v9.b != (w64 (v4.b - 1))) == false))) (want2 rfl rfl rfl) (fun hg => o_idxA (m := 2) (k2 := 2) rfl rfl rfl (Nat.le_of_ble_eq_true rfl) Ty.r46 Ty.s3 rfl) ?_
      refine y_if (g := (((v6.2 == 0) == true) && ((v9.b != (w64 (v4.b - 1))) == false))) (want2 rfl rfl rfl) (fun hg => o_loadS (ct hg) rfl rfl Ty.a3 rfl) ?_
      refine y_if (g := (((v6.2 == 0) == true) && ((v9.b != (w64 (v4.b - 1))) == false))) (want2 rfl rfl rfl) (fun hg => o_idxA (m := 2) (k2 := 2) rfl rfl rfl (Nat.le_of_ble_eq_true rfl) Ty.r46 Ty.s3 rfl) ?_
      refine y_if (g := (((v6.2 == 0) == true) && ((v9.b != (w64 (v4.b - 1))) == false))) (want2 rfl rfl rfl) (fun hg => o_loadS (ct hg) rfl rfl Ty.a3 rfl) ?_
      refine y_if (g := (((v6.2 == 0) == true) && ((v9.b != (w64 (v4.b - 1))) == false))) (want2 rfl rfl rfl) (fun hg => o_ari (ct hg) rfl rfl) ?_
      refine y_if (g := (((v6.2 == 0) == true) && ((v9.b != (w64 (v4.b - 1))) == false))) (want2 rfl rfl rfl) (fun hg => o_cmp (ct hg) (ct hg) rfl) ?_
      refine y_if (g := ((v6.2 == 0) == true)) rfl (fun hg => pk_or (ct hg) rfl rfl (fun q => andI hg (eqF q))) ?_
      refine y_if (g := ((v6.2 == 0) == true)) rfl (fun hg => o_move (d := .bool ((v9.b != (w64 (v4.b - 1))) || (v9.c != (w64 (v4.c + 1))))) (ct hg)) ?_
      refine y_if (g := (((v6.2 == 0) == true) && (((v9.b != (w64 (v4.b - 1))) || (v9.c != (w64 (v4.c + 1)))) == false))) (want2 rfl rfl rfl) (fun hg => o_idxA (m := 0) (k2 := 0) rfl rfl rfl (Nat.le_of_ble_eq_true rfl) Ty.r46 Ty.s3 rfl) ?_
      refine y_if (g := (((v6.2 == 0) == true) && (((v9.b != (w64 (v4.b - 1))) || (v9.c != (w64 (v4.c + 1)))) == false))) (want2 rfl rfl rfl) (fun hg => o_loadS (ct hg) rfl rfl Ty.a3 rfl) ?_
      refine y_if (g := (((v6.2 == 0) == true) && (((v9.b != (w64 (v4.b - 1))) || (v9.c != (w64 (v4.c + 1)))) == false))) (want2 rfl rfl rfl) (fun hg => o_idxA (m := 0) (k2 := 0) rfl rfl rfl (Nat.le_of_ble_eq_true rfl) Ty.r46 Ty.s3 rfl) ?_
      refine y_if (g := (((v6.2 == 0) == true) && (((v9.b != (w64 (v4.b - 1))) || (v9.c != (w64 (v4.c + 1)))) == false))) (want2 rfl rfl rfl) (fun hg => o_loadS (ct hg) rfl rfl Ty.a3 rfl) ?_
      refine y_if (g := (((v6.2 == 0) == true) && (((v9.b != (w64 (v4.b - 1))) || (v9.c != (w64 (v4.c + 1)))) == false))) (want2 rfl rfl rfl) (fun hg => o_cmp (ct hg) (ct hg) rfl) ?_
      refine y_if (g := ((v6.2 == 0) == true)) rfl (fun hg => pk_or (ct hg) rfl rfl (fun q => andI hg (eqF q))) ?_
      refine y0 rfl (pk_and rfl rfl rfl (fun q => eqT q)) ?_
      refine y0 rfl (o_move (d := .bool ((v6.2 == 0) && (((v9.b != (w64 (v4.b - 1))) || (v9.c != (w64 (v4.c + 1)))) || (v9.a != v4.a)))) rfl) ?_
      refine y_if (g := (((v6.2 == 0) && (((v9.b != (w64 (v4.b - 1))) || (v9.c != (w64 (v4.c + 1)))) || (v9.a != v4.a))) == false)) rfl (fun hg => o_move (d := .int .i64 v6.2) rfl) ?_
      refine y_if (g := (((v6.2 == 0) && (((v9.b != (w64 (v4.b - 1))) || (v9.c != (w64 (v4.c + 1)))) || (v9.a != v4.a))) == false)) rfl (fun hg => o_cmp (ct hg) rfl rfl) ?_
      refine y_if (g := (((v6.2 == 0) && (((v9.b != (w64 (v4.b - 1))) || (v9.c != (w64 (v4.c + 1)))) || (v9.a != v4.a))) == false)) rfl (fun hg => o_move (d := .bool (v6.2 != 0)) (ct hg)) ?_
      refine y_if (g := ((((v6.2 == 0) && (((v9.b != (w64 (v4.b - 1))) || (v9.c != (w64 (v4.c + 1)))) || (v9.a != v4.a))) == false) && ((v6.2 != 0) == true))) (want2 rfl rfl rfl) (fun hg => o_loadA (cs := A4.Pc v9) rfl rfl rfl Ty.a46 Ty.s46 (Nat.le_of_ble_eq_true rfl) rfl) ?_
      refine y_if (g := ((((v6.2 == 0) && (((v9.b != (w64 (v4.b - 1))) || (v9.c != (w64 (v4.c + 1)))) || (v9.a != v4.a))) == false) && ((v6.2 != 0) == true))) (want2 rfl rfl rfl) (fun hg => o_loadA (cs := A4.Pc v4) rfl rfl rfl Ty.a46 Ty.s46 (Nat.le_of_ble_eq_true rfl) rfl) ?_
      refine y_if (g := ((((v6.2 == 0) && (((v9.b != (w64 (v4.b - 1))) || (v9.c != (w64 (v4.c + 1)))) || (v9.a != v4.a))) == false) && ((v6.2 != 0) == true))) (want2 rfl rfl rfl) (fun hg => o_neA (xs := A4.Pc v9) (ys := A4.Pc v4) Ty.q46 (ct hg) (ct hg) rfl rfl) ?_
      refine y_if (g := (((v6.2 == 0) && (((v9.b != (w64 (v4.b - 1))) || (v9.c != (w64 (v4.c + 1)))) || (v9.a != v4.a))) == false)) rfl (fun hg => pk_and (ct hg) rfl rfl (fun q => andI hg (eqT q))) ?_
      refine y0 rfl (pk_or rfl rfl rfl (fun q => eqF q)) ?_
      refine y_nil ?_
      refine pw_cond (((v6.2 == 0) && (((v9.b != (w64 (v4.b - 1))) || (v9.c != (w64 (v4.c + 1)))) || (v9.a != v4.a))) || ((v6.2 != 0) && (!((v9.a == v4.a) && ((v9.b == v4.b) && ((v9.c == v4.c) && ((v9.d == v4.d) && true))))))) rfl (fun hc => ?_) (fun hc => ?_)
      · have h := ifT h hc
        refine sr (by kernel_rfl) ?_
        refine y0 rfl (o_assign (d := .bool false) rfl) ?_
        refine y_nil ?_
        refine pw_ret ?_
        obtain rfl := Option.some.inj h
        exact ⟨rfl, [_], ⟨rfl, trivial⟩, rfl, by first | exact .inl rfl | exact .inr rfl⟩
      · have h := ifF h hc
        refine pw_skip ?_
        refine sr (by kernel_rfl) ?_
        refine y0 rfl (o_move (d := .int .i64 v7.2) rfl) ?_
        refine y0 rfl (o_cmp rfl rfl rfl) ?_
        refine y0 rfl (o_idxA (m := 1) (k2 := 1) rfl rfl rfl (Nat.le_of_ble_eq_true rfl) Ty.r46 Ty.s3 rfl) ?_
        refine y0 rfl (o_loadS rfl rfl rfl Ty.a3 rfl) ?_
        refine y0 rfl (o_idxA (m := 2) (k2 := 2) rfl rfl rfl (Nat.le_of_ble_eq_true rfl) Ty.r46 Ty.s3 rfl) ?_
        refine y0 rfl (o_loadS rfl rfl rfl Ty.a3 rfl) ?_
        refine y0 rfl (o_ari rfl rfl rfl) ?_
        refine y0 rfl (o_idxA (m := 1) (k2 := 1) rfl rfl rfl (Nat.le_of_ble_eq_true rfl) Ty.r46 Ty.s3 rfl) ?_
        refine y0 rfl (o_loadS rfl rfl rfl Ty.a3 rfl) ?_
        refine y0 rfl (o_idxA (m := 2) (k2 := 2) rfl rfl rfl (Nat.le_of_ble_eq_true rfl) Ty.r46 Ty.s3 rfl) ?_
        refine y0 rfl (o_loadS rfl rfl rfl Ty.a3 rfl) ?_
        refine y0 rfl (o_ari rfl rfl rfl) ?_
        refine y0 rfl (o_ari rfl rfl rfl) ?_
        refine y0 rfl (o_cmp rfl rfl rfl) ?_
        refine y0 rfl (o_eqB rfl rfl Ty.u4 rfl) ?_
        refine y0 rfl (o_move (d := .bool ((v7.2 == 0) == ((w64 (v10.b + v10.c)) == (w64 ((w64 (v4.b + v4.c)) - 1))))) rfl) ?_
        refine y_if (g := (((v7.2 == 0) == ((w64 (v10.b + v10.c)) == (w64 ((w64 (v4.b + v4.c)) - 1)))) == true)) rfl (fun hg => o_idxA (m := 0) (k2 := 0) rfl rfl rfl (Nat.le_of_ble_eq_true rfl) Ty.r46 Ty.s3 rfl) ?_
        refine y_if (g := (((v7.2 == 0) == ((w64 (v10.b + v10.c)) == (w64 ((w64 (v4.b + v4.c)) - 1)))) == true)) rfl (fun hg => o_loadS (ct hg) rfl rfl Ty.a3 rfl) ?_
        refine y_if (g := (((v7.2 == 0) == ((w64 (v10.b + v10.c)) == (w64 ((w64 (v4.b + v4.c)) - 1)))) == true)) rfl (fun hg => o_idxA (m := 3) (k2 := 3) rfl rfl rfl (Nat.le_of_ble_eq_true rfl) Ty.r46 Ty.s3 rfl) ?_
        refine y_if (g := (((v7.2 == 0) == ((w64 (v10.b + v10.c)) == (w64 ((w64 (v4.b + v4.c)) - 1)))) == true)) rfl (fun hg => o_loadS (ct hg) rfl rfl Ty.a3 rfl) ?_
        refine y_if (g := (((v7.2 == 0) == ((w64 (v10.b + v10.c)) == (w64 ((w64 (v4.b + v4.c)) - 1)))) == true)) rfl (fun hg => o_ari (ct hg) (ct hg) rfl) ?_
        refine y_if (g := (((v7.2 == 0) == ((w64 (v10.b + v10.c)) == (w64 ((w64 (v4.b + v4.c)) - 1)))) == true)) rfl (fun hg => o_idxA (m := 0) (k2 := 0) rfl rfl rfl (Nat.le_of_ble_eq_true rfl) Ty.r46 Ty.s3 rfl) ?_
        refine y_if (g := (((v7.2 == 0) == ((w64 (v10.b + v10.c)) == (w64 ((w64 (v4.b + v4.c)) - 1)))) == true)) rfl (fun hg => o_loadS (ct hg) rfl rfl Ty.a3 rfl) ?_
        refine y_if (g := (((v7.2 == 0) == ((w64 (v10.b + v10.c)) == (w64 ((w64 (v4.b + v4.c)) - 1)))) == true)) rfl (fun hg => o_idxA (m := 3) (k2 := 3) rfl rfl rfl (Nat.le_of_ble_eq_true rfl) Ty.r46 Ty.s3 rfl) ?_
        refine y_if (g := (((v7.2 == 0) == ((w64 (v10.b + v10.c)) == (w64 ((w64 (v4.b + v4.c)) - 1)))) == true)) rfl (fun hg => o_loadS (ct hg) rfl rfl Ty.a3 rfl) ?_
        refine y_if (g := (((v7.2 == 0) == ((w64 (v10.b + v10.c)) == (w64 ((w64 (v4.b + v4.c)) - 1)))) == true)) rfl (fun hg => o_ari (ct hg) (ct hg) rfl) ?_
        refine y_if (g := (((v7.2 == 0) == ((w64 (v10.b + v10.c)) == (w64 ((w64 (v4.b + v4.c)) - 1)))) == true)) rfl (fun hg => o_fieldAddrP (k := 0) rfl Ty.f24_0 rfl) ?_
        refine y_if (g := (((v7.2 == 0) == ((w64 (v10.b + v10.c)) == (w64 ((w64 (v4.b + v4.c)) - 1)))) == true)) rfl (fun hg => o_loadS (ct hg) rfl rfl Ty.a22 rfl) ?_
        refine y_if (g := (((v7.2 == 0) == ((w64 (v10.b + v10.c)) == (w64 ((w64 (v4.b + v4.c)) - 1)))) == true)) rfl (fun hg => o_lnL (f := slab_Cell_int.Pv) (ct hg) Ty.e22) ?_
        refine y_if (g := (((v7.2 == 0) == ((w64 (v10.b + v10.c)) == (w64 ((w64 (v4.b + v4.c)) - 1)))) == true)) rfl (fun hg => o_ari (ct hg) (ct hg) rfl) ?_
        refine y_if (g := (((v7.2 == 0) == ((w64 (v10.b + v10.c)) == (w64 ((w64 (v4.b + v4.c)) - 1)))) == true)) rfl (fun hg => o_idxA (m := 0) (k2 := 0) rfl rfl rfl (Nat.le_of_ble_eq_true rfl) Ty.r46 Ty.s3 rfl) ?_
        refine y_if (g := (((v7.2 == 0) == ((w64 (v10.b + v10.c)) == (w64 ((w64 (v4.b + v4.c)) - 1)))) == true)) rfl (fun hg => o_loadS (ct hg) rfl rfl Ty.a3 rfl) ?_
        refine y_if (g := (((v7.2 == 0) == ((w64 (v10.b + v10.c)) == (w64 ((w64 (v4.b + v4.c)) - 1)))) == true)) rfl (fun hg => o_idxA (m := 3) (k2 := 3) rfl rfl rfl (Nat.le_of_ble_eq_true rfl) Ty.r46 Ty.s3 rfl) ?_
        refine y_if (g := (((v7.2 == 0) == ((w64 (v10.b + v10.c)) == (w64 ((w64 (v4.b + v4.c)) - 1)))) == true)) rfl (fun hg => o_loadS (ct hg) rfl rfl Ty.a3 rfl) ?_
        refine y_if (g := (((v7.2 == 0) == ((w64 (v10.b + v10.c)) == (w64 ((w64 (v4.b + v4.c)) - 1)))) == true)) rfl (fun hg => o_ari (ct hg) (ct hg) rfl) ?_
        refine y_if (g := (((v7.2 == 0) == ((w64 (v10.b + v10.c)) == (w64 ((w64 (v4.b + v4.c)) - 1)))) == true)) rfl (fun hg => o_idxA (m := 1) (k2 := 1) rfl rfl rfl (Nat.le_of_ble_eq_true rfl) Ty.r46 Ty.s3 rfl) ?_
        refine y_if (g := (((v7.2 == 0) == ((w64 (v10.b + v10.c)) == (w64 ((w64 (v4.b + v4.c)) - 1)))) == true)) rfl (fun hg => o_loadS (ct hg) rfl rfl Ty.a3 rfl) ?_
        refine y_if (g := (((v7.2 == 0) == ((w64 (v10.b + v10.c)) == (w64 ((w64 (v4.b + v4.c)) - 1)))) == true)) rfl (fun hg => o_ari (ct hg) (ct hg) rfl) ?_
        refine y_if (g := (((v7.2 == 0) == ((w64 (v10.b + v10.c)) == (w64 ((w64 (v4.b + v4.c)) - 1)))) == true)) rfl (fun hg => o_idxA (m := 2) (k2 := 2) rfl rfl rfl (Nat.le_of_ble_eq_true rfl) Ty.r46 Ty.s3 rfl) ?_
        refine y_if (g := (((v7.2 == 0) == ((w64 (v10.b + v10.c)) == (w64 ((w64 (v4.b + v4.c)) - 1)))) == true)) rfl (fun hg => o_loadS (ct hg) rfl rfl Ty.a3 rfl) ?_
        refine y_if (g := (((v7.2 == 0) == ((w64 (v10.b + v10.c)) == (w64 ((w64 (v4.b + v4.c)) - 1)))) == true)) rfl (fun hg => o_ari (ct hg) (ct hg) rfl) ?_
        refine y_if (g := (((v7.2 == 0) == ((w64 (v10.b + v10.c)) == (w64 ((w64 (v4.b + v4.c)) - 1)))) == true)) rfl (fun hg => o_ari (ct hg) (ct hg) rfl) ?_
        refine y_if (g := (((v7.2 == 0) == ((w64 (v10.b + v10.c)) == (w64 ((w64 (v4.b + v4.c)) - 1)))) == true)) rfl (fun hg => o_cmp (ct hg) (ct hg) rfl) ?_
        refine y0 rfl (pk_and rfl rfl rfl (fun q => eqT q)) ?_
        refine y0 rfl (o_assign (d := .bool (((v7.2 == 0) == ((w64 (v10.b + v10.c)) == (w64 ((w64 (v4.b + v4.c)) - 1)))) && ((w64 (v10.a + v10.d)) == (w64 ((w64 ((w64 (v4.a + v4.d)) + (a0.Cells.length : Int))) - (w64 ((w64 ((w64 (v4.a + v4.d)) + v10.b)) + v10.c))))))) rfl) ?_
        refine y_nil ?_
        refine pw_ret ?_
        obtain rfl := Option.some.inj h
        exact ⟨rfl, [_], ⟨rfl, trivial⟩, rfl, by first | exact .inl rfl | exact .inr rfl⟩

end Go.Proofs.Yteilfbdphlimkaa.Ok
