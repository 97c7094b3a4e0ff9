/-
  The functions of the program do as the plain functions do.
-/
import Derived.Test.YtkjilddlbaibfaaPw28
import Derived.Test.YtkjilddlbaibfaaH11Sh
import Derived.Test.YtkjilddlbaibfaaProg
namespace Go.Proofs.Ytkjilddlbaibfaa.Ok
open Go Go.Pw Go.Sh Go.Proofs
set_option linter.unusedVariables false
set_option maxRecDepth 100000
abbrev _root_.Go.Sh.hash_Place.Pc (x : hash_Place) : List PV := [.int .i64 x.State, .int .i64 x.Key, .int .i64 x.Val]
abbrev _root_.Go.Sh.hash_Place.Pv (x : hash_Place) : PV := .agg x.Pc
abbrev _root_.Go.Sh.r10_Place.Pc (x : r10_Place) : List PV := [.int .i64 x.State, .int .i64 x.Key, .int .i64 x.Val]
abbrev _root_.Go.Sh.r10_Place.Pv (x : r10_Place) : PV := .agg x.Pc
abbrev _root_.Go.Sh.ephem_Pair.Pc (x : ephem_Pair) : List PV := [.int .i64 x.Key, .int .i64 x.Val]
abbrev _root_.Go.Sh.ephem_Pair.Pv (x : ephem_Pair) : PV := .agg x.Pc
abbrev _root_.Go.Sh.r11_Pair.Pc (x : r11_Pair) : List PV := [.int .i64 x.Key, .int .i64 x.Val]
abbrev _root_.Go.Sh.r11_Pair.Pv (x : r11_Pair) : PV := .agg x.Pc
namespace Ty
theorem a3 : tagg Try.prog 3 = some false := by kernel_rfl
theorem a22 : tagg Try.prog 22 = some false := by kernel_rfl
theorem a28 : tagg Try.prog 28 = some false := by kernel_rfl
theorem a45 : tagg Try.prog 45 = some false := by kernel_rfl
theorem a53 : tagg Try.prog 53 = some true := by kernel_rfl
theorem a56 : tagg Try.prog 56 = some true := by kernel_rfl
theorem a61 : tagg Try.prog 61 = some true := by kernel_rfl
theorem a62 : tagg Try.prog 62 = some true := by kernel_rfl
theorem a73 : tagg Try.prog 73 = some false := by kernel_rfl
theorem b3 : tbytes Try.prog 3 = some 8 := by kernel_rfl
theorem b53 : tbytes Try.prog 53 = some 16 := by kernel_rfl
theorem b56 : tbytes Try.prog 56 = some 16 := by kernel_rfl
theorem b61 : tbytes Try.prog 61 = some 24 := by kernel_rfl
theorem b62 : tbytes Try.prog 62 = some 24 := by kernel_rfl
theorem e22 : telem Try.prog 22 = some 62 := by kernel_rfl
theorem e23 : telem Try.prog 23 = some 3 := by kernel_rfl
theorem e26 : telem Try.prog 26 = some 61 := by kernel_rfl
theorem e43 : telem Try.prog 43 = some 53 := by kernel_rfl
theorem e45 : telem Try.prog 45 = some 56 := by kernel_rfl
theorem f53_0 : foff Try.prog 53 0 = some (0, 3) := by kernel_rfl
theorem f53_1 : foff Try.prog 53 1 = some (1, 3) := by kernel_rfl
theorem f56_1 : foff Try.prog 56 1 = some (1, 3) := by kernel_rfl
theorem f61_0 : foff Try.prog 61 0 = some (0, 3) := by kernel_rfl
theorem f61_1 : foff Try.prog 61 1 = some (1, 3) := by kernel_rfl
theorem f61_2 : foff Try.prog 61 2 = some (2, 3) := by kernel_rfl
theorem f62_0 : foff Try.prog 62 0 = some (0, 3) := by kernel_rfl
theorem f62_1 : foff Try.prog 62 1 = some (1, 3) := by kernel_rfl
theorem f62_2 : foff Try.prog 62 2 = some (2, 3) := by kernel_rfl
theorem k8 : Callable Try.prog 8 := ⟨Try.f8, _, Try.func8, rfl, by decide⟩
theorem k9 : Callable Try.prog 9 := ⟨Try.f9, _, Try.func9, rfl, by decide⟩
theorem k10 : Callable Try.prog 10 := ⟨Try.f10, _, Try.func10, rfl, by decide⟩
theorem k11 : Callable Try.prog 11 := ⟨Try.f11, _, Try.func11, rfl, by decide⟩
theorem k12 : Callable Try.prog 12 := ⟨Try.f12, _, Try.func12, rfl, by decide⟩
theorem k13 : Callable Try.prog 13 := ⟨Try.f13, _, Try.func13, rfl, by decide⟩
theorem k14 : Callable Try.prog 14 := ⟨Try.f14, _, Try.func14, rfl, by decide⟩
theorem k15 : Callable Try.prog 15 := ⟨Try.f15, _, Try.func15, rfl, by decide⟩
theorem k16 : Callable Try.prog 16 := ⟨Try.f16, _, Try.func16, rfl, by decide⟩
theorem k17 : Callable Try.prog 17 := ⟨Try.f17, _, Try.func17, rfl, by decide⟩
theorem k18 : Callable Try.prog 18 := ⟨Try.f18, _, Try.func18, rfl, by decide⟩
theorem k19 : Callable Try.prog 19 := ⟨Try.f19, _, Try.func19, rfl, by decide⟩
theorem k20 : Callable Try.prog 20 := ⟨Try.f20, _, Try.func20, rfl, by decide⟩
theorem k21 : Callable Try.prog 21 := ⟨Try.f21, _, Try.func21, rfl, by decide⟩
theorem k22 : Callable Try.prog 22 := ⟨Try.f22, _, Try.func22, rfl, by decide⟩
theorem k23 : Callable Try.prog 23 := ⟨Try.f23, _, Try.func23, rfl, by decide⟩
theorem k24 : Callable Try.prog 24 := ⟨Try.f24, _, Try.func24, rfl, by decide⟩
theorem k25 : Callable Try.prog 25 := ⟨Try.f25, _, Try.func25, rfl, by decide⟩
theorem k26 : Callable Try.prog 26 := ⟨Try.f26, _, Try.func26, rfl, by decide⟩
theorem k27 : Callable Try.prog 27 := ⟨Try.f27, _, Try.func27, rfl, by decide⟩
theorem k28 : Callable Try.prog 28 := ⟨Try.f28, _, Try.func28, rfl, by decide⟩
theorem k29 : Callable Try.prog 29 := ⟨Try.f29, _, Try.func29, rfl, by decide⟩
theorem k30 : Callable Try.prog 30 := ⟨Try.f30, _, Try.func30, rfl, by decide⟩
theorem k31 : Callable Try.prog 31 := ⟨Try.f31, _, Try.func31, rfl, by decide⟩
theorem k32 : Callable Try.prog 32 := ⟨Try.f32, _, Try.func32, rfl, by decide⟩
theorem k33 : Callable Try.prog 33 := ⟨Try.f33, _, Try.func33, rfl, by decide⟩
theorem k34 : Callable Try.prog 34 := ⟨Try.f34, _, Try.func34, rfl, by decide⟩
theorem k35 : Callable Try.prog 35 := ⟨Try.f35, _, Try.func35, rfl, by decide⟩
theorem k36 : Callable Try.prog 36 := ⟨Try.f36, _, Try.func36, rfl, by decide⟩
theorem k37 : Callable Try.prog 37 := ⟨Try.f37, _, Try.func37, rfl, by decide⟩
theorem k38 : Callable Try.prog 38 := ⟨Try.f38, _, Try.func38, rfl, by decide⟩
theorem k39 : Callable Try.prog 39 := ⟨Try.f39, _, Try.func39, rfl, by decide⟩
theorem k40 : Callable Try.prog 40 := ⟨Try.f40, _, Try.func40, rfl, by decide⟩
theorem k41 : Callable Try.prog 41 := ⟨Try.f41, _, Try.func41, rfl, by decide⟩
theorem k42 : Callable Try.prog 42 := ⟨Try.f42, _, Try.func42, rfl, by decide⟩
theorem k43 : Callable Try.prog 43 := ⟨Try.f43, _, Try.func43, rfl, by decide⟩
theorem k44 : Callable Try.prog 44 := ⟨Try.f44, _, Try.func44, rfl, by decide⟩
theorem k45 : Callable Try.prog 45 := ⟨Try.f45, _, Try.func45, rfl, by decide⟩
theorem k46 : Callable Try.prog 46 := ⟨Try.f46, _, Try.func46, rfl, by decide⟩
theorem k47 : Callable Try.prog 47 := ⟨Try.f47, _, Try.func47, rfl, by decide⟩
theorem k48 : Callable Try.prog 48 := ⟨Try.f48, _, Try.func48, rfl, by decide⟩
theorem k49 : Callable Try.prog 49 := ⟨Try.f49, _, Try.func49, rfl, by decide⟩
theorem p53 : bplaces Try.prog 53 = some (fun i => (#[(0, 1), (1, 1)] : Array (Nat × Nat))[i]?) := by kernel_rfl
theorem p56 : bplaces Try.prog 56 = some (fun i => (#[(0, 1), (1, 1)] : Array (Nat × Nat))[i]?) := by kernel_rfl
theorem p61 : bplaces Try.prog 61 = some (fun i => (#[(0, 1), (1, 1), (2, 1)] : Array (Nat × Nat))[i]?) := by kernel_rfl
theorem p62 : bplaces Try.prog 62 = some (fun i => (#[(0, 1), (1, 1), (2, 1)] : Array (Nat × Nat))[i]?) := by kernel_rfl
theorem q53 : fkinds Try.prog 53 = some [1, 1] := by kernel_rfl
theorem q61 : fkinds Try.prog 61 = some [1, 1, 1] := by kernel_rfl
theorem s3 : tsize Try.prog 3 = some 1 := by kernel_rfl
theorem s22 : tsize Try.prog 22 = some 1 := by kernel_rfl
theorem s28 : tsize Try.prog 28 = some 1 := by kernel_rfl
theorem s45 : tsize Try.prog 45 = some 1 := by kernel_rfl
theorem s53 : tsize Try.prog 53 = some 2 := by kernel_rfl
theorem s56 : tsize Try.prog 56 = some 2 := by kernel_rfl
theorem s61 : tsize Try.prog 61 = some 3 := by kernel_rfl
theorem s62 : tsize Try.prog 62 = some 3 := by kernel_rfl
theorem u4 : Try.prog.underlying 4 = some (.bool) := by kernel_rfl
theorem z3 : tzero Try.prog 3 = some ((.int .i64 0)) := by kernel_rfl
theorem z22 : tzero Try.prog 22 = some ((.slice none 0 0)) := by kernel_rfl
theorem z28 : tzero Try.prog 28 = some ((.int .i64 0)) := by kernel_rfl
theorem z45 : tzero Try.prog 45 = some ((.slice none 0 0)) := by kernel_rfl
theorem z53 : tzero Try.prog 53 = some ((.agg #[(.int .i64 0), (.int .i64 0)])) := by kernel_rfl
theorem z56 : tzero Try.prog 56 = some ((.agg #[(.int .i64 0), (.int .i64 0)])) := by kernel_rfl
theorem z61 : tzero Try.prog 61 = some ((.agg #[(.int .i64 0), (.int .i64 0), (.int .i64 0)])) := by kernel_rfl
theorem z62 : tzero Try.prog 62 = some ((.agg #[(.int .i64 0), (.int .i64 0), (.int .i64 0)])) := by kernel_rfl
theorem mix : Try.prog.follows .mixedOrders = true := by kernel_rfl
end Ty
set_option maxHeartbeats 4000000 in
theorem w11_its_ok {a0 : List hash_Place} {r : List r10_Place} (h : w11_its a0 = some r) : PCalls Try.prog 10 [.lst false (List.map hash_Place.Pv a0)] (.lst false (List.map r10_Place.Pv r)) := by
  unfold w11_its at h
  refine pc_intro (N := 20) Try.func10 rfl rfl (Nat.le_of_ble_eq_true rfl) fun w0 imm0 => ?_
  refine sr (by kernel_rfl) ?_
  refine y0 rfl (o_assign (d := .lst true (List.map r10_Place.Pv [])) rfl) ?_
  refine y_nil ?_
  refine sr (by kernel_rfl) ?_
  refine y0 rfl (o_nslice rfl Ty.e26 Ty.s61) ?_
  refine y0 rfl (o_assign (d := .lst true (List.map r10_Place.Pv [])) rfl) ?_
  refine y_nil ?_
  obtain ⟨κ8, hκ6, h⟩ := jnE h
  refine pw_jn0 (κ := κ8) (r := r) (fun (j9 : List r10_Place) => St.of [(3, .sl 910003)] [(910003, ⟨List.map r10_Place.Pv j9, (List.map r10_Place.Pv j9).length, true, 3, true⟩)]) (fun j9 h => ?_) ?_
  · subst hκ6
    refine sr (by kernel_rfl) ?_
    refine y0 rfl (o_move (d := .sl 910003) rfl) ?_
    refine y0 rfl (o_assign (d := .sl 910003) rfl) ?_
    refine y_nil ?_
    refine pw_ret ?_
    obtain rfl := Option.some.inj h
    exact ⟨rfl, [_], ⟨rfl, trivial⟩, rfl, by first | exact .inl rfl | exact .inr rfl⟩
  · skip
    refine sr (by kernel_rfl) ?_
    refine y0 rfl (o_assign (d := .int .i64 0) rfl) ?_
    refine y_nil ?_
    refine pw_block ?_
    obtain ⟨e10, hl7, hk8⟩ := bindE h
    refine pw_lp0 (fun (q : Int × (List r10_Place)) => St.of [(0, .lst false (List.map hash_Place.Pv a0)), (3, .sl 910003), (4, .int .i64 q.1)] [(910003, ⟨List.map r10_Place.Pv q.2, (List.map r10_Place.Pv q.2).length, true, 3, true⟩)]) hl7 (Wk.trans (wk_nil (t := 3) (l := 920003) (z := 3) rfl rfl) (wk_stP (fun l => if l = 910003 then 920003 else l) _ _ ⟨rfl, rfl, rfl, rfl, rfl, rfl, rfl, rfl, rfl, trivial⟩ ⟨rowLe_ren rfl rfl rfl (fun _ => rfl) rfl rfl rfl, trivial⟩ rfl)) (fun q14 x13 h hx9 => ?_)
    obtain ⟨s11, s12⟩ := q14
    refine pw_seq ?_
    refine sr (by kernel_rfl) ?_
    refine y0 rfl (o_move (d := .int .i64 s11) rfl) ?_
    refine y0 rfl (o_move (d := .lst false (List.map hash_Place.Pv a0)) rfl) ?_
    refine y0 rfl (o_lnL (f := hash_Place.Pv) rfl Ty.e22) ?_
    refine y0 rfl (o_cmp rfl rfl rfl) ?_
    refine y_nil ?_
    refine pw_cond (decide (s11 < (a0.length : Int))) rfl (fun hc => ?_) (fun hc => ?_)
    · have h := ifT h hc
      refine pw_skip ?_
      refine pw_seq ?_
      refine pw_block ?_
      refine sr1 (by kernel_rfl) ?_
      refine y0 rfl (o_move (d := .sl 910003) rfl) ?_
      refine y0 rfl (o_move (d := .lst false (List.map hash_Place.Pv a0)) rfl) ?_
      refine y0 rfl (o_move (d := .int .i64 s11) rfl) ?_
      obtain ⟨v15, hv10, h⟩ := bindE h
      refine y0 rfl (o_ixL (f := hash_Place.Pv) (cs := hash_Place.Pc v15) hv10 rfl rfl Ty.e22 Ty.s62 rfl rfl) ?_
      refine y0 rfl (o_loadRA (cs := hash_Place.Pc v15) rfl Ty.a62 Ty.s62 (Nat.le_of_ble_eq_true rfl) rfl) ?_
      refine y0 rfl (o_bI (f := r10_Place.Pv) (l := [(⟨v15.State, v15.Key, v15.Val⟩ : r10_Place)]) rfl Ty.e26 Ty.s61 Ty.z61 rfl rfl (Nat.le_of_ble_eq_true rfl) rfl rfl) ?_
      obtain ⟨v16, hv11, h⟩ := bindE h
      refine y_app rfl (o_apR (f := r10_Place.Pv) hv11 rfl rfl rfl rfl rfl rfl (.inl ⟨_, rfl, rfl⟩) Ty.e26 Ty.s61 Ty.b61 Ty.z61 rfl (fun _ => rfl)) rfl rfl rfl ?_
      refine y0 rfl (o_assign (d := .sl 18) rfl) ?_
      refine y_nil ?_
      refine sr1 (by kernel_rfl) ?_
      refine y0 rfl (o_move (d := .int .i64 s11) rfl) ?_
      refine y0 rfl (o_ari rfl rfl rfl) ?_
      refine y0 rfl (o_assign (d := .int .i64 (w64 (s11 + 1))) rfl) ?_
      refine y_nil ?_
      exact ⟨rfl, (w64 (s11 + 1), v16), (Option.some.inj h).symm, (Wk.trans (wk_frz _ [18]) (wk_stP (fun l => if l = 910003 then 18 else l) _ _ ⟨rfl, rfl, rfl, rfl, rfl, rfl, rfl, rfl, rfl, trivial⟩ ⟨rowLe_ren rfl rfl rfl (fun _ => rfl) rfl rfl rfl, trivial⟩ rfl))⟩
    · have h := ifF h hc
      refine pw_exit ?_
      refine thenQ_exit ?_
      refine thenQ_exit ?_
      refine blockQ_exit ?_
      have he := hx9 _ (Option.some.inj h).symm
      have h := hk8
      rw [← he] at h
      exact ⟨rfl, s12, h, (Wk.trans (wk_frz _ [910003]) (wk_st _ _ ⟨rfl, rfl, rfl, trivial⟩ ⟨rowLe_same rfl rfl rfl (fun _ => rfl) rfl rfl rfl, trivial⟩))⟩

set_option maxHeartbeats 4000000 in
theorem r10_Find_ok {a0 : List r10_Place} {a1 : Int} {r : Int} (h : r10_Find a0 a1 = some r) : PCalls Try.prog 39 [.lst false (List.map r10_Place.Pv a0), .int .i64 a1] (.int .i64 r) := by
  unfold r10_Find at h
  refine pc_intro (N := 28) Try.func39 rfl rfl (Nat.le_of_ble_eq_true rfl) fun w0 imm0 => ?_
  refine sr (by kernel_rfl) ?_
  refine y0 rfl (o_assign (d := .int .i64 0) rfl) ?_
  refine y_nil ?_
  obtain ⟨κ5, hκ5, h⟩ := jnE h
  refine pw_jn0 (κ := κ5) (r := r) (fun (_ : Unit) => St.of [] []) (fun q6 h => ?_) ?_
  · subst hκ5
    refine sr (by kernel_rfl) ?_
    refine y0 rfl (o_assign (d := .int .i64 (-1)) rfl) ?_
    refine y_nil ?_
    refine pw_ret ?_
    obtain rfl := Option.some.inj h
    exact ⟨rfl, [_], ⟨rfl, trivial⟩, rfl, by first | exact .inl rfl | exact .inr rfl⟩
  · skip
    refine sr (by kernel_rfl) ?_
    refine y0 rfl (o_assign (d := .int .i64 0) rfl) ?_
    refine y_nil ?_
    refine pw_block ?_
    obtain ⟨e7, hl6, hk7⟩ := bindE h
    refine pw_lp0 (fun (s8 : Int) => St.of [(0, .lst false (List.map r10_Place.Pv a0)), (1, .int .i64 a1), (5, .int .i64 s8)] []) hl6 (wk_st _ _ ⟨rfl, rfl, rfl, rfl, rfl, rfl, rfl, rfl, rfl, trivial⟩ trivial) (fun s8 x9 h hx8 => ?_)
    refine pw_seq ?_
    refine sr (by kernel_rfl) ?_
    refine y0 rfl (o_move (d := .int .i64 s8) rfl) ?_
    refine y0 rfl (o_move (d := .lst false (List.map r10_Place.Pv a0)) rfl) ?_
    refine y0 rfl (o_lnL (f := r10_Place.Pv) rfl Ty.e26) ?_
    refine y0 rfl (o_cmp rfl rfl rfl) ?_
    refine y_nil ?_
    refine pw_cond (decide (s8 < (a0.length : Int))) rfl (fun hc => ?_) (fun hc => ?_)
    · have h := ifT h hc
      refine pw_skip ?_
      refine pw_seq ?_
      refine pw_block ?_
      refine sr (by kernel_rfl) ?_
      refine y0 rfl (o_move (d := .lst false (List.map r10_Place.Pv a0)) rfl) ?_
      refine y0 rfl (o_move (d := .int .i64 s8) rfl) ?_
      obtain ⟨v10, hv9, h⟩ := bindE h
      refine y0 rfl (o_ixL (f := r10_Place.Pv) (cs := r10_Place.Pc v10) hv9 rfl rfl Ty.e26 Ty.s61 rfl rfl) ?_
      refine y0 rfl (o_fieldAddrR rfl Ty.f61_0 rfl) ?_
      refine y0 rfl (o_loadRS rfl Ty.a3 rfl) ?_
      refine y0 rfl (o_cmp rfl rfl rfl) ?_
      refine y0 rfl (o_move (d := .bool (v10.State == 1)) rfl) ?_
      refine y_if (g := ((v10.State == 1) == true)) rfl (fun hg => o_move (d := .lst false (List.map r10_Place.Pv a0)) rfl) ?_
      refine y_if (g := ((v10.State == 1) == true)) rfl (fun hg => o_move (d := .int .i64 s8) rfl) ?_
      refine y_if (g := ((v10.State == 1) == true)) rfl (fun hg => o_ixL (f := r10_Place.Pv) (cs := r10_Place.Pc v10) hv9 (ct hg) (ct hg) Ty.e26 Ty.s61 rfl rfl) ?_
      refine y_if (g := ((v10.State == 1) == true)) rfl (fun hg => o_fieldAddrR (ct hg) Ty.f61_1 rfl) ?_
      refine y_if (g := ((v10.State == 1) == true)) rfl (fun hg => o_loadRS (ct hg) Ty.a3 rfl) ?_
      refine y_if (g := ((v10.State == 1) == true)) rfl (fun hg => o_move (d := .int .i64 a1) rfl) ?_
      refine y_if (g := ((v10.State == 1) == true)) rfl (fun hg => o_cmp (ct hg) (ct hg) rfl) ?_
      refine y0 rfl (pk_and rfl rfl rfl (fun q => eqT q)) ?_
      refine y_nil ?_
      refine pw_cond ((v10.State == 1) && (v10.Key == a1)) rfl (fun hc => ?_) (fun hc => ?_)
      · have h := ifT h hc
        refine sr (by kernel_rfl) ?_
        refine y0 rfl (o_move (d := .int .i64 s8) rfl) ?_
        refine y0 rfl (o_assign (d := .int .i64 s8) rfl) ?_
        refine y_nil ?_
        refine pw_ret ?_
        have he := hx8 _ (Option.some.inj h).symm
        have h := hk7
        rw [← he] at h
        obtain rfl := Option.some.inj h
        exact ⟨rfl, [_], ⟨rfl, trivial⟩, rfl, by first | exact .inl rfl | exact .inr rfl⟩
      · have h := ifF h hc
        refine pw_skip ?_
        refine sr1 (by kernel_rfl) ?_
        refine y0 rfl (o_move (d := .int .i64 s8) rfl) ?_
        refine y0 rfl (o_ari rfl rfl rfl) ?_
        refine y0 rfl (o_assign (d := .int .i64 (w64 (s8 + 1))) rfl) ?_
        refine y_nil ?_
        exact ⟨rfl, w64 (s8 + 1), (Option.some.inj h).symm, (wk_st _ _ ⟨rfl, rfl, rfl, rfl, rfl, rfl, rfl, rfl, rfl, trivial⟩ trivial)⟩
    · have h := ifF h hc
      refine pw_exit ?_
      refine thenQ_exit ?_
      refine thenQ_exit ?_
      refine blockQ_exit ?_
      have he := hx8 _ (Option.some.inj h).symm
      have h := hk7
      rw [← he] at h
      exact ⟨rfl, (), h, (wk_st _ _ trivial trivial)⟩

set_option maxHeartbeats 4000000 in
theorem r10_Home_ok {a0 : Int} {a1 : Int} {r : Int} (h : r10_Home a0 a1 = some r) : PCalls Try.prog 40 [.int .i64 a0, .int .i64 a1] (.int .i64 r) := by
  unfold r10_Home at h
  refine pc_intro (N := 19) Try.func40 rfl rfl (Nat.le_of_ble_eq_true rfl) fun w0 imm0 => ?_
  refine sr (by kernel_rfl) ?_
  refine y0 rfl (o_assign (d := .int .i64 0) rfl) ?_
  refine y_nil ?_
  refine pw_seq ?_
  refine sr (by kernel_rfl) ?_
  refine y0 rfl (o_move (d := .int .i64 a0) rfl) ?_
  refine y0 rfl (o_cmp rfl rfl rfl) ?_
  refine y_nil ?_
  refine pw_cond (decide (a0 < 1)) rfl (fun hc => ?_) (fun hc => ?_)
  · have h := ifT h hc
    refine sr (by kernel_rfl) ?_
    refine y0 rfl (o_assign (d := .int .i64 0) rfl) ?_
    refine y_nil ?_
    refine pw_ret ?_
    obtain rfl := Option.some.inj h
    exact ⟨rfl, [_], ⟨rfl, trivial⟩, rfl, by first | exact .inl rfl | exact .inr rfl⟩
  · have h := ifF h hc
    refine pw_skip ?_
    refine sr (by kernel_rfl) ?_
    refine y0 rfl (o_move (d := .int .i64 a1) rfl) ?_
    refine y0 rfl (o_ari rfl rfl rfl) ?_
    refine y0 rfl (o_ari rfl rfl rfl) ?_
    refine y0 rfl (o_move (d := .int .i64 a0) rfl) ?_
    obtain ⟨v1, hv1, h⟩ := bindE h
    refine y0 rfl (o_ari rfl rfl hv1) ?_
    refine y0 rfl (o_assign (d := .int .i64 v1) rfl) ?_
    refine y_nil ?_
    refine pw_seq ?_
    refine sr (by kernel_rfl) ?_
    refine y0 rfl (o_move (d := .int .i64 v1) rfl) ?_
    refine y0 rfl (o_cmp rfl rfl rfl) ?_
    refine y_nil ?_
    refine pw_cond (decide (v1 < 0)) rfl (fun hc => ?_) (fun hc => ?_)
    · have h := ifT h hc
      refine sr1 (by kernel_rfl) ?_
      refine y0 rfl (o_move (d := .int .i64 v1) rfl) ?_
      refine y0 rfl (o_move (d := .int .i64 a0) rfl) ?_
      refine y0 rfl (o_ari rfl rfl rfl) ?_
      refine y0 rfl (o_assign (d := .int .i64 (w64 (v1 + a0))) rfl) ?_
      refine y_nil ?_
      refine sr (by kernel_rfl) ?_
      refine y0 rfl (o_move (d := .int .i64 (w64 (v1 + a0))) rfl) ?_
      refine y0 rfl (o_assign (d := .int .i64 (w64 (v1 + a0))) rfl) ?_
      refine y_nil ?_
      refine pw_ret ?_
      obtain rfl := Option.some.inj h
      exact ⟨rfl, [_], ⟨rfl, trivial⟩, rfl, by first | exact .inl rfl | exact .inr rfl⟩
    · have h := ifF h hc
      refine pw_skip ?_
      refine sr (by kernel_rfl) ?_
      refine y0 rfl (o_move (d := .int .i64 v1) rfl) ?_
      refine y0 rfl (o_assign (d := .int .i64 v1) rfl) ?_
      refine y_nil ?_
      refine pw_ret ?_
      obtain rfl := Option.some.inj h
      exact ⟨rfl, [_], ⟨rfl, trivial⟩, rfl, by first | exact .inl rfl | exact .inr rfl⟩

set_option maxHeartbeats 4000000 in
theorem r10_Right_ok {a0 : List r10_Place} {r : Bool} (h : r10_Right a0 = some r) : PCalls Try.prog 26 [.lst false (List.map r10_Place.Pv a0)] (.bool r) := by
  unfold r10_Right at h
  refine pc_intro (N := 73) Try.func26 rfl rfl (Nat.le_of_ble_eq_true rfl) fun w0 imm0 => ?_
  refine sr (by kernel_rfl) ?_
  refine y0 rfl (o_assign (d := .bool false) rfl) ?_
  refine y_nil ?_
  refine sr (by kernel_rfl) ?_
  refine y0 rfl (o_move (d := .lst false (List.map r10_Place.Pv a0)) rfl) ?_
  refine y0 rfl (o_lnL (f := r10_Place.Pv) rfl Ty.e26) ?_
  refine y0 rfl (o_assign (d := .int .i64 (a0.length : Int)) rfl) ?_
  refine y_nil ?_
  refine pw_seq ?_
  refine sr (by kernel_rfl) ?_
  refine y0 rfl (o_move (d := .int .i64 (a0.length : Int)) rfl) ?_
  refine y0 rfl (o_cmp rfl rfl rfl) ?_
  refine y0 rfl (o_move (d := .bool (decide ((a0.length : Int) < 1))) rfl) ?_
  refine y_if (g := ((decide ((a0.length : Int) < 1)) == false)) rfl (fun hg => o_move (d := .int .i64 (a0.length : Int)) rfl) ?_
  refine y_if (g := ((decide ((a0.length : Int) < 1)) == false)) rfl (fun hg => o_cmp (ct hg) rfl rfl) ?_
  refine y0 rfl (pk_or rfl rfl rfl (fun q => eqF q)) ?_
  refine y_nil ?_
  refine pw_cond ((decide ((a0.length : Int) < 1)) || (decide ((a0.length : Int) > 8))) rfl (fun hc => ?_) (fun hc => ?_)
  · have h := ifT h hc
    refine sr (by kernel_rfl) ?_
    refine y0 rfl (o_assign (d := .bool false) rfl) ?_
    refine y_nil ?_
    refine pw_ret ?_
    obtain rfl := Option.some.inj h
    exact ⟨rfl, [_], ⟨rfl, trivial⟩, rfl, by first | exact .inl rfl | exact .inr rfl⟩
  · have h := ifF h hc
    refine pw_skip ?_
    obtain ⟨κ22, hκ21, h⟩ := jnE h
    refine pw_jn0 (κ := κ22) (r := r) (fun (_ : Unit) => St.of [] []) (fun q23 h => ?_) ?_
    · subst hκ21
      refine sr (by kernel_rfl) ?_
      refine y0 rfl (o_assign (d := .bool true) rfl) ?_
      refine y_nil ?_
      refine pw_ret ?_
      obtain rfl := Option.some.inj h
      exact ⟨rfl, [_], ⟨rfl, trivial⟩, rfl, by first | exact .inl rfl | exact .inr rfl⟩
    · skip
      refine sr (by kernel_rfl) ?_
      refine y0 rfl (o_assign (d := .int .i64 0) rfl) ?_
      refine y_nil ?_
      refine pw_block ?_
      obtain ⟨e24, hl22, hk23⟩ := bindE h
      refine pw_lp0 (fun (s25 : Int) => St.of [(0, .lst false (List.map r10_Place.Pv a0)), (3, .int .i64 (a0.length : Int)), (4, .int .i64 s25)] []) hl22 (wk_st _ _ ⟨rfl, rfl, rfl, rfl, rfl, rfl, rfl, rfl, rfl, trivial⟩ trivial) (fun s25 x26 h hx24 => ?_)
      refine pw_seq ?_
      refine sr (by kernel_rfl) ?_
      refine y0 rfl (o_move (d := .int .i64 s25) rfl) ?_
      refine y0 rfl (o_move (d := .int .i64 (a0.length : Int)) rfl) ?_
      refine y0 rfl (o_cmp rfl rfl rfl) ?_
      refine y_nil ?_
      refine pw_cond (decide (s25 < (a0.length : Int))) rfl (fun hc => ?_) (fun hc => ?_)
      · have h := ifT h hc
        refine pw_skip ?_
        obtain ⟨κ35, hκ33, h⟩ := jnE h
        refine pw_jn0 (κ := κ35) (r := x26) (fun (_ : Unit) => St.of [(0, .lst false (List.map r10_Place.Pv a0)), (3, .int .i64 (a0.length : Int)), (4, .int .i64 s25)] []) (fun q36 h => ?_) ?_
        · subst hκ33
          refine sr1 (by kernel_rfl) ?_
          refine y0 rfl (o_move (d := .int .i64 s25) rfl) ?_
          refine y0 rfl (o_ari rfl rfl rfl) ?_
          refine y0 rfl (o_assign (d := .int .i64 (w64 (s25 + 1))) rfl) ?_
          refine y_nil ?_
          exact ⟨rfl, w64 (s25 + 1), (Option.some.inj h).symm, (wk_st _ _ ⟨rfl, rfl, rfl, rfl, rfl, rfl, rfl, rfl, rfl, trivial⟩ trivial)⟩
        · skip
          refine pw_block ?_
          refine sr (by kernel_rfl) ?_
          refine y0 rfl (o_move (d := .lst false (List.map r10_Place.Pv a0)) rfl) ?_
          refine y0 rfl (o_move (d := .int .i64 s25) rfl) ?_
          obtain ⟨v37, hv34, h⟩ := bindE h
          refine y0 rfl (o_ixL (f := r10_Place.Pv) (cs := r10_Place.Pc v37) hv34 rfl rfl Ty.e26 Ty.s61 rfl rfl) ?_
          refine y0 rfl (o_loadRA (cs := r10_Place.Pc v37) rfl Ty.a61 Ty.s61 (Nat.le_of_ble_eq_true rfl) rfl) ?_
          refine y1 rfl (o_alloc (d := .agg [.int .i64 0, .int .i64 0, .int .i64 0]) (z := 3) rfl Ty.z61 rfl rfl rfl) rfl ?_
          refine y_sto (x' := r10_Place.Pv v37) (cl' := true) rfl rfl (.inl rfl) Ty.s61 ?_
          refine y_nil ?_
          refine pw_seq ?_
          refine sr (by kernel_rfl) ?_
          refine y0 rfl (o_fieldAddrP (k := 0) rfl Ty.f61_0 rfl) ?_
          refine y0 rfl (o_loadS rfl rfl rfl Ty.a3 rfl) ?_
          refine y0 rfl (o_cmp rfl rfl rfl) ?_
          refine y0 rfl (o_move (d := .bool (decide (v37.State < 0))) rfl) ?_
          refine y_if (g := ((decide (v37.State < 0)) == false)) rfl (fun hg => o_fieldAddrP (k := 0) rfl Ty.f61_0 rfl) ?_
          refine y_if (g := ((decide (v37.State < 0)) == false)) rfl (fun hg => o_loadS (ct hg) rfl rfl Ty.a3 rfl) ?_
          refine y_if (g := ((decide (v37.State < 0)) == false)) rfl (fun hg => o_cmp (ct hg) rfl rfl) ?_
          refine y0 rfl (pk_or rfl rfl rfl (fun q => eqF q)) ?_
          refine y0 rfl (o_move (d := .bool ((decide (v37.State < 0)) || (decide (v37.State > 2)))) rfl) ?_
          refine y_if (g := (((decide (v37.State < 0)) || (decide (v37.State > 2))) == false)) rfl (fun hg => o_fieldAddrP (k := 0) rfl Ty.f61_0 rfl) ?_
          refine y_if (g := (((decide (v37.State < 0)) || (decide (v37.State > 2))) == false)) rfl (fun hg => o_loadS (ct hg) rfl rfl Ty.a3 rfl) ?_
          refine y_if (g := (((decide (v37.State < 0)) || (decide (v37.State > 2))) == false)) rfl (fun hg => o_cmp (ct hg) rfl rfl) ?_
          refine y_if (g := (((decide (v37.State < 0)) || (decide (v37.State > 2))) == false)) rfl (fun hg => o_move (d := .bool (v37.State != 1)) (ct hg)) ?_
          refine y_if (g := ((((decide (v37.State < 0)) || (decide (v37.State > 2))) == false) && ((v37.State != 1) == true))) (want2 rfl rfl rfl) (fun hg => o_fieldAddrP (k := 1) rfl Ty.f61_1 rfl) ?_
          refine y_if (g := ((((decide (v37.State < 0)) || (decide (v37.State > 2))) == false) && ((v37.State != 1) == true))) (want2 rfl rfl rfl) (fun hg => o_loadS (ct hg) rfl rfl Ty.a3 rfl) ?_
          refine y_if (g := ((((decide (v37.State < 0)) || (decide (v37.State > 2))) == false) && ((v37.State != 1) == true))) (want2 rfl rfl rfl) (fun hg => o_cmp (ct hg) rfl rfl) ?_
          refine y_if (g := ((((decide (v37.State < 0)) || (decide (v37.State > 2))) == false) && ((v37.State != 1) == true))) (want2 rfl rfl rfl) (fun hg => o_move (d := .bool (v37.Key != 0)) (ct hg)) ?_
          refine y_if (g := (((((decide (v37.State < 0)) || (decide (v37.State > 2))) == false) && ((v37.State != 1) == true)) && ((v37.Key != 0) == false))) (want2 rfl rfl rfl) (fun hg => o_fieldAddrP (k := 2) rfl Ty.f61_2 rfl) ?_
          refine y_if (g := (((((decide (v37.State < 0)) || (decide (v37.State > 2))) == false) && ((v37.State != 1) == true)) && ((v37.Key != 0) == false))) (want2 rfl rfl rfl) (fun hg => o_loadS (ct hg) rfl rfl Ty.a3 rfl) ?_
          refine y_if (g := (((((decide (v37.State < 0)) || (decide (v37.State > 2))) == false) && ((v37.State != 1) == true)) && ((v37.Key != 0) == false))) (want2 rfl rfl rfl) (fun hg => o_cmp (ct hg) rfl rfl) ?_
          refine y_if (g := ((((decide (v37.State < 0)) || (decide (v37.State > 2))) == false) && ((v37.State != 1) == true))) (want2 rfl rfl rfl) (fun hg => pk_or (ct hg) rfl rfl (fun q => andI hg (eqF q))) ?_
          refine y_if (g := (((decide (v37.State < 0)) || (decide (v37.State > 2))) == false)) rfl (fun hg => pk_and (ct hg) rfl rfl (fun q => andI hg (eqT q))) ?_
          refine y0 rfl (pk_or rfl rfl rfl (fun q => eqF q)) ?_
          refine y_nil ?_
          refine pw_cond (((decide (v37.State < 0)) || (decide (v37.State > 2))) || ((v37.State != 1) && ((v37.Key != 0) || (v37.Val != 0)))) rfl (fun hc => ?_) (fun hc => ?_)
          · have h := ifT h hc
            refine sr (by kernel_rfl) ?_
            refine y0 rfl (o_assign (d := .bool false) rfl) ?_
            refine y_nil ?_
            refine pw_ret ?_
            have he := hx24 _ (Option.some.inj h).symm
            have h := hk23
            rw [← he] at h
            obtain rfl := Option.some.inj h
            exact ⟨rfl, [_], ⟨rfl, trivial⟩, rfl, by first | exact .inl rfl | exact .inr rfl⟩
          · have h := ifF h hc
            refine pw_skip ?_
            refine pw_seq ?_
            refine sr (by kernel_rfl) ?_
            refine y0 rfl (o_fieldAddrP (k := 0) rfl Ty.f61_0 rfl) ?_
            refine y0 rfl (o_loadS rfl rfl rfl Ty.a3 rfl) ?_
            refine y0 rfl (o_cmp rfl rfl rfl) ?_
            refine y_nil ?_
            refine pw_cond (v37.State != 1) rfl (fun hc => ?_) (fun hc => ?_)
            · have h := ifT h hc
              refine pw_exit ?_
              refine thenQ_exit ?_
              refine blockQ_exit ?_
              exact ⟨rfl, (), h, (wk_st _ _ ⟨rfl, rfl, rfl, rfl, rfl, rfl, rfl, rfl, rfl, trivial⟩ trivial)⟩
            · have h := ifF h hc
              refine pw_skip ?_
              refine pw_seq ?_
              refine sr (by kernel_rfl) ?_
              refine y0 rfl (o_move (d := .lst false (List.map r10_Place.Pv a0)) rfl) ?_
              refine y0 rfl (o_fieldAddrP (k := 1) rfl Ty.f61_1 rfl) ?_
              refine y0 rfl (o_loadS rfl rfl rfl Ty.a3 rfl) ?_
              obtain ⟨v38, hv35, h⟩ := bindE h
              refine y0 rfl (o_call (ds := [.lst false (List.map r10_Place.Pv a0), .int .i64 v37.Key]) rfl Ty.k39 rfl (r10_Find_ok hv35)) ?_
              refine y0 rfl (o_move (d := .int .i64 s25) rfl) ?_
              refine y0 rfl (o_cmp rfl rfl rfl) ?_
              refine y_nil ?_
              refine pw_cond (v38 != s25) rfl (fun hc => ?_) (fun hc => ?_)
              · have h := ifT h hc
                refine sr (by kernel_rfl) ?_
                refine y0 rfl (o_assign (d := .bool false) rfl) ?_
                refine y_nil ?_
                refine pw_ret ?_
                have he := hx24 _ (Option.some.inj h).symm
                have h := hk23
                rw [← he] at h
                obtain rfl := Option.some.inj h
                exact ⟨rfl, [_], ⟨rfl, trivial⟩, rfl, by first | exact .inl rfl | exact .inr rfl⟩
              · have h := ifF h hc
                refine pw_skip ?_
                refine sr (by kernel_rfl) ?_
                refine y0 rfl (o_move (d := .int .i64 (a0.length : Int)) rfl) ?_
                refine y0 rfl (o_fieldAddrP (k := 1) rfl Ty.f61_1 rfl) ?_
                refine y0 rfl (o_loadS rfl rfl rfl Ty.a3 rfl) ?_
                obtain ⟨v39, hv36, h⟩ := bindE h
                refine y0 rfl (o_call (ds := [.int .i64 (a0.length : Int), .int .i64 v37.Key]) rfl Ty.k40 rfl (r10_Home_ok hv36)) ?_
                refine y0 rfl (o_assign (d := .int .i64 v39) rfl) ?_
                refine y_nil ?_
                refine pw_block ?_
                obtain ⟨e40, hl37, hk38⟩ := bindE h
                refine pw_lp0 (fun (s41 : Int) => St.of [(0, .lst false (List.map r10_Place.Pv a0)), (3, .int .i64 (a0.length : Int)), (4, .int .i64 s25), (6, .int .i64 s41)] []) hl37 (wk_st _ _ ⟨rfl, rfl, rfl, rfl, rfl, rfl, rfl, rfl, rfl, rfl, rfl, rfl, trivial⟩ trivial) (fun s41 x42 h hx39 => ?_)
                refine pw_seq ?_
                refine sr (by kernel_rfl) ?_
                refine y0 rfl (o_move (d := .int .i64 s41) rfl) ?_
                refine y0 rfl (o_move (d := .int .i64 s25) rfl) ?_
                refine y0 rfl (o_cmp rfl rfl rfl) ?_
                refine y_nil ?_
                refine pw_cond (s41 != s25) rfl (fun hc => ?_) (fun hc => ?_)
                · have h := ifT h hc
                  refine pw_skip ?_
                  refine pw_seq ?_
                  refine pw_block ?_
                  refine sr (by kernel_rfl) ?_
                  refine y0 rfl (o_move (d := .lst false (List.map r10_Place.Pv a0)) rfl) ?_
                  refine y0 rfl (o_move (d := .int .i64 s41) rfl) ?_
                  obtain ⟨v43, hv40, h⟩ := bindE h
                  refine y0 rfl (o_ixL (f := r10_Place.Pv) (cs := r10_Place.Pc v43) hv40 rfl rfl Ty.e26 Ty.s61 rfl rfl) ?_
                  refine y0 rfl (o_fieldAddrR rfl Ty.f61_0 rfl) ?_
                  refine y0 rfl (o_loadRS rfl Ty.a3 rfl) ?_
                  refine y0 rfl (o_cmp rfl rfl rfl) ?_
                  refine y_nil ?_
                  refine pw_cond (v43.State == 0) rfl (fun hc => ?_) (fun hc => ?_)
                  · have h := ifT h hc
                    refine sr (by kernel_rfl) ?_
                    refine y0 rfl (o_assign (d := .bool false) rfl) ?_
                    refine y_nil ?_
                    refine pw_ret ?_
                    have he := hx39 _ (Option.some.inj h).symm
                    have h := hk38
                    rw [← he] at h
                    have he := hx24 _ (Option.some.inj h).symm
                    have h := hk23
                    rw [← he] at h
                    obtain rfl := Option.some.inj h
                    exact ⟨rfl, [_], ⟨rfl, trivial⟩, rfl, by first | exact .inl rfl | exact .inr rfl⟩
                  · have h := ifF h hc
                    refine pw_skip ?_
                    refine sr1 (by kernel_rfl) ?_
                    refine y0 rfl (o_move (d := .int .i64 s41) rfl) ?_
                    refine y0 rfl (o_ari rfl rfl rfl) ?_
                    refine y0 rfl (o_move (d := .int .i64 (a0.length : Int)) rfl) ?_
                    obtain ⟨v44, hv41, h⟩ := bindE h
                    refine y0 rfl (o_ari rfl rfl hv41) ?_
                    refine y0 rfl (o_assign (d := .int .i64 v44) rfl) ?_
                    refine y_nil ?_
                    exact ⟨rfl, v44, (Option.some.inj h).symm, (wk_st _ _ ⟨rfl, rfl, rfl, rfl, rfl, rfl, rfl, rfl, rfl, rfl, rfl, rfl, trivial⟩ trivial)⟩
                · have h := ifF h hc
                  refine pw_exit ?_
                  refine thenQ_exit ?_
                  refine thenQ_exit ?_
                  refine blockQ_exit ?_
                  have he := hx39 _ (Option.some.inj h).symm
                  have h := hk38
                  rw [← he] at h
                  exact ⟨rfl, (), h, (wk_st _ _ ⟨rfl, rfl, rfl, rfl, rfl, rfl, rfl, rfl, rfl, trivial⟩ trivial)⟩
      · have h := ifF h hc
        refine pw_exit ?_
        refine thenQ_exit ?_
        refine thenQ_exit ?_
        refine blockQ_exit ?_
        have he := hx24 _ (Option.some.inj h).symm
        have h := hk23
        rw [← he] at h
        exact ⟨rfl, (), h, (wk_st _ _ trivial trivial)⟩

set_option maxHeartbeats 4000000 in
theorem w11_right_ok {a0 : List hash_Place} {r : Bool} (h : w11_right a0 = some r) : PCalls Try.prog 8 [.lst false (List.map hash_Place.Pv a0)] (.bool r) := by
  unfold w11_right at h
  refine pc_intro (N := 11) Try.func8 rfl rfl (Nat.le_of_ble_eq_true rfl) fun w0 imm0 => ?_
  refine sr (by kernel_rfl) ?_
  refine y0 rfl (o_assign (d := .bool false) rfl) ?_
  refine y_nil ?_
  refine sr (by kernel_rfl) ?_
  refine y0 rfl (o_move (d := .lst false (List.map hash_Place.Pv a0)) rfl) ?_
  refine y0 rfl (o_lnL (f := hash_Place.Pv) rfl Ty.e22) ?_
  refine y0 rfl (o_cmp rfl rfl rfl) ?_
  refine y0 rfl (o_move (d := .bool (decide ((a0.length : Int) ≤ 8))) rfl) ?_
  refine y_if (g := ((decide ((a0.length : Int) ≤ 8)) == true)) rfl (fun hg => o_move (d := .lst false (List.map hash_Place.Pv a0)) rfl) ?_
  obtain ⟨v1, hv1, h⟩ := bindE h
  refine y_ifc (g := ((decide ((a0.length : Int) ≤ 8)) == true)) rfl (fun hg => o_callF (ls := []) (ds := [.lst false (List.map hash_Place.Pv a0)]) rfl Ty.k10 (consE (ct hg) rfl) (w11_its_ok (onlyE hv1 hg))) ?_
  obtain ⟨v2, hv2, h⟩ := bindE h
  refine y_if (g := ((decide ((a0.length : Int) ≤ 8)) == true)) rfl (fun hg => o_call (ds := [.lst false (List.map r10_Place.Pv v1)]) rfl Ty.k26 (consE (ct hg) rfl) (r10_Right_ok (onlyE hv2 hg))) ?_
  refine y0 rfl (pk_and rfl rfl rfl (fun q => eqT q)) ?_
  refine y0 rfl (o_assign (d := .bool ((decide ((a0.length : Int) ≤ 8)) && v2)) rfl) ?_
  refine y_nil ?_
  refine pw_ret ?_
  obtain rfl := Option.some.inj h
  exact ⟨rfl, [_], ⟨rfl, trivial⟩, rfl, by first | exact .inl rfl | exact .inr rfl⟩

set_option maxHeartbeats 4000000 in
theorem hash_New_ok {a0 : Int} {r : List hash_Place} (h : hash_New a0 = some r) : PCalls Try.prog 27 [.int .i64 a0] (.lst false (List.map hash_Place.Pv r)) := by
  unfold hash_New at h
  refine pc_intro (N := 11) Try.func27 rfl rfl (Nat.le_of_ble_eq_true rfl) fun w0 imm0 => ?_
  refine sr (by kernel_rfl) ?_
  refine y0 rfl (o_assign (d := .lst true (List.map hash_Place.Pv [])) rfl) ?_
  refine y_nil ?_
  refine pw_seq ?_
  refine sr (by kernel_rfl) ?_
  refine y0 rfl (o_move (d := .int .i64 a0) rfl) ?_
  refine y0 rfl (o_cmp rfl rfl rfl) ?_
  refine y0 rfl (o_move (d := .bool (decide (a0 < 1))) rfl) ?_
  refine y_if (g := ((decide (a0 < 1)) == false)) rfl (fun hg => o_move (d := .int .i64 a0) rfl) ?_
  refine y_if (g := ((decide (a0 < 1)) == false)) rfl (fun hg => o_cmp (ct hg) rfl rfl) ?_
  refine y0 rfl (pk_or rfl rfl rfl (fun q => eqF q)) ?_
  refine y_nil ?_
  refine pw_cond ((decide (a0 < 1)) || (decide (a0 > 8))) rfl (fun hc => ?_) (fun hc => ?_)
  · have h := ifT h hc
    refine sr (by kernel_rfl) ?_
    refine y0 rfl (o_assign (d := .lst true (List.map hash_Place.Pv [])) rfl) ?_
    refine y_nil ?_
    refine pw_ret ?_
    obtain rfl := Option.some.inj h
    exact ⟨rfl, [_], ⟨rfl, trivial⟩, rfl, by first | exact .inl rfl | exact .inr rfl⟩
  · have h := ifF h hc
    refine pw_skip ?_
    refine sr (by kernel_rfl) ?_
    refine y0 rfl (o_move (d := .int .i64 a0) rfl) ?_
    obtain ⟨v1, hv1, h⟩ := bindE h
    refine y1 rfl (o_mk (f := hash_Place.Pv) hv1 rfl rfl rfl Ty.e22 Ty.s62 Ty.z62 Ty.b62 rfl rfl rfl rfl) rfl ?_
    refine y0 rfl (o_assign (d := .sl 10) rfl) ?_
    refine y_nil ?_
    refine pw_ret ?_
    obtain rfl := Option.some.inj h
    exact ⟨rfl, [_], ⟨rfl, trivial⟩, rfl, by first | exact .inl rfl | exact .inr rfl⟩

set_option maxHeartbeats 4000000 in
theorem hash_road_ok {a0 : Int} {a1 : Int} {r : Int × Int} (h : hash_road a0 a1 = some r) : PCalls Try.prog 43 [.int .i64 a0, .int .i64 a1] (.fn (.func 48) [.rptr [.int .i64 r.1], .rptr [.int .i64 r.2]]) := by
  unfold hash_road at h
  refine pc_intro (N := 6) Try.func43 rfl rfl (Nat.le_of_ble_eq_true rfl) fun w0 imm0 => ?_
  refine sr (by kernel_rfl) ?_
  refine y1 rfl (o_box (d := .int .i64 a0) (z := 1) (cl := true) rfl rfl rfl rfl rfl) rfl ?_
  refine y1 rfl (o_box (d := .int .i64 a1) (z := 1) (cl := true) rfl rfl rfl rfl rfl) rfl ?_
  refine y0 rfl (o_assign (d := .nilfn) rfl) ?_
  refine y_nil ?_
  refine sr (by kernel_rfl) ?_
  refine y0 rfl (o_mkFunc rfl) ?_
  refine y0 rfl (o_assign (d := .fn (.func 48) [.ptr 2 0 0, .ptr 3 0 0]) rfl) ?_
  refine y_nil ?_
  refine pw_ret ?_
  obtain rfl := Option.some.inj h
  exact ⟨rfl, [_], ⟨rfl, trivial⟩, rfl, by first | exact .inl rfl | exact .inr rfl⟩

set_option maxHeartbeats 4000000 in
theorem hash_Home_ok {a0 : Int} {a1 : Int} {r : Int} (h : hash_Home a0 a1 = some r) : PCalls Try.prog 49 [.int .i64 a0, .int .i64 a1] (.int .i64 r) := by
  unfold hash_Home at h
  refine pc_intro (N := 19) Try.func49 rfl rfl (Nat.le_of_ble_eq_true rfl) fun w0 imm0 => ?_
  refine sr (by kernel_rfl) ?_
  refine y0 rfl (o_assign (d := .int .i64 0) rfl) ?_
  refine y_nil ?_
  refine pw_seq ?_
  refine sr (by kernel_rfl) ?_
  refine y0 rfl (o_move (d := .int .i64 a0) rfl) ?_
  refine y0 rfl (o_cmp rfl rfl rfl) ?_
  refine y_nil ?_
  refine pw_cond (decide (a0 < 1)) rfl (fun hc => ?_) (fun hc => ?_)
  · have h := ifT h hc
    refine sr (by kernel_rfl) ?_
    refine y0 rfl (o_assign (d := .int .i64 0) rfl) ?_
    refine y_nil ?_
    refine pw_ret ?_
    obtain rfl := Option.some.inj h
    exact ⟨rfl, [_], ⟨rfl, trivial⟩, rfl, by first | exact .inl rfl | exact .inr rfl⟩
  · have h := ifF h hc
    refine pw_skip ?_
    refine sr (by kernel_rfl) ?_
    refine y0 rfl (o_move (d := .int .i64 a1) rfl) ?_
    refine y0 rfl (o_ari rfl rfl rfl) ?_
    refine y0 rfl (o_ari rfl rfl rfl) ?_
    refine y0 rfl (o_move (d := .int .i64 a0) rfl) ?_
    obtain ⟨v1, hv1, h⟩ := bindE h
    refine y0 rfl (o_ari rfl rfl hv1) ?_
    refine y0 rfl (o_assign (d := .int .i64 v1) rfl) ?_
    refine y_nil ?_
    refine pw_seq ?_
    refine sr (by kernel_rfl) ?_
    refine y0 rfl (o_move (d := .int .i64 v1) rfl) ?_
    refine y0 rfl (o_cmp rfl rfl rfl) ?_
    refine y_nil ?_
    refine pw_cond (decide (v1 < 0)) rfl (fun hc => ?_) (fun hc => ?_)
    · have h := ifT h hc
      refine sr1 (by kernel_rfl) ?_
      refine y0 rfl (o_move (d := .int .i64 v1) rfl) ?_
      refine y0 rfl (o_move (d := .int .i64 a0) rfl) ?_
      refine y0 rfl (o_ari rfl rfl rfl) ?_
      refine y0 rfl (o_assign (d := .int .i64 (w64 (v1 + a0))) rfl) ?_
      refine y_nil ?_
      refine sr (by kernel_rfl) ?_
      refine y0 rfl (o_move (d := .int .i64 (w64 (v1 + a0))) rfl) ?_
      refine y0 rfl (o_assign (d := .int .i64 (w64 (v1 + a0))) rfl) ?_
      refine y_nil ?_
      refine pw_ret ?_
      obtain rfl := Option.some.inj h
      exact ⟨rfl, [_], ⟨rfl, trivial⟩, rfl, by first | exact .inl rfl | exact .inr rfl⟩
    · have h := ifF h hc
      refine pw_skip ?_
      refine sr (by kernel_rfl) ?_
      refine y0 rfl (o_move (d := .int .i64 v1) rfl) ?_
      refine y0 rfl (o_assign (d := .int .i64 v1) rfl) ?_
      refine y_nil ?_
      refine pw_ret ?_
      obtain rfl := Option.some.inj h
      exact ⟨rfl, [_], ⟨rfl, trivial⟩, rfl, by first | exact .inl rfl | exact .inr rfl⟩

set_option maxHeartbeats 4000000 in
theorem hash_Find_ok {a0 : List hash_Place} {a1 : Int} {r : Int} (h : hash_Find a0 a1 = some r) : PCalls Try.prog 41 [.lst false (List.map hash_Place.Pv a0), .int .i64 a1] (.int .i64 r) := by
  unfold hash_Find at h
  refine pc_intro (N := 33) Try.func41 rfl rfl (Nat.le_of_ble_eq_true rfl) fun w0 imm0 => ?_
  refine sr (by kernel_rfl) ?_
  refine y1 rfl (o_box (d := .lst false (List.map hash_Place.Pv a0)) (z := 1) (cl := true) rfl rfl rfl rfl rfl) rfl ?_
  refine y1 rfl (o_box (d := .int .i64 a1) (z := 1) (cl := true) rfl rfl rfl rfl rfl) rfl ?_
  refine y1 rfl (o_alloc (d := .int .i64 0) (z := 1) rfl Ty.z3 rfl rfl rfl) rfl ?_
  refine y_nil ?_
  obtain ⟨κ8, hκ15, h⟩ := jnE h
  refine pw_jn0 (κ := κ8) (r := r) (fun (_ : Unit) => St.of [(4, .ptr 2001 0 0)] [(2001, ⟨[.int .i64 0], 0, false, 1, true⟩)]) (fun q9 h => ?_) ?_
  · subst hκ15
    refine sr (by kernel_rfl) ?_
    refine y_sto (x' := .int .i64 (-1)) (cl' := true) rfl rfl (.inl rfl) Ty.s3 ?_
    refine y_nil ?_
    refine pw_ret ?_
    obtain rfl := Option.some.inj h
    exact ⟨rfl, [_], ⟨o_loadS rfl rfl rfl Ty.a3 rfl, trivial⟩, rfl, by first | exact .inl rfl | exact .inr rfl⟩
  · skip
    refine sr (by kernel_rfl) ?_
    refine y0 rfl (o_loadS rfl rfl rfl Ty.a22 rfl) ?_
    refine y0 rfl (o_lnL (f := hash_Place.Pv) rfl Ty.e22) ?_
    refine y0 rfl (o_loadS rfl rfl rfl Ty.a3 rfl) ?_
    obtain ⟨v10, hv16, h⟩ := bindE h
    refine yc rfl (o_callF (ls := []) (ds := [.int .i64 (a0.length : Int), .int .i64 a1]) rfl Ty.k43 rfl (hash_road_ok hv16)) ?_
    refine y_nil ?_
    refine pw_block ?_
    refine pw_wk (wk_stP (fun l => if l = 2004 then 4 else if l = 2005 then 3 else if l = 2006 then 2 else l) [(2, .ptr 2006 0 0), (3, .ptr 2005 0 0), (4, .ptr 2004 0 0), (9, .fn (.func 48) [.rptr [.int .i64 v10.1], .rptr [.int .i64 v10.2]])] [(2004, ⟨[.int .i64 0], 0, false, 1, true⟩), (2005, ⟨[.int .i64 a1], 0, false, 1, true⟩), (2006, ⟨[.lst false (List.map hash_Place.Pv a0)], 0, false, 1, true⟩)] ⟨rfl, rfl, rfl, rfl, rfl, rfl, rfl, rfl, rfl, rfl, rfl, rfl, trivial⟩ ⟨rowLe_ren rfl rfl rfl (fun q => nomatch q) rfl rfl rfl, rowLe_ren rfl rfl rfl (fun q => nomatch q) rfl rfl rfl, rowLe_ren rfl rfl rfl (fun q => nomatch q) rfl rfl rfl, trivial⟩ rfl) ?_
    refine pw_range (fn := Try.f48) (N1 := 20) rfl Try.func48 rfl rfl (Nat.le_of_ble_eq_true rfl) rfl Ty.k48 rfl rfl (fun l17 e18 o19 hR20 => ?_)
    refine sr (by kernel_rfl) ?_
    refine y0 rfl (o_loadRS rfl Ty.a3 rfl) ?_
    refine y0 rfl (o_move (d := .int .i64 0) rfl) ?_
    refine y_nil ?_
    refine pw_block ?_
    obtain ⟨e11, hl21, hk22⟩ := bindE h
    refine pw_lp0 (fun (s12 : Int) => St.of [(1000002, .ptr 2006 0 0), (1000003, .ptr 2005 0 0), (1000004, .ptr 2004 0 0), (1000009, .fn (.func 48) [.rptr [.int .i64 v10.1], .rptr [.int .i64 v10.2]]), (0, .fn (.yield l17) []), (1, .rptr [.int .i64 v10.1]), (2, .rptr [.int .i64 v10.2]), (5, .int .i64 v10.1), (6, .int .i64 s12)] [(2004, ⟨[.int .i64 0], 0, false, 1, true⟩), (2005, ⟨[.int .i64 a1], 0, false, 1, true⟩), (2006, ⟨[.lst false (List.map hash_Place.Pv a0)], 0, false, 1, true⟩)]) hl21 (wk_st _ _ ⟨rfl, rfl, rfl, rfl, rfl, rfl, rfl, rfl, rfl, rfl, rfl, rfl, rfl, rfl, rfl, rfl, rfl, rfl, rfl, rfl, rfl, rfl, rfl, rfl, rfl, rfl, rfl, trivial⟩ ⟨rowLe_same rfl rfl rfl (fun q => nomatch q) rfl rfl rfl, rowLe_same rfl rfl rfl (fun q => nomatch q) rfl rfl rfl, rowLe_same rfl rfl rfl (fun q => nomatch q) rfl rfl rfl, trivial⟩) (fun s12 x13 h hx23 => ?_)
    refine sr (by kernel_rfl) ?_
    refine y0 rfl (o_cmp rfl rfl rfl) ?_
    refine y_nil ?_
    refine pw_seq ?_
    refine pw_cond (decide (s12 < v10.1)) rfl (fun hc => ?_) (fun hc => ?_)
    · have h := ifT h hc
      refine pw_skip ?_
      refine pw_seq ?_
      refine pw_block ?_
      refine sr (by kernel_rfl) ?_
      refine y0 rfl (o_move (d := .int .i64 s12) rfl) ?_
      refine y0 rfl (o_assign (d := .int .i64 s12) rfl) ?_
      refine y_nil ?_
      refine drY [] 8 Ty.mix (by kernel_rfl) (by kernel_rfl) (by kernel_rfl) (by kernel_rfl) (Nat.le_of_ble_eq_true rfl) ?_
      refine d7 rfl (fun _ hN => o_move (d := .fn (.yield l17) []) rfl) rfl ?_
      refine d0 rfl (o_loadRS rfl Ty.a3 rfl) rfl ?_
      refine d0 rfl (o_loadRS rfl Ty.a3 rfl) rfl ?_
      obtain ⟨v14, hv24, h⟩ := bindE h
      refine d2 rfl (o_call (ds := [.int .i64 v10.1, .int .i64 v10.2]) rfl Ty.k49 rfl (hash_Home_ok hv24)) rfl ?_
      refine d7 rfl (fun _ hN => o_move (d := .int .i64 s12) rfl) rfl ?_
      refine d7 rfl (fun _ hN => o_ari rfl rfl rfl) rfl ?_
      refine d0 rfl (o_loadRS rfl Ty.a3 rfl) rfl ?_
      obtain ⟨v15, hv25, h⟩ := bindE h
      refine d7 rfl (fun _ hN => o_ari rfl rfl hv25) rfl ?_
      refine d_nil ?_
      refine opq_wk (wk_st [(1000002, .ptr 2006 0 0), (1000003, .ptr 2005 0 0), (1000004, .ptr 2004 0 0), (1000009, .fn (.func 48) [.rptr [.int .i64 v10.1], .rptr [.int .i64 v10.2]]), (0, .fn (.yield l17) []), (1, .rptr [.int .i64 v10.1]), (2, .rptr [.int .i64 v10.2]), (5, .int .i64 v10.1), (6, .int .i64 s12), (9, .fn (.yield l17) []), (16, .int .i64 v15)] [(2004, ⟨[.int .i64 0], 0, false, 1, true⟩), (2005, ⟨[.int .i64 a1], 0, false, 1, true⟩), (2006, ⟨[.lst false (List.map hash_Place.Pv a0)], 0, false, 1, true⟩)] ⟨rfl, rfl, rfl, rfl, rfl, rfl, rfl, rfl, rfl, rfl, rfl, rfl, rfl, rfl, rfl, rfl, rfl, rfl, rfl, rfl, rfl, rfl, rfl, rfl, rfl, rfl, rfl, rfl, rfl, rfl, rfl, rfl, rfl, trivial⟩ ⟨rowLe_same rfl rfl rfl (fun q => nomatch q) rfl rfl rfl, rowLe_same rfl rfl rfl (fun q => nomatch q) rfl rfl rfl, rowLe_same rfl rfl rfl (fun q => nomatch q) rfl rfl rfl, trivial⟩) ?_
      refine y_yield0 rfl hR20 rfl rfl rfl rfl rfl rfl (fun e26 o27 o28 => ?_)
      refine sr1 (by kernel_rfl) ?_
      refine y0 rfl (o_assign (d := .int .i64 v15) rfl) ?_
      refine y_nil ?_
      refine ⟨rfl, ?_⟩
      refine pw_block ?_
      refine pw_seq ?_
      refine sr (by kernel_rfl) ?_
      refine y0 rfl (o_loadS rfl rfl rfl Ty.a22 rfl) ?_
      refine y0 rfl (o_move (d := .int .i64 v15) rfl) ?_
      obtain ⟨v16, hv29, h⟩ := bindE h
      refine y0 rfl (o_ixL (f := hash_Place.Pv) (cs := hash_Place.Pc v16) hv29 rfl rfl Ty.e22 Ty.s62 rfl rfl) ?_
      refine y0 rfl (o_fieldAddrR rfl Ty.f62_0 rfl) ?_
      refine y0 rfl (o_loadRS rfl Ty.a3 rfl) ?_
      refine y0 rfl (o_cmp rfl rfl rfl) ?_
      refine y_nil ?_
      refine pw_cond (v16.State == 0) rfl (fun hc => ?_) (fun hc => ?_)
      · have h := ifT h hc
        refine pw_exit ?_
        refine thenQ_exit ?_
        refine blockQ_other (by decide) ?_
        refine ⟨rfl, ?_⟩
        refine ⟨_, wk_st [(1000002, .ptr 2006 0 0), (1000003, .ptr 2005 0 0), (1000004, .ptr 2004 0 0), (1000009, .fn (.func 48) [.rptr [.int .i64 v10.1], .rptr [.int .i64 v10.2]]), (0, .fn (.yield l17) []), (1, .rptr [.int .i64 v10.1]), (2, .rptr [.int .i64 v10.2]), (5, .int .i64 v10.1), (6, .int .i64 s12), (17, .bool false)] [(2004, ⟨[.int .i64 0], 0, false, 1, true⟩), (2005, ⟨[.int .i64 a1], 0, false, 1, true⟩), (2006, ⟨[.lst false (List.map hash_Place.Pv a0)], 0, false, 1, true⟩)] ⟨rfl, rfl, rfl, rfl, rfl, rfl, rfl, rfl, rfl, rfl, rfl, rfl, rfl, rfl, rfl, rfl, rfl, rfl, rfl, rfl, rfl, rfl, rfl, rfl, rfl, rfl, rfl, rfl, rfl, rfl, trivial⟩ ⟨rowLe_same rfl rfl rfl (fun q => nomatch q) rfl rfl rfl, rowLe_same rfl rfl rfl (fun q => nomatch q) rfl rfl rfl, rowLe_same rfl rfl rfl (fun q => nomatch q) rfl rfl rfl, trivial⟩, ?_⟩
        refine d7 rfl (fun _ hN => o_not rfl rfl) rfl ?_
        refine d_nil ?_
        refine pw_cond true rfl (fun _ => ?_) (fun q => nomatch q)
        refine pw_ret ?_
        refine .inr ⟨.exit 0, rfl, jmpE ?_⟩
        refine blockQ_exit ?_
        have he := hx23 _ (Option.some.inj h).symm
        have h := hk22
        rw [← he] at h
        exact ⟨rfl, (), h, (wk_stP (fun l => if l = 2001 then 2004 else l) _ _ ⟨rfl, rfl, rfl, trivial⟩ ⟨rowLe_ren rfl rfl rfl (fun q => nomatch q) rfl rfl rfl, trivial⟩ rfl)⟩
      · have h := ifF h hc
        refine pw_skip ?_
        refine dr [] Ty.mix (by kernel_rfl) (by kernel_rfl) ?_
        refine d0 rfl (o_loadS rfl rfl rfl Ty.a22 rfl) rfl ?_
        refine d7 rfl (fun _ hN => o_move (d := .int .i64 v15) rfl) rfl ?_
        refine d0 rfl (o_ixL (f := hash_Place.Pv) (cs := hash_Place.Pc v16) hv29 rfl rfl Ty.e22 Ty.s62 rfl rfl) rfl ?_
        refine d7 rfl (fun _ hN => o_fieldAddrR rfl Ty.f62_0 rfl) rfl ?_
        refine d0 rfl (o_loadRS rfl Ty.a3 rfl) rfl ?_
        refine d7 rfl (fun _ hN => o_cmp rfl rfl rfl) rfl ?_
        refine d7 rfl (fun _ hN => o_move (d := .bool (v16.State == 1)) rfl) rfl ?_
        refine d_if0 (g := ((v16.State == 1) == true)) rfl (fun hg => o_loadS rfl rfl rfl Ty.a22 rfl) rfl ?_
        refine d_if7 (g := ((v16.State == 1) == true)) rfl (fun hg _ hN => o_move (d := .int .i64 v15) rfl) rfl ?_
        refine d_if0 (g := ((v16.State == 1) == true)) rfl (fun hg => o_ixL (f := hash_Place.Pv) (cs := hash_Place.Pc v16) hv29 (ct hg) (ct hg) Ty.e22 Ty.s62 rfl rfl) rfl ?_
        refine d_if7 (g := ((v16.State == 1) == true)) rfl (fun hg _ hN => o_fieldAddrR (ct hg) Ty.f62_1 rfl) rfl ?_
        refine d_if0 (g := ((v16.State == 1) == true)) rfl (fun hg => o_loadRS (ct hg) Ty.a3 rfl) rfl ?_
        refine d_if0 (g := ((v16.State == 1) == true)) rfl (fun hg => o_loadS rfl rfl rfl Ty.a3 rfl) rfl ?_
        refine d_if7 (g := ((v16.State == 1) == true)) rfl (fun hg _ hN => o_cmp (ct hg) (ct hg) rfl) rfl ?_
        refine d7 rfl (fun _ hN => pk_and rfl rfl rfl (fun q => eqT q)) rfl ?_
        refine d_nil ?_
        refine pw_cond ((v16.State == 1) && (v16.Key == a1)) rfl (fun hc => ?_) (fun hc => ?_)
        · have h := ifT h hc
          refine sr (by kernel_rfl) ?_
          refine y0 rfl (o_move (d := .int .i64 v15) rfl) ?_
          refine y_sto (x' := .int .i64 v15) (cl' := true) rfl rfl (.inl rfl) Ty.s3 ?_
          refine y_nil ?_
          refine pw_ret ?_
          refine ⟨rfl, ?_⟩
          refine ⟨_, wk_st [(1000002, .ptr 2006 0 0), (1000003, .ptr 2005 0 0), (1000004, .ptr 2004 0 0), (1000009, .fn (.func 48) [.rptr [.int .i64 v10.1], .rptr [.int .i64 v10.2]]), (0, .fn (.yield l17) []), (1, .rptr [.int .i64 v10.1]), (2, .rptr [.int .i64 v10.2]), (5, .int .i64 v10.1), (6, .int .i64 s12), (17, .bool false)] [(2004, ⟨[.int .i64 v15], 0, false, 1, true⟩), (2005, ⟨[.int .i64 a1], 0, false, 1, true⟩), (2006, ⟨[.lst false (List.map hash_Place.Pv a0)], 0, false, 1, true⟩)] ⟨rfl, rfl, rfl, rfl, rfl, rfl, rfl, rfl, rfl, rfl, rfl, rfl, rfl, rfl, rfl, rfl, rfl, rfl, rfl, rfl, rfl, rfl, rfl, rfl, rfl, rfl, rfl, rfl, rfl, rfl, trivial⟩ ⟨rowLe_same rfl rfl rfl (fun q => nomatch q) rfl rfl rfl, rowLe_same rfl rfl rfl (fun q => nomatch q) rfl rfl rfl, rowLe_same rfl rfl rfl (fun q => nomatch q) rfl rfl rfl, trivial⟩, ?_⟩
          refine d7 rfl (fun _ hN => o_not rfl rfl) rfl ?_
          refine d_nil ?_
          refine pw_cond true rfl (fun _ => ?_) (fun q => nomatch q)
          refine pw_ret ?_
          refine .inr ⟨.ret, rfl, jmpR ?_⟩
          have he := hx23 _ (Option.some.inj h).symm
          have h := hk22
          rw [← he] at h
          obtain rfl := Option.some.inj h
          exact ⟨rfl, [_], ⟨o_loadS rfl rfl rfl Ty.a3 rfl, trivial⟩, rfl, by first | exact .inl rfl | exact .inr rfl⟩
        · have h := ifF h hc
          refine pw_skip ?_
          refine ⟨rfl, ?_⟩
          refine ⟨_, wk_st [(1000002, .ptr 2006 0 0), (1000003, .ptr 2005 0 0), (1000004, .ptr 2004 0 0), (1000009, .fn (.func 48) [.rptr [.int .i64 v10.1], .rptr [.int .i64 v10.2]]), (0, .fn (.yield l17) []), (1, .rptr [.int .i64 v10.1]), (2, .rptr [.int .i64 v10.2]), (5, .int .i64 v10.1), (6, .int .i64 s12), (17, .bool true)] [(2004, ⟨[.int .i64 0], 0, false, 1, true⟩), (2005, ⟨[.int .i64 a1], 0, false, 1, true⟩), (2006, ⟨[.lst false (List.map hash_Place.Pv a0)], 0, false, 1, true⟩)] ⟨rfl, rfl, rfl, rfl, rfl, rfl, rfl, rfl, rfl, rfl, rfl, rfl, rfl, rfl, rfl, rfl, rfl, rfl, rfl, rfl, rfl, rfl, rfl, rfl, rfl, rfl, rfl, rfl, rfl, rfl, trivial⟩ ⟨rowLe_same rfl rfl rfl (fun q => nomatch q) rfl rfl rfl, rowLe_same rfl rfl rfl (fun q => nomatch q) rfl rfl rfl, rowLe_same rfl rfl rfl (fun q => nomatch q) rfl rfl rfl, trivial⟩, ?_⟩
          refine d7 rfl (fun _ hN => o_not rfl rfl) rfl ?_
          refine d_nil ?_
          refine pw_cond false rfl (fun q => nomatch q) (fun _ => ?_)
          refine pw_skip ?_
          refine sr1 (by kernel_rfl) ?_
          refine y0 rfl (o_ari rfl rfl rfl) ?_
          refine y0 rfl (o_move (d := .int .i64 (w64 (s12 + 1))) rfl) ?_
          refine y_nil ?_
          exact ⟨rfl, w64 (s12 + 1), (Option.some.inj h).symm, (wk_st _ _ ⟨rfl, rfl, rfl, rfl, rfl, rfl, rfl, rfl, rfl, rfl, rfl, rfl, rfl, rfl, rfl, rfl, rfl, rfl, rfl, rfl, rfl, rfl, rfl, rfl, rfl, rfl, rfl, trivial⟩ ⟨rowLe_same rfl rfl rfl (fun q => nomatch q) rfl rfl rfl, rowLe_same rfl rfl rfl (fun q => nomatch q) rfl rfl rfl, rowLe_same rfl rfl rfl (fun q => nomatch q) rfl rfl rfl, trivial⟩)⟩
    · have h := ifF h hc
      refine pw_exit ?_
      refine thenQ_exit ?_
      refine thenQ_exit ?_
      refine blockQ_exit ?_
      refine .inl ⟨rfl, ?_⟩
      have he := hx23 _ (Option.some.inj h).symm
      have h := hk22
      rw [← he] at h
      exact ⟨rfl, (), h, (wk_stP (fun l => if l = 2001 then 2004 else l) _ _ ⟨rfl, rfl, rfl, trivial⟩ ⟨rowLe_ren rfl rfl rfl (fun q => nomatch q) rfl rfl rfl, trivial⟩ rfl)⟩

set_option maxHeartbeats 4000000 in
theorem hash_Get_ok {a0 : List hash_Place} {a1 : Int} {r : Int × Int} (h : hash_Get a0 a1 = some r) : PCalls Try.prog 28 [.lst false (List.map hash_Place.Pv a0), .int .i64 a1] (.tup [.int .i64 r.1, .int .i64 r.2]) := by
  unfold hash_Get at h
  refine pc_intro (N := 17) Try.func28 rfl rfl (Nat.le_of_ble_eq_true rfl) fun w0 imm0 => ?_
  refine sr (by kernel_rfl) ?_
  refine y0 rfl (o_assign (d := .int .i64 0) rfl) ?_
  refine y0 rfl (o_assign (d := .int .i64 0) rfl) ?_
  refine y_nil ?_
  refine sr (by kernel_rfl) ?_
  refine y0 rfl (o_move (d := .lst false (List.map hash_Place.Pv a0)) rfl) ?_
  refine y0 rfl (o_move (d := .int .i64 a1) rfl) ?_
  obtain ⟨v1, hv1, h⟩ := bindE h
  refine y0 rfl (o_call (ds := [.lst false (List.map hash_Place.Pv a0), .int .i64 a1]) rfl Ty.k41 rfl (hash_Find_ok hv1)) ?_
  refine y0 rfl (o_assign (d := .int .i64 v1) rfl) ?_
  refine y_nil ?_
  refine pw_seq ?_
  refine sr (by kernel_rfl) ?_
  refine y0 rfl (o_move (d := .int .i64 v1) rfl) ?_
  refine y0 rfl (o_cmp rfl rfl rfl) ?_
  refine y_nil ?_
  refine pw_cond (decide (v1 < 0)) rfl (fun hc => ?_) (fun hc => ?_)
  · have h := ifT h hc
    refine sr (by kernel_rfl) ?_
    refine y0 rfl (o_assign (d := .int .i64 0) rfl) ?_
    refine y0 rfl (o_assign (d := .int .i64 9) rfl) ?_
    refine y_nil ?_
    refine pw_ret ?_
    obtain rfl := Option.some.inj h
    exact ⟨rfl, [_, _], ⟨rfl, ⟨rfl, trivial⟩⟩, rfl, by first | exact .inl rfl | exact .inr rfl⟩
  · have h := ifF h hc
    refine pw_skip ?_
    refine sr (by kernel_rfl) ?_
    refine y0 rfl (o_move (d := .lst false (List.map hash_Place.Pv a0)) rfl) ?_
    refine y0 rfl (o_move (d := .int .i64 v1) rfl) ?_
    obtain ⟨v2, hv2, h⟩ := bindE h
    refine y0 rfl (o_ixL (f := hash_Place.Pv) (cs := hash_Place.Pc v2) hv2 rfl rfl Ty.e22 Ty.s62 rfl rfl) ?_
    refine y0 rfl (o_fieldAddrR rfl Ty.f62_2 rfl) ?_
    refine y0 rfl (o_loadRS rfl Ty.a3 rfl) ?_
    refine y0 rfl (o_assign (d := .int .i64 v2.Val) rfl) ?_
    refine y0 rfl (o_assign (d := .int .i64 0) rfl) ?_
    refine y_nil ?_
    refine pw_ret ?_
    obtain rfl := Option.some.inj h
    exact ⟨rfl, [_, _], ⟨rfl, ⟨rfl, trivial⟩⟩, rfl, by first | exact .inl rfl | exact .inr rfl⟩

set_option maxHeartbeats 4000000 in
theorem slices_Clone_hash_Place_hash_Place_okN {a0 r : List hash_Place} (h : slices_Clone_hash_Place_hash_Place a0 = some r) : PCallsN Try.prog 47 [.lst false (List.map hash_Place.Pv a0)] ⟨List.map hash_Place.Pv r, 0, true, 3, true⟩ := by
  unfold slices_Clone_hash_Place_hash_Place at h
  refine pc_introN (N := 8) Try.func47 rfl rfl (Nat.le_of_ble_eq_true rfl) fun w0 imm0 => ?_
  refine sr (by kernel_rfl) ?_
  refine y0 rfl (o_assign (d := .lst true (List.map hash_Place.Pv [])) rfl) ?_
  refine y_nil ?_
  refine pw_seq ?_
  refine sr (by kernel_rfl) ?_
  refine y0 rfl (o_move (d := .lst false (List.map hash_Place.Pv a0)) rfl) ?_
  refine y_eqnil rfl Ty.e22 fun b hb => ?_
  refine y_nil ?_
  refine pw_cond b rfl (fun hc => ?_) (fun hc => ?_)
  · obtain rfl : a0 = [] := by simpa using hb hc
    refine sr (by kernel_rfl) ?_
    refine y0 rfl (o_assign (d := .lst true (List.map hash_Place.Pv [])) rfl) ?_
    refine y_nil ?_
    refine pw_wk (wk_nil (t := 2) (l := 920000) (z := 3) rfl rfl) ?_
    refine pw_ret ?_
    obtain rfl := Option.some.inj h
    exact ⟨rfl, _, _, rfl, rfl, rfl, rfl⟩
  · refine pw_skip ?_
    refine sr (by kernel_rfl) ?_
    refine y0 rfl (o_nslice rfl Ty.e22 Ty.s62) ?_
    refine y0 rfl (o_move (d := .lst false (List.map hash_Place.Pv a0)) rfl) ?_
    refine y1 rfl (o_apT (f := hash_Place.Pv) h rfl rfl (.inl ⟨_, rfl, rfl⟩) Ty.e22 Ty.s62 Ty.b62 Ty.z62 rfl (fun _ => rfl)) rfl ?_
    refine y0 rfl (o_assign (d := .sl 7) rfl) ?_
    refine y_nil ?_
    refine pw_ret ?_
    exact ⟨rfl, _, _, rfl, rfl, rfl, rfl⟩

set_option maxHeartbeats 4000000 in
theorem slices_Clone_hash_Place_hash_Place_ok {a0 r : List hash_Place} (h : slices_Clone_hash_Place_hash_Place a0 = some r) : PCalls Try.prog 47 [.lst false (List.map hash_Place.Pv a0)] (.lst false (List.map hash_Place.Pv r)) := pcalls_ofN (slices_Clone_hash_Place_hash_Place_okN h) rfl

set_option maxHeartbeats 4000000 in
theorem hash_with_ok {a0 : List hash_Place} {a1 : Int} {a2 : hash_Place} {r : List hash_Place} (h : hash_with a0 a1 a2 = some r) : PCalls Try.prog 42 [.lst false (List.map hash_Place.Pv a0), .int .i64 a1, hash_Place.Pv a2] (.lst false (List.map hash_Place.Pv r)) := by
  unfold hash_with at h
  refine pc_intro (N := 14) Try.func42 rfl rfl (Nat.le_of_ble_eq_true rfl) fun w0 imm0 => ?_
  refine sr (by kernel_rfl) ?_
  refine y1 rfl (o_box (d := hash_Place.Pv a2) (z := 3) (cl := true) rfl rfl rfl rfl rfl) rfl ?_
  refine y0 rfl (o_assign (d := .lst true (List.map hash_Place.Pv [])) rfl) ?_
  refine y_nil ?_
  refine sr (by kernel_rfl) ?_
  refine y0 rfl (o_move (d := .lst false (List.map hash_Place.Pv a0)) rfl) ?_
  obtain ⟨v1, hv1, h⟩ := bindE h
  refine ycN rfl (o_callN (ls := []) (ds := [.lst false (List.map hash_Place.Pv a0)]) rfl Ty.k47 rfl (slices_Clone_hash_Place_hash_Place_okN hv1)) rfl rfl ?_
  refine y0 rfl (o_assign (d := .sl 8) rfl) ?_
  refine y_nil ?_
  refine sr (by kernel_rfl) ?_
  refine y0 rfl (o_move (d := .sl 8) rfl) ?_
  refine y0 rfl (o_move (d := .int .i64 a1) rfl) ?_
  refine y0 rfl (o_loadA (cs := hash_Place.Pc a2) rfl rfl rfl Ty.a62 Ty.s62 (Nat.le_of_ble_eq_true rfl) rfl) ?_
  obtain ⟨v2, hv2, h⟩ := bindE h
  refine y0 rfl (o_ixR (f := hash_Place.Pv) hv2 rfl rfl rfl rfl Ty.e22 Ty.s62 rfl) ?_
  refine y_stE (f := hash_Place.Pv) (v := a2) hv2 rfl rfl (.inl rfl) Ty.s62 ?_
  refine y_nil ?_
  refine sr (by kernel_rfl) ?_
  refine y0 rfl (o_move (d := .sl 8) rfl) ?_
  refine y0 rfl (o_assign (d := .sl 8) rfl) ?_
  refine y_nil ?_
  refine pw_ret ?_
  obtain rfl := Option.some.inj h
  exact ⟨rfl, [_], ⟨rfl, trivial⟩, rfl, by first | exact .inl rfl | exact .inr rfl⟩

set_option maxHeartbeats 4000000 in
theorem hash_Drop_ok {a0 : List hash_Place} {a1 : Int} {r : (List hash_Place) × Int × Int} (h : hash_Drop a0 a1 = some r) : PCalls Try.prog 29 [.lst false (List.map hash_Place.Pv a0), .int .i64 a1] (.tup [.lst false (List.map hash_Place.Pv r.1), .int .i64 r.2.1, .int .i64 r.2.2]) := by
  unfold hash_Drop at h
  refine pc_intro (N := 23) Try.func29 rfl rfl (Nat.le_of_ble_eq_true rfl) fun w0 imm0 => ?_
  refine sr (by kernel_rfl) ?_
  refine y0 rfl (o_assign (d := .lst true (List.map hash_Place.Pv [])) rfl) ?_
  refine y0 rfl (o_assign (d := .int .i64 0) rfl) ?_
  refine y0 rfl (o_assign (d := .int .i64 0) rfl) ?_
  refine y_nil ?_
  refine sr (by kernel_rfl) ?_
  refine y0 rfl (o_move (d := .lst false (List.map hash_Place.Pv a0)) rfl) ?_
  refine y0 rfl (o_move (d := .int .i64 a1) rfl) ?_
  obtain ⟨v1, hv1, h⟩ := bindE h
  refine y0 rfl (o_call (ds := [.lst false (List.map hash_Place.Pv a0), .int .i64 a1]) rfl Ty.k41 rfl (hash_Find_ok hv1)) ?_
  refine y0 rfl (o_assign (d := .int .i64 v1) rfl) ?_
  refine y_nil ?_
  refine pw_seq ?_
  refine sr (by kernel_rfl) ?_
  refine y0 rfl (o_move (d := .int .i64 v1) rfl) ?_
  refine y0 rfl (o_cmp rfl rfl rfl) ?_
  refine y_nil ?_
  refine pw_cond (decide (v1 < 0)) rfl (fun hc => ?_) (fun hc => ?_)
  · have h := ifT h hc
    refine sr (by kernel_rfl) ?_
    refine y0 rfl (o_move (d := .lst false (List.map hash_Place.Pv a0)) rfl) ?_
    refine y0 rfl (o_assign (d := .lst false (List.map hash_Place.Pv a0)) rfl) ?_
    refine y0 rfl (o_assign (d := .int .i64 0) rfl) ?_
    refine y0 rfl (o_assign (d := .int .i64 9) rfl) ?_
    refine y_nil ?_
    refine pw_ret ?_
    obtain rfl := Option.some.inj h
    exact ⟨rfl, [_, _, _], ⟨rfl, ⟨rfl, ⟨rfl, trivial⟩⟩⟩, rfl, by first | exact .inl rfl | exact .inr rfl⟩
  · have h := ifF h hc
    refine pw_skip ?_
    refine dr [] Ty.mix (by kernel_rfl) (by kernel_rfl) ?_
    refine d7 rfl (fun _ hN => o_move (d := .lst false (List.map hash_Place.Pv a0)) rfl) rfl ?_
    refine d7 rfl (fun _ hN => o_move (d := .int .i64 v1) rfl) rfl ?_
    refine d7 rfl (fun _ hN => o_build (cs := [.int .i64 2, .int .i64 0, .int .i64 0]) rfl Ty.p62 Ty.z62 rfl rfl rfl) rfl ?_
    obtain ⟨v2, hv2, h⟩ := bindE h
    refine d2f rfl (o_callF (ls := []) (ds := [.lst false (List.map hash_Place.Pv a0), .int .i64 v1, .agg [.int .i64 2, .int .i64 0, .int .i64 0]]) rfl Ty.k42 rfl (hash_with_ok hv2)) rfl ?_
    refine d7 rfl (fun _ hN => o_move (d := .lst false (List.map hash_Place.Pv a0)) rfl) rfl ?_
    refine d7 rfl (fun _ hN => o_move (d := .int .i64 v1) rfl) rfl ?_
    obtain ⟨v3, hv3, h⟩ := bindE h
    refine d0 rfl (o_ixL (f := hash_Place.Pv) (cs := hash_Place.Pc v3) hv3 rfl rfl Ty.e22 Ty.s62 rfl rfl) rfl ?_
    refine d7 rfl (fun _ hN => o_fieldAddrR rfl Ty.f62_2 rfl) rfl ?_
    refine d0 rfl (o_loadRS rfl Ty.a3 rfl) rfl ?_
    refine d7 rfl (fun _ hN => o_assign (d := .lst false (List.map hash_Place.Pv v2)) rfl) rfl ?_
    refine d7 rfl (fun _ hN => o_assign (d := .int .i64 v3.Val) rfl) rfl ?_
    refine d7 rfl (fun _ hN => o_assign (d := .int .i64 0) rfl) rfl ?_
    refine d_nil ?_
    refine pw_ret ?_
    obtain rfl := Option.some.inj h
    exact ⟨rfl, [_, _, _], ⟨rfl, ⟨rfl, ⟨rfl, trivial⟩⟩⟩, rfl, by first | exact .inl rfl | exact .inr rfl⟩

set_option maxHeartbeats 4000000 in
theorem hash_Put_ok {a0 : List hash_Place} {a1 : Int} {a2 : Int} {r : (List hash_Place) × Int} (h : hash_Put a0 a1 a2 = some r) : PCalls Try.prog 30 [.lst false (List.map hash_Place.Pv a0), .int .i64 a1, .int .i64 a2] (.tup [.lst false (List.map hash_Place.Pv r.1), .int .i64 r.2]) := by
  unfold hash_Put at h
  refine pc_intro (N := 39) Try.func30 rfl rfl (Nat.le_of_ble_eq_true rfl) fun w0 imm0 => ?_
  refine sr (by kernel_rfl) ?_
  refine y1 rfl (o_box (d := .lst false (List.map hash_Place.Pv a0)) (z := 1) (cl := true) rfl rfl rfl rfl rfl) rfl ?_
  refine y1 rfl (o_alloc (d := .lst true (List.map hash_Place.Pv [])) (z := 1) rfl Ty.z22 rfl rfl rfl) rfl ?_
  refine y1 rfl (o_alloc (d := .int .i64 0) (z := 1) rfl Ty.z28 rfl rfl rfl) rfl ?_
  refine y_nil ?_
  refine sr (by kernel_rfl) ?_
  refine y0 rfl (o_move (d := .int .i64 a1) rfl) ?_
  refine y0 rfl (o_move (d := .int .i64 a2) rfl) ?_
  refine y0 rfl (o_build (cs := [.int .i64 1, .int .i64 a1, .int .i64 a2]) rfl Ty.p62 Ty.z62 rfl rfl rfl) ?_
  refine y1 rfl (o_alloc (d := .agg [.int .i64 0, .int .i64 0, .int .i64 0]) (z := 3) rfl Ty.z62 rfl rfl rfl) rfl ?_
  refine y_sto (x' := .agg [.int .i64 1, .int .i64 a1, .int .i64 a2]) (cl' := true) rfl rfl (.inl rfl) Ty.s62 ?_
  refine y_nil ?_
  refine pw_seq ?_
  refine sr (by kernel_rfl) ?_
  refine y0 rfl (o_loadS rfl rfl rfl Ty.a22 rfl) ?_
  refine y0 rfl (o_move (d := .int .i64 a1) rfl) ?_
  obtain ⟨v1, hv1, h⟩ := bindE h
  refine y0 rfl (o_call (ds := [.lst false (List.map hash_Place.Pv a0), .int .i64 a1]) rfl Ty.k41 rfl (hash_Find_ok hv1)) ?_
  refine y0 rfl (o_assign (d := .int .i64 v1) rfl) ?_
  refine y_nil ?_
  refine sr (by kernel_rfl) ?_
  refine y0 rfl (o_move (d := .int .i64 v1) rfl) ?_
  refine y0 rfl (o_cmp rfl rfl rfl) ?_
  refine y_nil ?_
  refine pw_cond (decide (v1 ≥ 0)) rfl (fun hc => ?_) (fun hc => ?_)
  · have h := ifT h hc
    refine sr (by kernel_rfl) ?_
    refine y0 rfl (o_loadS rfl rfl rfl Ty.a22 rfl) ?_
    refine y0 rfl (o_move (d := .int .i64 v1) rfl) ?_
    refine y0 rfl (o_loadA (cs := [.int .i64 1, .int .i64 a1, .int .i64 a2]) rfl rfl rfl Ty.a62 Ty.s62 (Nat.le_of_ble_eq_true rfl) rfl) ?_
    obtain ⟨v2, hv2, h⟩ := bindE h
    refine yc rfl (o_callF (ls := []) (ds := [.lst false (List.map hash_Place.Pv a0), .int .i64 v1, .agg [.int .i64 1, .int .i64 a1, .int .i64 a2]]) rfl Ty.k42 rfl (hash_with_ok hv2)) ?_
    refine y_sto (x' := .lst false (List.map hash_Place.Pv v2)) (cl' := true) rfl rfl (.inl rfl) Ty.s22 ?_
    refine y_sto (x' := .int .i64 0) (cl' := true) rfl rfl (.inl rfl) Ty.s28 ?_
    refine y_nil ?_
    refine pw_ret ?_
    obtain rfl := Option.some.inj h
    exact ⟨rfl, [_, _], ⟨o_loadS rfl rfl rfl Ty.a22 rfl, ⟨o_loadS rfl rfl rfl Ty.a28 rfl, trivial⟩⟩, rfl, by first | exact .inl rfl | exact .inr rfl⟩
  · have h := ifF h hc
    refine pw_skip ?_
    obtain ⟨κ11, hκ18, h⟩ := jnE h
    refine pw_jn0 (κ := κ11) (r := r) (fun (_ : Unit) => St.of [(3, .ptr 2004 0 0), (6, .ptr 2003 0 0), (7, .ptr 2002 0 0)] [(2002, ⟨[.int .i64 0], 0, false, 1, true⟩), (2003, ⟨[.lst true (List.map hash_Place.Pv [])], 0, false, 1, true⟩), (2004, ⟨[.lst false (List.map hash_Place.Pv a0)], 0, false, 1, true⟩)]) (fun q12 h => ?_) ?_
    · subst hκ18
      refine sr (by kernel_rfl) ?_
      refine y0 rfl (o_loadS rfl rfl rfl Ty.a22 rfl) ?_
      refine y_sto (x' := .lst false (List.map hash_Place.Pv a0)) (cl' := true) rfl rfl (.inl rfl) Ty.s22 ?_
      refine y_sto (x' := .int .i64 8) (cl' := true) rfl rfl (.inl rfl) Ty.s28 ?_
      refine y_nil ?_
      refine pw_ret ?_
      obtain rfl := Option.some.inj h
      exact ⟨rfl, [_, _], ⟨o_loadS rfl rfl rfl Ty.a22 rfl, ⟨o_loadS rfl rfl rfl Ty.a28 rfl, trivial⟩⟩, rfl, by first | exact .inl rfl | exact .inr rfl⟩
    · skip
      refine sr (by kernel_rfl) ?_
      refine y0 rfl (o_loadS rfl rfl rfl Ty.a22 rfl) ?_
      refine y0 rfl (o_lnL (f := hash_Place.Pv) rfl Ty.e22) ?_
      refine y0 rfl (o_move (d := .int .i64 a1) rfl) ?_
      obtain ⟨v13, hv19, h⟩ := bindE h
      refine yc rfl (o_callF (ls := []) (ds := [.int .i64 (a0.length : Int), .int .i64 a1]) rfl Ty.k43 rfl (hash_road_ok hv19)) ?_
      refine y_nil ?_
      refine pw_block ?_
      refine pw_wk (wk_stP (fun l => if l = 2005 then 8 else if l = 2006 then 7 else if l = 2007 then 6 else if l = 2008 then 3 else l) [(3, .ptr 2008 0 0), (6, .ptr 2007 0 0), (7, .ptr 2006 0 0), (8, .ptr 2005 0 0), (26, .fn (.func 48) [.rptr [.int .i64 v13.1], .rptr [.int .i64 v13.2]])] [(2005, ⟨[.agg [.int .i64 1, .int .i64 a1, .int .i64 a2]], 0, false, 3, true⟩), (2006, ⟨[.int .i64 0], 0, false, 1, true⟩), (2007, ⟨[.lst true (List.map hash_Place.Pv [])], 0, false, 1, true⟩), (2008, ⟨[.lst false (List.map hash_Place.Pv a0)], 0, false, 1, true⟩)] ⟨rfl, rfl, rfl, rfl, rfl, rfl, rfl, rfl, rfl, rfl, rfl, rfl, rfl, rfl, rfl, trivial⟩ ⟨rowLe_ren rfl rfl rfl (fun q => nomatch q) rfl rfl rfl, rowLe_ren rfl rfl rfl (fun q => nomatch q) rfl rfl rfl, rowLe_ren rfl rfl rfl (fun q => nomatch q) rfl rfl rfl, rowLe_ren rfl rfl rfl (fun q => nomatch q) rfl rfl rfl, trivial⟩ rfl) ?_
      refine pw_range (fn := Try.f48) (N1 := 20) rfl Try.func48 rfl rfl (Nat.le_of_ble_eq_true rfl) rfl Ty.k48 rfl rfl (fun l20 e21 o22 hR23 => ?_)
      refine sr (by kernel_rfl) ?_
      refine y0 rfl (o_loadRS rfl Ty.a3 rfl) ?_
      refine y0 rfl (o_move (d := .int .i64 0) rfl) ?_
      refine y_nil ?_
      refine pw_block ?_
      obtain ⟨e14, hl24, hk25⟩ := bindE h
      refine pw_lp0 (fun (s15 : Int) => St.of [(1000003, .ptr 2008 0 0), (1000006, .ptr 2007 0 0), (1000007, .ptr 2006 0 0), (1000008, .ptr 2005 0 0), (1000026, .fn (.func 48) [.rptr [.int .i64 v13.1], .rptr [.int .i64 v13.2]]), (0, .fn (.yield l20) []), (1, .rptr [.int .i64 v13.1]), (2, .rptr [.int .i64 v13.2]), (5, .int .i64 v13.1), (6, .int .i64 s15)] [(2005, ⟨[.agg [.int .i64 1, .int .i64 a1, .int .i64 a2]], 0, false, 3, true⟩), (2006, ⟨[.int .i64 0], 0, false, 1, true⟩), (2007, ⟨[.lst true (List.map hash_Place.Pv [])], 0, false, 1, true⟩), (2008, ⟨[.lst false (List.map hash_Place.Pv a0)], 0, false, 1, true⟩)]) hl24 (wk_st _ _ ⟨rfl, rfl, rfl, rfl, rfl, rfl, rfl, rfl, rfl, rfl, rfl, rfl, rfl, rfl, rfl, rfl, rfl, rfl, rfl, rfl, rfl, rfl, rfl, rfl, rfl, rfl, rfl, rfl, rfl, rfl, trivial⟩ ⟨rowLe_same rfl rfl rfl (fun q => nomatch q) rfl rfl rfl, rowLe_same rfl rfl rfl (fun q => nomatch q) rfl rfl rfl, rowLe_same rfl rfl rfl (fun q => nomatch q) rfl rfl rfl, rowLe_same rfl rfl rfl (fun q => nomatch q) rfl rfl rfl, trivial⟩) (fun s15 x16 h hx26 => ?_)
      refine sr (by kernel_rfl) ?_
      refine y0 rfl (o_cmp rfl rfl rfl) ?_
      refine y_nil ?_
      refine pw_seq ?_
      refine pw_cond (decide (s15 < v13.1)) rfl (fun hc => ?_) (fun hc => ?_)
      · have h := ifT h hc
        refine pw_skip ?_
        refine pw_seq ?_
        refine pw_block ?_
        refine sr (by kernel_rfl) ?_
        refine y0 rfl (o_move (d := .int .i64 s15) rfl) ?_
        refine y0 rfl (o_assign (d := .int .i64 s15) rfl) ?_
        refine y_nil ?_
        refine drY [] 8 Ty.mix (by kernel_rfl) (by kernel_rfl) (by kernel_rfl) (by kernel_rfl) (Nat.le_of_ble_eq_true rfl) ?_
        refine d7 rfl (fun _ hN => o_move (d := .fn (.yield l20) []) rfl) rfl ?_
        refine d0 rfl (o_loadRS rfl Ty.a3 rfl) rfl ?_
        refine d0 rfl (o_loadRS rfl Ty.a3 rfl) rfl ?_
        obtain ⟨v17, hv27, h⟩ := bindE h
        refine d2 rfl (o_call (ds := [.int .i64 v13.1, .int .i64 v13.2]) rfl Ty.k49 rfl (hash_Home_ok hv27)) rfl ?_
        refine d7 rfl (fun _ hN => o_move (d := .int .i64 s15) rfl) rfl ?_
        refine d7 rfl (fun _ hN => o_ari rfl rfl rfl) rfl ?_
        refine d0 rfl (o_loadRS rfl Ty.a3 rfl) rfl ?_
        obtain ⟨v18, hv28, h⟩ := bindE h
        refine d7 rfl (fun _ hN => o_ari rfl rfl hv28) rfl ?_
        refine d_nil ?_
        refine opq_wk (wk_st [(1000003, .ptr 2008 0 0), (1000006, .ptr 2007 0 0), (1000007, .ptr 2006 0 0), (1000008, .ptr 2005 0 0), (1000026, .fn (.func 48) [.rptr [.int .i64 v13.1], .rptr [.int .i64 v13.2]]), (0, .fn (.yield l20) []), (1, .rptr [.int .i64 v13.1]), (2, .rptr [.int .i64 v13.2]), (5, .int .i64 v13.1), (6, .int .i64 s15), (9, .fn (.yield l20) []), (16, .int .i64 v18)] [(2005, ⟨[.agg [.int .i64 1, .int .i64 a1, .int .i64 a2]], 0, false, 3, true⟩), (2006, ⟨[.int .i64 0], 0, false, 1, true⟩), (2007, ⟨[.lst true (List.map hash_Place.Pv [])], 0, false, 1, true⟩), (2008, ⟨[.lst false (List.map hash_Place.Pv a0)], 0, false, 1, true⟩)] ⟨rfl, rfl, rfl, rfl, rfl, rfl, rfl, rfl, rfl, rfl, rfl, rfl, rfl, rfl, rfl, rfl, rfl, rfl, rfl, rfl, rfl, rfl, rfl, rfl, rfl, rfl, rfl, rfl, rfl, rfl, rfl, rfl, rfl, rfl, rfl, rfl, trivial⟩ ⟨rowLe_same rfl rfl rfl (fun q => nomatch q) rfl rfl rfl, rowLe_same rfl rfl rfl (fun q => nomatch q) rfl rfl rfl, rowLe_same rfl rfl rfl (fun q => nomatch q) rfl rfl rfl, rowLe_same rfl rfl rfl (fun q => nomatch q) rfl rfl rfl, trivial⟩) ?_
        refine y_yield0 rfl hR23 rfl rfl rfl rfl rfl rfl (fun e29 o30 o31 => ?_)
        refine sr1 (by kernel_rfl) ?_
        refine y0 rfl (o_assign (d := .int .i64 v18) rfl) ?_
        refine y_nil ?_
        refine ⟨rfl, ?_⟩
        refine pw_block ?_
        refine sr (by kernel_rfl) ?_
        refine y0 rfl (o_loadS rfl rfl rfl Ty.a22 rfl) ?_
        refine y0 rfl (o_move (d := .int .i64 v18) rfl) ?_
        obtain ⟨v19, hv32, h⟩ := bindE h
        refine y0 rfl (o_ixL (f := hash_Place.Pv) (cs := hash_Place.Pc v19) hv32 rfl rfl Ty.e22 Ty.s62 rfl rfl) ?_
        refine y0 rfl (o_fieldAddrR rfl Ty.f62_0 rfl) ?_
        refine y0 rfl (o_loadRS rfl Ty.a3 rfl) ?_
        refine y0 rfl (o_cmp rfl rfl rfl) ?_
        refine y_nil ?_
        refine pw_cond (v19.State != 1) rfl (fun hc => ?_) (fun hc => ?_)
        · have h := ifT h hc
          refine sr (by kernel_rfl) ?_
          refine y0 rfl (o_loadS rfl rfl rfl Ty.a22 rfl) ?_
          refine y0 rfl (o_move (d := .int .i64 v18) rfl) ?_
          refine y0 rfl (o_loadA (cs := [.int .i64 1, .int .i64 a1, .int .i64 a2]) rfl rfl rfl Ty.a62 Ty.s62 (Nat.le_of_ble_eq_true rfl) rfl) ?_
          obtain ⟨v20, hv33, h⟩ := bindE h
          refine yc rfl (o_callF (ls := []) (ds := [.lst false (List.map hash_Place.Pv a0), .int .i64 v18, .agg [.int .i64 1, .int .i64 a1, .int .i64 a2]]) rfl Ty.k42 rfl (hash_with_ok hv33)) ?_
          refine y_sto (x' := .lst false (List.map hash_Place.Pv v20)) (cl' := true) rfl rfl (.inl rfl) Ty.s22 ?_
          refine y_sto (x' := .int .i64 0) (cl' := true) rfl rfl (.inl rfl) Ty.s28 ?_
          refine y_nil ?_
          refine pw_ret ?_
          refine ⟨rfl, ?_⟩
          refine ⟨_, wk_st [(1000003, .ptr 2008 0 0), (1000006, .ptr 2007 0 0), (1000007, .ptr 2006 0 0), (1000008, .ptr 2005 0 0), (1000026, .fn (.func 48) [.rptr [.int .i64 v13.1], .rptr [.int .i64 v13.2]]), (0, .fn (.yield l20) []), (1, .rptr [.int .i64 v13.1]), (2, .rptr [.int .i64 v13.2]), (5, .int .i64 v13.1), (6, .int .i64 s15), (17, .bool false)] [(2005, ⟨[.agg [.int .i64 1, .int .i64 a1, .int .i64 a2]], 0, false, 3, true⟩), (2006, ⟨[.int .i64 0], 0, false, 1, true⟩), (2007, ⟨[.lst false (List.map hash_Place.Pv v20)], 0, false, 1, true⟩), (2008, ⟨[.lst false (List.map hash_Place.Pv a0)], 0, false, 1, true⟩)] ⟨rfl, rfl, rfl, rfl, rfl, rfl, rfl, rfl, rfl, rfl, rfl, rfl, rfl, rfl, rfl, rfl, rfl, rfl, rfl, rfl, rfl, rfl, rfl, rfl, rfl, rfl, rfl, rfl, rfl, rfl, rfl, rfl, rfl, trivial⟩ ⟨rowLe_same rfl rfl rfl (fun q => nomatch q) rfl rfl rfl, rowLe_same rfl rfl rfl (fun q => nomatch q) rfl rfl rfl, rowLe_same rfl rfl rfl (fun q => nomatch q) rfl rfl rfl, rowLe_same rfl rfl rfl (fun q => nomatch q) rfl rfl rfl, trivial⟩, ?_⟩
          refine d7 rfl (fun _ hN => o_not rfl rfl) rfl ?_
          refine d_nil ?_
          refine pw_cond true rfl (fun _ => ?_) (fun q => nomatch q)
          refine pw_ret ?_
          refine .inr ⟨.ret, rfl, jmpR ?_⟩
          have he := hx26 _ (Option.some.inj h).symm
          have h := hk25
          rw [← he] at h
          obtain rfl := Option.some.inj h
          exact ⟨rfl, [_, _], ⟨o_loadS rfl rfl rfl Ty.a22 rfl, ⟨o_loadS rfl rfl rfl Ty.a28 rfl, trivial⟩⟩, rfl, by first | exact .inl rfl | exact .inr rfl⟩
        · have h := ifF h hc
          refine pw_skip ?_
          refine ⟨rfl, ?_⟩
          refine ⟨_, wk_st [(1000003, .ptr 2008 0 0), (1000006, .ptr 2007 0 0), (1000007, .ptr 2006 0 0), (1000008, .ptr 2005 0 0), (1000026, .fn (.func 48) [.rptr [.int .i64 v13.1], .rptr [.int .i64 v13.2]]), (0, .fn (.yield l20) []), (1, .rptr [.int .i64 v13.1]), (2, .rptr [.int .i64 v13.2]), (5, .int .i64 v13.1), (6, .int .i64 s15), (17, .bool true)] [(2005, ⟨[.agg [.int .i64 1, .int .i64 a1, .int .i64 a2]], 0, false, 3, true⟩), (2006, ⟨[.int .i64 0], 0, false, 1, true⟩), (2007, ⟨[.lst true (List.map hash_Place.Pv [])], 0, false, 1, true⟩), (2008, ⟨[.lst false (List.map hash_Place.Pv a0)], 0, false, 1, true⟩)] ⟨rfl, rfl, rfl, rfl, rfl, rfl, rfl, rfl, rfl, rfl, rfl, rfl, rfl, rfl, rfl, rfl, rfl, rfl, rfl, rfl, rfl, rfl, rfl, rfl, rfl, rfl, rfl, rfl, rfl, rfl, rfl, rfl, rfl, trivial⟩ ⟨rowLe_same rfl rfl rfl (fun q => nomatch q) rfl rfl rfl, rowLe_same rfl rfl rfl (fun q => nomatch q) rfl rfl rfl, rowLe_same rfl rfl rfl (fun q => nomatch q) rfl rfl rfl, rowLe_same rfl rfl rfl (fun q => nomatch q) rfl rfl rfl, trivial⟩, ?_⟩
          refine d7 rfl (fun _ hN => o_not rfl rfl) rfl ?_
          refine d_nil ?_
          refine pw_cond false rfl (fun q => nomatch q) (fun _ => ?_)
          refine pw_skip ?_
          refine sr1 (by kernel_rfl) ?_
          refine y0 rfl (o_ari rfl rfl rfl) ?_
          refine y0 rfl (o_move (d := .int .i64 (w64 (s15 + 1))) rfl) ?_
          refine y_nil ?_
          exact ⟨rfl, w64 (s15 + 1), (Option.some.inj h).symm, (wk_st _ _ ⟨rfl, rfl, rfl, rfl, rfl, rfl, rfl, rfl, rfl, rfl, rfl, rfl, rfl, rfl, rfl, rfl, rfl, rfl, rfl, rfl, rfl, rfl, rfl, rfl, rfl, rfl, rfl, rfl, rfl, rfl, trivial⟩ ⟨rowLe_same rfl rfl rfl (fun q => nomatch q) rfl rfl rfl, rowLe_same rfl rfl rfl (fun q => nomatch q) rfl rfl rfl, rowLe_same rfl rfl rfl (fun q => nomatch q) rfl rfl rfl, rowLe_same rfl rfl rfl (fun q => nomatch q) rfl rfl rfl, trivial⟩)⟩
      · have h := ifF h hc
        refine pw_exit ?_
        refine thenQ_exit ?_
        refine thenQ_exit ?_
        refine blockQ_exit ?_
        refine .inl ⟨rfl, ?_⟩
        have he := hx26 _ (Option.some.inj h).symm
        have h := hk25
        rw [← he] at h
        exact ⟨rfl, (), h, (wk_stP (fun l => if l = 2004 then 2008 else if l = 2003 then 2007 else if l = 2002 then 2006 else l) _ _ ⟨rfl, rfl, rfl, rfl, rfl, rfl, rfl, rfl, rfl, trivial⟩ ⟨rowLe_ren rfl rfl rfl (fun q => nomatch q) rfl rfl rfl, rowLe_ren rfl rfl rfl (fun q => nomatch q) rfl rfl rfl, rowLe_ren rfl rfl rfl (fun q => nomatch q) rfl rfl rfl, trivial⟩ rfl)⟩

set_option maxHeartbeats 4000000 in
theorem ephem_Set_ok {a0 : List hash_Place} {a1 : Int} {a2 : Int} {r : (List hash_Place) × Int × Int} (h : ephem_Set a0 a1 a2 = some r) : PCalls Try.prog 11 [.lst false (List.map hash_Place.Pv a0), .int .i64 a1, .int .i64 a2] (.tup [.lst false (List.map hash_Place.Pv r.1), .int .i64 r.2.1, .int .i64 r.2.2]) := by
  unfold ephem_Set at h
  refine pc_intro (N := 49) Try.func11 rfl rfl (Nat.le_of_ble_eq_true rfl) fun w0 imm0 => ?_
  refine sr (by kernel_rfl) ?_
  refine y0 rfl (o_assign (d := .lst true (List.map hash_Place.Pv [])) rfl) ?_
  refine y0 rfl (o_assign (d := .int .i64 0) rfl) ?_
  refine y0 rfl (o_assign (d := .int .i64 0) rfl) ?_
  refine y_nil ?_
  refine pw_seq ?_
  refine sr (by kernel_rfl) ?_
  refine y0 rfl (o_move (d := .int .i64 a1) rfl) ?_
  refine y0 rfl (o_cmp rfl rfl rfl) ?_
  refine y_nil ?_
  refine pw_cond (a1 == 0) rfl (fun hc => ?_) (fun hc => ?_)
  · have h := ifT h hc
    refine sr (by kernel_rfl) ?_
    refine y0 rfl (o_move (d := .lst false (List.map hash_Place.Pv a0)) rfl) ?_
    refine y0 rfl (o_assign (d := .lst false (List.map hash_Place.Pv a0)) rfl) ?_
    refine y0 rfl (o_assign (d := .int .i64 0) rfl) ?_
    refine y0 rfl (o_assign (d := .int .i64 2) rfl) ?_
    refine y_nil ?_
    refine pw_ret ?_
    obtain rfl := Option.some.inj h
    exact ⟨rfl, [_, _, _], ⟨rfl, ⟨rfl, ⟨rfl, trivial⟩⟩⟩, rfl, by first | exact .inl rfl | exact .inr rfl⟩
  · have h := ifF h hc
    refine pw_skip ?_
    refine sr (by kernel_rfl) ?_
    refine y0 rfl (o_move (d := .lst false (List.map hash_Place.Pv a0)) rfl) ?_
    refine y0 rfl (o_move (d := .int .i64 a1) rfl) ?_
    obtain ⟨v1, hv1, h⟩ := bindE h
    refine y0 rfl (o_call (ds := [.lst false (List.map hash_Place.Pv a0), .int .i64 a1]) rfl Ty.k28 rfl (hash_Get_ok hv1)) ?_
    refine y0 rfl (o_move (d := .tup [.int .i64 v1.1, .int .i64 v1.2]) rfl) ?_
    refine y0 rfl (o_extract rfl rfl) ?_
    refine y0 rfl (o_extract rfl rfl) ?_
    refine y0 rfl (o_assign (d := .int .i64 v1.1) rfl) ?_
    refine y0 rfl (o_assign (d := .int .i64 v1.2) rfl) ?_
    refine y_nil ?_
    refine pw_seq ?_
    refine sr (by kernel_rfl) ?_
    refine y0 rfl (o_move (d := .int .i64 a2) rfl) ?_
    refine y0 rfl (o_cmp rfl rfl rfl) ?_
    refine y_nil ?_
    refine pw_cond (a2 == 0) rfl (fun hc => ?_) (fun hc => ?_)
    · have h := ifT h hc
      refine sr (by kernel_rfl) ?_
      refine y0 rfl (o_move (d := .lst false (List.map hash_Place.Pv a0)) rfl) ?_
      refine y0 rfl (o_move (d := .int .i64 a1) rfl) ?_
      obtain ⟨v2, hv2, h⟩ := bindE h
      refine yc rfl (o_callF (ls := []) (ds := [.lst false (List.map hash_Place.Pv a0), .int .i64 a1]) rfl Ty.k29 rfl (hash_Drop_ok hv2)) ?_
      refine y0 rfl (o_move (d := .tup [.lst false (List.map hash_Place.Pv v2.1), .int .i64 v2.2.1, .int .i64 v2.2.2]) rfl) ?_
      refine y0 rfl (o_extract rfl rfl) ?_
      refine y0 rfl (o_extract rfl rfl) ?_
      refine y0 rfl (o_extract rfl rfl) ?_
      refine y0 rfl (o_assign (d := .lst false (List.map hash_Place.Pv v2.1)) rfl) ?_
      refine y0 rfl (o_assign (d := .int .i64 v2.2.1) rfl) ?_
      refine y0 rfl (o_assign (d := .int .i64 v2.2.2) rfl) ?_
      refine y_nil ?_
      refine sr (by kernel_rfl) ?_
      refine y0 rfl (o_move (d := .lst false (List.map hash_Place.Pv v2.1)) rfl) ?_
      refine y0 rfl (o_move (d := .int .i64 v1.1) rfl) ?_
      refine y0 rfl (o_assign (d := .lst false (List.map hash_Place.Pv v2.1)) rfl) ?_
      refine y0 rfl (o_assign (d := .int .i64 v1.1) rfl) ?_
      refine y0 rfl (o_assign (d := .int .i64 0) rfl) ?_
      refine y_nil ?_
      refine pw_ret ?_
      obtain rfl := Option.some.inj h
      exact ⟨rfl, [_, _, _], ⟨rfl, ⟨rfl, ⟨rfl, trivial⟩⟩⟩, rfl, by first | exact .inl rfl | exact .inr rfl⟩
    · have h := ifF h hc
      refine pw_skip ?_
      refine sr (by kernel_rfl) ?_
      refine y0 rfl (o_move (d := .lst false (List.map hash_Place.Pv a0)) rfl) ?_
      refine y0 rfl (o_move (d := .int .i64 a1) rfl) ?_
      refine y0 rfl (o_move (d := .int .i64 a2) rfl) ?_
      obtain ⟨v3, hv3, h⟩ := bindE h
      refine yc rfl (o_callF (ls := []) (ds := [.lst false (List.map hash_Place.Pv a0), .int .i64 a1, .int .i64 a2]) rfl Ty.k30 rfl (hash_Put_ok hv3)) ?_
      refine y0 rfl (o_move (d := .tup [.lst false (List.map hash_Place.Pv v3.1), .int .i64 v3.2]) rfl) ?_
      refine y0 rfl (o_extract rfl rfl) ?_
      refine y0 rfl (o_extract rfl rfl) ?_
      refine y0 rfl (o_assign (d := .lst false (List.map hash_Place.Pv v3.1)) rfl) ?_
      refine y0 rfl (o_assign (d := .int .i64 v3.2) rfl) ?_
      refine y_nil ?_
      refine pw_seq ?_
      refine sr (by kernel_rfl) ?_
      refine y0 rfl (o_move (d := .int .i64 v3.2) rfl) ?_
      refine y0 rfl (o_cmp rfl rfl rfl) ?_
      refine y_nil ?_
      refine pw_cond (v3.2 != 0) rfl (fun hc => ?_) (fun hc => ?_)
      · have h := ifT h hc
        refine sr (by kernel_rfl) ?_
        refine y0 rfl (o_move (d := .lst false (List.map hash_Place.Pv a0)) rfl) ?_
        refine y0 rfl (o_move (d := .int .i64 v3.2) rfl) ?_
        refine y0 rfl (o_assign (d := .lst false (List.map hash_Place.Pv a0)) rfl) ?_
        refine y0 rfl (o_assign (d := .int .i64 0) rfl) ?_
        refine y0 rfl (o_assign (d := .int .i64 v3.2) rfl) ?_
        refine y_nil ?_
        refine pw_ret ?_
        obtain rfl := Option.some.inj h
        exact ⟨rfl, [_, _, _], ⟨rfl, ⟨rfl, ⟨rfl, trivial⟩⟩⟩, rfl, by first | exact .inl rfl | exact .inr rfl⟩
      · have h := ifF h hc
        refine pw_skip ?_
        refine sr (by kernel_rfl) ?_
        refine y0 rfl (o_move (d := .lst false (List.map hash_Place.Pv v3.1)) rfl) ?_
        refine y0 rfl (o_move (d := .int .i64 v1.1) rfl) ?_
        refine y0 rfl (o_assign (d := .lst false (List.map hash_Place.Pv v3.1)) rfl) ?_
        refine y0 rfl (o_assign (d := .int .i64 v1.1) rfl) ?_
        refine y0 rfl (o_assign (d := .int .i64 0) rfl) ?_
        refine y_nil ?_
        refine pw_ret ?_
        obtain rfl := Option.some.inj h
        exact ⟨rfl, [_, _, _], ⟨rfl, ⟨rfl, ⟨rfl, trivial⟩⟩⟩, rfl, by first | exact .inl rfl | exact .inr rfl⟩

set_option maxHeartbeats 4000000 in
theorem ephem_Get_ok {a0 : List hash_Place} {a1 : Int} {r : Int × Int} (h : ephem_Get a0 a1 = some r) : PCalls Try.prog 13 [.lst false (List.map hash_Place.Pv a0), .int .i64 a1] (.tup [.int .i64 r.1, .int .i64 r.2]) := by
  unfold ephem_Get at h
  refine pc_intro (N := 11) Try.func13 rfl rfl (Nat.le_of_ble_eq_true rfl) fun w0 imm0 => ?_
  refine sr (by kernel_rfl) ?_
  refine y0 rfl (o_assign (d := .int .i64 0) rfl) ?_
  refine y0 rfl (o_assign (d := .int .i64 0) rfl) ?_
  refine y_nil ?_
  refine sr (by kernel_rfl) ?_
  refine y0 rfl (o_move (d := .lst false (List.map hash_Place.Pv a0)) rfl) ?_
  refine y0 rfl (o_move (d := .int .i64 a1) rfl) ?_
  obtain ⟨v1, hv1, h⟩ := bindE h
  refine y0 rfl (o_call (ds := [.lst false (List.map hash_Place.Pv a0), .int .i64 a1]) rfl Ty.k28 rfl (hash_Get_ok hv1)) ?_
  refine y0 rfl (o_extract rfl rfl) ?_
  refine y0 rfl (o_extract rfl rfl) ?_
  refine y0 rfl (o_assign (d := .int .i64 v1.1) rfl) ?_
  refine y0 rfl (o_assign (d := .int .i64 v1.2) rfl) ?_
  refine y_nil ?_
  refine pw_ret ?_
  obtain rfl := Option.some.inj h
  exact ⟨rfl, [_, _], ⟨rfl, ⟨rfl, trivial⟩⟩, rfl, by first | exact .inl rfl | exact .inr rfl⟩

set_option maxHeartbeats 4000000 in
theorem ephem_Without_ok {a0 : List hash_Place} {a1 : List Int} {r : (List hash_Place) × (List Int)} (h : ephem_Without a0 a1 = some r) : PCalls Try.prog 15 [.lst false (List.map hash_Place.Pv a0), .lst false (List.map (PV.int .i64) a1)] (.tup [.lst false (List.map hash_Place.Pv r.1), .lst false (List.map (PV.int .i64) r.2)]) := by
  unfold ephem_Without at h
  refine pc_intro (N := 35) Try.func15 rfl rfl (Nat.le_of_ble_eq_true rfl) fun w0 imm0 => ?_
  refine sr (by kernel_rfl) ?_
  refine y0 rfl (o_assign (d := .lst true (List.map hash_Place.Pv [])) rfl) ?_
  refine y0 rfl (o_assign (d := .lst true (List.map (PV.int .i64) [])) rfl) ?_
  refine y_nil ?_
  refine sr (by kernel_rfl) ?_
  refine y0 rfl (o_assign (d := .lst true (List.map (PV.int .i64) [])) rfl) ?_
  refine y_nil ?_
  obtain ⟨κ17, hκ11, h⟩ := jnE h
  refine pw_jn0 (κ := κ17) (r := r) (fun (q : (List hash_Place) × (List Int)) => St.of [(0, .lst false (List.map hash_Place.Pv q.1)), (6, .sl 910006)] [(910006, ⟨List.map (PV.int .i64) q.2, (List.map (PV.int .i64) q.2).length, true, 1, true⟩)]) (fun q20 h => ?_) ?_
  · subst hκ11
    obtain ⟨j18, j19⟩ := q20
    refine sr (by kernel_rfl) ?_
    refine y0 rfl (o_move (d := .lst false (List.map hash_Place.Pv j18)) rfl) ?_
    refine y0 rfl (o_move (d := .sl 910006) rfl) ?_
    refine y0 rfl (o_assign (d := .lst false (List.map hash_Place.Pv j18)) rfl) ?_
    refine y0 rfl (o_assign (d := .sl 910006) rfl) ?_
    refine y_nil ?_
    refine pw_ret ?_
    obtain rfl := Option.some.inj h
    exact ⟨rfl, [_, _], ⟨rfl, ⟨rfl, trivial⟩⟩, rfl, by first | exact .inl rfl | exact .inr rfl⟩
  · skip
    refine sr (by kernel_rfl) ?_
    refine y0 rfl (o_move (d := .lst false (List.map (PV.int .i64) a1)) rfl) ?_
    refine y0 rfl (o_lnL (f := (PV.int .i64)) rfl Ty.e23) ?_
    refine y0 rfl (o_move (d := .int .i64 0) rfl) ?_
    refine y_nil ?_
    refine pw_block ?_
    obtain ⟨e21, hl12, hk13⟩ := bindE h
    refine pw_lp0 (fun (q : (List hash_Place) × Int × (List Int)) => St.of [(0, .lst false (List.map hash_Place.Pv q.1)), (6, .sl 910006), (12, .lst false (List.map (PV.int .i64) a1)), (13, .int .i64 (a1.length : Int)), (14, .int .i64 q.2.1)] [(910006, ⟨List.map (PV.int .i64) q.2.2, (List.map (PV.int .i64) q.2.2).length, true, 1, true⟩)]) hl12 (Wk.trans (wk_nil (t := 6) (l := 920006) (z := 1) rfl rfl) (wk_stP (fun l => if l = 910006 then 920006 else l) _ _ ⟨rfl, rfl, rfl, rfl, rfl, rfl, rfl, rfl, rfl, rfl, rfl, rfl, rfl, rfl, rfl, trivial⟩ ⟨rowLe_ren rfl rfl rfl (fun _ => rfl) rfl rfl rfl, trivial⟩ rfl)) (fun q26 x25 h hx14 => ?_)
    obtain ⟨s22, s23, s24⟩ := q26
    refine sr (by kernel_rfl) ?_
    refine y0 rfl (o_cmp rfl rfl rfl) ?_
    refine y_nil ?_
    refine pw_seq ?_
    refine pw_cond (decide (s23 < (a1.length : Int))) rfl (fun hc => ?_) (fun hc => ?_)
    · have h := ifT h hc
      refine pw_skip ?_
      obtain ⟨κ30, hκ18, h⟩ := jnE h
      refine pw_jn0 (κ := κ30) (r := x25) (fun (q : (List hash_Place) × (List Int)) => St.of [(0, .lst false (List.map hash_Place.Pv q.1)), (6, .sl 31), (12, .lst false (List.map (PV.int .i64) a1)), (13, .int .i64 (a1.length : Int)), (14, .int .i64 s23)] [(31, ⟨List.map (PV.int .i64) q.2, (List.map (PV.int .i64) q.2).length, true, 1, true⟩)]) (fun q33 h => ?_) ?_
      · subst hκ18
        obtain ⟨j31, j32⟩ := q33
        refine sr1 (by kernel_rfl) ?_
        refine y0 rfl (o_ari rfl rfl rfl) ?_
        refine y0 rfl (o_move (d := .int .i64 (w64 (s23 + 1))) rfl) ?_
        refine y_nil ?_
        exact ⟨rfl, (j31, w64 (s23 + 1), j32), (Option.some.inj h).symm, (Wk.trans (wk_frz _ [31]) (wk_stP (fun l => if l = 910006 then 31 else l) _ _ ⟨rfl, rfl, rfl, rfl, rfl, rfl, rfl, rfl, rfl, rfl, rfl, rfl, rfl, rfl, rfl, trivial⟩ ⟨rowLe_ren rfl rfl rfl (fun _ => rfl) rfl rfl rfl, trivial⟩ rfl))⟩
      · skip
        refine pw_block ?_
        refine sr (by kernel_rfl) ?_
        obtain ⟨v34, hv19, h⟩ := bindE h
        refine y0 rfl (o_ixL (f := (PV.int .i64)) (cs := [.int .i64 v34]) hv19 rfl rfl Ty.e23 Ty.s3 rfl rfl) ?_
        refine y0 rfl (o_loadRS rfl Ty.a3 rfl) ?_
        refine y0 rfl (o_assign (d := .int .i64 v34) rfl) ?_
        refine y_nil ?_
        refine sr (by kernel_rfl) ?_
        refine y0 rfl (o_move (d := .lst false (List.map hash_Place.Pv s22)) rfl) ?_
        refine y0 rfl (o_move (d := .int .i64 v34) rfl) ?_
        obtain ⟨v35, hv20, h⟩ := bindE h
        refine yc rfl (o_callF (ls := []) (ds := [.lst false (List.map hash_Place.Pv s22), .int .i64 v34]) rfl Ty.k29 rfl (hash_Drop_ok hv20)) ?_
        refine y0 rfl (o_move (d := .tup [.lst false (List.map hash_Place.Pv v35.1), .int .i64 v35.2.1, .int .i64 v35.2.2]) rfl) ?_
        refine y0 rfl (o_extract rfl rfl) ?_
        refine y0 rfl (o_extract rfl rfl) ?_
        refine y0 rfl (o_extract rfl rfl) ?_
        refine y0 rfl (o_assign (d := .lst false (List.map hash_Place.Pv v35.1)) rfl) ?_
        refine y0 rfl (o_assign (d := .int .i64 v35.2.1) rfl) ?_
        refine y0 rfl (o_assign (d := .int .i64 v35.2.2) rfl) ?_
        refine y_nil ?_
        refine sr (by kernel_rfl) ?_
        refine y0 rfl (o_move (d := .int .i64 v35.2.2) rfl) ?_
        refine y0 rfl (o_cmp rfl rfl rfl) ?_
        refine y_nil ?_
        refine pw_cond (v35.2.2 == 0) rfl (fun hc => ?_) (fun hc => ?_)
        · have h := ifT h hc
          refine sr1 (by kernel_rfl) ?_
          refine y0 rfl (o_move (d := .lst false (List.map hash_Place.Pv v35.1)) rfl) ?_
          refine y0 rfl (o_move (d := .sl 910006) rfl) ?_
          refine y0 rfl (o_move (d := .int .i64 v35.2.1) rfl) ?_
          refine y0 rfl (o_bI (f := (PV.int .i64)) (l := [v35.2.1]) rfl Ty.e23 Ty.s3 Ty.z3 rfl rfl (Nat.le_of_ble_eq_true rfl) rfl rfl) ?_
          obtain ⟨v36, hv21, h⟩ := bindE h
          refine y_app rfl (o_apR (f := (PV.int .i64)) hv21 rfl rfl rfl rfl rfl rfl (.inl ⟨_, rfl, rfl⟩) Ty.e23 Ty.s3 Ty.b3 Ty.z3 rfl (fun _ => rfl)) rfl rfl rfl ?_
          refine y0 rfl (o_assign (d := .lst false (List.map hash_Place.Pv v35.1)) rfl) ?_
          refine y0 rfl (o_assign (d := .sl 31) rfl) ?_
          refine y_nil ?_
          exact ⟨rfl, (v35.1, v36), h, (Wk.trans (wk_frz _ [31]) (wk_st _ _ ⟨rfl, rfl, rfl, rfl, rfl, rfl, rfl, rfl, rfl, rfl, rfl, rfl, rfl, rfl, rfl, trivial⟩ ⟨rowLe_same rfl rfl rfl (fun _ => rfl) rfl rfl rfl, trivial⟩))⟩
        · have h := ifF h hc
          refine pw_skip ?_
          exact ⟨rfl, (s22, s24), h, (Wk.trans (wk_frz _ [910006]) (wk_stP (fun l => if l = 31 then 910006 else l) _ _ ⟨rfl, rfl, rfl, rfl, rfl, rfl, rfl, rfl, rfl, rfl, rfl, rfl, rfl, rfl, rfl, trivial⟩ ⟨rowLe_ren rfl rfl rfl (fun _ => rfl) rfl rfl rfl, trivial⟩ rfl))⟩
    · have h := ifF h hc
      refine pw_exit ?_
      refine thenQ_exit ?_
      refine thenQ_exit ?_
      refine blockQ_exit ?_
      have he := hx14 _ (Option.some.inj h).symm
      have h := hk13
      rw [← he] at h
      exact ⟨rfl, (s22, s24), h, (Wk.trans (wk_frz _ [910006]) (wk_st _ _ ⟨rfl, rfl, rfl, rfl, rfl, rfl, trivial⟩ ⟨rowLe_same rfl rfl rfl (fun _ => rfl) rfl rfl rfl, trivial⟩))⟩

set_option maxHeartbeats 4000000 in
theorem ephem_pairs_ok {a0 : List hash_Place} {r : List hash_Place} (h : ephem_pairs a0 = some r) : PCalls Try.prog 35 [.lst false (List.map hash_Place.Pv a0)] (.fn (.func 45) [.rptr [.lst false (List.map hash_Place.Pv r)]]) := by
  unfold ephem_pairs at h
  refine pc_intro (N := 4) Try.func35 rfl rfl (Nat.le_of_ble_eq_true rfl) fun w0 imm0 => ?_
  refine sr (by kernel_rfl) ?_
  refine y1 rfl (o_box (d := .lst false (List.map hash_Place.Pv a0)) (z := 1) (cl := true) rfl rfl rfl rfl rfl) rfl ?_
  refine y0 rfl (o_assign (d := .nilfn) rfl) ?_
  refine y_nil ?_
  refine sr (by kernel_rfl) ?_
  refine y0 rfl (o_mkFunc rfl) ?_
  refine y0 rfl (o_assign (d := .fn (.func 45) [.ptr 1 0 0]) rfl) ?_
  refine y_nil ?_
  refine pw_ret ?_
  obtain rfl := Option.some.inj h
  exact ⟨rfl, [_], ⟨rfl, trivial⟩, rfl, by first | exact .inl rfl | exact .inr rfl⟩

set_option maxHeartbeats 4000000 in
theorem hash_Keys_ok {a0 : List hash_Place} {r : List Int} (h : hash_Keys a0 = some r) : PCalls Try.prog 46 [.lst false (List.map hash_Place.Pv a0)] (.lst false (List.map (PV.int .i64) r)) := by
  unfold hash_Keys at h
  refine pc_intro (N := 22) Try.func46 rfl rfl (Nat.le_of_ble_eq_true rfl) fun w0 imm0 => ?_
  refine sr (by kernel_rfl) ?_
  refine y0 rfl (o_assign (d := .lst true (List.map (PV.int .i64) [])) rfl) ?_
  refine y_nil ?_
  refine sr (by kernel_rfl) ?_
  refine y0 rfl (o_assign (d := .lst true (List.map (PV.int .i64) [])) rfl) ?_
  refine y_nil ?_
  obtain ⟨κ12, hκ9, h⟩ := jnE h
  refine pw_jn0 (κ := κ12) (r := r) (fun (j13 : List Int) => St.of [(3, .sl 910003)] [(910003, ⟨List.map (PV.int .i64) j13, (List.map (PV.int .i64) j13).length, true, 1, true⟩)]) (fun j13 h => ?_) ?_
  · subst hκ9
    refine sr (by kernel_rfl) ?_
    refine y0 rfl (o_move (d := .sl 910003) rfl) ?_
    refine y0 rfl (o_assign (d := .sl 910003) rfl) ?_
    refine y_nil ?_
    refine pw_ret ?_
    obtain rfl := Option.some.inj h
    exact ⟨rfl, [_], ⟨rfl, trivial⟩, rfl, by first | exact .inl rfl | exact .inr rfl⟩
  · skip
    refine sr (by kernel_rfl) ?_
    refine y0 rfl (o_move (d := .lst false (List.map hash_Place.Pv a0)) rfl) ?_
    refine y0 rfl (o_lnL (f := hash_Place.Pv) rfl Ty.e22) ?_
    refine y0 rfl (o_move (d := .int .i64 0) rfl) ?_
    refine y_nil ?_
    refine pw_block ?_
    obtain ⟨e14, hl10, hk11⟩ := bindE h
    refine pw_lp0 (fun (q : Int × (List Int)) => St.of [(3, .sl 910003), (6, .lst false (List.map hash_Place.Pv a0)), (7, .int .i64 (a0.length : Int)), (8, .int .i64 q.1)] [(910003, ⟨List.map (PV.int .i64) q.2, (List.map (PV.int .i64) q.2).length, true, 1, true⟩)]) hl10 (Wk.trans (wk_nil (t := 3) (l := 920003) (z := 1) rfl rfl) (wk_stP (fun l => if l = 910003 then 920003 else l) _ _ ⟨rfl, rfl, rfl, rfl, rfl, rfl, rfl, rfl, rfl, rfl, rfl, rfl, trivial⟩ ⟨rowLe_ren rfl rfl rfl (fun _ => rfl) rfl rfl rfl, trivial⟩ rfl)) (fun q18 x17 h hx12 => ?_)
    obtain ⟨s15, s16⟩ := q18
    refine sr (by kernel_rfl) ?_
    refine y0 rfl (o_cmp rfl rfl rfl) ?_
    refine y_nil ?_
    refine pw_seq ?_
    refine pw_cond (decide (s15 < (a0.length : Int))) rfl (fun hc => ?_) (fun hc => ?_)
    · have h := ifT h hc
      refine pw_skip ?_
      obtain ⟨κ21, hκ15, h⟩ := jnE h
      refine pw_jn0 (κ := κ21) (r := x17) (fun (j22 : List Int) => St.of [(3, .sl 19), (6, .lst false (List.map hash_Place.Pv a0)), (7, .int .i64 (a0.length : Int)), (8, .int .i64 s15)] [(19, ⟨List.map (PV.int .i64) j22, (List.map (PV.int .i64) j22).length, true, 1, true⟩)]) (fun j22 h => ?_) ?_
      · subst hκ15
        refine sr1 (by kernel_rfl) ?_
        refine y0 rfl (o_ari rfl rfl rfl) ?_
        refine y0 rfl (o_move (d := .int .i64 (w64 (s15 + 1))) rfl) ?_
        refine y_nil ?_
        exact ⟨rfl, (w64 (s15 + 1), j22), (Option.some.inj h).symm, (Wk.trans (wk_frz _ [19]) (wk_stP (fun l => if l = 910003 then 19 else l) _ _ ⟨rfl, rfl, rfl, rfl, rfl, rfl, rfl, rfl, rfl, rfl, rfl, rfl, trivial⟩ ⟨rowLe_ren rfl rfl rfl (fun _ => rfl) rfl rfl rfl, trivial⟩ rfl))⟩
      · skip
        refine pw_block ?_
        refine sr (by kernel_rfl) ?_
        obtain ⟨v23, hv16, h⟩ := bindE h
        refine y0 rfl (o_ixL (f := hash_Place.Pv) (cs := hash_Place.Pc v23) hv16 rfl rfl Ty.e22 Ty.s62 rfl rfl) ?_
        refine y0 rfl (o_loadRA (cs := hash_Place.Pc v23) rfl Ty.a62 Ty.s62 (Nat.le_of_ble_eq_true rfl) rfl) ?_
        refine y1 rfl (o_alloc (d := .agg [.int .i64 0, .int .i64 0, .int .i64 0]) (z := 3) rfl Ty.z62 rfl rfl rfl) rfl ?_
        refine y_sto (x' := hash_Place.Pv v23) (cl' := true) rfl rfl (.inl rfl) Ty.s62 ?_
        refine y_nil ?_
        refine sr (by kernel_rfl) ?_
        refine y0 rfl (o_fieldAddrP (k := 0) rfl Ty.f62_0 rfl) ?_
        refine y0 rfl (o_loadS rfl rfl rfl Ty.a3 rfl) ?_
        refine y0 rfl (o_cmp rfl rfl rfl) ?_
        refine y_nil ?_
        refine pw_cond (v23.State == 1) rfl (fun hc => ?_) (fun hc => ?_)
        · have h := ifT h hc
          refine sr1 (by kernel_rfl) ?_
          refine y0 rfl (o_move (d := .sl 910003) rfl) ?_
          refine y0 rfl (o_fieldAddrP (k := 1) rfl Ty.f62_1 rfl) ?_
          refine y0 rfl (o_loadS rfl rfl rfl Ty.a3 rfl) ?_
          refine y0 rfl (o_bI (f := (PV.int .i64)) (l := [v23.Key]) rfl Ty.e23 Ty.s3 Ty.z3 rfl rfl (Nat.le_of_ble_eq_true rfl) rfl rfl) ?_
          obtain ⟨v24, hv17, h⟩ := bindE h
          refine y_app rfl (o_apR (f := (PV.int .i64)) hv17 rfl rfl rfl rfl rfl rfl (.inl ⟨_, rfl, rfl⟩) Ty.e23 Ty.s3 Ty.b3 Ty.z3 rfl (fun _ => rfl)) rfl rfl rfl ?_
          refine y0 rfl (o_assign (d := .sl 19) rfl) ?_
          refine y_nil ?_
          exact ⟨rfl, v24, h, (Wk.trans (wk_frz _ [19]) (wk_st _ _ ⟨rfl, rfl, rfl, rfl, rfl, rfl, rfl, rfl, rfl, rfl, rfl, rfl, trivial⟩ ⟨rowLe_same rfl rfl rfl (fun _ => rfl) rfl rfl rfl, trivial⟩))⟩
        · have h := ifF h hc
          refine pw_skip ?_
          exact ⟨rfl, s16, h, (Wk.trans (wk_frz _ [910003]) (wk_stP (fun l => if l = 19 then 910003 else l) _ _ ⟨rfl, rfl, rfl, rfl, rfl, rfl, rfl, rfl, rfl, rfl, rfl, rfl, trivial⟩ ⟨rowLe_ren rfl rfl rfl (fun _ => rfl) rfl rfl rfl, trivial⟩ rfl))⟩
    · have h := ifF h hc
      refine pw_exit ?_
      refine thenQ_exit ?_
      refine thenQ_exit ?_
      refine blockQ_exit ?_
      have he := hx12 _ (Option.some.inj h).symm
      have h := hk11
      rw [← he] at h
      exact ⟨rfl, s16, h, (Wk.trans (wk_frz _ [910003]) (wk_st _ _ ⟨rfl, rfl, rfl, trivial⟩ ⟨rowLe_same rfl rfl rfl (fun _ => rfl) rfl rfl rfl, trivial⟩))⟩

set_option maxHeartbeats 4000000 in
theorem ephem_Owned_1_ok {a0 : ephem_Pair} {a1 : Int} {r : Bool} (h : ephem_Owned_1 a0 a1 = some r) : PCalls Try.prog 38 [ephem_Pair.Pv a0, .rptr [.int .i64 a1]] (.bool r) := by
  unfold ephem_Owned_1 at h
  refine pc_intro (N := 12) Try.func38 rfl rfl (Nat.le_of_ble_eq_true rfl) fun w0 imm0 => ?_
  refine sr (by kernel_rfl) ?_
  refine y1 rfl (o_box (d := ephem_Pair.Pv a0) (z := 2) (cl := true) rfl rfl rfl rfl rfl) rfl ?_
  refine y0 rfl (o_assign (d := .bool false) rfl) ?_
  refine y_nil ?_
  refine sr (by kernel_rfl) ?_
  refine y0 rfl (o_loadRS rfl Ty.a3 rfl) ?_
  refine y0 rfl (o_cmp rfl rfl rfl) ?_
  refine y0 rfl (o_move (d := .bool (a1 != 0)) rfl) ?_
  refine y_if (g := ((a1 != 0) == true)) rfl (fun hg => o_fieldAddrP (k := 1) rfl Ty.f56_1 rfl) ?_
  refine y_if (g := ((a1 != 0) == true)) rfl (fun hg => o_loadS (ct hg) rfl rfl Ty.a3 rfl) ?_
  refine y_if (g := ((a1 != 0) == true)) rfl (fun hg => o_loadRS rfl Ty.a3 rfl) ?_
  refine y_if (g := ((a1 != 0) == true)) rfl (fun hg => o_cmp (ct hg) (ct hg) rfl) ?_
  refine y0 rfl (pk_and rfl rfl rfl (fun q => eqT q)) ?_
  refine y0 rfl (o_assign (d := .bool ((a1 != 0) && (a0.Val == a1))) rfl) ?_
  refine y_nil ?_
  refine pw_ret ?_
  obtain rfl := Option.some.inj h
  exact ⟨rfl, [_], ⟨rfl, trivial⟩, rfl, by first | exact .inl rfl | exact .inr rfl⟩

set_option maxHeartbeats 4000000 in
theorem ephem_gathered_ephem_Pair__ephem_pairs_1__ephem_Owned_1_ok {a0 : List hash_Place} {a1 : Int} {r : List ephem_Pair} (h : ephem_gathered_ephem_Pair__ephem_pairs_1__ephem_Owned_1 a0 a1 = some r) : PCalls Try.prog 34 [.fn (.func 45) [.rptr [.lst false (List.map hash_Place.Pv a0)]], .fn (.func 38) [.rptr [.int .i64 a1]]] (.lst false (List.map ephem_Pair.Pv r)) := by
  unfold ephem_gathered_ephem_Pair__ephem_pairs_1__ephem_Owned_1 at h
  refine pc_intro (N := 17) Try.func34 rfl rfl (Nat.le_of_ble_eq_true rfl) fun w0 imm0 => ?_
  refine sr (by kernel_rfl) ?_
  refine y1 rfl (o_box (d := .fn (.func 38) [.rptr [.int .i64 a1]]) (z := 1) (cl := true) rfl rfl rfl rfl rfl) rfl ?_
  refine y0 rfl (o_assign (d := .lst true (List.map ephem_Pair.Pv [])) rfl) ?_
  refine y_nil ?_
  refine sr (by kernel_rfl) ?_
  refine y1 rfl (o_alloc (d := .lst true (List.map ephem_Pair.Pv [])) (z := 1) rfl Ty.z45 rfl rfl rfl) rfl ?_
  refine y_nil ?_
  obtain ⟨κ15, hκ19, h⟩ := jnE h
  refine pw_jn0 (κ := κ15) (r := r) (fun (j16 : List ephem_Pair) => St.of [(5, .ptr 2001 0 0)] [(2001, ⟨[.sl 912501], 0, false, 1, false⟩), (912501, ⟨List.map ephem_Pair.Pv j16, (List.map ephem_Pair.Pv j16).length, true, 2, true⟩)]) (fun j16 h => ?_) ?_
  · subst hκ19
    refine sr (by kernel_rfl) ?_
    refine y0 rfl (o_loadS rfl rfl rfl Ty.a45 rfl) ?_
    refine y0 rfl (o_assign (d := .sl 912501) rfl) ?_
    refine y_nil ?_
    refine pw_ret ?_
    obtain rfl := Option.some.inj h
    exact ⟨rfl, [_], ⟨rfl, trivial⟩, rfl, by first | exact .inl rfl | exact .inr rfl⟩
  · skip
    refine sr (by kernel_rfl) ?_
    refine y0 rfl (o_move (d := .fn (.func 45) [.rptr [.lst false (List.map hash_Place.Pv a0)]]) rfl) ?_
    refine y_nil ?_
    refine pw_block ?_
    refine pw_wk (wk_stP (fun l => if l = 2012 then 5 else if l = 2013 then 3 else l) [(3, .ptr 2013 0 0), (5, .ptr 2012 0 0), (7, .fn (.func 45) [.rptr [.lst false (List.map hash_Place.Pv a0)]])] [(2012, ⟨[.lst true (List.map ephem_Pair.Pv [])], 0, false, 1, true⟩), (2013, ⟨[.fn (.func 38) [.rptr [.int .i64 a1]]], 0, false, 1, true⟩)] ⟨rfl, rfl, rfl, rfl, rfl, rfl, rfl, rfl, rfl, trivial⟩ ⟨rowLe_ren rfl rfl rfl (fun q => nomatch q) rfl rfl rfl, rowLe_ren rfl rfl rfl (fun q => nomatch q) rfl rfl rfl, trivial⟩ rfl) ?_
    refine pw_range (fn := Try.f45) (N1 := 27) rfl Try.func45 rfl rfl (Nat.le_of_ble_eq_true rfl) rfl Ty.k45 rfl rfl (fun l20 e21 o22 hR23 => ?_)
    refine sr (by kernel_rfl) ?_
    refine y0 rfl (o_loadRS rfl Ty.a22 rfl) ?_
    obtain ⟨v17, hv24, h⟩ := bindE h
    refine yc rfl (o_callF (ls := []) (ds := [.lst false (List.map hash_Place.Pv a0)]) rfl Ty.k46 rfl (hash_Keys_ok hv24)) ?_
    refine y0 rfl (o_lnL (f := (PV.int .i64)) rfl Ty.e23) ?_
    refine y0 rfl (o_move (d := .int .i64 0) rfl) ?_
    refine y_nil ?_
    refine pw_block ?_
    obtain ⟨e18, hl25, hk26⟩ := bindE h
    refine pw_lp0 (fun (q : Int × (List ephem_Pair)) => St.of [(1000003, .ptr 2013 0 0), (1000005, .ptr 2012 0 0), (1000007, .fn (.func 45) [.rptr [.lst false (List.map hash_Place.Pv a0)]]), (0, .fn (.yield l20) []), (1, .rptr [.lst false (List.map hash_Place.Pv a0)]), (8, .lst false (List.map (PV.int .i64) v17)), (9, .int .i64 (v17.length : Int)), (10, .int .i64 q.1)] [(2012, ⟨[.sl 912512], 0, false, 1, false⟩), (2013, ⟨[.fn (.func 38) [.rptr [.int .i64 a1]]], 0, false, 1, true⟩), (912512, ⟨List.map ephem_Pair.Pv q.2, (List.map ephem_Pair.Pv q.2).length, true, 2, true⟩)]) hl25 (Wk.trans (wk_nilC (l0 := 2012) (j := 0) (l := 922512) (z := 2) rfl rfl rfl rfl rfl) (wk_stP (fun l => if l = 912512 then 922512 else l) _ _ ⟨rfl, rfl, rfl, rfl, rfl, rfl, rfl, rfl, rfl, rfl, rfl, rfl, rfl, rfl, rfl, rfl, rfl, rfl, rfl, rfl, rfl, rfl, rfl, rfl, trivial⟩ ⟨rowLe_open rfl rfl rfl (fun q => nomatch q) rfl rfl rfl rfl, rowLe_ren rfl rfl rfl (fun q => nomatch q) rfl rfl rfl, rowLe_ren rfl rfl rfl (fun _ => rfl) rfl rfl rfl, trivial⟩ rfl)) (fun q22 x21 h hx27 => ?_)
    obtain ⟨s19, s20⟩ := q22
    refine sr (by kernel_rfl) ?_
    refine y0 rfl (o_cmp rfl rfl rfl) ?_
    refine y_nil ?_
    refine pw_seq ?_
    refine pw_cond (decide (s19 < (v17.length : Int))) rfl (fun hc => ?_) (fun hc => ?_)
    · have h := ifT h hc
      refine pw_skip ?_
      refine pw_seq ?_
      refine pw_block ?_
      refine sr (by kernel_rfl) ?_
      obtain ⟨v23, hv28, h⟩ := bindE h
      refine y0 rfl (o_ixL (f := (PV.int .i64)) (cs := [.int .i64 v23]) hv28 rfl rfl Ty.e23 Ty.s3 rfl rfl) ?_
      refine y0 rfl (o_loadRS rfl Ty.a3 rfl) ?_
      refine y0 rfl (o_assign (d := .int .i64 v23) rfl) ?_
      refine y_nil ?_
      refine sr (by kernel_rfl) ?_
      refine y0 rfl (o_loadRS rfl Ty.a22 rfl) ?_
      refine y0 rfl (o_move (d := .int .i64 v23) rfl) ?_
      obtain ⟨v24, hv29, h⟩ := bindE h
      refine y0 rfl (o_call (ds := [.lst false (List.map hash_Place.Pv a0), .int .i64 v23]) rfl Ty.k28 rfl (hash_Get_ok hv29)) ?_
      refine y0 rfl (o_move (d := .tup [.int .i64 v24.1, .int .i64 v24.2]) rfl) ?_
      refine y0 rfl (o_extract rfl rfl) ?_
      refine y0 rfl (o_extract rfl rfl) ?_
      refine y0 rfl (o_assign (d := .int .i64 v24.1) rfl) ?_
      refine y0 rfl (o_assign (d := .int .i64 v24.2) rfl) ?_
      refine y_nil ?_
      refine sr (by kernel_rfl) ?_
      refine y0 rfl (o_move (d := .fn (.yield l20) []) rfl) ?_
      refine y0 rfl (o_move (d := .int .i64 v23) rfl) ?_
      refine y0 rfl (o_move (d := .int .i64 v24.1) rfl) ?_
      refine y0 rfl (o_build (cs := [.int .i64 v23, .int .i64 v24.1]) rfl Ty.p56 Ty.z56 rfl rfl rfl) ?_
      refine y_wk (wk_stP (fun l => if l = 2021 then 912512 else l) [(1000003, .ptr 2013 0 0), (1000005, .ptr 2012 0 0), (1000007, .fn (.func 45) [.rptr [.lst false (List.map hash_Place.Pv a0)]]), (0, .fn (.yield l20) []), (1, .rptr [.lst false (List.map hash_Place.Pv a0)]), (8, .lst false (List.map (PV.int .i64) v17)), (9, .int .i64 (v17.length : Int)), (10, .int .i64 s19), (20, .fn (.yield l20) []), (23, .agg [.int .i64 v23, .int .i64 v24.1])] [(2012, ⟨[.sl 2021], 0, false, 1, false⟩), (2021, ⟨List.map ephem_Pair.Pv s20, (List.map ephem_Pair.Pv s20).length, true, 2, true⟩), (2013, ⟨[.fn (.func 38) [.rptr [.int .i64 a1]]], 0, false, 1, true⟩)] ⟨rfl, rfl, rfl, rfl, rfl, rfl, rfl, rfl, rfl, rfl, rfl, rfl, rfl, rfl, rfl, rfl, rfl, rfl, rfl, rfl, rfl, rfl, rfl, rfl, rfl, rfl, rfl, rfl, rfl, rfl, trivial⟩ ⟨rowLe_open rfl rfl rfl (fun q => nomatch q) rfl rfl rfl rfl, rowLe_ren rfl rfl rfl (fun _ => rfl) rfl rfl rfl, rowLe_ren rfl rfl rfl (fun q => nomatch q) rfl rfl rfl, trivial⟩ rfl) ?_
      refine y_yield hR23 rfl rfl rfl rfl rfl rfl (fun e30 o31 o32 => ?_)
      refine sr1 (by kernel_rfl) ?_
      refine y1 rfl (o_alloc (d := .agg [.int .i64 0, .int .i64 0]) (z := 2) rfl Ty.z56 rfl rfl rfl) rfl ?_
      refine y_sto (x' := .agg [.int .i64 v23, .int .i64 v24.1]) (cl' := true) rfl rfl (.inl rfl) Ty.s56 ?_
      refine y_nil ?_
      refine ⟨rfl, ?_⟩
      obtain ⟨κ27, hκ35, h⟩ := jnE h
      refine pw_jnE (κ := κ27) (r := x21) (fun (j28 : List ephem_Pair) => St.of [(2000003, .ptr 2013 0 0), (2000005, .ptr 2012 0 0), (2000007, .fn (.func 45) [.rptr [.lst false (List.map hash_Place.Pv a0)]]), (1000000, .fn (.yield l20) []), (1000001, .rptr [.lst false (List.map hash_Place.Pv a0)]), (1000008, .lst false (List.map (PV.int .i64) v17)), (1000009, .int .i64 (v17.length : Int)), (1000010, .int .i64 s19), (1000020, .fn (.yield l20) []), (1000023, .agg [.int .i64 v23, .int .i64 v24.1])] [(2012, ⟨[.sl 15], 0, false, 1, false⟩), (15, ⟨List.map ephem_Pair.Pv j28, (List.map ephem_Pair.Pv j28).length, true, 2, true⟩), (2013, ⟨[.fn (.func 38) [.rptr [.int .i64 a1]]], 0, false, 1, true⟩)]) (fun j28 h => ?_) ?_
      · subst hκ35
        refine ⟨rfl, ?_⟩
        refine y_wk (wk_stP (fun l => if l = 2022 then 15 else l) [(1000003, .ptr 2013 0 0), (1000005, .ptr 2012 0 0), (1000007, .fn (.func 45) [.rptr [.lst false (List.map hash_Place.Pv a0)]]), (0, .fn (.yield l20) []), (1, .rptr [.lst false (List.map hash_Place.Pv a0)]), (8, .lst false (List.map (PV.int .i64) v17)), (9, .int .i64 (v17.length : Int)), (10, .int .i64 s19), (24, .bool true)] [(2012, ⟨[.sl 2022], 0, false, 1, false⟩), (2022, ⟨List.map ephem_Pair.Pv j28, (List.map ephem_Pair.Pv j28).length, true, 2, true⟩), (2013, ⟨[.fn (.func 38) [.rptr [.int .i64 a1]]], 0, false, 1, true⟩)] ⟨rfl, rfl, rfl, rfl, rfl, rfl, rfl, rfl, rfl, rfl, rfl, rfl, rfl, rfl, rfl, rfl, rfl, rfl, rfl, rfl, rfl, rfl, rfl, rfl, rfl, rfl, rfl, trivial⟩ ⟨rowLe_open rfl rfl rfl (fun q => nomatch q) rfl rfl rfl rfl, rowLe_ren rfl rfl rfl (fun _ => rfl) rfl rfl rfl, rowLe_ren rfl rfl rfl (fun q => nomatch q) rfl rfl rfl, trivial⟩ rfl) ?_
        refine y0 rfl (o_not rfl rfl) ?_
        refine y_nil ?_
        refine pw_cond false rfl (fun q => nomatch q) (fun _ => ?_)
        refine pw_skip ?_
        refine sr1 (by kernel_rfl) ?_
        refine y0 rfl (o_ari rfl rfl rfl) ?_
        refine y0 rfl (o_move (d := .int .i64 (w64 (s19 + 1))) rfl) ?_
        refine y_nil ?_
        exact ⟨rfl, (w64 (s19 + 1), j28), (Option.some.inj h).symm, (Wk.trans (wk_frz _ [2022]) (wk_stP (fun l => if l = 912512 then 2022 else l) _ _ ⟨rfl, rfl, rfl, rfl, rfl, rfl, rfl, rfl, rfl, rfl, rfl, rfl, rfl, rfl, rfl, rfl, rfl, rfl, rfl, rfl, rfl, rfl, rfl, rfl, trivial⟩ ⟨rowLe_open rfl rfl rfl (fun q => nomatch q) rfl rfl rfl rfl, rowLe_ren rfl rfl rfl (fun q => nomatch q) rfl rfl rfl, rowLe_ren rfl rfl rfl (fun _ => rfl) rfl rfl rfl, trivial⟩ rfl))⟩
      · skip
        refine pw_block ?_
        refine sr (by kernel_rfl) ?_
        refine y0 rfl (o_loadS rfl rfl rfl Ty.a73 rfl) ?_
        refine y0 rfl (o_loadA (cs := [.int .i64 v23, .int .i64 v24.1]) rfl rfl rfl Ty.a56 Ty.s56 (Nat.le_of_ble_eq_true rfl) rfl) ?_
        obtain ⟨v29, hv36, h⟩ := bindE h
        refine y0 rfl (o_call (ds := [.agg [.int .i64 v23, .int .i64 v24.1], .rptr [.int .i64 a1]]) rfl Ty.k38 rfl (ephem_Owned_1_ok hv36)) ?_
        refine y_nil ?_
        refine pw_cond v29 rfl (fun hc => ?_) (fun hc => ?_)
        · have h := ifT h hc
          refine sr1 (by kernel_rfl) ?_
          refine y0 rfl (o_loadS rfl rfl rfl Ty.a45 rfl) ?_
          refine y0 rfl (o_loadA (cs := [.int .i64 v23, .int .i64 v24.1]) rfl rfl rfl Ty.a56 Ty.s56 (Nat.le_of_ble_eq_true rfl) rfl) ?_
          refine y0 rfl (o_bI (f := ephem_Pair.Pv) (l := [(⟨v23, v24.1⟩ : ephem_Pair)]) rfl Ty.e45 Ty.s56 Ty.z56 rfl rfl (Nat.le_of_ble_eq_true rfl) rfl rfl) ?_
          obtain ⟨v30, hv37, h⟩ := bindE h
          refine y_app rfl (o_apR (f := ephem_Pair.Pv) hv37 rfl rfl rfl rfl rfl rfl (.inl ⟨_, rfl, rfl⟩) Ty.e45 Ty.s56 Ty.b56 Ty.z56 rfl (fun _ => rfl)) rfl rfl rfl ?_
          refine y_sto (x' := .sl 15) (cl' := false) rfl rfl (.inl rfl) Ty.s45 ?_
          refine y_nil ?_
          exact ⟨rfl, v30, h, (Wk.trans (wk_frz _ [15]) (wk_st _ _ ⟨rfl, rfl, rfl, rfl, rfl, rfl, rfl, rfl, rfl, rfl, rfl, rfl, rfl, rfl, rfl, rfl, rfl, rfl, rfl, rfl, rfl, rfl, rfl, rfl, rfl, rfl, rfl, rfl, rfl, rfl, trivial⟩ ⟨rowLe_open rfl rfl rfl (fun q => nomatch q) rfl rfl rfl rfl, rowLe_same rfl rfl rfl (fun _ => rfl) rfl rfl rfl, rowLe_same rfl rfl rfl (fun q => nomatch q) rfl rfl rfl, trivial⟩))⟩
        · have h := ifF h hc
          refine pw_skip ?_
          exact ⟨rfl, s20, h, (Wk.trans (wk_frz _ [2021]) (wk_stP (fun l => if l = 15 then 2021 else l) _ _ ⟨rfl, rfl, rfl, rfl, rfl, rfl, rfl, rfl, rfl, rfl, rfl, rfl, rfl, rfl, rfl, rfl, rfl, rfl, rfl, rfl, rfl, rfl, rfl, rfl, rfl, rfl, rfl, rfl, rfl, rfl, trivial⟩ ⟨rowLe_open rfl rfl rfl (fun q => nomatch q) rfl rfl rfl rfl, rowLe_ren rfl rfl rfl (fun _ => rfl) rfl rfl rfl, rowLe_ren rfl rfl rfl (fun q => nomatch q) rfl rfl rfl, trivial⟩ rfl))⟩
    · have h := ifF h hc
      refine pw_exit ?_
      refine thenQ_exit ?_
      refine thenQ_exit ?_
      refine blockQ_exit ?_
      refine .inl ⟨rfl, ?_⟩
      have he := hx27 _ (Option.some.inj h).symm
      have h := hk26
      rw [← he] at h
      exact ⟨rfl, s20, h, (Wk.trans (wk_frz _ [912512]) (wk_stP (fun l => if l = 2001 then 2012 else if l = 912501 then 912512 else l) _ _ ⟨rfl, rfl, rfl, trivial⟩ ⟨rowLe_open rfl rfl rfl (fun q => nomatch q) rfl rfl rfl rfl, rowLe_ren rfl rfl rfl (fun _ => rfl) rfl rfl rfl, trivial⟩ rfl))⟩

set_option maxHeartbeats 4000000 in
theorem ephem_Owned_ok {a0 : List hash_Place} {a1 : Int} {r : Int} (h : ephem_Owned a0 a1 = some r) : PCalls Try.prog 23 [.lst false (List.map hash_Place.Pv a0), .int .i64 a1] (.int .i64 r) := by
  unfold ephem_Owned at h
  refine pc_intro (N := 10) Try.func23 rfl rfl (Nat.le_of_ble_eq_true rfl) fun w0 imm0 => ?_
  refine sr (by kernel_rfl) ?_
  refine y1 rfl (o_box (d := .int .i64 a1) (z := 1) (cl := true) rfl rfl rfl rfl rfl) rfl ?_
  refine y0 rfl (o_assign (d := .int .i64 0) rfl) ?_
  refine y_nil ?_
  refine sr (by kernel_rfl) ?_
  refine y0 rfl (o_move (d := .lst false (List.map hash_Place.Pv a0)) rfl) ?_
  obtain ⟨v1, hv1, h⟩ := bindE h
  refine yc rfl (o_callF (ls := []) (ds := [.lst false (List.map hash_Place.Pv a0)]) rfl Ty.k35 rfl (ephem_pairs_ok hv1)) ?_
  refine y0 rfl (o_mkFunc rfl) ?_
  obtain ⟨v2, hv2, h⟩ := bindE h
  refine ycL rfl (o_callF (ls := [3]) (ds := [.fn (.func 45) [.rptr [.lst false (List.map hash_Place.Pv v1)]], .fn (.func 38) [.ptr 3 0 0]]) rfl Ty.k34 rfl (ephem_gathered_ephem_Pair__ephem_pairs_1__ephem_Owned_1_ok hv2)) rfl ?_
  refine y0 rfl (o_lnL (f := ephem_Pair.Pv) rfl Ty.e45) ?_
  refine y0 rfl (o_assign (d := .int .i64 (v2.length : Int)) rfl) ?_
  refine y_nil ?_
  refine pw_ret ?_
  obtain rfl := Option.some.inj h
  exact ⟨rfl, [_], ⟨rfl, trivial⟩, rfl, by first | exact .inl rfl | exact .inr rfl⟩

set_option maxHeartbeats 4000000 in
theorem ephem_Pairs_1_ok {a0 : ephem_Pair} {r : Bool} (h : ephem_Pairs_1 a0 = some r) : PCalls Try.prog 36 [ephem_Pair.Pv a0] (.bool r) := by
  unfold ephem_Pairs_1 at h
  refine pc_intro (N := 3) Try.func36 rfl rfl (Nat.le_of_ble_eq_true rfl) fun w0 imm0 => ?_
  refine sr (by kernel_rfl) ?_
  refine y1 rfl (o_box (d := ephem_Pair.Pv a0) (z := 2) (cl := true) rfl rfl rfl rfl rfl) rfl ?_
  refine y0 rfl (o_assign (d := .bool false) rfl) ?_
  refine y_nil ?_
  refine sr (by kernel_rfl) ?_
  refine y0 rfl (o_assign (d := .bool true) rfl) ?_
  refine y_nil ?_
  refine pw_ret ?_
  obtain rfl := Option.some.inj h
  exact ⟨rfl, [_], ⟨rfl, trivial⟩, rfl, by first | exact .inl rfl | exact .inr rfl⟩

set_option maxHeartbeats 4000000 in
theorem ephem_gathered_ephem_Pair__ephem_pairs_1__ephem_Pairs_1_ok {a0 : List hash_Place} {r : List ephem_Pair} (h : ephem_gathered_ephem_Pair__ephem_pairs_1__ephem_Pairs_1 a0 = some r) : PCalls Try.prog 34 [.fn (.func 45) [.rptr [.lst false (List.map hash_Place.Pv a0)]], .fn (.func 36) []] (.lst false (List.map ephem_Pair.Pv r)) := by
  unfold ephem_gathered_ephem_Pair__ephem_pairs_1__ephem_Pairs_1 at h
  refine pc_intro (N := 17) Try.func34 rfl rfl (Nat.le_of_ble_eq_true rfl) fun w0 imm0 => ?_
  refine sr (by kernel_rfl) ?_
  refine y1 rfl (o_box (d := .fn (.func 36) []) (z := 1) (cl := true) rfl rfl rfl rfl rfl) rfl ?_
  refine y0 rfl (o_assign (d := .lst true (List.map ephem_Pair.Pv [])) rfl) ?_
  refine y_nil ?_
  refine sr (by kernel_rfl) ?_
  refine y1 rfl (o_alloc (d := .lst true (List.map ephem_Pair.Pv [])) (z := 1) rfl Ty.z45 rfl rfl rfl) rfl ?_
  refine y_nil ?_
  obtain ⟨κ15, hκ19, h⟩ := jnE h
  refine pw_jn0 (κ := κ15) (r := r) (fun (j16 : List ephem_Pair) => St.of [(5, .ptr 2001 0 0)] [(2001, ⟨[.sl 912501], 0, false, 1, false⟩), (912501, ⟨List.map ephem_Pair.Pv j16, (List.map ephem_Pair.Pv j16).length, true, 2, true⟩)]) (fun j16 h => ?_) ?_
  · subst hκ19
    refine sr (by kernel_rfl) ?_
    refine y0 rfl (o_loadS rfl rfl rfl Ty.a45 rfl) ?_
    refine y0 rfl (o_assign (d := .sl 912501) rfl) ?_
    refine y_nil ?_
    refine pw_ret ?_
    obtain rfl := Option.some.inj h
    exact ⟨rfl, [_], ⟨rfl, trivial⟩, rfl, by first | exact .inl rfl | exact .inr rfl⟩
  · skip
    refine sr (by kernel_rfl) ?_
    refine y0 rfl (o_move (d := .fn (.func 45) [.rptr [.lst false (List.map hash_Place.Pv a0)]]) rfl) ?_
    refine y_nil ?_
    refine pw_block ?_
    refine pw_wk (wk_stP (fun l => if l = 2012 then 5 else if l = 2013 then 3 else l) [(3, .ptr 2013 0 0), (5, .ptr 2012 0 0), (7, .fn (.func 45) [.rptr [.lst false (List.map hash_Place.Pv a0)]])] [(2012, ⟨[.lst true (List.map ephem_Pair.Pv [])], 0, false, 1, true⟩), (2013, ⟨[.fn (.func 36) []], 0, false, 1, true⟩)] ⟨rfl, rfl, rfl, rfl, rfl, rfl, rfl, rfl, rfl, trivial⟩ ⟨rowLe_ren rfl rfl rfl (fun q => nomatch q) rfl rfl rfl, rowLe_ren rfl rfl rfl (fun q => nomatch q) rfl rfl rfl, trivial⟩ rfl) ?_
    refine pw_range (fn := Try.f45) (N1 := 27) rfl Try.func45 rfl rfl (Nat.le_of_ble_eq_true rfl) rfl Ty.k45 rfl rfl (fun l20 e21 o22 hR23 => ?_)
    refine sr (by kernel_rfl) ?_
    refine y0 rfl (o_loadRS rfl Ty.a22 rfl) ?_
    obtain ⟨v17, hv24, h⟩ := bindE h
    refine yc rfl (o_callF (ls := []) (ds := [.lst false (List.map hash_Place.Pv a0)]) rfl Ty.k46 rfl (hash_Keys_ok hv24)) ?_
    refine y0 rfl (o_lnL (f := (PV.int .i64)) rfl Ty.e23) ?_
    refine y0 rfl (o_move (d := .int .i64 0) rfl) ?_
    refine y_nil ?_
    refine pw_block ?_
    obtain ⟨e18, hl25, hk26⟩ := bindE h
    refine pw_lp0 (fun (q : Int × (List ephem_Pair)) => St.of [(1000003, .ptr 2013 0 0), (1000005, .ptr 2012 0 0), (1000007, .fn (.func 45) [.rptr [.lst false (List.map hash_Place.Pv a0)]]), (0, .fn (.yield l20) []), (1, .rptr [.lst false (List.map hash_Place.Pv a0)]), (8, .lst false (List.map (PV.int .i64) v17)), (9, .int .i64 (v17.length : Int)), (10, .int .i64 q.1)] [(2012, ⟨[.sl 912512], 0, false, 1, false⟩), (2013, ⟨[.fn (.func 36) []], 0, false, 1, true⟩), (912512, ⟨List.map ephem_Pair.Pv q.2, (List.map ephem_Pair.Pv q.2).length, true, 2, true⟩)]) hl25 (Wk.trans (wk_nilC (l0 := 2012) (j := 0) (l := 922512) (z := 2) rfl rfl rfl rfl rfl) (wk_stP (fun l => if l = 912512 then 922512 else l) _ _ ⟨rfl, rfl, rfl, rfl, rfl, rfl, rfl, rfl, rfl, rfl, rfl, rfl, rfl, rfl, rfl, rfl, rfl, rfl, rfl, rfl, rfl, rfl, rfl, rfl, trivial⟩ ⟨rowLe_open rfl rfl rfl (fun q => nomatch q) rfl rfl rfl rfl, rowLe_ren rfl rfl rfl (fun q => nomatch q) rfl rfl rfl, rowLe_ren rfl rfl rfl (fun _ => rfl) rfl rfl rfl, trivial⟩ rfl)) (fun q22 x21 h hx27 => ?_)
    obtain ⟨s19, s20⟩ := q22
    refine sr (by kernel_rfl) ?_
    refine y0 rfl (o_cmp rfl rfl rfl) ?_
    refine y_nil ?_
    refine pw_seq ?_
    refine pw_cond (decide (s19 < (v17.length : Int))) rfl (fun hc => ?_) (fun hc => ?_)
    · have h := ifT h hc
      refine pw_skip ?_
      refine pw_seq ?_
      refine pw_block ?_
      refine sr (by kernel_rfl) ?_
      obtain ⟨v23, hv28, h⟩ := bindE h
      refine y0 rfl (o_ixL (f := (PV.int .i64)) (cs := [.int .i64 v23]) hv28 rfl rfl Ty.e23 Ty.s3 rfl rfl) ?_
      refine y0 rfl (o_loadRS rfl Ty.a3 rfl) ?_
      refine y0 rfl (o_assign (d := .int .i64 v23) rfl) ?_
      refine y_nil ?_
      refine sr (by kernel_rfl) ?_
      refine y0 rfl (o_loadRS rfl Ty.a22 rfl) ?_
      refine y0 rfl (o_move (d := .int .i64 v23) rfl) ?_
      obtain ⟨v24, hv29, h⟩ := bindE h
      refine y0 rfl (o_call (ds := [.lst false (List.map hash_Place.Pv a0), .int .i64 v23]) rfl Ty.k28 rfl (hash_Get_ok hv29)) ?_
      refine y0 rfl (o_move (d := .tup [.int .i64 v24.1, .int .i64 v24.2]) rfl) ?_
      refine y0 rfl (o_extract rfl rfl) ?_
      refine y0 rfl (o_extract rfl rfl) ?_
      refine y0 rfl (o_assign (d := .int .i64 v24.1) rfl) ?_
      refine y0 rfl (o_assign (d := .int .i64 v24.2) rfl) ?_
      refine y_nil ?_
      refine sr (by kernel_rfl) ?_
      refine y0 rfl (o_move (d := .fn (.yield l20) []) rfl) ?_
      refine y0 rfl (o_move (d := .int .i64 v23) rfl) ?_
      refine y0 rfl (o_move (d := .int .i64 v24.1) rfl) ?_
      refine y0 rfl (o_build (cs := [.int .i64 v23, .int .i64 v24.1]) rfl Ty.p56 Ty.z56 rfl rfl rfl) ?_
      refine y_wk (wk_stP (fun l => if l = 2021 then 912512 else l) [(1000003, .ptr 2013 0 0), (1000005, .ptr 2012 0 0), (1000007, .fn (.func 45) [.rptr [.lst false (List.map hash_Place.Pv a0)]]), (0, .fn (.yield l20) []), (1, .rptr [.lst false (List.map hash_Place.Pv a0)]), (8, .lst false (List.map (PV.int .i64) v17)), (9, .int .i64 (v17.length : Int)), (10, .int .i64 s19), (20, .fn (.yield l20) []), (23, .agg [.int .i64 v23, .int .i64 v24.1])] [(2012, ⟨[.sl 2021], 0, false, 1, false⟩), (2021, ⟨List.map ephem_Pair.Pv s20, (List.map ephem_Pair.Pv s20).length, true, 2, true⟩), (2013, ⟨[.fn (.func 36) []], 0, false, 1, true⟩)] ⟨rfl, rfl, rfl, rfl, rfl, rfl, rfl, rfl, rfl, rfl, rfl, rfl, rfl, rfl, rfl, rfl, rfl, rfl, rfl, rfl, rfl, rfl, rfl, rfl, rfl, rfl, rfl, rfl, rfl, rfl, trivial⟩ ⟨rowLe_open rfl rfl rfl (fun q => nomatch q) rfl rfl rfl rfl, rowLe_ren rfl rfl rfl (fun _ => rfl) rfl rfl rfl, rowLe_ren rfl rfl rfl (fun q => nomatch q) rfl rfl rfl, trivial⟩ rfl) ?_
      refine y_yield hR23 rfl rfl rfl rfl rfl rfl (fun e30 o31 o32 => ?_)
      refine sr1 (by kernel_rfl) ?_
      refine y1 rfl (o_alloc (d := .agg [.int .i64 0, .int .i64 0]) (z := 2) rfl Ty.z56 rfl rfl rfl) rfl ?_
      refine y_sto (x' := .agg [.int .i64 v23, .int .i64 v24.1]) (cl' := true) rfl rfl (.inl rfl) Ty.s56 ?_
      refine y_nil ?_
      refine ⟨rfl, ?_⟩
      obtain ⟨κ27, hκ35, h⟩ := jnE h
      refine pw_jnE (κ := κ27) (r := x21) (fun (j28 : List ephem_Pair) => St.of [(2000003, .ptr 2013 0 0), (2000005, .ptr 2012 0 0), (2000007, .fn (.func 45) [.rptr [.lst false (List.map hash_Place.Pv a0)]]), (1000000, .fn (.yield l20) []), (1000001, .rptr [.lst false (List.map hash_Place.Pv a0)]), (1000008, .lst false (List.map (PV.int .i64) v17)), (1000009, .int .i64 (v17.length : Int)), (1000010, .int .i64 s19), (1000020, .fn (.yield l20) []), (1000023, .agg [.int .i64 v23, .int .i64 v24.1])] [(2012, ⟨[.sl 15], 0, false, 1, false⟩), (15, ⟨List.map ephem_Pair.Pv j28, (List.map ephem_Pair.Pv j28).length, true, 2, true⟩), (2013, ⟨[.fn (.func 36) []], 0, false, 1, true⟩)]) (fun j28 h => ?_) ?_
      · subst hκ35
        refine ⟨rfl, ?_⟩
        refine y_wk (wk_stP (fun l => if l = 2022 then 15 else l) [(1000003, .ptr 2013 0 0), (1000005, .ptr 2012 0 0), (1000007, .fn (.func 45) [.rptr [.lst false (List.map hash_Place.Pv a0)]]), (0, .fn (.yield l20) []), (1, .rptr [.lst false (List.map hash_Place.Pv a0)]), (8, .lst false (List.map (PV.int .i64) v17)), (9, .int .i64 (v17.length : Int)), (10, .int .i64 s19), (24, .bool true)] [(2012, ⟨[.sl 2022], 0, false, 1, false⟩), (2022, ⟨List.map ephem_Pair.Pv j28, (List.map ephem_Pair.Pv j28).length, true, 2, true⟩), (2013, ⟨[.fn (.func 36) []], 0, false, 1, true⟩)] ⟨rfl, rfl, rfl, rfl, rfl, rfl, rfl, rfl, rfl, rfl, rfl, rfl, rfl, rfl, rfl, rfl, rfl, rfl, rfl, rfl, rfl, rfl, rfl, rfl, rfl, rfl, rfl, trivial⟩ ⟨rowLe_open rfl rfl rfl (fun q => nomatch q) rfl rfl rfl rfl, rowLe_ren rfl rfl rfl (fun _ => rfl) rfl rfl rfl, rowLe_ren rfl rfl rfl (fun q => nomatch q) rfl rfl rfl, trivial⟩ rfl) ?_
        refine y0 rfl (o_not rfl rfl) ?_
        refine y_nil ?_
        refine pw_cond false rfl (fun q => nomatch q) (fun _ => ?_)
        refine pw_skip ?_
        refine sr1 (by kernel_rfl) ?_
        refine y0 rfl (o_ari rfl rfl rfl) ?_
        refine y0 rfl (o_move (d := .int .i64 (w64 (s19 + 1))) rfl) ?_
        refine y_nil ?_
        exact ⟨rfl, (w64 (s19 + 1), j28), (Option.some.inj h).symm, (Wk.trans (wk_frz _ [2022]) (wk_stP (fun l => if l = 912512 then 2022 else l) _ _ ⟨rfl, rfl, rfl, rfl, rfl, rfl, rfl, rfl, rfl, rfl, rfl, rfl, rfl, rfl, rfl, rfl, rfl, rfl, rfl, rfl, rfl, rfl, rfl, rfl, trivial⟩ ⟨rowLe_open rfl rfl rfl (fun q => nomatch q) rfl rfl rfl rfl, rowLe_ren rfl rfl rfl (fun q => nomatch q) rfl rfl rfl, rowLe_ren rfl rfl rfl (fun _ => rfl) rfl rfl rfl, trivial⟩ rfl))⟩
      · skip
        refine pw_block ?_
        refine sr (by kernel_rfl) ?_
        refine y0 rfl (o_loadS rfl rfl rfl Ty.a73 rfl) ?_
        refine y0 rfl (o_loadA (cs := [.int .i64 v23, .int .i64 v24.1]) rfl rfl rfl Ty.a56 Ty.s56 (Nat.le_of_ble_eq_true rfl) rfl) ?_
        obtain ⟨v29, hv36, h⟩ := bindE h
        refine y0 rfl (o_call (ds := [.agg [.int .i64 v23, .int .i64 v24.1]]) rfl Ty.k36 rfl (ephem_Pairs_1_ok hv36)) ?_
        refine y_nil ?_
        refine pw_cond v29 rfl (fun hc => ?_) (fun hc => ?_)
        · have h := ifT h hc
          refine sr1 (by kernel_rfl) ?_
          refine y0 rfl (o_loadS rfl rfl rfl Ty.a45 rfl) ?_
          refine y0 rfl (o_loadA (cs := [.int .i64 v23, .int .i64 v24.1]) rfl rfl rfl Ty.a56 Ty.s56 (Nat.le_of_ble_eq_true rfl) rfl) ?_
          refine y0 rfl (o_bI (f := ephem_Pair.Pv) (l := [(⟨v23, v24.1⟩ : ephem_Pair)]) rfl Ty.e45 Ty.s56 Ty.z56 rfl rfl (Nat.le_of_ble_eq_true rfl) rfl rfl) ?_
          obtain ⟨v30, hv37, h⟩ := bindE h
          refine y_app rfl (o_apR (f := ephem_Pair.Pv) hv37 rfl rfl rfl rfl rfl rfl (.inl ⟨_, rfl, rfl⟩) Ty.e45 Ty.s56 Ty.b56 Ty.z56 rfl (fun _ => rfl)) rfl rfl rfl ?_
          refine y_sto (x' := .sl 15) (cl' := false) rfl rfl (.inl rfl) Ty.s45 ?_
          refine y_nil ?_
          exact ⟨rfl, v30, h, (Wk.trans (wk_frz _ [15]) (wk_st _ _ ⟨rfl, rfl, rfl, rfl, rfl, rfl, rfl, rfl, rfl, rfl, rfl, rfl, rfl, rfl, rfl, rfl, rfl, rfl, rfl, rfl, rfl, rfl, rfl, rfl, rfl, rfl, rfl, rfl, rfl, rfl, trivial⟩ ⟨rowLe_open rfl rfl rfl (fun q => nomatch q) rfl rfl rfl rfl, rowLe_same rfl rfl rfl (fun _ => rfl) rfl rfl rfl, rowLe_same rfl rfl rfl (fun q => nomatch q) rfl rfl rfl, trivial⟩))⟩
        · have h := ifF h hc
          refine pw_skip ?_
          exact ⟨rfl, s20, h, (Wk.trans (wk_frz _ [2021]) (wk_stP (fun l => if l = 15 then 2021 else l) _ _ ⟨rfl, rfl, rfl, rfl, rfl, rfl, rfl, rfl, rfl, rfl, rfl, rfl, rfl, rfl, rfl, rfl, rfl, rfl, rfl, rfl, rfl, rfl, rfl, rfl, rfl, rfl, rfl, rfl, rfl, rfl, trivial⟩ ⟨rowLe_open rfl rfl rfl (fun q => nomatch q) rfl rfl rfl rfl, rowLe_ren rfl rfl rfl (fun _ => rfl) rfl rfl rfl, rowLe_ren rfl rfl rfl (fun q => nomatch q) rfl rfl rfl, trivial⟩ rfl))⟩
    · have h := ifF h hc
      refine pw_exit ?_
      refine thenQ_exit ?_
      refine thenQ_exit ?_
      refine blockQ_exit ?_
      refine .inl ⟨rfl, ?_⟩
      have he := hx27 _ (Option.some.inj h).symm
      have h := hk26
      rw [← he] at h
      exact ⟨rfl, s20, h, (Wk.trans (wk_frz _ [912512]) (wk_stP (fun l => if l = 2001 then 2012 else if l = 912501 then 912512 else l) _ _ ⟨rfl, rfl, rfl, trivial⟩ ⟨rowLe_open rfl rfl rfl (fun q => nomatch q) rfl rfl rfl rfl, rowLe_ren rfl rfl rfl (fun _ => rfl) rfl rfl rfl, trivial⟩ rfl))⟩

set_option maxHeartbeats 4000000 in
theorem ephem_Pairs_ok {a0 : List hash_Place} {r : List ephem_Pair} (h : ephem_Pairs a0 = some r) : PCalls Try.prog 21 [.lst false (List.map hash_Place.Pv a0)] (.lst false (List.map ephem_Pair.Pv r)) := by
  unfold ephem_Pairs at h
  refine pc_intro (N := 6) Try.func21 rfl rfl (Nat.le_of_ble_eq_true rfl) fun w0 imm0 => ?_
  refine sr (by kernel_rfl) ?_
  refine y0 rfl (o_assign (d := .lst true (List.map ephem_Pair.Pv [])) rfl) ?_
  refine y_nil ?_
  refine sr (by kernel_rfl) ?_
  refine y0 rfl (o_move (d := .lst false (List.map hash_Place.Pv a0)) rfl) ?_
  obtain ⟨v1, hv1, h⟩ := bindE h
  refine yc rfl (o_callF (ls := []) (ds := [.lst false (List.map hash_Place.Pv a0)]) rfl Ty.k35 rfl (ephem_pairs_ok hv1)) ?_
  obtain ⟨v2, hv2, h⟩ := bindE h
  refine yc rfl (o_callF (ls := []) (ds := [.fn (.func 45) [.rptr [.lst false (List.map hash_Place.Pv v1)]], .fn (.func 36) []]) rfl Ty.k34 rfl (ephem_gathered_ephem_Pair__ephem_pairs_1__ephem_Pairs_1_ok hv2)) ?_
  refine y0 rfl (o_assign (d := .lst false (List.map ephem_Pair.Pv v2)) rfl) ?_
  refine y_nil ?_
  refine pw_ret ?_
  obtain rfl := Option.some.inj h
  exact ⟨rfl, [_], ⟨rfl, trivial⟩, rfl, by first | exact .inl rfl | exact .inr rfl⟩

set_option maxHeartbeats 4000000 in
theorem w11_shown_ok  {r : Bool} (h : w11_shown = some r) : PCalls Try.prog 9 [] (.bool r) := by
  unfold w11_shown at h
  refine pc_intro (N := 98) Try.func9 rfl rfl (Nat.le_of_ble_eq_true rfl) fun w0 imm0 => ?_
  refine sr (by kernel_rfl) ?_
  refine y0 rfl (o_assign (d := .bool false) rfl) ?_
  refine y_nil ?_
  refine sr (by kernel_rfl) ?_
  obtain ⟨v1, hv1, h⟩ := bindE h
  refine yc rfl (o_callF (ls := []) (ds := [.int .i64 8]) rfl Ty.k27 rfl (hash_New_ok hv1)) ?_
  obtain ⟨v2, hv2, h⟩ := bindE h
  refine yc rfl (o_callF (ls := []) (ds := [.lst false (List.map hash_Place.Pv v1), .int .i64 1, .int .i64 9]) rfl Ty.k11 rfl (ephem_Set_ok hv2)) ?_
  refine y0 rfl (o_move (d := .tup [.lst false (List.map hash_Place.Pv v2.1), .int .i64 v2.2.1, .int .i64 v2.2.2]) rfl) ?_
  refine y0 rfl (o_extract rfl rfl) ?_
  refine y0 rfl (o_extract rfl rfl) ?_
  refine y0 rfl (o_extract rfl rfl) ?_
  refine y0 rfl (o_assign (d := .lst false (List.map hash_Place.Pv v2.1)) rfl) ?_
  refine y0 rfl (o_assign (d := .int .i64 v2.2.1) rfl) ?_
  refine y0 rfl (o_assign (d := .int .i64 v2.2.2) rfl) ?_
  refine y_nil ?_
  refine sr (by kernel_rfl) ?_
  refine y0 rfl (o_move (d := .lst false (List.map hash_Place.Pv v2.1)) rfl) ?_
  obtain ⟨v3, hv3, h⟩ := bindE h
  refine yc rfl (o_callF (ls := []) (ds := [.lst false (List.map hash_Place.Pv v2.1), .int .i64 2, .int .i64 9]) rfl Ty.k11 rfl (ephem_Set_ok hv3)) ?_
  refine y0 rfl (o_move (d := .tup [.lst false (List.map hash_Place.Pv v3.1), .int .i64 v3.2.1, .int .i64 v3.2.2]) rfl) ?_
  refine y0 rfl (o_extract rfl rfl) ?_
  refine y0 rfl (o_extract rfl rfl) ?_
  refine y0 rfl (o_extract rfl rfl) ?_
  refine y0 rfl (o_assign (d := .lst false (List.map hash_Place.Pv v3.1)) rfl) ?_
  refine y_nil ?_
  refine sr (by kernel_rfl) ?_
  refine y0 rfl (o_move (d := .lst false (List.map hash_Place.Pv v3.1)) rfl) ?_
  obtain ⟨v4, hv4, h⟩ := bindE h
  refine yc rfl (o_callF (ls := []) (ds := [.lst false (List.map hash_Place.Pv v3.1), .int .i64 1, .int .i64 0]) rfl Ty.k11 rfl (ephem_Set_ok hv4)) ?_
  refine y0 rfl (o_move (d := .tup [.lst false (List.map hash_Place.Pv v4.1), .int .i64 v4.2.1, .int .i64 v4.2.2]) rfl) ?_
  refine y0 rfl (o_extract rfl rfl) ?_
  refine y0 rfl (o_extract rfl rfl) ?_
  refine y0 rfl (o_extract rfl rfl) ?_
  refine y0 rfl (o_assign (d := .lst false (List.map hash_Place.Pv v4.1)) rfl) ?_
  refine y0 rfl (o_assign (d := .int .i64 v4.2.1) rfl) ?_
  refine y0 rfl (o_assign (d := .int .i64 v4.2.2) rfl) ?_
  refine y_nil ?_
  refine sr (by kernel_rfl) ?_
  refine y0 rfl (o_move (d := .lst false (List.map hash_Place.Pv v3.1)) rfl) ?_
  obtain ⟨v5, hv5, h⟩ := bindE h
  refine yc rfl (o_callF (ls := []) (ds := [.lst false (List.map hash_Place.Pv v3.1), .int .i64 0, .int .i64 9]) rfl Ty.k11 rfl (ephem_Set_ok hv5)) ?_
  refine y0 rfl (o_move (d := .tup [.lst false (List.map hash_Place.Pv v5.1), .int .i64 v5.2.1, .int .i64 v5.2.2]) rfl) ?_
  refine y0 rfl (o_extract rfl rfl) ?_
  refine y0 rfl (o_extract rfl rfl) ?_
  refine y0 rfl (o_extract rfl rfl) ?_
  refine y0 rfl (o_assign (d := .lst false (List.map hash_Place.Pv v5.1)) rfl) ?_
  refine y0 rfl (o_assign (d := .int .i64 v5.2.1) rfl) ?_
  refine y0 rfl (o_assign (d := .int .i64 v5.2.2) rfl) ?_
  refine y_nil ?_
  refine sr (by kernel_rfl) ?_
  refine y0 rfl (o_move (d := .lst false (List.map hash_Place.Pv v3.1)) rfl) ?_
  obtain ⟨v6, hv6, h⟩ := bindE h
  refine y0 rfl (o_call (ds := [.lst false (List.map hash_Place.Pv v3.1), .int .i64 2]) rfl Ty.k13 rfl (ephem_Get_ok hv6)) ?_
  refine y0 rfl (o_move (d := .tup [.int .i64 v6.1, .int .i64 v6.2]) rfl) ?_
  refine y0 rfl (o_extract rfl rfl) ?_
  refine y0 rfl (o_extract rfl rfl) ?_
  refine y0 rfl (o_assign (d := .int .i64 v6.1) rfl) ?_
  refine y0 rfl (o_assign (d := .int .i64 v6.2) rfl) ?_
  refine y_nil ?_
  refine sr (by kernel_rfl) ?_
  refine y0 rfl (o_move (d := .lst false (List.map hash_Place.Pv v3.1)) rfl) ?_
  refine y0 rfl (o_bI (f := (PV.int .i64)) (l := [2, 3, 1]) rfl Ty.e23 Ty.s3 Ty.z3 rfl rfl (Nat.le_of_ble_eq_true rfl) rfl rfl) ?_
  obtain ⟨v7, hv7, h⟩ := bindE h
  refine yc rfl (o_callF (ls := []) (ds := [.lst false (List.map hash_Place.Pv v3.1), .lst true (List.map (PV.int .i64) [2, 3, 1])]) rfl Ty.k15 rfl (ephem_Without_ok hv7)) ?_
  refine y0 rfl (o_move (d := .tup [.lst false (List.map hash_Place.Pv v7.1), .lst false (List.map (PV.int .i64) v7.2)]) rfl) ?_
  refine y0 rfl (o_extract rfl rfl) ?_
  refine y0 rfl (o_extract rfl rfl) ?_
  refine y0 rfl (o_assign (d := .lst false (List.map hash_Place.Pv v7.1)) rfl) ?_
  refine y0 rfl (o_assign (d := .lst false (List.map (PV.int .i64) v7.2)) rfl) ?_
  refine y_nil ?_
  refine sr (by kernel_rfl) ?_
  refine y0 rfl (o_move (d := .int .i64 v2.2.1) rfl) ?_
  refine y0 rfl (o_cmp rfl rfl rfl) ?_
  refine y0 rfl (o_move (d := .bool (v2.2.1 == 0)) rfl) ?_
  refine y_if (g := ((v2.2.1 == 0) == true)) rfl (fun hg => o_move (d := .int .i64 v2.2.2) rfl) ?_
  refine y_if (g := ((v2.2.1 == 0) == true)) rfl (fun hg => o_cmp (ct hg) rfl rfl) ?_
  refine y0 rfl (pk_and rfl rfl rfl (fun q => eqT q)) ?_
  refine y0 rfl (o_move (d := .bool ((v2.2.1 == 0) && (v2.2.2 == 0))) rfl) ?_
  refine y_if (g := (((v2.2.1 == 0) && (v2.2.2 == 0)) == true)) rfl (fun hg => o_move (d := .int .i64 v4.2.1) rfl) ?_
  refine y_if (g := (((v2.2.1 == 0) && (v2.2.2 == 0)) == true)) rfl (fun hg => o_cmp (ct hg) rfl rfl) ?_
  refine y0 rfl (pk_and rfl rfl rfl (fun q => eqT q)) ?_
  refine y0 rfl (o_move (d := .bool (((v2.2.1 == 0) && (v2.2.2 == 0)) && (v4.2.1 == 9))) rfl) ?_
  refine y_if (g := ((((v2.2.1 == 0) && (v2.2.2 == 0)) && (v4.2.1 == 9)) == true)) rfl (fun hg => o_move (d := .int .i64 v5.2.2) rfl) ?_
  refine y_if (g := ((((v2.2.1 == 0) && (v2.2.2 == 0)) && (v4.2.1 == 9)) == true)) rfl (fun hg => o_cmp (ct hg) rfl rfl) ?_
  refine y0 rfl (pk_and rfl rfl rfl (fun q => eqT q)) ?_
  refine y0 rfl (o_move (d := .bool ((((v2.2.1 == 0) && (v2.2.2 == 0)) && (v4.2.1 == 9)) && (v5.2.2 == 2))) rfl) ?_
  refine y_if (g := (((((v2.2.1 == 0) && (v2.2.2 == 0)) && (v4.2.1 == 9)) && (v5.2.2 == 2)) == true)) rfl (fun hg => o_move (d := .int .i64 v6.1) rfl) ?_
  refine y_if (g := (((((v2.2.1 == 0) && (v2.2.2 == 0)) && (v4.2.1 == 9)) && (v5.2.2 == 2)) == true)) rfl (fun hg => o_cmp (ct hg) rfl rfl) ?_
  refine y0 rfl (pk_and rfl rfl rfl (fun q => eqT q)) ?_
  refine y0 rfl (o_move (d := .bool (((((v2.2.1 == 0) && (v2.2.2 == 0)) && (v4.2.1 == 9)) && (v5.2.2 == 2)) && (v6.1 == 9))) rfl) ?_
  refine y_if (g := ((((((v2.2.1 == 0) && (v2.2.2 == 0)) && (v4.2.1 == 9)) && (v5.2.2 == 2)) && (v6.1 == 9)) == true)) rfl (fun hg => o_move (d := .int .i64 v6.2) rfl) ?_
  refine y_if (g := ((((((v2.2.1 == 0) && (v2.2.2 == 0)) && (v4.2.1 == 9)) && (v5.2.2 == 2)) && (v6.1 == 9)) == true)) rfl (fun hg => o_cmp (ct hg) rfl rfl) ?_
  refine y0 rfl (pk_and rfl rfl rfl (fun q => eqT q)) ?_
  refine y0 rfl (o_move (d := .bool ((((((v2.2.1 == 0) && (v2.2.2 == 0)) && (v4.2.1 == 9)) && (v5.2.2 == 2)) && (v6.1 == 9)) && (v6.2 == 0))) rfl) ?_
  refine y_if (g := (((((((v2.2.1 == 0) && (v2.2.2 == 0)) && (v4.2.1 == 9)) && (v5.2.2 == 2)) && (v6.1 == 9)) && (v6.2 == 0)) == true)) rfl (fun hg => o_move (d := .lst false (List.map hash_Place.Pv v3.1)) rfl) ?_
  obtain ⟨v8, hv8, h⟩ := bindE h
  refine y_if (g := (((((((v2.2.1 == 0) && (v2.2.2 == 0)) && (v4.2.1 == 9)) && (v5.2.2 == 2)) && (v6.1 == 9)) && (v6.2 == 0)) == true)) rfl (fun hg => o_call (ds := [.lst false (List.map hash_Place.Pv v3.1), .int .i64 9]) rfl Ty.k23 (consE (ct hg) (consE rfl rfl)) (ephem_Owned_ok (onlyE hv8 hg))) ?_
  refine y_if (g := (((((((v2.2.1 == 0) && (v2.2.2 == 0)) && (v4.2.1 == 9)) && (v5.2.2 == 2)) && (v6.1 == 9)) && (v6.2 == 0)) == true)) rfl (fun hg => o_cmp (ct hg) rfl rfl) ?_
  refine y0 rfl (pk_and rfl rfl rfl (fun q => eqT q)) ?_
  refine y0 rfl (o_move (d := .bool (((((((v2.2.1 == 0) && (v2.2.2 == 0)) && (v4.2.1 == 9)) && (v5.2.2 == 2)) && (v6.1 == 9)) && (v6.2 == 0)) && (v8 == 2))) rfl) ?_
  refine y_if (g := ((((((((v2.2.1 == 0) && (v2.2.2 == 0)) && (v4.2.1 == 9)) && (v5.2.2 == 2)) && (v6.1 == 9)) && (v6.2 == 0)) && (v8 == 2)) == true)) rfl (fun hg => o_move (d := .lst false (List.map hash_Place.Pv v4.1)) rfl) ?_
  obtain ⟨v9, hv9, h⟩ := bindE h
  refine y_if (g := ((((((((v2.2.1 == 0) && (v2.2.2 == 0)) && (v4.2.1 == 9)) && (v5.2.2 == 2)) && (v6.1 == 9)) && (v6.2 == 0)) && (v8 == 2)) == true)) rfl (fun hg => o_call (ds := [.lst false (List.map hash_Place.Pv v4.1), .int .i64 9]) rfl Ty.k23 (consE (ct hg) (consE rfl rfl)) (ephem_Owned_ok (onlyE hv9 hg))) ?_
  refine y_if (g := ((((((((v2.2.1 == 0) && (v2.2.2 == 0)) && (v4.2.1 == 9)) && (v5.2.2 == 2)) && (v6.1 == 9)) && (v6.2 == 0)) && (v8 == 2)) == true)) rfl (fun hg => o_cmp (ct hg) rfl rfl) ?_
  refine y0 rfl (pk_and rfl rfl rfl (fun q => eqT q)) ?_
  refine y0 rfl (o_move (d := .bool ((((((((v2.2.1 == 0) && (v2.2.2 == 0)) && (v4.2.1 == 9)) && (v5.2.2 == 2)) && (v6.1 == 9)) && (v6.2 == 0)) && (v8 == 2)) && (v9 == 1))) rfl) ?_
  refine y_if (g := (((((((((v2.2.1 == 0) && (v2.2.2 == 0)) && (v4.2.1 == 9)) && (v5.2.2 == 2)) && (v6.1 == 9)) && (v6.2 == 0)) && (v8 == 2)) && (v9 == 1)) == true)) rfl (fun hg => o_move (d := .lst false (List.map hash_Place.Pv v3.1)) rfl) ?_
  obtain ⟨v10, hv10, h⟩ := bindE h
  refine y_ifc (g := (((((((((v2.2.1 == 0) && (v2.2.2 == 0)) && (v4.2.1 == 9)) && (v5.2.2 == 2)) && (v6.1 == 9)) && (v6.2 == 0)) && (v8 == 2)) && (v9 == 1)) == true)) rfl (fun hg => o_callF (ls := []) (ds := [.lst false (List.map hash_Place.Pv v3.1)]) rfl Ty.k21 (consE (ct hg) rfl) (ephem_Pairs_ok (onlyE hv10 hg))) ?_
  refine y_if (g := (((((((((v2.2.1 == 0) && (v2.2.2 == 0)) && (v4.2.1 == 9)) && (v5.2.2 == 2)) && (v6.1 == 9)) && (v6.2 == 0)) && (v8 == 2)) && (v9 == 1)) == true)) rfl (fun hg => o_lnL (f := ephem_Pair.Pv) (ct hg) Ty.e45) ?_
  refine y_if (g := (((((((((v2.2.1 == 0) && (v2.2.2 == 0)) && (v4.2.1 == 9)) && (v5.2.2 == 2)) && (v6.1 == 9)) && (v6.2 == 0)) && (v8 == 2)) && (v9 == 1)) == true)) rfl (fun hg => o_cmp (ct hg) rfl rfl) ?_
  refine y0 rfl (pk_and rfl rfl rfl (fun q => eqT q)) ?_
  refine y0 rfl (o_move (d := .bool (((((((((v2.2.1 == 0) && (v2.2.2 == 0)) && (v4.2.1 == 9)) && (v5.2.2 == 2)) && (v6.1 == 9)) && (v6.2 == 0)) && (v8 == 2)) && (v9 == 1)) && ((v10.length : Int) == 2))) rfl) ?_
  refine y_if (g := ((((((((((v2.2.1 == 0) && (v2.2.2 == 0)) && (v4.2.1 == 9)) && (v5.2.2 == 2)) && (v6.1 == 9)) && (v6.2 == 0)) && (v8 == 2)) && (v9 == 1)) && ((v10.length : Int) == 2)) == true)) rfl (fun hg => o_move (d := .lst false (List.map hash_Place.Pv v7.1)) rfl) ?_
  obtain ⟨v11, hv11, h⟩ := bindE h
  refine y_ifc (g := ((((((((((v2.2.1 == 0) && (v2.2.2 == 0)) && (v4.2.1 == 9)) && (v5.2.2 == 2)) && (v6.1 == 9)) && (v6.2 == 0)) && (v8 == 2)) && (v9 == 1)) && ((v10.length : Int) == 2)) == true)) rfl (fun hg => o_callF (ls := []) (ds := [.lst false (List.map hash_Place.Pv v7.1)]) rfl Ty.k21 (consE (ct hg) rfl) (ephem_Pairs_ok (onlyE hv11 hg))) ?_
  refine y_if (g := ((((((((((v2.2.1 == 0) && (v2.2.2 == 0)) && (v4.2.1 == 9)) && (v5.2.2 == 2)) && (v6.1 == 9)) && (v6.2 == 0)) && (v8 == 2)) && (v9 == 1)) && ((v10.length : Int) == 2)) == true)) rfl (fun hg => o_lnL (f := ephem_Pair.Pv) (ct hg) Ty.e45) ?_
  refine y_if (g := ((((((((((v2.2.1 == 0) && (v2.2.2 == 0)) && (v4.2.1 == 9)) && (v5.2.2 == 2)) && (v6.1 == 9)) && (v6.2 == 0)) && (v8 == 2)) && (v9 == 1)) && ((v10.length : Int) == 2)) == true)) rfl (fun hg => o_cmp (ct hg) rfl rfl) ?_
  refine y0 rfl (pk_and rfl rfl rfl (fun q => eqT q)) ?_
  refine y0 rfl (o_move (d := .bool ((((((((((v2.2.1 == 0) && (v2.2.2 == 0)) && (v4.2.1 == 9)) && (v5.2.2 == 2)) && (v6.1 == 9)) && (v6.2 == 0)) && (v8 == 2)) && (v9 == 1)) && ((v10.length : Int) == 2)) && ((v11.length : Int) == 0))) rfl) ?_
  refine y_if (g := (((((((((((v2.2.1 == 0) && (v2.2.2 == 0)) && (v4.2.1 == 9)) && (v5.2.2 == 2)) && (v6.1 == 9)) && (v6.2 == 0)) && (v8 == 2)) && (v9 == 1)) && ((v10.length : Int) == 2)) && ((v11.length : Int) == 0)) == true)) rfl (fun hg => o_move (d := .lst false (List.map (PV.int .i64) v7.2)) rfl) ?_
  refine y_if (g := (((((((((((v2.2.1 == 0) && (v2.2.2 == 0)) && (v4.2.1 == 9)) && (v5.2.2 == 2)) && (v6.1 == 9)) && (v6.2 == 0)) && (v8 == 2)) && (v9 == 1)) && ((v10.length : Int) == 2)) && ((v11.length : Int) == 0)) == true)) rfl (fun hg => o_lnL (f := (PV.int .i64)) (ct hg) Ty.e23) ?_
  refine y_if (g := (((((((((((v2.2.1 == 0) && (v2.2.2 == 0)) && (v4.2.1 == 9)) && (v5.2.2 == 2)) && (v6.1 == 9)) && (v6.2 == 0)) && (v8 == 2)) && (v9 == 1)) && ((v10.length : Int) == 2)) && ((v11.length : Int) == 0)) == true)) rfl (fun hg => o_cmp (ct hg) rfl rfl) ?_
  refine y0 rfl (pk_and rfl rfl rfl (fun q => eqT q)) ?_
  refine y0 rfl (o_assign (d := .bool (((((((((((v2.2.1 == 0) && (v2.2.2 == 0)) && (v4.2.1 == 9)) && (v5.2.2 == 2)) && (v6.1 == 9)) && (v6.2 == 0)) && (v8 == 2)) && (v9 == 1)) && ((v10.length : Int) == 2)) && ((v11.length : Int) == 0)) && ((v7.2.length : Int) == 2))) rfl) ?_
  refine y_nil ?_
  refine pw_ret ?_
  obtain rfl := Option.some.inj h
  exact ⟨rfl, [_], ⟨rfl, trivial⟩, rfl, by first | exact .inl rfl | exact .inr rfl⟩

set_option maxHeartbeats 4000000 in
theorem r10_Get_ok {a0 : List r10_Place} {a1 : Int} {r : Int × Int} (h : r10_Get a0 a1 = some r) : PCalls Try.prog 31 [.lst false (List.map r10_Place.Pv a0), .int .i64 a1] (.tup [.int .i64 r.1, .int .i64 r.2]) := by
  unfold r10_Get at h
  refine pc_intro (N := 17) Try.func31 rfl rfl (Nat.le_of_ble_eq_true rfl) fun w0 imm0 => ?_
  refine sr (by kernel_rfl) ?_
  refine y0 rfl (o_assign (d := .int .i64 0) rfl) ?_
  refine y0 rfl (o_assign (d := .int .i64 0) rfl) ?_
  refine y_nil ?_
  refine sr (by kernel_rfl) ?_
  refine y0 rfl (o_move (d := .lst false (List.map r10_Place.Pv a0)) rfl) ?_
  refine y0 rfl (o_move (d := .int .i64 a1) rfl) ?_
  obtain ⟨v1, hv1, h⟩ := bindE h
  refine y0 rfl (o_call (ds := [.lst false (List.map r10_Place.Pv a0), .int .i64 a1]) rfl Ty.k39 rfl (r10_Find_ok hv1)) ?_
  refine y0 rfl (o_assign (d := .int .i64 v1) rfl) ?_
  refine y_nil ?_
  refine pw_seq ?_
  refine sr (by kernel_rfl) ?_
  refine y0 rfl (o_move (d := .int .i64 v1) rfl) ?_
  refine y0 rfl (o_cmp rfl rfl rfl) ?_
  refine y_nil ?_
  refine pw_cond (decide (v1 < 0)) rfl (fun hc => ?_) (fun hc => ?_)
  · have h := ifT h hc
    refine sr (by kernel_rfl) ?_
    refine y0 rfl (o_assign (d := .int .i64 0) rfl) ?_
    refine y0 rfl (o_assign (d := .int .i64 9) rfl) ?_
    refine y_nil ?_
    refine pw_ret ?_
    obtain rfl := Option.some.inj h
    exact ⟨rfl, [_, _], ⟨rfl, ⟨rfl, trivial⟩⟩, rfl, by first | exact .inl rfl | exact .inr rfl⟩
  · have h := ifF h hc
    refine pw_skip ?_
    refine sr (by kernel_rfl) ?_
    refine y0 rfl (o_move (d := .lst false (List.map r10_Place.Pv a0)) rfl) ?_
    refine y0 rfl (o_move (d := .int .i64 v1) rfl) ?_
    obtain ⟨v2, hv2, h⟩ := bindE h
    refine y0 rfl (o_ixL (f := r10_Place.Pv) (cs := r10_Place.Pc v2) hv2 rfl rfl Ty.e26 Ty.s61 rfl rfl) ?_
    refine y0 rfl (o_fieldAddrR rfl Ty.f61_2 rfl) ?_
    refine y0 rfl (o_loadRS rfl Ty.a3 rfl) ?_
    refine y0 rfl (o_assign (d := .int .i64 v2.Val) rfl) ?_
    refine y0 rfl (o_assign (d := .int .i64 0) rfl) ?_
    refine y_nil ?_
    refine pw_ret ?_
    obtain rfl := Option.some.inj h
    exact ⟨rfl, [_, _], ⟨rfl, ⟨rfl, trivial⟩⟩, rfl, by first | exact .inl rfl | exact .inr rfl⟩

set_option maxHeartbeats 4000000 in
theorem r10_with_ok {a0 : List r10_Place} {a1 : Int} {a2 : r10_Place} {r : List r10_Place} (h : r10_with a0 a1 a2 = some r) : PCalls Try.prog 44 [.lst false (List.map r10_Place.Pv a0), .int .i64 a1, r10_Place.Pv a2] (.lst false (List.map r10_Place.Pv r)) := by
  unfold r10_with at h
  refine pc_intro (N := 16) Try.func44 rfl rfl (Nat.le_of_ble_eq_true rfl) fun w0 imm0 => ?_
  refine sr (by kernel_rfl) ?_
  refine y1 rfl (o_box (d := r10_Place.Pv a2) (z := 3) (cl := true) rfl rfl rfl rfl rfl) rfl ?_
  refine y0 rfl (o_assign (d := .lst true (List.map r10_Place.Pv [])) rfl) ?_
  refine y_nil ?_
  refine sr (by kernel_rfl) ?_
  refine y0 rfl (o_nslice rfl Ty.e26 Ty.s61) ?_
  refine y0 rfl (o_move (d := .lst false (List.map r10_Place.Pv a0)) rfl) ?_
  obtain ⟨v1, hv1, h⟩ := bindE h
  refine y1 rfl (o_apT (f := r10_Place.Pv) hv1 rfl rfl (.inl ⟨_, rfl, rfl⟩) Ty.e26 Ty.s61 Ty.b61 Ty.z61 rfl (fun _ => rfl)) rfl ?_
  refine y0 rfl (o_assign (d := .sl 10) rfl) ?_
  refine y_nil ?_
  refine sr (by kernel_rfl) ?_
  refine y0 rfl (o_move (d := .sl 10) rfl) ?_
  refine y0 rfl (o_move (d := .int .i64 a1) rfl) ?_
  refine y0 rfl (o_loadA (cs := r10_Place.Pc a2) rfl rfl rfl Ty.a61 Ty.s61 (Nat.le_of_ble_eq_true rfl) rfl) ?_
  obtain ⟨v2, hv2, h⟩ := bindE h
  refine y0 rfl (o_ixR (f := r10_Place.Pv) hv2 rfl rfl rfl rfl Ty.e26 Ty.s61 rfl) ?_
  refine y_stE (f := r10_Place.Pv) (v := a2) hv2 rfl rfl (.inl rfl) Ty.s61 ?_
  refine y_nil ?_
  refine sr (by kernel_rfl) ?_
  refine y0 rfl (o_move (d := .sl 10) rfl) ?_
  refine y0 rfl (o_assign (d := .sl 10) rfl) ?_
  refine y_nil ?_
  refine pw_ret ?_
  obtain rfl := Option.some.inj h
  exact ⟨rfl, [_], ⟨rfl, trivial⟩, rfl, by first | exact .inl rfl | exact .inr rfl⟩

set_option maxHeartbeats 4000000 in
theorem r10_Drop_ok {a0 : List r10_Place} {a1 : Int} {r : (List r10_Place) × Int × Int} (h : r10_Drop a0 a1 = some r) : PCalls Try.prog 32 [.lst false (List.map r10_Place.Pv a0), .int .i64 a1] (.tup [.lst false (List.map r10_Place.Pv r.1), .int .i64 r.2.1, .int .i64 r.2.2]) := by
  unfold r10_Drop at h
  refine pc_intro (N := 23) Try.func32 rfl rfl (Nat.le_of_ble_eq_true rfl) fun w0 imm0 => ?_
  refine sr (by kernel_rfl) ?_
  refine y0 rfl (o_assign (d := .lst true (List.map r10_Place.Pv [])) rfl) ?_
  refine y0 rfl (o_assign (d := .int .i64 0) rfl) ?_
  refine y0 rfl (o_assign (d := .int .i64 0) rfl) ?_
  refine y_nil ?_
  refine sr (by kernel_rfl) ?_
  refine y0 rfl (o_move (d := .lst false (List.map r10_Place.Pv a0)) rfl) ?_
  refine y0 rfl (o_move (d := .int .i64 a1) rfl) ?_
  obtain ⟨v1, hv1, h⟩ := bindE h
  refine y0 rfl (o_call (ds := [.lst false (List.map r10_Place.Pv a0), .int .i64 a1]) rfl Ty.k39 rfl (r10_Find_ok hv1)) ?_
  refine y0 rfl (o_assign (d := .int .i64 v1) rfl) ?_
  refine y_nil ?_
  refine pw_seq ?_
  refine sr (by kernel_rfl) ?_
  refine y0 rfl (o_move (d := .int .i64 v1) rfl) ?_
  refine y0 rfl (o_cmp rfl rfl rfl) ?_
  refine y_nil ?_
  refine pw_cond (decide (v1 < 0)) rfl (fun hc => ?_) (fun hc => ?_)
  · have h := ifT h hc
    refine sr (by kernel_rfl) ?_
    refine y0 rfl (o_move (d := .lst false (List.map r10_Place.Pv a0)) rfl) ?_
    refine y0 rfl (o_assign (d := .lst false (List.map r10_Place.Pv a0)) rfl) ?_
    refine y0 rfl (o_assign (d := .int .i64 0) rfl) ?_
    refine y0 rfl (o_assign (d := .int .i64 9) rfl) ?_
    refine y_nil ?_
    refine pw_ret ?_
    obtain rfl := Option.some.inj h
    exact ⟨rfl, [_, _, _], ⟨rfl, ⟨rfl, ⟨rfl, trivial⟩⟩⟩, rfl, by first | exact .inl rfl | exact .inr rfl⟩
  · have h := ifF h hc
    refine pw_skip ?_
    refine dr [] Ty.mix (by kernel_rfl) (by kernel_rfl) ?_
    refine d7 rfl (fun _ hN => o_move (d := .lst false (List.map r10_Place.Pv a0)) rfl) rfl ?_
    refine d7 rfl (fun _ hN => o_move (d := .int .i64 v1) rfl) rfl ?_
    refine d7 rfl (fun _ hN => o_build (cs := [.int .i64 2, .int .i64 0, .int .i64 0]) rfl Ty.p61 Ty.z61 rfl rfl rfl) rfl ?_
    obtain ⟨v2, hv2, h⟩ := bindE h
    refine d2f rfl (o_callF (ls := []) (ds := [.lst false (List.map r10_Place.Pv a0), .int .i64 v1, .agg [.int .i64 2, .int .i64 0, .int .i64 0]]) rfl Ty.k44 rfl (r10_with_ok hv2)) rfl ?_
    refine d7 rfl (fun _ hN => o_move (d := .lst false (List.map r10_Place.Pv a0)) rfl) rfl ?_
    refine d7 rfl (fun _ hN => o_move (d := .int .i64 v1) rfl) rfl ?_
    obtain ⟨v3, hv3, h⟩ := bindE h
    refine d0 rfl (o_ixL (f := r10_Place.Pv) (cs := r10_Place.Pc v3) hv3 rfl rfl Ty.e26 Ty.s61 rfl rfl) rfl ?_
    refine d7 rfl (fun _ hN => o_fieldAddrR rfl Ty.f61_2 rfl) rfl ?_
    refine d0 rfl (o_loadRS rfl Ty.a3 rfl) rfl ?_
    refine d7 rfl (fun _ hN => o_assign (d := .lst false (List.map r10_Place.Pv v2)) rfl) rfl ?_
    refine d7 rfl (fun _ hN => o_assign (d := .int .i64 v3.Val) rfl) rfl ?_
    refine d7 rfl (fun _ hN => o_assign (d := .int .i64 0) rfl) rfl ?_
    refine d_nil ?_
    refine pw_ret ?_
    obtain rfl := Option.some.inj h
    exact ⟨rfl, [_, _, _], ⟨rfl, ⟨rfl, ⟨rfl, trivial⟩⟩⟩, rfl, by first | exact .inl rfl | exact .inr rfl⟩

set_option maxHeartbeats 4000000 in
theorem r10_Put_ok {a0 : List r10_Place} {a1 : Int} {a2 : Int} {r : (List r10_Place) × Int} (h : r10_Put a0 a1 a2 = some r) : PCalls Try.prog 33 [.lst false (List.map r10_Place.Pv a0), .int .i64 a1, .int .i64 a2] (.tup [.lst false (List.map r10_Place.Pv r.1), .int .i64 r.2]) := by
  unfold r10_Put at h
  refine pc_intro (N := 50) Try.func33 rfl rfl (Nat.le_of_ble_eq_true rfl) fun w0 imm0 => ?_
  refine sr (by kernel_rfl) ?_
  refine y0 rfl (o_assign (d := .lst true (List.map r10_Place.Pv [])) rfl) ?_
  refine y0 rfl (o_assign (d := .int .i64 0) rfl) ?_
  refine y_nil ?_
  refine sr (by kernel_rfl) ?_
  refine y0 rfl (o_move (d := .lst false (List.map r10_Place.Pv a0)) rfl) ?_
  refine y0 rfl (o_move (d := .int .i64 a1) rfl) ?_
  obtain ⟨v1, hv1, h⟩ := bindE h
  refine y0 rfl (o_call (ds := [.lst false (List.map r10_Place.Pv a0), .int .i64 a1]) rfl Ty.k39 rfl (r10_Find_ok hv1)) ?_
  refine y0 rfl (o_assign (d := .int .i64 v1) rfl) ?_
  refine y_nil ?_
  refine pw_seq ?_
  refine sr (by kernel_rfl) ?_
  refine y0 rfl (o_move (d := .int .i64 v1) rfl) ?_
  refine y0 rfl (o_cmp rfl rfl rfl) ?_
  refine y_nil ?_
  refine pw_cond (decide (v1 ≥ 0)) rfl (fun hc => ?_) (fun hc => ?_)
  · have h := ifT h hc
    refine sr (by kernel_rfl) ?_
    refine y0 rfl (o_move (d := .lst false (List.map r10_Place.Pv a0)) rfl) ?_
    refine y0 rfl (o_move (d := .int .i64 v1) rfl) ?_
    refine y0 rfl (o_move (d := .int .i64 a1) rfl) ?_
    refine y0 rfl (o_move (d := .int .i64 a2) rfl) ?_
    refine y0 rfl (o_build (cs := [.int .i64 1, .int .i64 a1, .int .i64 a2]) rfl Ty.p61 Ty.z61 rfl rfl rfl) ?_
    obtain ⟨v2, hv2, h⟩ := bindE h
    refine yc rfl (o_callF (ls := []) (ds := [.lst false (List.map r10_Place.Pv a0), .int .i64 v1, .agg [.int .i64 1, .int .i64 a1, .int .i64 a2]]) rfl Ty.k44 rfl (r10_with_ok hv2)) ?_
    refine y0 rfl (o_assign (d := .lst false (List.map r10_Place.Pv v2)) rfl) ?_
    refine y0 rfl (o_assign (d := .int .i64 0) rfl) ?_
    refine y_nil ?_
    refine pw_ret ?_
    obtain rfl := Option.some.inj h
    exact ⟨rfl, [_, _], ⟨rfl, ⟨rfl, trivial⟩⟩, rfl, by first | exact .inl rfl | exact .inr rfl⟩
  · have h := ifF h hc
    refine pw_skip ?_
    refine sr (by kernel_rfl) ?_
    refine y0 rfl (o_move (d := .lst false (List.map r10_Place.Pv a0)) rfl) ?_
    refine y0 rfl (o_lnL (f := r10_Place.Pv) rfl Ty.e26) ?_
    refine y0 rfl (o_assign (d := .int .i64 (a0.length : Int)) rfl) ?_
    refine y_nil ?_
    refine sr (by kernel_rfl) ?_
    refine y0 rfl (o_move (d := .int .i64 (a0.length : Int)) rfl) ?_
    refine y0 rfl (o_move (d := .int .i64 a1) rfl) ?_
    obtain ⟨v3, hv3, h⟩ := bindE h
    refine y0 rfl (o_call (ds := [.int .i64 (a0.length : Int), .int .i64 a1]) rfl Ty.k40 rfl (r10_Home_ok hv3)) ?_
    refine y0 rfl (o_assign (d := .int .i64 v3) rfl) ?_
    refine y_nil ?_
    obtain ⟨κ12, hκ10, h⟩ := jnE h
    refine pw_jn0 (κ := κ12) (r := r) (fun (_ : Unit) => St.of [(0, .lst false (List.map r10_Place.Pv a0))] []) (fun q13 h => ?_) ?_
    · subst hκ10
      refine sr (by kernel_rfl) ?_
      refine y0 rfl (o_move (d := .lst false (List.map r10_Place.Pv a0)) rfl) ?_
      refine y0 rfl (o_assign (d := .lst false (List.map r10_Place.Pv a0)) rfl) ?_
      refine y0 rfl (o_assign (d := .int .i64 8) rfl) ?_
      refine y_nil ?_
      refine pw_ret ?_
      obtain rfl := Option.some.inj h
      exact ⟨rfl, [_, _], ⟨rfl, ⟨rfl, trivial⟩⟩, rfl, by first | exact .inl rfl | exact .inr rfl⟩
    · skip
      refine sr (by kernel_rfl) ?_
      refine y0 rfl (o_assign (d := .int .i64 0) rfl) ?_
      refine y_nil ?_
      refine pw_block ?_
      obtain ⟨e14, hl11, hk12⟩ := bindE h
      refine pw_lp0 (fun (q : Int × Int) => St.of [(0, .lst false (List.map r10_Place.Pv a0)), (1, .int .i64 a1), (2, .int .i64 a2), (9, .int .i64 (a0.length : Int)), (10, .int .i64 q.1), (11, .int .i64 q.2)] []) hl11 (wk_st _ _ ⟨rfl, rfl, rfl, rfl, rfl, rfl, rfl, rfl, rfl, rfl, rfl, rfl, rfl, rfl, rfl, rfl, rfl, rfl, trivial⟩ trivial) (fun q18 x17 h hx13 => ?_)
      obtain ⟨s15, s16⟩ := q18
      refine pw_seq ?_
      refine sr (by kernel_rfl) ?_
      refine y0 rfl (o_move (d := .int .i64 s16) rfl) ?_
      refine y0 rfl (o_move (d := .int .i64 (a0.length : Int)) rfl) ?_
      refine y0 rfl (o_cmp rfl rfl rfl) ?_
      refine y_nil ?_
      refine pw_cond (decide (s16 < (a0.length : Int))) rfl (fun hc => ?_) (fun hc => ?_)
      · have h := ifT h hc
        refine pw_skip ?_
        refine pw_seq ?_
        refine pw_block ?_
        refine pw_seq ?_
        refine sr (by kernel_rfl) ?_
        refine y0 rfl (o_move (d := .lst false (List.map r10_Place.Pv a0)) rfl) ?_
        refine y0 rfl (o_move (d := .int .i64 s15) rfl) ?_
        obtain ⟨v19, hv14, h⟩ := bindE h
        refine y0 rfl (o_ixL (f := r10_Place.Pv) (cs := r10_Place.Pc v19) hv14 rfl rfl Ty.e26 Ty.s61 rfl rfl) ?_
        refine y0 rfl (o_fieldAddrR rfl Ty.f61_0 rfl) ?_
        refine y0 rfl (o_loadRS rfl Ty.a3 rfl) ?_
        refine y0 rfl (o_cmp rfl rfl rfl) ?_
        refine y_nil ?_
        refine pw_cond (v19.State != 1) rfl (fun hc => ?_) (fun hc => ?_)
        · have h := ifT h hc
          refine sr (by kernel_rfl) ?_
          refine y0 rfl (o_move (d := .lst false (List.map r10_Place.Pv a0)) rfl) ?_
          refine y0 rfl (o_move (d := .int .i64 s15) rfl) ?_
          refine y0 rfl (o_move (d := .int .i64 a1) rfl) ?_
          refine y0 rfl (o_move (d := .int .i64 a2) rfl) ?_
          refine y0 rfl (o_build (cs := [.int .i64 1, .int .i64 a1, .int .i64 a2]) rfl Ty.p61 Ty.z61 rfl rfl rfl) ?_
          obtain ⟨v20, hv15, h⟩ := bindE h
          refine yc rfl (o_callF (ls := []) (ds := [.lst false (List.map r10_Place.Pv a0), .int .i64 s15, .agg [.int .i64 1, .int .i64 a1, .int .i64 a2]]) rfl Ty.k44 rfl (r10_with_ok hv15)) ?_
          refine y0 rfl (o_assign (d := .lst false (List.map r10_Place.Pv v20)) rfl) ?_
          refine y0 rfl (o_assign (d := .int .i64 0) rfl) ?_
          refine y_nil ?_
          refine pw_ret ?_
          have he := hx13 _ (Option.some.inj h).symm
          have h := hk12
          rw [← he] at h
          obtain rfl := Option.some.inj h
          exact ⟨rfl, [_, _], ⟨rfl, ⟨rfl, trivial⟩⟩, rfl, by first | exact .inl rfl | exact .inr rfl⟩
        · have h := ifF h hc
          refine pw_skip ?_
          refine sr1 (by kernel_rfl) ?_
          refine y0 rfl (o_move (d := .int .i64 s15) rfl) ?_
          refine y0 rfl (o_ari rfl rfl rfl) ?_
          refine y0 rfl (o_move (d := .int .i64 (a0.length : Int)) rfl) ?_
          obtain ⟨v21, hv16, h⟩ := bindE h
          refine y0 rfl (o_ari rfl rfl hv16) ?_
          refine y0 rfl (o_assign (d := .int .i64 v21) rfl) ?_
          refine y_nil ?_
          refine sr1 (by kernel_rfl) ?_
          refine y0 rfl (o_move (d := .int .i64 s16) rfl) ?_
          refine y0 rfl (o_ari rfl rfl rfl) ?_
          refine y0 rfl (o_assign (d := .int .i64 (w64 (s16 + 1))) rfl) ?_
          refine y_nil ?_
          exact ⟨rfl, (v21, w64 (s16 + 1)), (Option.some.inj h).symm, (wk_st _ _ ⟨rfl, rfl, rfl, rfl, rfl, rfl, rfl, rfl, rfl, rfl, rfl, rfl, rfl, rfl, rfl, rfl, rfl, rfl, trivial⟩ trivial)⟩
      · have h := ifF h hc
        refine pw_exit ?_
        refine thenQ_exit ?_
        refine thenQ_exit ?_
        refine blockQ_exit ?_
        have he := hx13 _ (Option.some.inj h).symm
        have h := hk12
        rw [← he] at h
        exact ⟨rfl, (), h, (wk_st _ _ ⟨rfl, rfl, rfl, trivial⟩ trivial)⟩

set_option maxHeartbeats 4000000 in
theorem r11_Set_ok {a0 : List r10_Place} {a1 : Int} {a2 : Int} {r : (List r10_Place) × Int × Int} (h : r11_Set a0 a1 a2 = some r) : PCalls Try.prog 12 [.lst false (List.map r10_Place.Pv a0), .int .i64 a1, .int .i64 a2] (.tup [.lst false (List.map r10_Place.Pv r.1), .int .i64 r.2.1, .int .i64 r.2.2]) := by
  unfold r11_Set at h
  refine pc_intro (N := 49) Try.func12 rfl rfl (Nat.le_of_ble_eq_true rfl) fun w0 imm0 => ?_
  refine sr (by kernel_rfl) ?_
  refine y0 rfl (o_assign (d := .lst true (List.map r10_Place.Pv [])) rfl) ?_
  refine y0 rfl (o_assign (d := .int .i64 0) rfl) ?_
  refine y0 rfl (o_assign (d := .int .i64 0) rfl) ?_
  refine y_nil ?_
  refine pw_seq ?_
  refine sr (by kernel_rfl) ?_
  refine y0 rfl (o_move (d := .int .i64 a1) rfl) ?_
  refine y0 rfl (o_cmp rfl rfl rfl) ?_
  refine y_nil ?_
  refine pw_cond (a1 == 0) rfl (fun hc => ?_) (fun hc => ?_)
  · have h := ifT h hc
    refine sr (by kernel_rfl) ?_
    refine y0 rfl (o_move (d := .lst false (List.map r10_Place.Pv a0)) rfl) ?_
    refine y0 rfl (o_assign (d := .lst false (List.map r10_Place.Pv a0)) rfl) ?_
    refine y0 rfl (o_assign (d := .int .i64 0) rfl) ?_
    refine y0 rfl (o_assign (d := .int .i64 2) rfl) ?_
    refine y_nil ?_
    refine pw_ret ?_
    obtain rfl := Option.some.inj h
    exact ⟨rfl, [_, _, _], ⟨rfl, ⟨rfl, ⟨rfl, trivial⟩⟩⟩, rfl, by first | exact .inl rfl | exact .inr rfl⟩
  · have h := ifF h hc
    refine pw_skip ?_
    refine sr (by kernel_rfl) ?_
    refine y0 rfl (o_move (d := .lst false (List.map r10_Place.Pv a0)) rfl) ?_
    refine y0 rfl (o_move (d := .int .i64 a1) rfl) ?_
    obtain ⟨v1, hv1, h⟩ := bindE h
    refine y0 rfl (o_call (ds := [.lst false (List.map r10_Place.Pv a0), .int .i64 a1]) rfl Ty.k31 rfl (r10_Get_ok hv1)) ?_
    refine y0 rfl (o_move (d := .tup [.int .i64 v1.1, .int .i64 v1.2]) rfl) ?_
    refine y0 rfl (o_extract rfl rfl) ?_
    refine y0 rfl (o_extract rfl rfl) ?_
    refine y0 rfl (o_assign (d := .int .i64 v1.1) rfl) ?_
    refine y0 rfl (o_assign (d := .int .i64 v1.2) rfl) ?_
    refine y_nil ?_
    refine pw_seq ?_
    refine sr (by kernel_rfl) ?_
    refine y0 rfl (o_move (d := .int .i64 a2) rfl) ?_
    refine y0 rfl (o_cmp rfl rfl rfl) ?_
    refine y_nil ?_
    refine pw_cond (a2 == 0) rfl (fun hc => ?_) (fun hc => ?_)
    · have h := ifT h hc
      refine sr (by kernel_rfl) ?_
      refine y0 rfl (o_move (d := .lst false (List.map r10_Place.Pv a0)) rfl) ?_
      refine y0 rfl (o_move (d := .int .i64 a1) rfl) ?_
      obtain ⟨v2, hv2, h⟩ := bindE h
      refine yc rfl (o_callF (ls := []) (ds := [.lst false (List.map r10_Place.Pv a0), .int .i64 a1]) rfl Ty.k32 rfl (r10_Drop_ok hv2)) ?_
      refine y0 rfl (o_move (d := .tup [.lst false (List.map r10_Place.Pv v2.1), .int .i64 v2.2.1, .int .i64 v2.2.2]) rfl) ?_
      refine y0 rfl (o_extract rfl rfl) ?_
      refine y0 rfl (o_extract rfl rfl) ?_
      refine y0 rfl (o_extract rfl rfl) ?_
      refine y0 rfl (o_assign (d := .lst false (List.map r10_Place.Pv v2.1)) rfl) ?_
      refine y0 rfl (o_assign (d := .int .i64 v2.2.1) rfl) ?_
      refine y0 rfl (o_assign (d := .int .i64 v2.2.2) rfl) ?_
      refine y_nil ?_
      refine sr (by kernel_rfl) ?_
      refine y0 rfl (o_move (d := .lst false (List.map r10_Place.Pv v2.1)) rfl) ?_
      refine y0 rfl (o_move (d := .int .i64 v1.1) rfl) ?_
      refine y0 rfl (o_assign (d := .lst false (List.map r10_Place.Pv v2.1)) rfl) ?_
      refine y0 rfl (o_assign (d := .int .i64 v1.1) rfl) ?_
      refine y0 rfl (o_assign (d := .int .i64 0) rfl) ?_
      refine y_nil ?_
      refine pw_ret ?_
      obtain rfl := Option.some.inj h
      exact ⟨rfl, [_, _, _], ⟨rfl, ⟨rfl, ⟨rfl, trivial⟩⟩⟩, rfl, by first | exact .inl rfl | exact .inr rfl⟩
    · have h := ifF h hc
      refine pw_skip ?_
      refine sr (by kernel_rfl) ?_
      refine y0 rfl (o_move (d := .lst false (List.map r10_Place.Pv a0)) rfl) ?_
      refine y0 rfl (o_move (d := .int .i64 a1) rfl) ?_
      refine y0 rfl (o_move (d := .int .i64 a2) rfl) ?_
      obtain ⟨v3, hv3, h⟩ := bindE h
      refine yc rfl (o_callF (ls := []) (ds := [.lst false (List.map r10_Place.Pv a0), .int .i64 a1, .int .i64 a2]) rfl Ty.k33 rfl (r10_Put_ok hv3)) ?_
      refine y0 rfl (o_move (d := .tup [.lst false (List.map r10_Place.Pv v3.1), .int .i64 v3.2]) rfl) ?_
      refine y0 rfl (o_extract rfl rfl) ?_
      refine y0 rfl (o_extract rfl rfl) ?_
      refine y0 rfl (o_assign (d := .lst false (List.map r10_Place.Pv v3.1)) rfl) ?_
      refine y0 rfl (o_assign (d := .int .i64 v3.2) rfl) ?_
      refine y_nil ?_
      refine pw_seq ?_
      refine sr (by kernel_rfl) ?_
      refine y0 rfl (o_move (d := .int .i64 v3.2) rfl) ?_
      refine y0 rfl (o_cmp rfl rfl rfl) ?_
      refine y_nil ?_
      refine pw_cond (v3.2 != 0) rfl (fun hc => ?_) (fun hc => ?_)
      · have h := ifT h hc
        refine sr (by kernel_rfl) ?_
        refine y0 rfl (o_move (d := .lst false (List.map r10_Place.Pv a0)) rfl) ?_
        refine y0 rfl (o_move (d := .int .i64 v3.2) rfl) ?_
        refine y0 rfl (o_assign (d := .lst false (List.map r10_Place.Pv a0)) rfl) ?_
        refine y0 rfl (o_assign (d := .int .i64 0) rfl) ?_
        refine y0 rfl (o_assign (d := .int .i64 v3.2) rfl) ?_
        refine y_nil ?_
        refine pw_ret ?_
        obtain rfl := Option.some.inj h
        exact ⟨rfl, [_, _, _], ⟨rfl, ⟨rfl, ⟨rfl, trivial⟩⟩⟩, rfl, by first | exact .inl rfl | exact .inr rfl⟩
      · have h := ifF h hc
        refine pw_skip ?_
        refine sr (by kernel_rfl) ?_
        refine y0 rfl (o_move (d := .lst false (List.map r10_Place.Pv v3.1)) rfl) ?_
        refine y0 rfl (o_move (d := .int .i64 v1.1) rfl) ?_
        refine y0 rfl (o_assign (d := .lst false (List.map r10_Place.Pv v3.1)) rfl) ?_
        refine y0 rfl (o_assign (d := .int .i64 v1.1) rfl) ?_
        refine y0 rfl (o_assign (d := .int .i64 0) rfl) ?_
        refine y_nil ?_
        refine pw_ret ?_
        obtain rfl := Option.some.inj h
        exact ⟨rfl, [_, _, _], ⟨rfl, ⟨rfl, ⟨rfl, trivial⟩⟩⟩, rfl, by first | exact .inl rfl | exact .inr rfl⟩

set_option maxHeartbeats 4000000 in
theorem r11_Get_ok {a0 : List r10_Place} {a1 : Int} {r : Int × Int} (h : r11_Get a0 a1 = some r) : PCalls Try.prog 14 [.lst false (List.map r10_Place.Pv a0), .int .i64 a1] (.tup [.int .i64 r.1, .int .i64 r.2]) := by
  unfold r11_Get at h
  refine pc_intro (N := 11) Try.func14 rfl rfl (Nat.le_of_ble_eq_true rfl) fun w0 imm0 => ?_
  refine sr (by kernel_rfl) ?_
  refine y0 rfl (o_assign (d := .int .i64 0) rfl) ?_
  refine y0 rfl (o_assign (d := .int .i64 0) rfl) ?_
  refine y_nil ?_
  refine sr (by kernel_rfl) ?_
  refine y0 rfl (o_move (d := .lst false (List.map r10_Place.Pv a0)) rfl) ?_
  refine y0 rfl (o_move (d := .int .i64 a1) rfl) ?_
  obtain ⟨v1, hv1, h⟩ := bindE h
  refine y0 rfl (o_call (ds := [.lst false (List.map r10_Place.Pv a0), .int .i64 a1]) rfl Ty.k31 rfl (r10_Get_ok hv1)) ?_
  refine y0 rfl (o_extract rfl rfl) ?_
  refine y0 rfl (o_extract rfl rfl) ?_
  refine y0 rfl (o_assign (d := .int .i64 v1.1) rfl) ?_
  refine y0 rfl (o_assign (d := .int .i64 v1.2) rfl) ?_
  refine y_nil ?_
  refine pw_ret ?_
  obtain rfl := Option.some.inj h
  exact ⟨rfl, [_, _], ⟨rfl, ⟨rfl, trivial⟩⟩, rfl, by first | exact .inl rfl | exact .inr rfl⟩

set_option maxHeartbeats 4000000 in
theorem r11_Without_ok {a0 : List r10_Place} {a1 : List Int} {r : (List r10_Place) × (List Int)} (h : r11_Without a0 a1 = some r) : PCalls Try.prog 16 [.lst false (List.map r10_Place.Pv a0), .lst false (List.map (PV.int .i64) a1)] (.tup [.lst false (List.map r10_Place.Pv r.1), .lst false (List.map (PV.int .i64) r.2)]) := by
  unfold r11_Without at h
  refine pc_intro (N := 37) Try.func16 rfl rfl (Nat.le_of_ble_eq_true rfl) fun w0 imm0 => ?_
  refine sr (by kernel_rfl) ?_
  refine y0 rfl (o_assign (d := .lst true (List.map r10_Place.Pv [])) rfl) ?_
  refine y0 rfl (o_assign (d := .lst true (List.map (PV.int .i64) [])) rfl) ?_
  refine y_nil ?_
  refine sr (by kernel_rfl) ?_
  refine y0 rfl (o_nslice rfl Ty.e23 Ty.s3) ?_
  refine y0 rfl (o_assign (d := .lst true (List.map (PV.int .i64) [])) rfl) ?_
  refine y_nil ?_
  obtain ⟨κ17, hκ11, h⟩ := jnE h
  refine pw_jn0 (κ := κ17) (r := r) (fun (q : (List r10_Place) × (List Int)) => St.of [(0, .lst false (List.map r10_Place.Pv q.1)), (6, .sl 910006)] [(910006, ⟨List.map (PV.int .i64) q.2, (List.map (PV.int .i64) q.2).length, true, 1, true⟩)]) (fun q20 h => ?_) ?_
  · subst hκ11
    obtain ⟨j18, j19⟩ := q20
    refine sr (by kernel_rfl) ?_
    refine y0 rfl (o_move (d := .lst false (List.map r10_Place.Pv j18)) rfl) ?_
    refine y0 rfl (o_move (d := .sl 910006) rfl) ?_
    refine y0 rfl (o_assign (d := .lst false (List.map r10_Place.Pv j18)) rfl) ?_
    refine y0 rfl (o_assign (d := .sl 910006) rfl) ?_
    refine y_nil ?_
    refine pw_ret ?_
    obtain rfl := Option.some.inj h
    exact ⟨rfl, [_, _], ⟨rfl, ⟨rfl, trivial⟩⟩, rfl, by first | exact .inl rfl | exact .inr rfl⟩
  · skip
    refine sr (by kernel_rfl) ?_
    refine y0 rfl (o_assign (d := .int .i64 0) rfl) ?_
    refine y_nil ?_
    refine pw_block ?_
    obtain ⟨e21, hl12, hk13⟩ := bindE h
    refine pw_lp0 (fun (q : (List r10_Place) × Int × (List Int)) => St.of [(0, .lst false (List.map r10_Place.Pv q.1)), (1, .lst false (List.map (PV.int .i64) a1)), (6, .sl 910006), (7, .int .i64 q.2.1)] [(910006, ⟨List.map (PV.int .i64) q.2.2, (List.map (PV.int .i64) q.2.2).length, true, 1, true⟩)]) hl12 (Wk.trans (wk_nil (t := 6) (l := 920006) (z := 1) rfl rfl) (wk_stP (fun l => if l = 910006 then 920006 else l) _ _ ⟨rfl, rfl, rfl, rfl, rfl, rfl, rfl, rfl, rfl, rfl, rfl, rfl, trivial⟩ ⟨rowLe_ren rfl rfl rfl (fun _ => rfl) rfl rfl rfl, trivial⟩ rfl)) (fun q26 x25 h hx14 => ?_)
    obtain ⟨s22, s23, s24⟩ := q26
    refine pw_seq ?_
    refine sr (by kernel_rfl) ?_
    refine y0 rfl (o_move (d := .int .i64 s23) rfl) ?_
    refine y0 rfl (o_move (d := .lst false (List.map (PV.int .i64) a1)) rfl) ?_
    refine y0 rfl (o_lnL (f := (PV.int .i64)) rfl Ty.e23) ?_
    refine y0 rfl (o_cmp rfl rfl rfl) ?_
    refine y_nil ?_
    refine pw_cond (decide (s23 < (a1.length : Int))) rfl (fun hc => ?_) (fun hc => ?_)
    · have h := ifT h hc
      refine pw_skip ?_
      obtain ⟨κ30, hκ18, h⟩ := jnE h
      refine pw_jn0 (κ := κ30) (r := x25) (fun (q : (List r10_Place) × (List Int)) => St.of [(0, .lst false (List.map r10_Place.Pv q.1)), (1, .lst false (List.map (PV.int .i64) a1)), (6, .sl 34), (7, .int .i64 s23)] [(34, ⟨List.map (PV.int .i64) q.2, (List.map (PV.int .i64) q.2).length, true, 1, true⟩)]) (fun q33 h => ?_) ?_
      · subst hκ18
        obtain ⟨j31, j32⟩ := q33
        refine sr1 (by kernel_rfl) ?_
        refine y0 rfl (o_move (d := .int .i64 s23) rfl) ?_
        refine y0 rfl (o_ari rfl rfl rfl) ?_
        refine y0 rfl (o_assign (d := .int .i64 (w64 (s23 + 1))) rfl) ?_
        refine y_nil ?_
        exact ⟨rfl, (j31, w64 (s23 + 1), j32), (Option.some.inj h).symm, (Wk.trans (wk_frz _ [34]) (wk_stP (fun l => if l = 910006 then 34 else l) _ _ ⟨rfl, rfl, rfl, rfl, rfl, rfl, rfl, rfl, rfl, rfl, rfl, rfl, trivial⟩ ⟨rowLe_ren rfl rfl rfl (fun _ => rfl) rfl rfl rfl, trivial⟩ rfl))⟩
      · skip
        refine pw_block ?_
        refine sr (by kernel_rfl) ?_
        refine y0 rfl (o_move (d := .lst false (List.map r10_Place.Pv s22)) rfl) ?_
        refine y0 rfl (o_move (d := .lst false (List.map (PV.int .i64) a1)) rfl) ?_
        refine y0 rfl (o_move (d := .int .i64 s23) rfl) ?_
        obtain ⟨v34, hv19, h⟩ := bindE h
        refine y0 rfl (o_ixL (f := (PV.int .i64)) (cs := [.int .i64 v34]) hv19 rfl rfl Ty.e23 Ty.s3 rfl rfl) ?_
        refine y0 rfl (o_loadRS rfl Ty.a3 rfl) ?_
        obtain ⟨v35, hv20, h⟩ := bindE h
        refine yc rfl (o_callF (ls := []) (ds := [.lst false (List.map r10_Place.Pv s22), .int .i64 v34]) rfl Ty.k32 rfl (r10_Drop_ok hv20)) ?_
        refine y0 rfl (o_move (d := .tup [.lst false (List.map r10_Place.Pv v35.1), .int .i64 v35.2.1, .int .i64 v35.2.2]) rfl) ?_
        refine y0 rfl (o_extract rfl rfl) ?_
        refine y0 rfl (o_extract rfl rfl) ?_
        refine y0 rfl (o_extract rfl rfl) ?_
        refine y0 rfl (o_assign (d := .lst false (List.map r10_Place.Pv v35.1)) rfl) ?_
        refine y0 rfl (o_assign (d := .int .i64 v35.2.1) rfl) ?_
        refine y0 rfl (o_assign (d := .int .i64 v35.2.2) rfl) ?_
        refine y_nil ?_
        refine sr (by kernel_rfl) ?_
        refine y0 rfl (o_move (d := .int .i64 v35.2.2) rfl) ?_
        refine y0 rfl (o_cmp rfl rfl rfl) ?_
        refine y_nil ?_
        refine pw_cond (v35.2.2 == 0) rfl (fun hc => ?_) (fun hc => ?_)
        · have h := ifT h hc
          refine sr (by kernel_rfl) ?_
          refine y0 rfl (o_move (d := .lst false (List.map r10_Place.Pv v35.1)) rfl) ?_
          refine y0 rfl (o_assign (d := .lst false (List.map r10_Place.Pv v35.1)) rfl) ?_
          refine y_nil ?_
          refine sr1 (by kernel_rfl) ?_
          refine y0 rfl (o_move (d := .sl 910006) rfl) ?_
          refine y0 rfl (o_move (d := .int .i64 v35.2.1) rfl) ?_
          refine y0 rfl (o_bI (f := (PV.int .i64)) (l := [v35.2.1]) rfl Ty.e23 Ty.s3 Ty.z3 rfl rfl (Nat.le_of_ble_eq_true rfl) rfl rfl) ?_
          obtain ⟨v36, hv21, h⟩ := bindE h
          refine y_app rfl (o_apR (f := (PV.int .i64)) hv21 rfl rfl rfl rfl rfl rfl (.inl ⟨_, rfl, rfl⟩) Ty.e23 Ty.s3 Ty.b3 Ty.z3 rfl (fun _ => rfl)) rfl rfl rfl ?_
          refine y0 rfl (o_assign (d := .sl 34) rfl) ?_
          refine y_nil ?_
          exact ⟨rfl, (v35.1, v36), h, (Wk.trans (wk_frz _ [34]) (wk_st _ _ ⟨rfl, rfl, rfl, rfl, rfl, rfl, rfl, rfl, rfl, rfl, rfl, rfl, trivial⟩ ⟨rowLe_same rfl rfl rfl (fun _ => rfl) rfl rfl rfl, trivial⟩))⟩
        · have h := ifF h hc
          refine pw_skip ?_
          exact ⟨rfl, (s22, s24), h, (Wk.trans (wk_frz _ [910006]) (wk_stP (fun l => if l = 34 then 910006 else l) _ _ ⟨rfl, rfl, rfl, rfl, rfl, rfl, rfl, rfl, rfl, rfl, rfl, rfl, trivial⟩ ⟨rowLe_ren rfl rfl rfl (fun _ => rfl) rfl rfl rfl, trivial⟩ rfl))⟩
    · have h := ifF h hc
      refine pw_exit ?_
      refine thenQ_exit ?_
      refine thenQ_exit ?_
      refine blockQ_exit ?_
      have he := hx14 _ (Option.some.inj h).symm
      have h := hk13
      rw [← he] at h
      exact ⟨rfl, (s22, s24), h, (Wk.trans (wk_frz _ [910006]) (wk_st _ _ ⟨rfl, rfl, rfl, rfl, rfl, rfl, trivial⟩ ⟨rowLe_same rfl rfl rfl (fun _ => rfl) rfl rfl rfl, trivial⟩))⟩

set_option maxHeartbeats 4000000 in
theorem r10_Same_ok {a0 : List r10_Place} {a1 : List r10_Place} {r : Bool} (h : r10_Same a0 a1 = some r) : PCalls Try.prog 17 [.lst false (List.map r10_Place.Pv a0), .lst false (List.map r10_Place.Pv a1)] (.bool r) := by
  unfold r10_Same at h
  refine pc_intro (N := 26) Try.func17 rfl rfl (Nat.le_of_ble_eq_true rfl) fun w0 imm0 => ?_
  refine sr (by kernel_rfl) ?_
  refine y0 rfl (o_assign (d := .bool false) rfl) ?_
  refine y_nil ?_
  refine pw_seq ?_
  refine sr (by kernel_rfl) ?_
  refine y0 rfl (o_move (d := .lst false (List.map r10_Place.Pv a0)) rfl) ?_
  refine y0 rfl (o_lnL (f := r10_Place.Pv) rfl Ty.e26) ?_
  refine y0 rfl (o_move (d := .lst false (List.map r10_Place.Pv a1)) rfl) ?_
  refine y0 rfl (o_lnL (f := r10_Place.Pv) rfl Ty.e26) ?_
  refine y0 rfl (o_cmp rfl rfl rfl) ?_
  refine y_nil ?_
  refine pw_cond ((a0.length : Int) != (a1.length : Int)) rfl (fun hc => ?_) (fun hc => ?_)
  · have h := ifT h hc
    refine sr (by kernel_rfl) ?_
    refine y0 rfl (o_assign (d := .bool false) rfl) ?_
    refine y_nil ?_
    refine pw_ret ?_
    obtain rfl := Option.some.inj h
    exact ⟨rfl, [_], ⟨rfl, trivial⟩, rfl, by first | exact .inl rfl | exact .inr rfl⟩
  · have h := ifF h hc
    refine pw_skip ?_
    obtain ⟨κ6, hκ6, h⟩ := jnE h
    refine pw_jn0 (κ := κ6) (r := r) (fun (_ : Unit) => St.of [] []) (fun q7 h => ?_) ?_
    · subst hκ6
      refine sr (by kernel_rfl) ?_
      refine y0 rfl (o_assign (d := .bool true) rfl) ?_
      refine y_nil ?_
      refine pw_ret ?_
      obtain rfl := Option.some.inj h
      exact ⟨rfl, [_], ⟨rfl, trivial⟩, rfl, by first | exact .inl rfl | exact .inr rfl⟩
    · skip
      refine sr (by kernel_rfl) ?_
      refine y0 rfl (o_assign (d := .int .i64 0) rfl) ?_
      refine y_nil ?_
      refine pw_block ?_
      obtain ⟨e8, hl7, hk8⟩ := bindE h
      refine pw_lp0 (fun (s9 : Int) => St.of [(0, .lst false (List.map r10_Place.Pv a0)), (1, .lst false (List.map r10_Place.Pv a1)), (5, .int .i64 s9)] []) hl7 (wk_st _ _ ⟨rfl, rfl, rfl, rfl, rfl, rfl, rfl, rfl, rfl, trivial⟩ trivial) (fun s9 x10 h hx9 => ?_)
      refine pw_seq ?_
      refine sr (by kernel_rfl) ?_
      refine y0 rfl (o_move (d := .int .i64 s9) rfl) ?_
      refine y0 rfl (o_move (d := .lst false (List.map r10_Place.Pv a0)) rfl) ?_
      refine y0 rfl (o_lnL (f := r10_Place.Pv) rfl Ty.e26) ?_
      refine y0 rfl (o_cmp rfl rfl rfl) ?_
      refine y_nil ?_
      refine pw_cond (decide (s9 < (a0.length : Int))) rfl (fun hc => ?_) (fun hc => ?_)
      · have h := ifT h hc
        refine pw_skip ?_
        refine pw_seq ?_
        refine pw_block ?_
        refine dr [] Ty.mix (by kernel_rfl) (by kernel_rfl) ?_
        refine d7 rfl (fun _ hN => o_move (d := .lst false (List.map r10_Place.Pv a0)) rfl) rfl ?_
        refine d7 rfl (fun _ hN => o_move (d := .int .i64 s9) rfl) rfl ?_
        obtain ⟨v11, hv10, h⟩ := bindE h
        refine d0 rfl (o_ixL (f := r10_Place.Pv) (cs := r10_Place.Pc v11) hv10 rfl rfl Ty.e26 Ty.s61 rfl rfl) rfl ?_
        refine d0 rfl (o_loadRA (cs := r10_Place.Pc v11) rfl Ty.a61 Ty.s61 (Nat.le_of_ble_eq_true rfl) rfl) rfl ?_
        refine d7 rfl (fun _ hN => o_move (d := .lst false (List.map r10_Place.Pv a1)) rfl) rfl ?_
        refine d7 rfl (fun _ hN => o_move (d := .int .i64 s9) rfl) rfl ?_
        obtain ⟨v12, hv11, h⟩ := bindE h
        refine d0 rfl (o_ixL (f := r10_Place.Pv) (cs := r10_Place.Pc v12) hv11 rfl rfl Ty.e26 Ty.s61 rfl rfl) rfl ?_
        refine d0 rfl (o_loadRA (cs := r10_Place.Pc v12) rfl Ty.a61 Ty.s61 (Nat.le_of_ble_eq_true rfl) rfl) rfl ?_
        refine d7 rfl (fun _ hN => o_neA (xs := r10_Place.Pc v11) (ys := r10_Place.Pc v12) Ty.q61 rfl rfl rfl rfl) rfl ?_
        refine d_nil ?_
        refine pw_cond (!((v11.State == v12.State) && ((v11.Key == v12.Key) && ((v11.Val == v12.Val) && true)))) rfl (fun hc => ?_) (fun hc => ?_)
        · have h := ifT h hc
          refine sr (by kernel_rfl) ?_
          refine y0 rfl (o_assign (d := .bool false) rfl) ?_
          refine y_nil ?_
          refine pw_ret ?_
          have he := hx9 _ (Option.some.inj h).symm
          have h := hk8
          rw [← he] at h
          obtain rfl := Option.some.inj h
          exact ⟨rfl, [_], ⟨rfl, trivial⟩, rfl, by first | exact .inl rfl | exact .inr rfl⟩
        · have h := ifF h hc
          refine pw_skip ?_
          refine sr1 (by kernel_rfl) ?_
          refine y0 rfl (o_move (d := .int .i64 s9) rfl) ?_
          refine y0 rfl (o_ari rfl rfl rfl) ?_
          refine y0 rfl (o_assign (d := .int .i64 (w64 (s9 + 1))) rfl) ?_
          refine y_nil ?_
          exact ⟨rfl, w64 (s9 + 1), (Option.some.inj h).symm, (wk_st _ _ ⟨rfl, rfl, rfl, rfl, rfl, rfl, rfl, rfl, rfl, trivial⟩ trivial)⟩
      · have h := ifF h hc
        refine pw_exit ?_
        refine thenQ_exit ?_
        refine thenQ_exit ?_
        refine blockQ_exit ?_
        have he := hx9 _ (Option.some.inj h).symm
        have h := hk8
        rw [← he] at h
        exact ⟨rfl, (), h, (wk_st _ _ trivial trivial)⟩

set_option maxHeartbeats 4000000 in
theorem r02_Ints_ok {a0 : List Int} {a1 : List Int} {r : Bool} (h : r02_Ints a0 a1 = some r) : PCalls Try.prog 18 [.lst false (List.map (PV.int .i64) a0), .lst false (List.map (PV.int .i64) a1)] (.bool r) := by
  unfold r02_Ints at h
  refine pc_intro (N := 26) Try.func18 rfl rfl (Nat.le_of_ble_eq_true rfl) fun w0 imm0 => ?_
  refine sr (by kernel_rfl) ?_
  refine y0 rfl (o_assign (d := .bool false) rfl) ?_
  refine y_nil ?_
  refine pw_seq ?_
  refine sr (by kernel_rfl) ?_
  refine y0 rfl (o_move (d := .lst false (List.map (PV.int .i64) a0)) rfl) ?_
  refine y0 rfl (o_lnL (f := (PV.int .i64)) rfl Ty.e23) ?_
  refine y0 rfl (o_move (d := .lst false (List.map (PV.int .i64) a1)) rfl) ?_
  refine y0 rfl (o_lnL (f := (PV.int .i64)) rfl Ty.e23) ?_
  refine y0 rfl (o_cmp rfl rfl rfl) ?_
  refine y_nil ?_
  refine pw_cond ((a0.length : Int) != (a1.length : Int)) rfl (fun hc => ?_) (fun hc => ?_)
  · have h := ifT h hc
    refine sr (by kernel_rfl) ?_
    refine y0 rfl (o_assign (d := .bool false) rfl) ?_
    refine y_nil ?_
    refine pw_ret ?_
    obtain rfl := Option.some.inj h
    exact ⟨rfl, [_], ⟨rfl, trivial⟩, rfl, by first | exact .inl rfl | exact .inr rfl⟩
  · have h := ifF h hc
    refine pw_skip ?_
    obtain ⟨κ6, hκ6, h⟩ := jnE h
    refine pw_jn0 (κ := κ6) (r := r) (fun (_ : Unit) => St.of [] []) (fun q7 h => ?_) ?_
    · subst hκ6
      refine sr (by kernel_rfl) ?_
      refine y0 rfl (o_assign (d := .bool true) rfl) ?_
      refine y_nil ?_
      refine pw_ret ?_
      obtain rfl := Option.some.inj h
      exact ⟨rfl, [_], ⟨rfl, trivial⟩, rfl, by first | exact .inl rfl | exact .inr rfl⟩
    · skip
      refine sr (by kernel_rfl) ?_
      refine y0 rfl (o_assign (d := .int .i64 0) rfl) ?_
      refine y_nil ?_
      refine pw_block ?_
      obtain ⟨e8, hl7, hk8⟩ := bindE h
      refine pw_lp0 (fun (s9 : Int) => St.of [(0, .lst false (List.map (PV.int .i64) a0)), (1, .lst false (List.map (PV.int .i64) a1)), (5, .int .i64 s9)] []) hl7 (wk_st _ _ ⟨rfl, rfl, rfl, rfl, rfl, rfl, rfl, rfl, rfl, trivial⟩ trivial) (fun s9 x10 h hx9 => ?_)
      refine pw_seq ?_
      refine sr (by kernel_rfl) ?_
      refine y0 rfl (o_move (d := .int .i64 s9) rfl) ?_
      refine y0 rfl (o_move (d := .lst false (List.map (PV.int .i64) a0)) rfl) ?_
      refine y0 rfl (o_lnL (f := (PV.int .i64)) rfl Ty.e23) ?_
      refine y0 rfl (o_cmp rfl rfl rfl) ?_
      refine y_nil ?_
      refine pw_cond (decide (s9 < (a0.length : Int))) rfl (fun hc => ?_) (fun hc => ?_)
      · have h := ifT h hc
        refine pw_skip ?_
        refine pw_seq ?_
        refine pw_block ?_
        refine dr [] Ty.mix (by kernel_rfl) (by kernel_rfl) ?_
        refine d7 rfl (fun _ hN => o_move (d := .lst false (List.map (PV.int .i64) a0)) rfl) rfl ?_
        refine d7 rfl (fun _ hN => o_move (d := .int .i64 s9) rfl) rfl ?_
        obtain ⟨v11, hv10, h⟩ := bindE h
        refine d0 rfl (o_ixL (f := (PV.int .i64)) (cs := [.int .i64 v11]) hv10 rfl rfl Ty.e23 Ty.s3 rfl rfl) rfl ?_
        refine d0 rfl (o_loadRS rfl Ty.a3 rfl) rfl ?_
        refine d7 rfl (fun _ hN => o_move (d := .lst false (List.map (PV.int .i64) a1)) rfl) rfl ?_
        refine d7 rfl (fun _ hN => o_move (d := .int .i64 s9) rfl) rfl ?_
        obtain ⟨v12, hv11, h⟩ := bindE h
        refine d0 rfl (o_ixL (f := (PV.int .i64)) (cs := [.int .i64 v12]) hv11 rfl rfl Ty.e23 Ty.s3 rfl rfl) rfl ?_
        refine d0 rfl (o_loadRS rfl Ty.a3 rfl) rfl ?_
        refine d7 rfl (fun _ hN => o_cmp rfl rfl rfl) rfl ?_
        refine d_nil ?_
        refine pw_cond (v11 != v12) rfl (fun hc => ?_) (fun hc => ?_)
        · have h := ifT h hc
          refine sr (by kernel_rfl) ?_
          refine y0 rfl (o_assign (d := .bool false) rfl) ?_
          refine y_nil ?_
          refine pw_ret ?_
          have he := hx9 _ (Option.some.inj h).symm
          have h := hk8
          rw [← he] at h
          obtain rfl := Option.some.inj h
          exact ⟨rfl, [_], ⟨rfl, trivial⟩, rfl, by first | exact .inl rfl | exact .inr rfl⟩
        · have h := ifF h hc
          refine pw_skip ?_
          refine sr1 (by kernel_rfl) ?_
          refine y0 rfl (o_move (d := .int .i64 s9) rfl) ?_
          refine y0 rfl (o_ari rfl rfl rfl) ?_
          refine y0 rfl (o_assign (d := .int .i64 (w64 (s9 + 1))) rfl) ?_
          refine y_nil ?_
          exact ⟨rfl, w64 (s9 + 1), (Option.some.inj h).symm, (wk_st _ _ ⟨rfl, rfl, rfl, rfl, rfl, rfl, rfl, rfl, rfl, trivial⟩ trivial)⟩
      · have h := ifF h hc
        refine pw_exit ?_
        refine thenQ_exit ?_
        refine thenQ_exit ?_
        refine blockQ_exit ?_
        have he := hx9 _ (Option.some.inj h).symm
        have h := hk8
        rw [← he] at h
        exact ⟨rfl, (), h, (wk_st _ _ trivial trivial)⟩

set_option maxHeartbeats 4000000 in
theorem w11_pairs_ok {a0 : List ephem_Pair} {r : List r11_Pair} (h : w11_pairs a0 = some r) : PCalls Try.prog 20 [.lst false (List.map ephem_Pair.Pv a0)] (.lst false (List.map r11_Pair.Pv r)) := by
  unfold w11_pairs at h
  refine pc_intro (N := 20) Try.func20 rfl rfl (Nat.le_of_ble_eq_true rfl) fun w0 imm0 => ?_
  refine sr (by kernel_rfl) ?_
  refine y0 rfl (o_assign (d := .lst true (List.map r11_Pair.Pv [])) rfl) ?_
  refine y_nil ?_
  refine sr (by kernel_rfl) ?_
  refine y0 rfl (o_nslice rfl Ty.e43 Ty.s53) ?_
  refine y0 rfl (o_assign (d := .lst true (List.map r11_Pair.Pv [])) rfl) ?_
  refine y_nil ?_
  obtain ⟨κ8, hκ6, h⟩ := jnE h
  refine pw_jn0 (κ := κ8) (r := r) (fun (j9 : List r11_Pair) => St.of [(3, .sl 910003)] [(910003, ⟨List.map r11_Pair.Pv j9, (List.map r11_Pair.Pv j9).length, true, 2, true⟩)]) (fun j9 h => ?_) ?_
  · subst hκ6
    refine sr (by kernel_rfl) ?_
    refine y0 rfl (o_move (d := .sl 910003) rfl) ?_
    refine y0 rfl (o_assign (d := .sl 910003) rfl) ?_
    refine y_nil ?_
    refine pw_ret ?_
    obtain rfl := Option.some.inj h
    exact ⟨rfl, [_], ⟨rfl, trivial⟩, rfl, by first | exact .inl rfl | exact .inr rfl⟩
  · skip
    refine sr (by kernel_rfl) ?_
    refine y0 rfl (o_assign (d := .int .i64 0) rfl) ?_
    refine y_nil ?_
    refine pw_block ?_
    obtain ⟨e10, hl7, hk8⟩ := bindE h
    refine pw_lp0 (fun (q : Int × (List r11_Pair)) => St.of [(0, .lst false (List.map ephem_Pair.Pv a0)), (3, .sl 910003), (4, .int .i64 q.1)] [(910003, ⟨List.map r11_Pair.Pv q.2, (List.map r11_Pair.Pv q.2).length, true, 2, true⟩)]) hl7 (Wk.trans (wk_nil (t := 3) (l := 920003) (z := 2) rfl rfl) (wk_stP (fun l => if l = 910003 then 920003 else l) _ _ ⟨rfl, rfl, rfl, rfl, rfl, rfl, rfl, rfl, rfl, trivial⟩ ⟨rowLe_ren rfl rfl rfl (fun _ => rfl) rfl rfl rfl, trivial⟩ rfl)) (fun q14 x13 h hx9 => ?_)
    obtain ⟨s11, s12⟩ := q14
    refine pw_seq ?_
    refine sr (by kernel_rfl) ?_
    refine y0 rfl (o_move (d := .int .i64 s11) rfl) ?_
    refine y0 rfl (o_move (d := .lst false (List.map ephem_Pair.Pv a0)) rfl) ?_
    refine y0 rfl (o_lnL (f := ephem_Pair.Pv) rfl Ty.e45) ?_
    refine y0 rfl (o_cmp rfl rfl rfl) ?_
    refine y_nil ?_
    refine pw_cond (decide (s11 < (a0.length : Int))) rfl (fun hc => ?_) (fun hc => ?_)
    · have h := ifT h hc
      refine pw_skip ?_
      refine pw_seq ?_
      refine pw_block ?_
      refine sr1 (by kernel_rfl) ?_
      refine y0 rfl (o_move (d := .sl 910003) rfl) ?_
      refine y0 rfl (o_move (d := .lst false (List.map ephem_Pair.Pv a0)) rfl) ?_
      refine y0 rfl (o_move (d := .int .i64 s11) rfl) ?_
      obtain ⟨v15, hv10, h⟩ := bindE h
      refine y0 rfl (o_ixL (f := ephem_Pair.Pv) (cs := ephem_Pair.Pc v15) hv10 rfl rfl Ty.e45 Ty.s56 rfl rfl) ?_
      refine y0 rfl (o_loadRA (cs := ephem_Pair.Pc v15) rfl Ty.a56 Ty.s56 (Nat.le_of_ble_eq_true rfl) rfl) ?_
      refine y0 rfl (o_bI (f := r11_Pair.Pv) (l := [(⟨v15.Key, v15.Val⟩ : r11_Pair)]) rfl Ty.e43 Ty.s53 Ty.z53 rfl rfl (Nat.le_of_ble_eq_true rfl) rfl rfl) ?_
      obtain ⟨v16, hv11, h⟩ := bindE h
      refine y_app rfl (o_apR (f := r11_Pair.Pv) hv11 rfl rfl rfl rfl rfl rfl (.inl ⟨_, rfl, rfl⟩) Ty.e43 Ty.s53 Ty.b53 Ty.z53 rfl (fun _ => rfl)) rfl rfl rfl ?_
      refine y0 rfl (o_assign (d := .sl 18) rfl) ?_
      refine y_nil ?_
      refine sr1 (by kernel_rfl) ?_
      refine y0 rfl (o_move (d := .int .i64 s11) rfl) ?_
      refine y0 rfl (o_ari rfl rfl rfl) ?_
      refine y0 rfl (o_assign (d := .int .i64 (w64 (s11 + 1))) rfl) ?_
      refine y_nil ?_
      exact ⟨rfl, (w64 (s11 + 1), v16), (Option.some.inj h).symm, (Wk.trans (wk_frz _ [18]) (wk_stP (fun l => if l = 910003 then 18 else l) _ _ ⟨rfl, rfl, rfl, rfl, rfl, rfl, rfl, rfl, rfl, trivial⟩ ⟨rowLe_ren rfl rfl rfl (fun _ => rfl) rfl rfl rfl, trivial⟩ rfl))⟩
    · have h := ifF h hc
      refine pw_exit ?_
      refine thenQ_exit ?_
      refine thenQ_exit ?_
      refine blockQ_exit ?_
      have he := hx9 _ (Option.some.inj h).symm
      have h := hk8
      rw [← he] at h
      exact ⟨rfl, s12, h, (Wk.trans (wk_frz _ [910003]) (wk_st _ _ ⟨rfl, rfl, rfl, trivial⟩ ⟨rowLe_same rfl rfl rfl (fun _ => rfl) rfl rfl rfl, trivial⟩))⟩

set_option maxHeartbeats 4000000 in
theorem r10_Keys_ok {a0 : List r10_Place} {r : List Int} (h : r10_Keys a0 = some r) : PCalls Try.prog 37 [.lst false (List.map r10_Place.Pv a0)] (.lst false (List.map (PV.int .i64) r)) := by
  unfold r10_Keys at h
  refine pc_intro (N := 27) Try.func37 rfl rfl (Nat.le_of_ble_eq_true rfl) fun w0 imm0 => ?_
  refine sr (by kernel_rfl) ?_
  refine y0 rfl (o_assign (d := .lst true (List.map (PV.int .i64) [])) rfl) ?_
  refine y_nil ?_
  refine sr (by kernel_rfl) ?_
  refine y0 rfl (o_nslice rfl Ty.e23 Ty.s3) ?_
  refine y0 rfl (o_assign (d := .lst true (List.map (PV.int .i64) [])) rfl) ?_
  refine y_nil ?_
  obtain ⟨κ12, hκ9, h⟩ := jnE h
  refine pw_jn0 (κ := κ12) (r := r) (fun (j13 : List Int) => St.of [(3, .sl 910003)] [(910003, ⟨List.map (PV.int .i64) j13, (List.map (PV.int .i64) j13).length, true, 1, true⟩)]) (fun j13 h => ?_) ?_
  · subst hκ9
    refine sr (by kernel_rfl) ?_
    refine y0 rfl (o_move (d := .sl 910003) rfl) ?_
    refine y0 rfl (o_assign (d := .sl 910003) rfl) ?_
    refine y_nil ?_
    refine pw_ret ?_
    obtain rfl := Option.some.inj h
    exact ⟨rfl, [_], ⟨rfl, trivial⟩, rfl, by first | exact .inl rfl | exact .inr rfl⟩
  · skip
    refine sr (by kernel_rfl) ?_
    refine y0 rfl (o_assign (d := .int .i64 0) rfl) ?_
    refine y_nil ?_
    refine pw_block ?_
    obtain ⟨e14, hl10, hk11⟩ := bindE h
    refine pw_lp0 (fun (q : Int × (List Int)) => St.of [(0, .lst false (List.map r10_Place.Pv a0)), (3, .sl 910003), (4, .int .i64 q.1)] [(910003, ⟨List.map (PV.int .i64) q.2, (List.map (PV.int .i64) q.2).length, true, 1, true⟩)]) hl10 (Wk.trans (wk_nil (t := 3) (l := 920003) (z := 1) rfl rfl) (wk_stP (fun l => if l = 910003 then 920003 else l) _ _ ⟨rfl, rfl, rfl, rfl, rfl, rfl, rfl, rfl, rfl, trivial⟩ ⟨rowLe_ren rfl rfl rfl (fun _ => rfl) rfl rfl rfl, trivial⟩ rfl)) (fun q18 x17 h hx12 => ?_)
    obtain ⟨s15, s16⟩ := q18
    refine pw_seq ?_
    refine sr (by kernel_rfl) ?_
    refine y0 rfl (o_move (d := .int .i64 s15) rfl) ?_
    refine y0 rfl (o_move (d := .lst false (List.map r10_Place.Pv a0)) rfl) ?_
    refine y0 rfl (o_lnL (f := r10_Place.Pv) rfl Ty.e26) ?_
    refine y0 rfl (o_cmp rfl rfl rfl) ?_
    refine y_nil ?_
    refine pw_cond (decide (s15 < (a0.length : Int))) rfl (fun hc => ?_) (fun hc => ?_)
    · have h := ifT h hc
      refine pw_skip ?_
      obtain ⟨κ21, hκ15, h⟩ := jnE h
      refine pw_jn0 (κ := κ21) (r := x17) (fun (j22 : List Int) => St.of [(0, .lst false (List.map r10_Place.Pv a0)), (3, .sl 25), (4, .int .i64 s15)] [(25, ⟨List.map (PV.int .i64) j22, (List.map (PV.int .i64) j22).length, true, 1, true⟩)]) (fun j22 h => ?_) ?_
      · subst hκ15
        refine sr1 (by kernel_rfl) ?_
        refine y0 rfl (o_move (d := .int .i64 s15) rfl) ?_
        refine y0 rfl (o_ari rfl rfl rfl) ?_
        refine y0 rfl (o_assign (d := .int .i64 (w64 (s15 + 1))) rfl) ?_
        refine y_nil ?_
        exact ⟨rfl, (w64 (s15 + 1), j22), (Option.some.inj h).symm, (Wk.trans (wk_frz _ [25]) (wk_stP (fun l => if l = 910003 then 25 else l) _ _ ⟨rfl, rfl, rfl, rfl, rfl, rfl, rfl, rfl, rfl, trivial⟩ ⟨rowLe_ren rfl rfl rfl (fun _ => rfl) rfl rfl rfl, trivial⟩ rfl))⟩
      · skip
        refine pw_block ?_
        refine sr (by kernel_rfl) ?_
        refine y0 rfl (o_move (d := .lst false (List.map r10_Place.Pv a0)) rfl) ?_
        refine y0 rfl (o_move (d := .int .i64 s15) rfl) ?_
        obtain ⟨v23, hv16, h⟩ := bindE h
        refine y0 rfl (o_ixL (f := r10_Place.Pv) (cs := r10_Place.Pc v23) hv16 rfl rfl Ty.e26 Ty.s61 rfl rfl) ?_
        refine y0 rfl (o_fieldAddrR rfl Ty.f61_0 rfl) ?_
        refine y0 rfl (o_loadRS rfl Ty.a3 rfl) ?_
        refine y0 rfl (o_cmp rfl rfl rfl) ?_
        refine y_nil ?_
        refine pw_cond (v23.State == 1) rfl (fun hc => ?_) (fun hc => ?_)
        · have h := ifT h hc
          refine sr1 (by kernel_rfl) ?_
          refine y0 rfl (o_move (d := .sl 910003) rfl) ?_
          refine y0 rfl (o_move (d := .lst false (List.map r10_Place.Pv a0)) rfl) ?_
          refine y0 rfl (o_move (d := .int .i64 s15) rfl) ?_
          refine y0 rfl (o_ixL (f := r10_Place.Pv) (cs := r10_Place.Pc v23) hv16 rfl rfl Ty.e26 Ty.s61 rfl rfl) ?_
          refine y0 rfl (o_fieldAddrR rfl Ty.f61_1 rfl) ?_
          refine y0 rfl (o_loadRS rfl Ty.a3 rfl) ?_
          refine y0 rfl (o_bI (f := (PV.int .i64)) (l := [v23.Key]) rfl Ty.e23 Ty.s3 Ty.z3 rfl rfl (Nat.le_of_ble_eq_true rfl) rfl rfl) ?_
          obtain ⟨v24, hv17, h⟩ := bindE h
          refine y_app rfl (o_apR (f := (PV.int .i64)) hv17 rfl rfl rfl rfl rfl rfl (.inl ⟨_, rfl, rfl⟩) Ty.e23 Ty.s3 Ty.b3 Ty.z3 rfl (fun _ => rfl)) rfl rfl rfl ?_
          refine y0 rfl (o_assign (d := .sl 25) rfl) ?_
          refine y_nil ?_
          exact ⟨rfl, v24, h, (Wk.trans (wk_frz _ [25]) (wk_st _ _ ⟨rfl, rfl, rfl, rfl, rfl, rfl, rfl, rfl, rfl, trivial⟩ ⟨rowLe_same rfl rfl rfl (fun _ => rfl) rfl rfl rfl, trivial⟩))⟩
        · have h := ifF h hc
          refine pw_skip ?_
          exact ⟨rfl, s16, h, (Wk.trans (wk_frz _ [910003]) (wk_stP (fun l => if l = 25 then 910003 else l) _ _ ⟨rfl, rfl, rfl, rfl, rfl, rfl, rfl, rfl, rfl, trivial⟩ ⟨rowLe_ren rfl rfl rfl (fun _ => rfl) rfl rfl rfl, trivial⟩ rfl))⟩
    · have h := ifF h hc
      refine pw_exit ?_
      refine thenQ_exit ?_
      refine thenQ_exit ?_
      refine blockQ_exit ?_
      have he := hx12 _ (Option.some.inj h).symm
      have h := hk11
      rw [← he] at h
      exact ⟨rfl, s16, h, (Wk.trans (wk_frz _ [910003]) (wk_st _ _ ⟨rfl, rfl, rfl, trivial⟩ ⟨rowLe_same rfl rfl rfl (fun _ => rfl) rfl rfl rfl, trivial⟩))⟩

set_option maxHeartbeats 4000000 in
theorem r11_Pairs_ok {a0 : List r10_Place} {r : List r11_Pair} (h : r11_Pairs a0 = some r) : PCalls Try.prog 22 [.lst false (List.map r10_Place.Pv a0)] (.lst false (List.map r11_Pair.Pv r)) := by
  unfold r11_Pairs at h
  refine pc_intro (N := 36) Try.func22 rfl rfl (Nat.le_of_ble_eq_true rfl) fun w0 imm0 => ?_
  refine sr (by kernel_rfl) ?_
  refine y0 rfl (o_assign (d := .lst true (List.map r11_Pair.Pv [])) rfl) ?_
  refine y_nil ?_
  refine sr (by kernel_rfl) ?_
  refine y0 rfl (o_nslice rfl Ty.e43 Ty.s53) ?_
  refine y0 rfl (o_assign (d := .lst true (List.map r11_Pair.Pv [])) rfl) ?_
  refine y_nil ?_
  refine sr (by kernel_rfl) ?_
  refine y0 rfl (o_move (d := .lst false (List.map r10_Place.Pv a0)) rfl) ?_
  obtain ⟨v1, hv1, h⟩ := bindE h
  refine yc rfl (o_callF (ls := []) (ds := [.lst false (List.map r10_Place.Pv a0)]) rfl Ty.k37 rfl (r10_Keys_ok hv1)) ?_
  refine y0 rfl (o_assign (d := .lst false (List.map (PV.int .i64) v1)) rfl) ?_
  refine y_nil ?_
  obtain ⟨κ10, hκ8, h⟩ := jnE h
  refine pw_jn0 (κ := κ10) (r := r) (fun (j11 : List r11_Pair) => St.of [(3, .sl 910003)] [(910003, ⟨List.map r11_Pair.Pv j11, (List.map r11_Pair.Pv j11).length, true, 2, true⟩)]) (fun j11 h => ?_) ?_
  · subst hκ8
    refine sr (by kernel_rfl) ?_
    refine y0 rfl (o_move (d := .sl 910003) rfl) ?_
    refine y0 rfl (o_assign (d := .sl 910003) rfl) ?_
    refine y_nil ?_
    refine pw_ret ?_
    obtain rfl := Option.some.inj h
    exact ⟨rfl, [_], ⟨rfl, trivial⟩, rfl, by first | exact .inl rfl | exact .inr rfl⟩
  · skip
    refine sr (by kernel_rfl) ?_
    refine y0 rfl (o_assign (d := .int .i64 0) rfl) ?_
    refine y_nil ?_
    refine pw_block ?_
    obtain ⟨e12, hl9, hk10⟩ := bindE h
    refine pw_lp0 (fun (q : Int × (List r11_Pair)) => St.of [(0, .lst false (List.map r10_Place.Pv a0)), (3, .sl 910003), (4, .lst false (List.map (PV.int .i64) v1)), (5, .int .i64 q.1)] [(910003, ⟨List.map r11_Pair.Pv q.2, (List.map r11_Pair.Pv q.2).length, true, 2, true⟩)]) hl9 (Wk.trans (wk_nil (t := 3) (l := 920003) (z := 2) rfl rfl) (wk_stP (fun l => if l = 910003 then 920003 else l) _ _ ⟨rfl, rfl, rfl, rfl, rfl, rfl, rfl, rfl, rfl, rfl, rfl, rfl, trivial⟩ ⟨rowLe_ren rfl rfl rfl (fun _ => rfl) rfl rfl rfl, trivial⟩ rfl)) (fun q16 x15 h hx11 => ?_)
    obtain ⟨s13, s14⟩ := q16
    refine pw_seq ?_
    refine sr (by kernel_rfl) ?_
    refine y0 rfl (o_move (d := .int .i64 s13) rfl) ?_
    refine y0 rfl (o_move (d := .lst false (List.map (PV.int .i64) v1)) rfl) ?_
    refine y0 rfl (o_lnL (f := (PV.int .i64)) rfl Ty.e23) ?_
    refine y0 rfl (o_cmp rfl rfl rfl) ?_
    refine y_nil ?_
    refine pw_cond (decide (s13 < (v1.length : Int))) rfl (fun hc => ?_) (fun hc => ?_)
    · have h := ifT h hc
      refine pw_skip ?_
      refine pw_seq ?_
      refine pw_block ?_
      refine sr (by kernel_rfl) ?_
      refine y0 rfl (o_move (d := .lst false (List.map r10_Place.Pv a0)) rfl) ?_
      refine y0 rfl (o_move (d := .lst false (List.map (PV.int .i64) v1)) rfl) ?_
      refine y0 rfl (o_move (d := .int .i64 s13) rfl) ?_
      obtain ⟨v17, hv12, h⟩ := bindE h
      refine y0 rfl (o_ixL (f := (PV.int .i64)) (cs := [.int .i64 v17]) hv12 rfl rfl Ty.e23 Ty.s3 rfl rfl) ?_
      refine y0 rfl (o_loadRS rfl Ty.a3 rfl) ?_
      obtain ⟨v18, hv13, h⟩ := bindE h
      refine y0 rfl (o_call (ds := [.lst false (List.map r10_Place.Pv a0), .int .i64 v17]) rfl Ty.k31 rfl (r10_Get_ok hv13)) ?_
      refine y0 rfl (o_move (d := .tup [.int .i64 v18.1, .int .i64 v18.2]) rfl) ?_
      refine y0 rfl (o_extract rfl rfl) ?_
      refine y0 rfl (o_extract rfl rfl) ?_
      refine y0 rfl (o_assign (d := .int .i64 v18.1) rfl) ?_
      refine y0 rfl (o_assign (d := .int .i64 v18.2) rfl) ?_
      refine y_nil ?_
      refine sr1 (by kernel_rfl) ?_
      refine y0 rfl (o_move (d := .sl 910003) rfl) ?_
      refine y0 rfl (o_move (d := .lst false (List.map (PV.int .i64) v1)) rfl) ?_
      refine y0 rfl (o_move (d := .int .i64 s13) rfl) ?_
      refine y0 rfl (o_ixL (f := (PV.int .i64)) (cs := [.int .i64 v17]) hv12 rfl rfl Ty.e23 Ty.s3 rfl rfl) ?_
      refine y0 rfl (o_loadRS rfl Ty.a3 rfl) ?_
      refine y0 rfl (o_move (d := .int .i64 v18.1) rfl) ?_
      refine y0 rfl (o_build (cs := [.int .i64 v17, .int .i64 v18.1]) rfl Ty.p53 Ty.z53 rfl rfl rfl) ?_
      refine y0 rfl (o_bI (f := r11_Pair.Pv) (l := [(⟨v17, v18.1⟩ : r11_Pair)]) rfl Ty.e43 Ty.s53 Ty.z53 rfl rfl (Nat.le_of_ble_eq_true rfl) rfl rfl) ?_
      obtain ⟨v19, hv14, h⟩ := bindE h
      refine y_app rfl (o_apR (f := r11_Pair.Pv) hv14 rfl rfl rfl rfl rfl rfl (.inl ⟨_, rfl, rfl⟩) Ty.e43 Ty.s53 Ty.b53 Ty.z53 rfl (fun _ => rfl)) rfl rfl rfl ?_
      refine y0 rfl (o_assign (d := .sl 34) rfl) ?_
      refine y_nil ?_
      refine sr1 (by kernel_rfl) ?_
      refine y0 rfl (o_move (d := .int .i64 s13) rfl) ?_
      refine y0 rfl (o_ari rfl rfl rfl) ?_
      refine y0 rfl (o_assign (d := .int .i64 (w64 (s13 + 1))) rfl) ?_
      refine y_nil ?_
      exact ⟨rfl, (w64 (s13 + 1), v19), (Option.some.inj h).symm, (Wk.trans (wk_frz _ [34]) (wk_stP (fun l => if l = 910003 then 34 else l) _ _ ⟨rfl, rfl, rfl, rfl, rfl, rfl, rfl, rfl, rfl, rfl, rfl, rfl, trivial⟩ ⟨rowLe_ren rfl rfl rfl (fun _ => rfl) rfl rfl rfl, trivial⟩ rfl))⟩
    · have h := ifF h hc
      refine pw_exit ?_
      refine thenQ_exit ?_
      refine thenQ_exit ?_
      refine blockQ_exit ?_
      have he := hx11 _ (Option.some.inj h).symm
      have h := hk10
      rw [← he] at h
      exact ⟨rfl, s14, h, (Wk.trans (wk_frz _ [910003]) (wk_st _ _ ⟨rfl, rfl, rfl, trivial⟩ ⟨rowLe_same rfl rfl rfl (fun _ => rfl) rfl rfl rfl, trivial⟩))⟩

set_option maxHeartbeats 4000000 in
theorem r11_Same_ok {a0 : List r11_Pair} {a1 : List r11_Pair} {r : Bool} (h : r11_Same a0 a1 = some r) : PCalls Try.prog 19 [.lst false (List.map r11_Pair.Pv a0), .lst false (List.map r11_Pair.Pv a1)] (.bool r) := by
  unfold r11_Same at h
  refine pc_intro (N := 26) Try.func19 rfl rfl (Nat.le_of_ble_eq_true rfl) fun w0 imm0 => ?_
  refine sr (by kernel_rfl) ?_
  refine y0 rfl (o_assign (d := .bool false) rfl) ?_
  refine y_nil ?_
  refine pw_seq ?_
  refine sr (by kernel_rfl) ?_
  refine y0 rfl (o_move (d := .lst false (List.map r11_Pair.Pv a0)) rfl) ?_
  refine y0 rfl (o_lnL (f := r11_Pair.Pv) rfl Ty.e43) ?_
  refine y0 rfl (o_move (d := .lst false (List.map r11_Pair.Pv a1)) rfl) ?_
  refine y0 rfl (o_lnL (f := r11_Pair.Pv) rfl Ty.e43) ?_
  refine y0 rfl (o_cmp rfl rfl rfl) ?_
  refine y_nil ?_
  refine pw_cond ((a0.length : Int) != (a1.length : Int)) rfl (fun hc => ?_) (fun hc => ?_)
  · have h := ifT h hc
    refine sr (by kernel_rfl) ?_
    refine y0 rfl (o_assign (d := .bool false) rfl) ?_
    refine y_nil ?_
    refine pw_ret ?_
    obtain rfl := Option.some.inj h
    exact ⟨rfl, [_], ⟨rfl, trivial⟩, rfl, by first | exact .inl rfl | exact .inr rfl⟩
  · have h := ifF h hc
    refine pw_skip ?_
    obtain ⟨κ6, hκ6, h⟩ := jnE h
    refine pw_jn0 (κ := κ6) (r := r) (fun (_ : Unit) => St.of [] []) (fun q7 h => ?_) ?_
    · subst hκ6
      refine sr (by kernel_rfl) ?_
      refine y0 rfl (o_assign (d := .bool true) rfl) ?_
      refine y_nil ?_
      refine pw_ret ?_
      obtain rfl := Option.some.inj h
      exact ⟨rfl, [_], ⟨rfl, trivial⟩, rfl, by first | exact .inl rfl | exact .inr rfl⟩
    · skip
      refine sr (by kernel_rfl) ?_
      refine y0 rfl (o_assign (d := .int .i64 0) rfl) ?_
      refine y_nil ?_
      refine pw_block ?_
      obtain ⟨e8, hl7, hk8⟩ := bindE h
      refine pw_lp0 (fun (s9 : Int) => St.of [(0, .lst false (List.map r11_Pair.Pv a0)), (1, .lst false (List.map r11_Pair.Pv a1)), (5, .int .i64 s9)] []) hl7 (wk_st _ _ ⟨rfl, rfl, rfl, rfl, rfl, rfl, rfl, rfl, rfl, trivial⟩ trivial) (fun s9 x10 h hx9 => ?_)
      refine pw_seq ?_
      refine sr (by kernel_rfl) ?_
      refine y0 rfl (o_move (d := .int .i64 s9) rfl) ?_
      refine y0 rfl (o_move (d := .lst false (List.map r11_Pair.Pv a0)) rfl) ?_
      refine y0 rfl (o_lnL (f := r11_Pair.Pv) rfl Ty.e43) ?_
      refine y0 rfl (o_cmp rfl rfl rfl) ?_
      refine y_nil ?_
      refine pw_cond (decide (s9 < (a0.length : Int))) rfl (fun hc => ?_) (fun hc => ?_)
      · have h := ifT h hc
        refine pw_skip ?_
        refine pw_seq ?_
        refine pw_block ?_
        refine dr [] Ty.mix (by kernel_rfl) (by kernel_rfl) ?_
        refine d7 rfl (fun _ hN => o_move (d := .lst false (List.map r11_Pair.Pv a0)) rfl) rfl ?_
        refine d7 rfl (fun _ hN => o_move (d := .int .i64 s9) rfl) rfl ?_
        obtain ⟨v11, hv10, h⟩ := bindE h
        refine d0 rfl (o_ixL (f := r11_Pair.Pv) (cs := r11_Pair.Pc v11) hv10 rfl rfl Ty.e43 Ty.s53 rfl rfl) rfl ?_
        refine d0 rfl (o_loadRA (cs := r11_Pair.Pc v11) rfl Ty.a53 Ty.s53 (Nat.le_of_ble_eq_true rfl) rfl) rfl ?_
        refine d7 rfl (fun _ hN => o_move (d := .lst false (List.map r11_Pair.Pv a1)) rfl) rfl ?_
        refine d7 rfl (fun _ hN => o_move (d := .int .i64 s9) rfl) rfl ?_
        obtain ⟨v12, hv11, h⟩ := bindE h
        refine d0 rfl (o_ixL (f := r11_Pair.Pv) (cs := r11_Pair.Pc v12) hv11 rfl rfl Ty.e43 Ty.s53 rfl rfl) rfl ?_
        refine d0 rfl (o_loadRA (cs := r11_Pair.Pc v12) rfl Ty.a53 Ty.s53 (Nat.le_of_ble_eq_true rfl) rfl) rfl ?_
        refine d7 rfl (fun _ hN => o_neA (xs := r11_Pair.Pc v11) (ys := r11_Pair.Pc v12) Ty.q53 rfl rfl rfl rfl) rfl ?_
        refine d_nil ?_
        refine pw_cond (!((v11.Key == v12.Key) && ((v11.Val == v12.Val) && true))) rfl (fun hc => ?_) (fun hc => ?_)
        · have h := ifT h hc
          refine sr (by kernel_rfl) ?_
          refine y0 rfl (o_assign (d := .bool false) rfl) ?_
          refine y_nil ?_
          refine pw_ret ?_
          have he := hx9 _ (Option.some.inj h).symm
          have h := hk8
          rw [← he] at h
          obtain rfl := Option.some.inj h
          exact ⟨rfl, [_], ⟨rfl, trivial⟩, rfl, by first | exact .inl rfl | exact .inr rfl⟩
        · have h := ifF h hc
          refine pw_skip ?_
          refine sr1 (by kernel_rfl) ?_
          refine y0 rfl (o_move (d := .int .i64 s9) rfl) ?_
          refine y0 rfl (o_ari rfl rfl rfl) ?_
          refine y0 rfl (o_assign (d := .int .i64 (w64 (s9 + 1))) rfl) ?_
          refine y_nil ?_
          exact ⟨rfl, w64 (s9 + 1), (Option.some.inj h).symm, (wk_st _ _ ⟨rfl, rfl, rfl, rfl, rfl, rfl, rfl, rfl, rfl, trivial⟩ trivial)⟩
      · have h := ifF h hc
        refine pw_exit ?_
        refine thenQ_exit ?_
        refine thenQ_exit ?_
        refine blockQ_exit ?_
        have he := hx9 _ (Option.some.inj h).symm
        have h := hk8
        rw [← he] at h
        exact ⟨rfl, (), h, (wk_st _ _ trivial trivial)⟩

set_option maxHeartbeats 4000000 in
theorem r11_Owned_ok {a0 : List r10_Place} {a1 : Int} {r : Int} (h : r11_Owned a0 a1 = some r) : PCalls Try.prog 24 [.lst false (List.map r10_Place.Pv a0), .int .i64 a1] (.int .i64 r) := by
  unfold r11_Owned at h
  refine pc_intro (N := 30) Try.func24 rfl rfl (Nat.le_of_ble_eq_true rfl) fun w0 imm0 => ?_
  refine sr (by kernel_rfl) ?_
  refine y0 rfl (o_assign (d := .int .i64 0) rfl) ?_
  refine y_nil ?_
  refine sr (by kernel_rfl) ?_
  refine y0 rfl (o_assign (d := .int .i64 0) rfl) ?_
  refine y_nil ?_
  refine sr (by kernel_rfl) ?_
  refine y0 rfl (o_move (d := .lst false (List.map r10_Place.Pv a0)) rfl) ?_
  obtain ⟨v1, hv1, h⟩ := bindE h
  refine yc rfl (o_callF (ls := []) (ds := [.lst false (List.map r10_Place.Pv a0)]) rfl Ty.k22 rfl (r11_Pairs_ok hv1)) ?_
  refine y0 rfl (o_assign (d := .lst false (List.map r11_Pair.Pv v1)) rfl) ?_
  refine y_nil ?_
  obtain ⟨κ11, hκ8, h⟩ := jnE h
  refine pw_jn0 (κ := κ11) (r := r) (fun (j12 : Int) => St.of [(5, .int .i64 j12)] []) (fun j12 h => ?_) ?_
  · subst hκ8
    refine sr (by kernel_rfl) ?_
    refine y0 rfl (o_move (d := .int .i64 j12) rfl) ?_
    refine y0 rfl (o_assign (d := .int .i64 j12) rfl) ?_
    refine y_nil ?_
    refine pw_ret ?_
    obtain rfl := Option.some.inj h
    exact ⟨rfl, [_], ⟨rfl, trivial⟩, rfl, by first | exact .inl rfl | exact .inr rfl⟩
  · skip
    refine sr (by kernel_rfl) ?_
    refine y0 rfl (o_assign (d := .int .i64 0) rfl) ?_
    refine y_nil ?_
    refine pw_block ?_
    obtain ⟨e13, hl9, hk10⟩ := bindE h
    refine pw_lp0 (fun (q : Int × Int) => St.of [(1, .int .i64 a1), (5, .int .i64 q.1), (6, .lst false (List.map r11_Pair.Pv v1)), (7, .int .i64 q.2)] []) hl9 (wk_st _ _ ⟨rfl, rfl, rfl, rfl, rfl, rfl, rfl, rfl, rfl, rfl, rfl, rfl, trivial⟩ trivial) (fun q17 x16 h hx11 => ?_)
    obtain ⟨s14, s15⟩ := q17
    refine pw_seq ?_
    refine sr (by kernel_rfl) ?_
    refine y0 rfl (o_move (d := .int .i64 s15) rfl) ?_
    refine y0 rfl (o_move (d := .lst false (List.map r11_Pair.Pv v1)) rfl) ?_
    refine y0 rfl (o_lnL (f := r11_Pair.Pv) rfl Ty.e43) ?_
    refine y0 rfl (o_cmp rfl rfl rfl) ?_
    refine y_nil ?_
    refine pw_cond (decide (s15 < (v1.length : Int))) rfl (fun hc => ?_) (fun hc => ?_)
    · have h := ifT h hc
      refine pw_skip ?_
      obtain ⟨κ19, hκ13, h⟩ := jnE h
      refine pw_jn0 (κ := κ19) (r := x16) (fun (j20 : Int) => St.of [(1, .int .i64 a1), (5, .int .i64 j20), (6, .lst false (List.map r11_Pair.Pv v1)), (7, .int .i64 s15)] []) (fun j20 h => ?_) ?_
      · subst hκ13
        refine sr1 (by kernel_rfl) ?_
        refine y0 rfl (o_move (d := .int .i64 s15) rfl) ?_
        refine y0 rfl (o_ari rfl rfl rfl) ?_
        refine y0 rfl (o_assign (d := .int .i64 (w64 (s15 + 1))) rfl) ?_
        refine y_nil ?_
        exact ⟨rfl, (j20, w64 (s15 + 1)), (Option.some.inj h).symm, (wk_st _ _ ⟨rfl, rfl, rfl, rfl, rfl, rfl, rfl, rfl, rfl, rfl, rfl, rfl, trivial⟩ trivial)⟩
      · skip
        refine pw_block ?_
        refine sr (by kernel_rfl) ?_
        refine y0 rfl (o_move (d := .lst false (List.map r11_Pair.Pv v1)) rfl) ?_
        refine y0 rfl (o_move (d := .int .i64 s15) rfl) ?_
        obtain ⟨v21, hv14, h⟩ := bindE h
        refine y0 rfl (o_ixL (f := r11_Pair.Pv) (cs := r11_Pair.Pc v21) hv14 rfl rfl Ty.e43 Ty.s53 rfl rfl) ?_
        refine y0 rfl (o_fieldAddrR rfl Ty.f53_1 rfl) ?_
        refine y0 rfl (o_loadRS rfl Ty.a3 rfl) ?_
        refine y0 rfl (o_move (d := .int .i64 a1) rfl) ?_
        refine y0 rfl (o_cmp rfl rfl rfl) ?_
        refine y0 rfl (o_move (d := .bool (v21.Val == a1)) rfl) ?_
        refine y_if (g := ((v21.Val == a1) == true)) rfl (fun hg => o_move (d := .int .i64 a1) rfl) ?_
        refine y_if (g := ((v21.Val == a1) == true)) rfl (fun hg => o_cmp (ct hg) rfl rfl) ?_
        refine y0 rfl (pk_and rfl rfl rfl (fun q => eqT q)) ?_
        refine y_nil ?_
        refine pw_cond ((v21.Val == a1) && (a1 != 0)) rfl (fun hc => ?_) (fun hc => ?_)
        · have h := ifT h hc
          refine sr1 (by kernel_rfl) ?_
          refine y0 rfl (o_move (d := .int .i64 s14) rfl) ?_
          refine y0 rfl (o_ari rfl rfl rfl) ?_
          refine y0 rfl (o_assign (d := .int .i64 (w64 (s14 + 1))) rfl) ?_
          refine y_nil ?_
          exact ⟨rfl, w64 (s14 + 1), h, (wk_st _ _ ⟨rfl, rfl, rfl, rfl, rfl, rfl, rfl, rfl, rfl, rfl, rfl, rfl, trivial⟩ trivial)⟩
        · have h := ifF h hc
          refine pw_skip ?_
          exact ⟨rfl, s14, h, (wk_st _ _ ⟨rfl, rfl, rfl, rfl, rfl, rfl, rfl, rfl, rfl, rfl, rfl, rfl, trivial⟩ trivial)⟩
    · have h := ifF h hc
      refine pw_exit ?_
      refine thenQ_exit ?_
      refine thenQ_exit ?_
      refine blockQ_exit ?_
      have he := hx11 _ (Option.some.inj h).symm
      have h := hk10
      rw [← he] at h
      exact ⟨rfl, s14, h, (wk_st _ _ ⟨rfl, rfl, rfl, trivial⟩ trivial)⟩

set_option maxHeartbeats 4000000 in
theorem w11_EphemActs_ok {a0 : List hash_Place} {a1 : Int} {a2 : Int} {a3 : List Int} {r : Bool} (h : w11_EphemActs a0 a1 a2 a3 = some r) : PCalls Try.prog 3 [.lst false (List.map hash_Place.Pv a0), .int .i64 a1, .int .i64 a2, .lst false (List.map (PV.int .i64) a3)] (.bool r) := by
  unfold w11_EphemActs at h
  refine pc_intro (N := 131) Try.func3 rfl rfl (Nat.le_of_ble_eq_true rfl) fun w0 imm0 => ?_
  refine sr (by kernel_rfl) ?_
  refine y0 rfl (o_assign (d := .bool false) rfl) ?_
  refine y_nil ?_
  refine pw_seq ?_
  refine sr (by kernel_rfl) ?_
  refine y0 rfl (o_move (d := .lst false (List.map hash_Place.Pv a0)) rfl) ?_
  obtain ⟨v1, hv1, h⟩ := bindE h
  refine y0 rfl (o_call (ds := [.lst false (List.map hash_Place.Pv a0)]) rfl Ty.k8 rfl (w11_right_ok hv1)) ?_
  refine y0 rfl (o_not rfl rfl) ?_
  refine y0 rfl (o_move (d := .bool (!v1)) rfl) ?_
  refine y_if (g := ((!v1) == false)) rfl (fun hg => o_move (d := .lst false (List.map (PV.int .i64) a3)) rfl) ?_
  refine y_if (g := ((!v1) == false)) rfl (fun hg => o_lnL (f := (PV.int .i64)) (ct hg) Ty.e23) ?_
  refine y_if (g := ((!v1) == false)) rfl (fun hg => o_cmp (ct hg) rfl rfl) ?_
  refine y0 rfl (pk_or rfl rfl rfl (fun q => eqF q)) ?_
  refine y0 rfl (o_move (d := .bool ((!v1) || (decide ((a3.length : Int) > 30)))) rfl) ?_
  obtain ⟨v2, hv2, h⟩ := bindE h
  refine y_if (g := (((!v1) || (decide ((a3.length : Int) > 30))) == false)) rfl (fun hg => o_call (ds := []) rfl Ty.k9 rfl (w11_shown_ok (onlyE hv2 hg))) ?_
  refine y_if (g := (((!v1) || (decide ((a3.length : Int) > 30))) == false)) rfl (fun hg => o_not (ct hg) rfl) ?_
  refine y0 rfl (pk_or rfl rfl rfl (fun q => eqF q)) ?_
  refine y_nil ?_
  refine pw_cond (((!v1) || (decide ((a3.length : Int) > 30))) || (!v2)) rfl (fun hc => ?_) (fun hc => ?_)
  · have h := ifT h hc
    refine sr (by kernel_rfl) ?_
    obtain ⟨v3, hv3, h⟩ := bindE h
    refine y0 rfl (o_call (ds := []) rfl Ty.k9 rfl (w11_shown_ok hv3)) ?_
    refine y0 rfl (o_assign (d := .bool v3) rfl) ?_
    refine y_nil ?_
    refine pw_ret ?_
    obtain rfl := Option.some.inj h
    exact ⟨rfl, [_], ⟨rfl, trivial⟩, rfl, by first | exact .inl rfl | exact .inr rfl⟩
  · have h := ifF h hc
    refine pw_skip ?_
    refine sr (by kernel_rfl) ?_
    refine y0 rfl (o_move (d := .lst false (List.map hash_Place.Pv a0)) rfl) ?_
    obtain ⟨v4, hv4, h⟩ := bindE h
    refine yc rfl (o_callF (ls := []) (ds := [.lst false (List.map hash_Place.Pv a0)]) rfl Ty.k10 rfl (w11_its_ok hv4)) ?_
    refine y0 rfl (o_assign (d := .lst false (List.map r10_Place.Pv v4)) rfl) ?_
    refine y_nil ?_
    refine sr (by kernel_rfl) ?_
    refine y0 rfl (o_move (d := .lst false (List.map hash_Place.Pv a0)) rfl) ?_
    refine y0 rfl (o_move (d := .int .i64 a1) rfl) ?_
    refine y0 rfl (o_move (d := .int .i64 a2) rfl) ?_
    obtain ⟨v5, hv5, h⟩ := bindE h
    refine yc rfl (o_callF (ls := []) (ds := [.lst false (List.map hash_Place.Pv a0), .int .i64 a1, .int .i64 a2]) rfl Ty.k11 rfl (ephem_Set_ok hv5)) ?_
    refine y0 rfl (o_move (d := .tup [.lst false (List.map hash_Place.Pv v5.1), .int .i64 v5.2.1, .int .i64 v5.2.2]) rfl) ?_
    refine y0 rfl (o_extract rfl rfl) ?_
    refine y0 rfl (o_extract rfl rfl) ?_
    refine y0 rfl (o_extract rfl rfl) ?_
    refine y0 rfl (o_assign (d := .lst false (List.map hash_Place.Pv v5.1)) rfl) ?_
    refine y0 rfl (o_assign (d := .int .i64 v5.2.1) rfl) ?_
    refine y0 rfl (o_assign (d := .int .i64 v5.2.2) rfl) ?_
    refine y_nil ?_
    refine sr (by kernel_rfl) ?_
    refine y0 rfl (o_move (d := .lst false (List.map r10_Place.Pv v4)) rfl) ?_
    refine y0 rfl (o_move (d := .int .i64 a1) rfl) ?_
    refine y0 rfl (o_move (d := .int .i64 a2) rfl) ?_
    obtain ⟨v6, hv6, h⟩ := bindE h
    refine yc rfl (o_callF (ls := []) (ds := [.lst false (List.map r10_Place.Pv v4), .int .i64 a1, .int .i64 a2]) rfl Ty.k12 rfl (r11_Set_ok hv6)) ?_
    refine y0 rfl (o_move (d := .tup [.lst false (List.map r10_Place.Pv v6.1), .int .i64 v6.2.1, .int .i64 v6.2.2]) rfl) ?_
    refine y0 rfl (o_extract rfl rfl) ?_
    refine y0 rfl (o_extract rfl rfl) ?_
    refine y0 rfl (o_extract rfl rfl) ?_
    refine y0 rfl (o_assign (d := .lst false (List.map r10_Place.Pv v6.1)) rfl) ?_
    refine y0 rfl (o_assign (d := .int .i64 v6.2.1) rfl) ?_
    refine y0 rfl (o_assign (d := .int .i64 v6.2.2) rfl) ?_
    refine y_nil ?_
    refine sr (by kernel_rfl) ?_
    refine y0 rfl (o_move (d := .lst false (List.map hash_Place.Pv a0)) rfl) ?_
    refine y0 rfl (o_move (d := .int .i64 a1) rfl) ?_
    obtain ⟨v7, hv7, h⟩ := bindE h
    refine y0 rfl (o_call (ds := [.lst false (List.map hash_Place.Pv a0), .int .i64 a1]) rfl Ty.k13 rfl (ephem_Get_ok hv7)) ?_
    refine y0 rfl (o_move (d := .tup [.int .i64 v7.1, .int .i64 v7.2]) rfl) ?_
    refine y0 rfl (o_extract rfl rfl) ?_
    refine y0 rfl (o_extract rfl rfl) ?_
    refine y0 rfl (o_assign (d := .int .i64 v7.1) rfl) ?_
    refine y0 rfl (o_assign (d := .int .i64 v7.2) rfl) ?_
    refine y_nil ?_
    refine sr (by kernel_rfl) ?_
    refine y0 rfl (o_move (d := .lst false (List.map r10_Place.Pv v4)) rfl) ?_
    refine y0 rfl (o_move (d := .int .i64 a1) rfl) ?_
    obtain ⟨v8, hv8, h⟩ := bindE h
    refine y0 rfl (o_call (ds := [.lst false (List.map r10_Place.Pv v4), .int .i64 a1]) rfl Ty.k14 rfl (r11_Get_ok hv8)) ?_
    refine y0 rfl (o_move (d := .tup [.int .i64 v8.1, .int .i64 v8.2]) rfl) ?_
    refine y0 rfl (o_extract rfl rfl) ?_
    refine y0 rfl (o_extract rfl rfl) ?_
    refine y0 rfl (o_assign (d := .int .i64 v8.1) rfl) ?_
    refine y0 rfl (o_assign (d := .int .i64 v8.2) rfl) ?_
    refine y_nil ?_
    refine sr (by kernel_rfl) ?_
    refine y0 rfl (o_move (d := .lst false (List.map hash_Place.Pv a0)) rfl) ?_
    refine y0 rfl (o_move (d := .lst false (List.map (PV.int .i64) a3)) rfl) ?_
    obtain ⟨v9, hv9, h⟩ := bindE h
    refine yc rfl (o_callF (ls := []) (ds := [.lst false (List.map hash_Place.Pv a0), .lst false (List.map (PV.int .i64) a3)]) rfl Ty.k15 rfl (ephem_Without_ok hv9)) ?_
    refine y0 rfl (o_move (d := .tup [.lst false (List.map hash_Place.Pv v9.1), .lst false (List.map (PV.int .i64) v9.2)]) rfl) ?_
    refine y0 rfl (o_extract rfl rfl) ?_
    refine y0 rfl (o_extract rfl rfl) ?_
    refine y0 rfl (o_assign (d := .lst false (List.map hash_Place.Pv v9.1)) rfl) ?_
    refine y0 rfl (o_assign (d := .lst false (List.map (PV.int .i64) v9.2)) rfl) ?_
    refine y_nil ?_
    refine sr (by kernel_rfl) ?_
    refine y0 rfl (o_move (d := .lst false (List.map r10_Place.Pv v4)) rfl) ?_
    refine y0 rfl (o_move (d := .lst false (List.map (PV.int .i64) a3)) rfl) ?_
    obtain ⟨v10, hv10, h⟩ := bindE h
    refine yc rfl (o_callF (ls := []) (ds := [.lst false (List.map r10_Place.Pv v4), .lst false (List.map (PV.int .i64) a3)]) rfl Ty.k16 rfl (r11_Without_ok hv10)) ?_
    refine y0 rfl (o_move (d := .tup [.lst false (List.map r10_Place.Pv v10.1), .lst false (List.map (PV.int .i64) v10.2)]) rfl) ?_
    refine y0 rfl (o_extract rfl rfl) ?_
    refine y0 rfl (o_extract rfl rfl) ?_
    refine y0 rfl (o_assign (d := .lst false (List.map r10_Place.Pv v10.1)) rfl) ?_
    refine y0 rfl (o_assign (d := .lst false (List.map (PV.int .i64) v10.2)) rfl) ?_
    refine y_nil ?_
    refine sr (by kernel_rfl) ?_
    refine y0 rfl (o_move (d := .lst false (List.map hash_Place.Pv v5.1)) rfl) ?_
    obtain ⟨v11, hv11, h⟩ := bindE h
    refine yc rfl (o_callF (ls := []) (ds := [.lst false (List.map hash_Place.Pv v5.1)]) rfl Ty.k10 rfl (w11_its_ok hv11)) ?_
    refine y0 rfl (o_move (d := .lst false (List.map r10_Place.Pv v6.1)) rfl) ?_
    obtain ⟨v12, hv12, h⟩ := bindE h
    refine y0 rfl (o_call (ds := [.lst false (List.map r10_Place.Pv v11), .lst false (List.map r10_Place.Pv v6.1)]) rfl Ty.k17 rfl (r10_Same_ok hv12)) ?_
    refine y0 rfl (o_move (d := .bool v12) rfl) ?_
    refine y_if (g := (v12 == true)) rfl (fun hg => o_move (d := .int .i64 v5.2.1) rfl) ?_
    refine y_if (g := (v12 == true)) rfl (fun hg => o_move (d := .int .i64 v6.2.1) rfl) ?_
    refine y_if (g := (v12 == true)) rfl (fun hg => o_cmp (ct hg) (ct hg) rfl) ?_
    refine y0 rfl (pk_and rfl rfl rfl (fun q => eqT q)) ?_
    refine y0 rfl (o_move (d := .bool (v12 && (v5.2.1 == v6.2.1))) rfl) ?_
    refine y_if (g := ((v12 && (v5.2.1 == v6.2.1)) == true)) rfl (fun hg => o_move (d := .int .i64 v5.2.2) rfl) ?_
    refine y_if (g := ((v12 && (v5.2.1 == v6.2.1)) == true)) rfl (fun hg => o_move (d := .int .i64 v6.2.2) rfl) ?_
    refine y_if (g := ((v12 && (v5.2.1 == v6.2.1)) == true)) rfl (fun hg => o_cmp (ct hg) (ct hg) rfl) ?_
    refine y0 rfl (pk_and rfl rfl rfl (fun q => eqT q)) ?_
    refine y0 rfl (o_move (d := .bool ((v12 && (v5.2.1 == v6.2.1)) && (v5.2.2 == v6.2.2))) rfl) ?_
    refine y_if (g := (((v12 && (v5.2.1 == v6.2.1)) && (v5.2.2 == v6.2.2)) == true)) rfl (fun hg => o_move (d := .int .i64 v7.1) rfl) ?_
    refine y_if (g := (((v12 && (v5.2.1 == v6.2.1)) && (v5.2.2 == v6.2.2)) == true)) rfl (fun hg => o_move (d := .int .i64 v8.1) rfl) ?_
    refine y_if (g := (((v12 && (v5.2.1 == v6.2.1)) && (v5.2.2 == v6.2.2)) == true)) rfl (fun hg => o_cmp (ct hg) (ct hg) rfl) ?_
    refine y0 rfl (pk_and rfl rfl rfl (fun q => eqT q)) ?_
    refine y0 rfl (o_move (d := .bool (((v12 && (v5.2.1 == v6.2.1)) && (v5.2.2 == v6.2.2)) && (v7.1 == v8.1))) rfl) ?_
    refine y_if (g := ((((v12 && (v5.2.1 == v6.2.1)) && (v5.2.2 == v6.2.2)) && (v7.1 == v8.1)) == true)) rfl (fun hg => o_move (d := .int .i64 v7.2) rfl) ?_
    refine y_if (g := ((((v12 && (v5.2.1 == v6.2.1)) && (v5.2.2 == v6.2.2)) && (v7.1 == v8.1)) == true)) rfl (fun hg => o_move (d := .int .i64 v8.2) rfl) ?_
    refine y_if (g := ((((v12 && (v5.2.1 == v6.2.1)) && (v5.2.2 == v6.2.2)) && (v7.1 == v8.1)) == true)) rfl (fun hg => o_cmp (ct hg) (ct hg) rfl) ?_
    refine y0 rfl (pk_and rfl rfl rfl (fun q => eqT q)) ?_
    refine y0 rfl (o_move (d := .bool ((((v12 && (v5.2.1 == v6.2.1)) && (v5.2.2 == v6.2.2)) && (v7.1 == v8.1)) && (v7.2 == v8.2))) rfl) ?_
    refine y_if (g := (((((v12 && (v5.2.1 == v6.2.1)) && (v5.2.2 == v6.2.2)) && (v7.1 == v8.1)) && (v7.2 == v8.2)) == true)) rfl (fun hg => o_move (d := .lst false (List.map hash_Place.Pv v9.1)) rfl) ?_
    obtain ⟨v13, hv13, h⟩ := bindE h
    refine y_ifc (g := (((((v12 && (v5.2.1 == v6.2.1)) && (v5.2.2 == v6.2.2)) && (v7.1 == v8.1)) && (v7.2 == v8.2)) == true)) rfl (fun hg => o_callF (ls := []) (ds := [.lst false (List.map hash_Place.Pv v9.1)]) rfl Ty.k10 (consE (ct hg) rfl) (w11_its_ok (onlyE hv13 hg))) ?_
    refine y_if (g := (((((v12 && (v5.2.1 == v6.2.1)) && (v5.2.2 == v6.2.2)) && (v7.1 == v8.1)) && (v7.2 == v8.2)) == true)) rfl (fun hg => o_move (d := .lst false (List.map r10_Place.Pv v10.1)) rfl) ?_
    obtain ⟨v14, hv14, h⟩ := bindE h
    refine y_if (g := (((((v12 && (v5.2.1 == v6.2.1)) && (v5.2.2 == v6.2.2)) && (v7.1 == v8.1)) && (v7.2 == v8.2)) == true)) rfl (fun hg => o_call (ds := [.lst false (List.map r10_Place.Pv v13), .lst false (List.map r10_Place.Pv v10.1)]) rfl Ty.k17 (consE (ct hg) (consE (ct hg) rfl)) (r10_Same_ok (onlyE hv14 hg))) ?_
    refine y0 rfl (pk_and rfl rfl rfl (fun q => eqT q)) ?_
    refine y0 rfl (o_move (d := .bool (((((v12 && (v5.2.1 == v6.2.1)) && (v5.2.2 == v6.2.2)) && (v7.1 == v8.1)) && (v7.2 == v8.2)) && v14)) rfl) ?_
    refine y_if (g := ((((((v12 && (v5.2.1 == v6.2.1)) && (v5.2.2 == v6.2.2)) && (v7.1 == v8.1)) && (v7.2 == v8.2)) && v14) == true)) rfl (fun hg => o_move (d := .lst false (List.map (PV.int .i64) v9.2)) rfl) ?_
    refine y_if (g := ((((((v12 && (v5.2.1 == v6.2.1)) && (v5.2.2 == v6.2.2)) && (v7.1 == v8.1)) && (v7.2 == v8.2)) && v14) == true)) rfl (fun hg => o_move (d := .lst false (List.map (PV.int .i64) v10.2)) rfl) ?_
    obtain ⟨v15, hv15, h⟩ := bindE h
    refine y_if (g := ((((((v12 && (v5.2.1 == v6.2.1)) && (v5.2.2 == v6.2.2)) && (v7.1 == v8.1)) && (v7.2 == v8.2)) && v14) == true)) rfl (fun hg => o_call (ds := [.lst false (List.map (PV.int .i64) v9.2), .lst false (List.map (PV.int .i64) v10.2)]) rfl Ty.k18 (consE (ct hg) (consE (ct hg) rfl)) (r02_Ints_ok (onlyE hv15 hg))) ?_
    refine y0 rfl (pk_and rfl rfl rfl (fun q => eqT q)) ?_
    refine y0 rfl (o_move (d := .bool ((((((v12 && (v5.2.1 == v6.2.1)) && (v5.2.2 == v6.2.2)) && (v7.1 == v8.1)) && (v7.2 == v8.2)) && v14) && v15)) rfl) ?_
    refine y_if (g := (((((((v12 && (v5.2.1 == v6.2.1)) && (v5.2.2 == v6.2.2)) && (v7.1 == v8.1)) && (v7.2 == v8.2)) && v14) && v15) == true)) rfl (fun hg => o_move (d := .lst false (List.map hash_Place.Pv a0)) rfl) ?_
    obtain ⟨v16, hv16, h⟩ := bindE h
    refine y_ifc (g := (((((((v12 && (v5.2.1 == v6.2.1)) && (v5.2.2 == v6.2.2)) && (v7.1 == v8.1)) && (v7.2 == v8.2)) && v14) && v15) == true)) rfl (fun hg => o_callF (ls := []) (ds := [.lst false (List.map hash_Place.Pv a0)]) rfl Ty.k21 (consE (ct hg) rfl) (ephem_Pairs_ok (onlyE hv16 hg))) ?_
    obtain ⟨v17, hv17, h⟩ := bindE h
    refine y_ifc (g := (((((((v12 && (v5.2.1 == v6.2.1)) && (v5.2.2 == v6.2.2)) && (v7.1 == v8.1)) && (v7.2 == v8.2)) && v14) && v15) == true)) rfl (fun hg => o_callF (ls := []) (ds := [.lst false (List.map ephem_Pair.Pv v16)]) rfl Ty.k20 (consE (ct hg) rfl) (w11_pairs_ok (onlyE hv17 hg))) ?_
    refine y_if (g := (((((((v12 && (v5.2.1 == v6.2.1)) && (v5.2.2 == v6.2.2)) && (v7.1 == v8.1)) && (v7.2 == v8.2)) && v14) && v15) == true)) rfl (fun hg => o_move (d := .lst false (List.map r10_Place.Pv v4)) rfl) ?_
    obtain ⟨v18, hv18, h⟩ := bindE h
    refine y_ifc (g := (((((((v12 && (v5.2.1 == v6.2.1)) && (v5.2.2 == v6.2.2)) && (v7.1 == v8.1)) && (v7.2 == v8.2)) && v14) && v15) == true)) rfl (fun hg => o_callF (ls := []) (ds := [.lst false (List.map r10_Place.Pv v4)]) rfl Ty.k22 (consE (ct hg) rfl) (r11_Pairs_ok (onlyE hv18 hg))) ?_
    obtain ⟨v19, hv19, h⟩ := bindE h
    refine y_if (g := (((((((v12 && (v5.2.1 == v6.2.1)) && (v5.2.2 == v6.2.2)) && (v7.1 == v8.1)) && (v7.2 == v8.2)) && v14) && v15) == true)) rfl (fun hg => o_call (ds := [.lst false (List.map r11_Pair.Pv v17), .lst false (List.map r11_Pair.Pv v18)]) rfl Ty.k19 (consE (ct hg) (consE (ct hg) rfl)) (r11_Same_ok (onlyE hv19 hg))) ?_
    refine y0 rfl (pk_and rfl rfl rfl (fun q => eqT q)) ?_
    refine y0 rfl (o_move (d := .bool (((((((v12 && (v5.2.1 == v6.2.1)) && (v5.2.2 == v6.2.2)) && (v7.1 == v8.1)) && (v7.2 == v8.2)) && v14) && v15) && v19)) rfl) ?_
    refine y_if (g := ((((((((v12 && (v5.2.1 == v6.2.1)) && (v5.2.2 == v6.2.2)) && (v7.1 == v8.1)) && (v7.2 == v8.2)) && v14) && v15) && v19) == true)) rfl (fun hg => o_move (d := .lst false (List.map hash_Place.Pv a0)) rfl) ?_
    refine y_if (g := ((((((((v12 && (v5.2.1 == v6.2.1)) && (v5.2.2 == v6.2.2)) && (v7.1 == v8.1)) && (v7.2 == v8.2)) && v14) && v15) && v19) == true)) rfl (fun hg => o_move (d := .int .i64 a2) rfl) ?_
    obtain ⟨v20, hv20, h⟩ := bindE h
    refine y_if (g := ((((((((v12 && (v5.2.1 == v6.2.1)) && (v5.2.2 == v6.2.2)) && (v7.1 == v8.1)) && (v7.2 == v8.2)) && v14) && v15) && v19) == true)) rfl (fun hg => o_call (ds := [.lst false (List.map hash_Place.Pv a0), .int .i64 a2]) rfl Ty.k23 (consE (ct hg) (consE (ct hg) rfl)) (ephem_Owned_ok (onlyE hv20 hg))) ?_
    refine y_if (g := ((((((((v12 && (v5.2.1 == v6.2.1)) && (v5.2.2 == v6.2.2)) && (v7.1 == v8.1)) && (v7.2 == v8.2)) && v14) && v15) && v19) == true)) rfl (fun hg => o_move (d := .lst false (List.map r10_Place.Pv v4)) rfl) ?_
    refine y_if (g := ((((((((v12 && (v5.2.1 == v6.2.1)) && (v5.2.2 == v6.2.2)) && (v7.1 == v8.1)) && (v7.2 == v8.2)) && v14) && v15) && v19) == true)) rfl (fun hg => o_move (d := .int .i64 a2) rfl) ?_
    obtain ⟨v21, hv21, h⟩ := bindE h
    refine y_if (g := ((((((((v12 && (v5.2.1 == v6.2.1)) && (v5.2.2 == v6.2.2)) && (v7.1 == v8.1)) && (v7.2 == v8.2)) && v14) && v15) && v19) == true)) rfl (fun hg => o_call (ds := [.lst false (List.map r10_Place.Pv v4), .int .i64 a2]) rfl Ty.k24 (consE (ct hg) (consE (ct hg) rfl)) (r11_Owned_ok (onlyE hv21 hg))) ?_
    refine y_if (g := ((((((((v12 && (v5.2.1 == v6.2.1)) && (v5.2.2 == v6.2.2)) && (v7.1 == v8.1)) && (v7.2 == v8.2)) && v14) && v15) && v19) == true)) rfl (fun hg => o_cmp (ct hg) (ct hg) rfl) ?_
    refine y0 rfl (pk_and rfl rfl rfl (fun q => eqT q)) ?_
    refine y0 rfl (o_assign (d := .bool ((((((((v12 && (v5.2.1 == v6.2.1)) && (v5.2.2 == v6.2.2)) && (v7.1 == v8.1)) && (v7.2 == v8.2)) && v14) && v15) && v19) && (v20 == v21))) rfl) ?_
    refine y_nil ?_
    refine pw_ret ?_
    obtain rfl := Option.some.inj h
    exact ⟨rfl, [_], ⟨rfl, trivial⟩, rfl, by first | exact .inl rfl | exact .inr rfl⟩

set_option maxHeartbeats 4000000 in
theorem w11_EphemOwns_ok {a0 : List hash_Place} {a1 : Int} {a2 : Int} {r : Bool} (h : w11_EphemOwns a0 a1 a2 = some r) : PCalls Try.prog 4 [.lst false (List.map hash_Place.Pv a0), .int .i64 a1, .int .i64 a2] (.bool r) := by
  unfold w11_EphemOwns at h
  refine pc_intro (N := 66) Try.func4 rfl rfl (Nat.le_of_ble_eq_true rfl) fun w0 imm0 => ?_
  refine sr (by kernel_rfl) ?_
  refine y0 rfl (o_assign (d := .bool false) rfl) ?_
  refine y_nil ?_
  refine pw_seq ?_
  refine sr (by kernel_rfl) ?_
  refine y0 rfl (o_move (d := .lst false (List.map hash_Place.Pv a0)) rfl) ?_
  obtain ⟨v1, hv1, h⟩ := bindE h
  refine y0 rfl (o_call (ds := [.lst false (List.map hash_Place.Pv a0)]) rfl Ty.k8 rfl (w11_right_ok hv1)) ?_
  refine y0 rfl (o_not rfl rfl) ?_
  refine y0 rfl (o_move (d := .bool (!v1)) rfl) ?_
  refine y_if (g := ((!v1) == false)) rfl (fun hg => o_move (d := .int .i64 a2) rfl) ?_
  refine y_if (g := ((!v1) == false)) rfl (fun hg => o_cmp (ct hg) rfl rfl) ?_
  refine y0 rfl (pk_or rfl rfl rfl (fun q => eqF q)) ?_
  refine y0 rfl (o_move (d := .bool ((!v1) || (a2 == 0))) rfl) ?_
  obtain ⟨v2, hv2, h⟩ := bindE h
  refine y_if (g := (((!v1) || (a2 == 0)) == false)) rfl (fun hg => o_call (ds := []) rfl Ty.k9 rfl (w11_shown_ok (onlyE hv2 hg))) ?_
  refine y_if (g := (((!v1) || (a2 == 0)) == false)) rfl (fun hg => o_not (ct hg) rfl) ?_
  refine y0 rfl (pk_or rfl rfl rfl (fun q => eqF q)) ?_
  refine y_nil ?_
  refine pw_cond (((!v1) || (a2 == 0)) || (!v2)) rfl (fun hc => ?_) (fun hc => ?_)
  · have h := ifT h hc
    refine sr (by kernel_rfl) ?_
    obtain ⟨v3, hv3, h⟩ := bindE h
    refine y0 rfl (o_call (ds := []) rfl Ty.k9 rfl (w11_shown_ok hv3)) ?_
    refine y0 rfl (o_assign (d := .bool v3) rfl) ?_
    refine y_nil ?_
    refine pw_ret ?_
    obtain rfl := Option.some.inj h
    exact ⟨rfl, [_], ⟨rfl, trivial⟩, rfl, by first | exact .inl rfl | exact .inr rfl⟩
  · have h := ifF h hc
    refine pw_skip ?_
    refine sr (by kernel_rfl) ?_
    refine y0 rfl (o_move (d := .lst false (List.map hash_Place.Pv a0)) rfl) ?_
    refine y0 rfl (o_move (d := .int .i64 a1) rfl) ?_
    refine y0 rfl (o_move (d := .int .i64 a2) rfl) ?_
    obtain ⟨v4, hv4, h⟩ := bindE h
    refine yc rfl (o_callF (ls := []) (ds := [.lst false (List.map hash_Place.Pv a0), .int .i64 a1, .int .i64 a2]) rfl Ty.k11 rfl (ephem_Set_ok hv4)) ?_
    refine y0 rfl (o_move (d := .tup [.lst false (List.map hash_Place.Pv v4.1), .int .i64 v4.2.1, .int .i64 v4.2.2]) rfl) ?_
    refine y0 rfl (o_extract rfl rfl) ?_
    refine y0 rfl (o_extract rfl rfl) ?_
    refine y0 rfl (o_extract rfl rfl) ?_
    refine y0 rfl (o_assign (d := .lst false (List.map hash_Place.Pv v4.1)) rfl) ?_
    refine y0 rfl (o_assign (d := .int .i64 v4.2.1) rfl) ?_
    refine y0 rfl (o_assign (d := .int .i64 v4.2.2) rfl) ?_
    refine y_nil ?_
    refine pw_seq ?_
    refine sr (by kernel_rfl) ?_
    refine y0 rfl (o_move (d := .int .i64 v4.2.2) rfl) ?_
    refine y0 rfl (o_cmp rfl rfl rfl) ?_
    refine y0 rfl (o_move (d := .bool (v4.2.2 != 0)) rfl) ?_
    refine y_if (g := ((v4.2.2 != 0) == false)) rfl (fun hg => o_move (d := .int .i64 v4.2.1) rfl) ?_
    refine y_if (g := ((v4.2.2 != 0) == false)) rfl (fun hg => o_move (d := .int .i64 a2) rfl) ?_
    refine y_if (g := ((v4.2.2 != 0) == false)) rfl (fun hg => o_cmp (ct hg) (ct hg) rfl) ?_
    refine y0 rfl (pk_or rfl rfl rfl (fun q => eqF q)) ?_
    refine y_nil ?_
    refine pw_cond ((v4.2.2 != 0) || (v4.2.1 == a2)) rfl (fun hc => ?_) (fun hc => ?_)
    · have h := ifT h hc
      refine sr (by kernel_rfl) ?_
      refine y0 rfl (o_move (d := .lst false (List.map hash_Place.Pv v4.1)) rfl) ?_
      refine y0 rfl (o_move (d := .int .i64 a2) rfl) ?_
      obtain ⟨v5, hv5, h⟩ := bindE h
      refine y0 rfl (o_call (ds := [.lst false (List.map hash_Place.Pv v4.1), .int .i64 a2]) rfl Ty.k23 rfl (ephem_Owned_ok hv5)) ?_
      refine y0 rfl (o_move (d := .lst false (List.map hash_Place.Pv a0)) rfl) ?_
      refine y0 rfl (o_move (d := .int .i64 a2) rfl) ?_
      obtain ⟨v6, hv6, h⟩ := bindE h
      refine y0 rfl (o_call (ds := [.lst false (List.map hash_Place.Pv a0), .int .i64 a2]) rfl Ty.k23 rfl (ephem_Owned_ok hv6)) ?_
      refine y0 rfl (o_cmp rfl rfl rfl) ?_
      refine y0 rfl (o_assign (d := .bool (v5 == v6)) rfl) ?_
      refine y_nil ?_
      refine pw_ret ?_
      obtain rfl := Option.some.inj h
      exact ⟨rfl, [_], ⟨rfl, trivial⟩, rfl, by first | exact .inl rfl | exact .inr rfl⟩
    · have h := ifF h hc
      refine pw_skip ?_
      refine sr (by kernel_rfl) ?_
      refine y0 rfl (o_move (d := .lst false (List.map hash_Place.Pv v4.1)) rfl) ?_
      refine y0 rfl (o_move (d := .int .i64 a2) rfl) ?_
      obtain ⟨v7, hv7, h⟩ := bindE h
      refine y0 rfl (o_call (ds := [.lst false (List.map hash_Place.Pv v4.1), .int .i64 a2]) rfl Ty.k23 rfl (ephem_Owned_ok hv7)) ?_
      refine y0 rfl (o_move (d := .lst false (List.map hash_Place.Pv a0)) rfl) ?_
      refine y0 rfl (o_move (d := .int .i64 a2) rfl) ?_
      obtain ⟨v8, hv8, h⟩ := bindE h
      refine y0 rfl (o_call (ds := [.lst false (List.map hash_Place.Pv a0), .int .i64 a2]) rfl Ty.k23 rfl (ephem_Owned_ok hv8)) ?_
      refine y0 rfl (o_ari rfl rfl rfl) ?_
      refine y0 rfl (o_cmp rfl rfl rfl) ?_
      refine y0 rfl (o_move (d := .bool (v7 == (w64 (v8 + 1)))) rfl) ?_
      refine y_if (g := ((v7 == (w64 (v8 + 1))) == true)) rfl (fun hg => o_move (d := .int .i64 v4.2.1) rfl) ?_
      refine y_if (g := ((v7 == (w64 (v8 + 1))) == true)) rfl (fun hg => o_cmp (ct hg) rfl rfl) ?_
      refine y_if (g := ((v7 == (w64 (v8 + 1))) == true)) rfl (fun hg => o_move (d := .bool (v4.2.1 == 0)) (ct hg)) ?_
      refine y_if (g := (((v7 == (w64 (v8 + 1))) == true) && ((v4.2.1 == 0) == false))) (want2 rfl rfl rfl) (fun hg => o_move (d := .lst false (List.map hash_Place.Pv v4.1)) rfl) ?_
      refine y_if (g := (((v7 == (w64 (v8 + 1))) == true) && ((v4.2.1 == 0) == false))) (want2 rfl rfl rfl) (fun hg => o_move (d := .int .i64 v4.2.1) rfl) ?_
      obtain ⟨v9, hv9, h⟩ := bindE h
      refine y_if (g := (((v7 == (w64 (v8 + 1))) == true) && ((v4.2.1 == 0) == false))) (want2 rfl rfl rfl) (fun hg => o_call (ds := [.lst false (List.map hash_Place.Pv v4.1), .int .i64 v4.2.1]) rfl Ty.k23 (consE (ct hg) (consE (ct hg) rfl)) (ephem_Owned_ok (onlyE hv9 hg))) ?_
      refine y_if (g := (((v7 == (w64 (v8 + 1))) == true) && ((v4.2.1 == 0) == false))) (want2 rfl rfl rfl) (fun hg => o_move (d := .lst false (List.map hash_Place.Pv a0)) rfl) ?_
      refine y_if (g := (((v7 == (w64 (v8 + 1))) == true) && ((v4.2.1 == 0) == false))) (want2 rfl rfl rfl) (fun hg => o_move (d := .int .i64 v4.2.1) rfl) ?_
      obtain ⟨v10, hv10, h⟩ := bindE h
      refine y_if (g := (((v7 == (w64 (v8 + 1))) == true) && ((v4.2.1 == 0) == false))) (want2 rfl rfl rfl) (fun hg => o_call (ds := [.lst false (List.map hash_Place.Pv a0), .int .i64 v4.2.1]) rfl Ty.k23 (consE (ct hg) (consE (ct hg) rfl)) (ephem_Owned_ok (onlyE hv10 hg))) ?_
      refine y_if (g := (((v7 == (w64 (v8 + 1))) == true) && ((v4.2.1 == 0) == false))) (want2 rfl rfl rfl) (fun hg => o_ari (ct hg) rfl rfl) ?_
      refine y_if (g := (((v7 == (w64 (v8 + 1))) == true) && ((v4.2.1 == 0) == false))) (want2 rfl rfl rfl) (fun hg => o_cmp (ct hg) (ct hg) rfl) ?_
      refine y_if (g := ((v7 == (w64 (v8 + 1))) == true)) rfl (fun hg => pk_or (ct hg) rfl rfl (fun q => andI hg (eqF q))) ?_
      refine y0 rfl (pk_and rfl rfl rfl (fun q => eqT q)) ?_
      refine y0 rfl (o_assign (d := .bool ((v7 == (w64 (v8 + 1))) && ((v4.2.1 == 0) || (v9 == (w64 (v10 - 1)))))) rfl) ?_
      refine y_nil ?_
      refine pw_ret ?_
      obtain rfl := Option.some.inj h
      exact ⟨rfl, [_], ⟨rfl, trivial⟩, rfl, by first | exact .inl rfl | exact .inr rfl⟩

set_option maxHeartbeats 4000000 in
theorem r07_Times_ok {a0 : List Int} {a1 : Int} {r : Int} (h : r07_Times a0 a1 = some r) : PCalls Try.prog 25 [.lst false (List.map (PV.int .i64) a0), .int .i64 a1] (.int .i64 r) := by
  unfold r07_Times at h
  refine pc_intro (N := 26) Try.func25 rfl rfl (Nat.le_of_ble_eq_true rfl) fun w0 imm0 => ?_
  refine sr (by kernel_rfl) ?_
  refine y0 rfl (o_assign (d := .int .i64 0) rfl) ?_
  refine y_nil ?_
  refine sr (by kernel_rfl) ?_
  refine y0 rfl (o_assign (d := .int .i64 0) rfl) ?_
  refine y_nil ?_
  obtain ⟨κ10, hκ7, h⟩ := jnE h
  refine pw_jn0 (κ := κ10) (r := r) (fun (j11 : Int) => St.of [(5, .int .i64 j11)] []) (fun j11 h => ?_) ?_
  · subst hκ7
    refine sr (by kernel_rfl) ?_
    refine y0 rfl (o_move (d := .int .i64 j11) rfl) ?_
    refine y0 rfl (o_assign (d := .int .i64 j11) rfl) ?_
    refine y_nil ?_
    refine pw_ret ?_
    obtain rfl := Option.some.inj h
    exact ⟨rfl, [_], ⟨rfl, trivial⟩, rfl, by first | exact .inl rfl | exact .inr rfl⟩
  · skip
    refine sr (by kernel_rfl) ?_
    refine y0 rfl (o_assign (d := .int .i64 0) rfl) ?_
    refine y_nil ?_
    refine pw_block ?_
    obtain ⟨e12, hl8, hk9⟩ := bindE h
    refine pw_lp0 (fun (q : Int × Int) => St.of [(0, .lst false (List.map (PV.int .i64) a0)), (1, .int .i64 a1), (5, .int .i64 q.1), (6, .int .i64 q.2)] []) hl8 (wk_st _ _ ⟨rfl, rfl, rfl, rfl, rfl, rfl, rfl, rfl, rfl, rfl, rfl, rfl, trivial⟩ trivial) (fun q16 x15 h hx10 => ?_)
    obtain ⟨s13, s14⟩ := q16
    refine pw_seq ?_
    refine sr (by kernel_rfl) ?_
    refine y0 rfl (o_move (d := .int .i64 s14) rfl) ?_
    refine y0 rfl (o_move (d := .lst false (List.map (PV.int .i64) a0)) rfl) ?_
    refine y0 rfl (o_lnL (f := (PV.int .i64)) rfl Ty.e23) ?_
    refine y0 rfl (o_cmp rfl rfl rfl) ?_
    refine y_nil ?_
    refine pw_cond (decide (s14 < (a0.length : Int))) rfl (fun hc => ?_) (fun hc => ?_)
    · have h := ifT h hc
      refine pw_skip ?_
      obtain ⟨κ18, hκ12, h⟩ := jnE h
      refine pw_jn0 (κ := κ18) (r := x15) (fun (j19 : Int) => St.of [(0, .lst false (List.map (PV.int .i64) a0)), (1, .int .i64 a1), (5, .int .i64 j19), (6, .int .i64 s14)] []) (fun j19 h => ?_) ?_
      · subst hκ12
        refine sr1 (by kernel_rfl) ?_
        refine y0 rfl (o_move (d := .int .i64 s14) rfl) ?_
        refine y0 rfl (o_ari rfl rfl rfl) ?_
        refine y0 rfl (o_assign (d := .int .i64 (w64 (s14 + 1))) rfl) ?_
        refine y_nil ?_
        exact ⟨rfl, (j19, w64 (s14 + 1)), (Option.some.inj h).symm, (wk_st _ _ ⟨rfl, rfl, rfl, rfl, rfl, rfl, rfl, rfl, rfl, rfl, rfl, rfl, trivial⟩ trivial)⟩
      · skip
        refine pw_block ?_
        refine sr (by kernel_rfl) ?_
        refine y0 rfl (o_move (d := .lst false (List.map (PV.int .i64) a0)) rfl) ?_
        refine y0 rfl (o_move (d := .int .i64 s14) rfl) ?_
        obtain ⟨v20, hv13, h⟩ := bindE h
        refine y0 rfl (o_ixL (f := (PV.int .i64)) (cs := [.int .i64 v20]) hv13 rfl rfl Ty.e23 Ty.s3 rfl rfl) ?_
        refine y0 rfl (o_loadRS rfl Ty.a3 rfl) ?_
        refine y0 rfl (o_move (d := .int .i64 a1) rfl) ?_
        refine y0 rfl (o_cmp rfl rfl rfl) ?_
        refine y0 rfl (o_move (d := .bool (v20 == a1)) rfl) ?_
        refine y_if (g := ((v20 == a1) == true)) rfl (fun hg => o_move (d := .int .i64 a1) rfl) ?_
        refine y_if (g := ((v20 == a1) == true)) rfl (fun hg => o_cmp (ct hg) rfl rfl) ?_
        refine y0 rfl (pk_and rfl rfl rfl (fun q => eqT q)) ?_
        refine y_nil ?_
        refine pw_cond ((v20 == a1) && (a1 != 0)) rfl (fun hc => ?_) (fun hc => ?_)
        · have h := ifT h hc
          refine sr1 (by kernel_rfl) ?_
          refine y0 rfl (o_move (d := .int .i64 s13) rfl) ?_
          refine y0 rfl (o_ari rfl rfl rfl) ?_
          refine y0 rfl (o_assign (d := .int .i64 (w64 (s13 + 1))) rfl) ?_
          refine y_nil ?_
          exact ⟨rfl, w64 (s13 + 1), h, (wk_st _ _ ⟨rfl, rfl, rfl, rfl, rfl, rfl, rfl, rfl, rfl, rfl, rfl, rfl, trivial⟩ trivial)⟩
        · have h := ifF h hc
          refine pw_skip ?_
          exact ⟨rfl, s13, h, (wk_st _ _ ⟨rfl, rfl, rfl, rfl, rfl, rfl, rfl, rfl, rfl, rfl, rfl, rfl, trivial⟩ trivial)⟩
    · have h := ifF h hc
      refine pw_exit ?_
      refine thenQ_exit ?_
      refine thenQ_exit ?_
      refine blockQ_exit ?_
      have he := hx10 _ (Option.some.inj h).symm
      have h := hk9
      rw [← he] at h
      exact ⟨rfl, s13, h, (wk_st _ _ ⟨rfl, rfl, rfl, trivial⟩ trivial)⟩

end Go.Proofs.Ytkjilddlbaibfaa.Ok
