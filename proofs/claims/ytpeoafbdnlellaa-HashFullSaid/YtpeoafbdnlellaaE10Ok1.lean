/-
  The functions of the program do as the plain functions do.
-/
import Derived.Test.YtpeoafbdnlellaaPw28
import Derived.Test.YtpeoafbdnlellaaE10Sh
import Derived.Test.YtpeoafbdnlellaaProg
namespace Go.Proofs.Ytpeoafbdnlellaa.Ok
open Go Go.Pw Go.Sh Go.Proofs
set_option linter.unusedVariables false
set_option maxRecDepth 100000
abbrev _root_.Go.Sh.hash_Place.Pc (x : hash_Place) : List PV := [.int .i64 x.State, .int .i64 x.Key, .int .i64 x.Val]
abbrev _root_.Go.Sh.hash_Place.Pv (x : hash_Place) : PV := .agg x.Pc
abbrev _root_.Go.Sh.r10_Place.Pc (x : r10_Place) : List PV := [.int .i64 x.State, .int .i64 x.Key, .int .i64 x.Val]
abbrev _root_.Go.Sh.r10_Place.Pv (x : r10_Place) : PV := .agg x.Pc
namespace Ty
theorem a3 : tagg Try.prog 3 = some false := by kernel_rfl
theorem a22 : tagg Try.prog 22 = some false := by kernel_rfl
theorem a27 : tagg Try.prog 27 = some false := by kernel_rfl
theorem a60 : tagg Try.prog 60 = some true := by kernel_rfl
theorem a61 : tagg Try.prog 61 = some true := by kernel_rfl
theorem b3 : tbytes Try.prog 3 = some 8 := by kernel_rfl
theorem b60 : tbytes Try.prog 60 = some 24 := by kernel_rfl
theorem b61 : tbytes Try.prog 61 = some 24 := by kernel_rfl
theorem e22 : telem Try.prog 22 = some 61 := by kernel_rfl
theorem e25 : telem Try.prog 25 = some 60 := by kernel_rfl
theorem e43 : telem Try.prog 43 = some 3 := by kernel_rfl
theorem f60_0 : foff Try.prog 60 0 = some (0, 3) := by kernel_rfl
theorem f60_1 : foff Try.prog 60 1 = some (1, 3) := by kernel_rfl
theorem f60_2 : foff Try.prog 60 2 = some (2, 3) := by kernel_rfl
theorem f61_0 : foff Try.prog 61 0 = some (0, 3) := by kernel_rfl
theorem f61_1 : foff Try.prog 61 1 = some (1, 3) := by kernel_rfl
theorem f61_2 : foff Try.prog 61 2 = some (2, 3) := by kernel_rfl
theorem i3 : tint Try.prog 3 = some .i64 := by kernel_rfl
theorem k9 : Callable Try.prog 9 := ⟨Try.f9, _, Try.func9, rfl, by decide⟩
theorem k10 : Callable Try.prog 10 := ⟨Try.f10, _, Try.func10, rfl, by decide⟩
theorem k11 : Callable Try.prog 11 := ⟨Try.f11, _, Try.func11, rfl, by decide⟩
theorem k12 : Callable Try.prog 12 := ⟨Try.f12, _, Try.func12, rfl, by decide⟩
theorem k13 : Callable Try.prog 13 := ⟨Try.f13, _, Try.func13, rfl, by decide⟩
theorem k14 : Callable Try.prog 14 := ⟨Try.f14, _, Try.func14, rfl, by decide⟩
theorem k15 : Callable Try.prog 15 := ⟨Try.f15, _, Try.func15, rfl, by decide⟩
theorem k16 : Callable Try.prog 16 := ⟨Try.f16, _, Try.func16, rfl, by decide⟩
theorem k17 : Callable Try.prog 17 := ⟨Try.f17, _, Try.func17, rfl, by decide⟩
theorem k18 : Callable Try.prog 18 := ⟨Try.f18, _, Try.func18, rfl, by decide⟩
theorem k19 : Callable Try.prog 19 := ⟨Try.f19, _, Try.func19, rfl, by decide⟩
theorem k20 : Callable Try.prog 20 := ⟨Try.f20, _, Try.func20, rfl, by decide⟩
theorem k21 : Callable Try.prog 21 := ⟨Try.f21, _, Try.func21, rfl, by decide⟩
theorem k22 : Callable Try.prog 22 := ⟨Try.f22, _, Try.func22, rfl, by decide⟩
theorem k23 : Callable Try.prog 23 := ⟨Try.f23, _, Try.func23, rfl, by decide⟩
theorem k24 : Callable Try.prog 24 := ⟨Try.f24, _, Try.func24, rfl, by decide⟩
theorem k25 : Callable Try.prog 25 := ⟨Try.f25, _, Try.func25, rfl, by decide⟩
theorem k26 : Callable Try.prog 26 := ⟨Try.f26, _, Try.func26, rfl, by decide⟩
theorem k27 : Callable Try.prog 27 := ⟨Try.f27, _, Try.func27, rfl, by decide⟩
theorem k28 : Callable Try.prog 28 := ⟨Try.f28, _, Try.func28, rfl, by decide⟩
theorem k29 : Callable Try.prog 29 := ⟨Try.f29, _, Try.func29, rfl, by decide⟩
theorem k30 : Callable Try.prog 30 := ⟨Try.f30, _, Try.func30, rfl, by decide⟩
theorem k31 : Callable Try.prog 31 := ⟨Try.f31, _, Try.func31, rfl, by decide⟩
theorem k32 : Callable Try.prog 32 := ⟨Try.f32, _, Try.func32, rfl, by decide⟩
theorem k33 : Callable Try.prog 33 := ⟨Try.f33, _, Try.func33, rfl, by decide⟩
theorem k34 : Callable Try.prog 34 := ⟨Try.f34, _, Try.func34, rfl, by decide⟩
theorem mm53 : tmap Try.prog 53 = some (3, 3) := by kernel_rfl
theorem mm57 : tmap Try.prog 57 = some (3, 4) := by kernel_rfl
theorem p60 : bplaces Try.prog 60 = some (fun i => (#[(0, 1), (1, 1), (2, 1)] : Array (Nat × Nat))[i]?) := by kernel_rfl
theorem p61 : bplaces Try.prog 61 = some (fun i => (#[(0, 1), (1, 1), (2, 1)] : Array (Nat × Nat))[i]?) := by kernel_rfl
theorem q60 : fkinds Try.prog 60 = some [1, 1, 1] := by kernel_rfl
theorem q61 : fkinds Try.prog 61 = some [1, 1, 1] := by kernel_rfl
theorem s3 : tsize Try.prog 3 = some 1 := by kernel_rfl
theorem s22 : tsize Try.prog 22 = some 1 := by kernel_rfl
theorem s27 : tsize Try.prog 27 = some 1 := by kernel_rfl
theorem s60 : tsize Try.prog 60 = some 3 := by kernel_rfl
theorem s61 : tsize Try.prog 61 = some 3 := by kernel_rfl
theorem u3 : Try.prog.underlying 3 = some (.int .i64) := by kernel_rfl
theorem u4 : Try.prog.underlying 4 = some (.bool) := by kernel_rfl
theorem u5 : Try.prog.underlying 5 = some (.int .u8) := by kernel_rfl
theorem z3 : tzero Try.prog 3 = some ((.int .i64 0)) := by kernel_rfl
theorem z4 : tzero Try.prog 4 = some ((.bool false)) := by kernel_rfl
theorem z22 : tzero Try.prog 22 = some ((.slice none 0 0)) := by kernel_rfl
theorem z27 : tzero Try.prog 27 = some ((.int .i64 0)) := by kernel_rfl
theorem z60 : tzero Try.prog 60 = some ((.agg #[(.int .i64 0), (.int .i64 0), (.int .i64 0)])) := by kernel_rfl
theorem z61 : tzero Try.prog 61 = some ((.agg #[(.int .i64 0), (.int .i64 0), (.int .i64 0)])) := by kernel_rfl
theorem mix : Try.prog.follows .mixedOrders = true := by kernel_rfl
end Ty
set_option maxHeartbeats 4000000 in
theorem w10_its_ok {a0 : List hash_Place} {r : List r10_Place} (h : w10_its a0 = some r) : PCalls Try.prog 11 [.lst false (List.map hash_Place.Pv a0)] (.lst false (List.map r10_Place.Pv r)) := by
  unfold w10_its at h
  refine pc_intro (N := 20) Try.func11 rfl rfl (Nat.le_of_ble_eq_true rfl) fun w0 imm0 => ?_
  refine sr (by kernel_rfl) ?_
  refine y0 rfl (o_assign (d := .lst true (List.map r10_Place.Pv [])) rfl) ?_
  refine y_nil ?_
  refine sr (by kernel_rfl) ?_
  refine y0 rfl (o_nslice rfl Ty.e25 Ty.s60) ?_
  refine y0 rfl (o_assign (d := .lst true (List.map r10_Place.Pv [])) rfl) ?_
  refine y_nil ?_
  obtain ⟨κ8, hκ6, h⟩ := jnE h
  refine pw_jn0 (κ := κ8) (r := r) (fun (j9 : List r10_Place) => St.of [(3, .sl 910003)] [(910003, ⟨List.map r10_Place.Pv j9, (List.map r10_Place.Pv j9).length, true, 3, true⟩)]) (fun j9 h => ?_) ?_
  · subst hκ6
    refine sr (by kernel_rfl) ?_
    refine y0 rfl (o_move (d := .sl 910003) rfl) ?_
    refine y0 rfl (o_assign (d := .sl 910003) rfl) ?_
    refine y_nil ?_
    refine pw_ret ?_
    obtain rfl := Option.some.inj h
    exact ⟨rfl, [_], ⟨rfl, trivial⟩, rfl, by first | exact .inl rfl | exact .inr rfl⟩
  · skip
    refine sr (by kernel_rfl) ?_
    refine y0 rfl (o_assign (d := .int .i64 0) rfl) ?_
    refine y_nil ?_
    refine pw_block ?_
    obtain ⟨e10, hl7, hk8⟩ := bindE h
    refine pw_lp0 (fun (q : Int × (List r10_Place)) => St.of [(0, .lst false (List.map hash_Place.Pv a0)), (3, .sl 910003), (4, .int .i64 q.1)] [(910003, ⟨List.map r10_Place.Pv q.2, (List.map r10_Place.Pv q.2).length, true, 3, true⟩)]) hl7 (Wk.trans (wk_nil (t := 3) (l := 920003) (z := 3) rfl rfl) (wk_stP (fun l => if l = 910003 then 920003 else l) _ _ ⟨rfl, rfl, rfl, rfl, rfl, rfl, rfl, rfl, rfl, trivial⟩ ⟨rowLe_ren rfl rfl rfl (fun _ => rfl) rfl rfl rfl, trivial⟩ rfl)) (fun q14 x13 h hx9 => ?_)
    obtain ⟨s11, s12⟩ := q14
    refine pw_seq ?_
    refine sr (by kernel_rfl) ?_
    refine y0 rfl (o_move (d := .int .i64 s11) rfl) ?_
    refine y0 rfl (o_move (d := .lst false (List.map hash_Place.Pv a0)) rfl) ?_
    refine y0 rfl (o_lnL (f := hash_Place.Pv) rfl Ty.e22) ?_
    refine y0 rfl (o_cmp rfl rfl rfl) ?_
    refine y_nil ?_
    refine pw_cond (decide (s11 < (a0.length : Int))) rfl (fun hc => ?_) (fun hc => ?_)
    · have h := ifT h hc
      refine pw_skip ?_
      refine pw_seq ?_
      refine pw_block ?_
      refine sr1 (by kernel_rfl) ?_
      refine y0 rfl (o_move (d := .sl 910003) rfl) ?_
      refine y0 rfl (o_move (d := .lst false (List.map hash_Place.Pv a0)) rfl) ?_
      refine y0 rfl (o_move (d := .int .i64 s11) rfl) ?_
      obtain ⟨v15, hv10, h⟩ := bindE h
      refine y0 rfl (o_ixL (f := hash_Place.Pv) (cs := hash_Place.Pc v15) hv10 rfl rfl Ty.e22 Ty.s61 rfl rfl) ?_
      refine y0 rfl (o_loadRA (cs := hash_Place.Pc v15) rfl Ty.a61 Ty.s61 (Nat.le_of_ble_eq_true rfl) rfl) ?_
      refine y0 rfl (o_bI (f := r10_Place.Pv) (l := [(⟨v15.State, v15.Key, v15.Val⟩ : r10_Place)]) rfl Ty.e25 Ty.s60 Ty.z60 rfl rfl (Nat.le_of_ble_eq_true rfl) rfl rfl) ?_
      obtain ⟨v16, hv11, h⟩ := bindE h
      refine y_app rfl (o_apR (f := r10_Place.Pv) hv11 rfl rfl rfl rfl rfl rfl (.inl ⟨_, rfl, rfl⟩) Ty.e25 Ty.s60 Ty.b60 Ty.z60 rfl (fun _ => rfl)) rfl rfl rfl ?_
      refine y0 rfl (o_assign (d := .sl 18) rfl) ?_
      refine y_nil ?_
      refine sr1 (by kernel_rfl) ?_
      refine y0 rfl (o_move (d := .int .i64 s11) rfl) ?_
      refine y0 rfl (o_ari rfl rfl rfl) ?_
      refine y0 rfl (o_assign (d := .int .i64 (w64 (s11 + 1))) rfl) ?_
      refine y_nil ?_
      exact ⟨rfl, (w64 (s11 + 1), v16), (Option.some.inj h).symm, (Wk.trans (wk_frz _ [18]) (wk_stP (fun l => if l = 910003 then 18 else l) _ _ ⟨rfl, rfl, rfl, rfl, rfl, rfl, rfl, rfl, rfl, trivial⟩ ⟨rowLe_ren rfl rfl rfl (fun _ => rfl) rfl rfl rfl, trivial⟩ rfl))⟩
    · have h := ifF h hc
      refine pw_exit ?_
      refine thenQ_exit ?_
      refine thenQ_exit ?_
      refine blockQ_exit ?_
      have he := hx9 _ (Option.some.inj h).symm
      have h := hk8
      rw [← he] at h
      exact ⟨rfl, s12, h, (Wk.trans (wk_frz _ [910003]) (wk_st _ _ ⟨rfl, rfl, rfl, trivial⟩ ⟨rowLe_same rfl rfl rfl (fun _ => rfl) rfl rfl rfl, trivial⟩))⟩

set_option maxHeartbeats 4000000 in
theorem r10_Find_ok {a0 : List r10_Place} {a1 : Int} {r : Int} (h : r10_Find a0 a1 = some r) : PCalls Try.prog 19 [.lst false (List.map r10_Place.Pv a0), .int .i64 a1] (.int .i64 r) := by
  unfold r10_Find at h
  refine pc_intro (N := 28) Try.func19 rfl rfl (Nat.le_of_ble_eq_true rfl) fun w0 imm0 => ?_
  refine sr (by kernel_rfl) ?_
  refine y0 rfl (o_assign (d := .int .i64 0) rfl) ?_
  refine y_nil ?_
  obtain ⟨κ5, hκ5, h⟩ := jnE h
  refine pw_jn0 (κ := κ5) (r := r) (fun (_ : Unit) => St.of [] []) (fun q6 h => ?_) ?_
  · subst hκ5
    refine sr (by kernel_rfl) ?_
    refine y0 rfl (o_assign (d := .int .i64 (-1)) rfl) ?_
    refine y_nil ?_
    refine pw_ret ?_
    obtain rfl := Option.some.inj h
    exact ⟨rfl, [_], ⟨rfl, trivial⟩, rfl, by first | exact .inl rfl | exact .inr rfl⟩
  · skip
    refine sr (by kernel_rfl) ?_
    refine y0 rfl (o_assign (d := .int .i64 0) rfl) ?_
    refine y_nil ?_
    refine pw_block ?_
    obtain ⟨e7, hl6, hk7⟩ := bindE h
    refine pw_lp0 (fun (s8 : Int) => St.of [(0, .lst false (List.map r10_Place.Pv a0)), (1, .int .i64 a1), (5, .int .i64 s8)] []) hl6 (wk_st _ _ ⟨rfl, rfl, rfl, rfl, rfl, rfl, rfl, rfl, rfl, trivial⟩ trivial) (fun s8 x9 h hx8 => ?_)
    refine pw_seq ?_
    refine sr (by kernel_rfl) ?_
    refine y0 rfl (o_move (d := .int .i64 s8) rfl) ?_
    refine y0 rfl (o_move (d := .lst false (List.map r10_Place.Pv a0)) rfl) ?_
    refine y0 rfl (o_lnL (f := r10_Place.Pv) rfl Ty.e25) ?_
    refine y0 rfl (o_cmp rfl rfl rfl) ?_
    refine y_nil ?_
    refine pw_cond (decide (s8 < (a0.length : Int))) rfl (fun hc => ?_) (fun hc => ?_)
    · have h := ifT h hc
      refine pw_skip ?_
      refine pw_seq ?_
      refine pw_block ?_
      refine sr (by kernel_rfl) ?_
      refine y0 rfl (o_move (d := .lst false (List.map r10_Place.Pv a0)) rfl) ?_
      refine y0 rfl (o_move (d := .int .i64 s8) rfl) ?_
      obtain ⟨v10, hv9, h⟩ := bindE h
      refine y0 rfl (o_ixL (f := r10_Place.Pv) (cs := r10_Place.Pc v10) hv9 rfl rfl Ty.e25 Ty.s60 rfl rfl) ?_
      refine y0 rfl (o_fieldAddrR rfl Ty.f60_0 rfl) ?_
      refine y0 rfl (o_loadRS rfl Ty.a3 rfl) ?_
      refine y0 rfl (o_cmp rfl rfl rfl) ?_
      refine y0 rfl (o_move (d := .bool (v10.State == 1)) rfl) ?_
      refine y_if (g := ((v10.State == 1) == true)) rfl (fun hg => o_move (d := .lst false (List.map r10_Place.Pv a0)) rfl) ?_
      refine y_if (g := ((v10.State == 1) == true)) rfl (fun hg => o_move (d := .int .i64 s8) rfl) ?_
      refine y_if (g := ((v10.State == 1) == true)) rfl (fun hg => o_ixL (f := r10_Place.Pv) (cs := r10_Place.Pc v10) hv9 (ct hg) (ct hg) Ty.e25 Ty.s60 rfl rfl) ?_
      refine y_if (g := ((v10.State == 1) == true)) rfl (fun hg => o_fieldAddrR (ct hg) Ty.f60_1 rfl) ?_
      refine y_if (g := ((v10.State == 1) == true)) rfl (fun hg => o_loadRS (ct hg) Ty.a3 rfl) ?_
      refine y_if (g := ((v10.State == 1) == true)) rfl (fun hg => o_move (d := .int .i64 a1) rfl) ?_
      refine y_if (g := ((v10.State == 1) == true)) rfl (fun hg => o_cmp (ct hg) (ct hg) rfl) ?_
      refine y0 rfl (pk_and rfl rfl rfl (fun q => eqT q)) ?_
      refine y_nil ?_
      refine pw_cond ((v10.State == 1) && (v10.Key == a1)) rfl (fun hc => ?_) (fun hc => ?_)
      · have h := ifT h hc
        refine sr (by kernel_rfl) ?_
        refine y0 rfl (o_move (d := .int .i64 s8) rfl) ?_
        refine y0 rfl (o_assign (d := .int .i64 s8) rfl) ?_
        refine y_nil ?_
        refine pw_ret ?_
        have he := hx8 _ (Option.some.inj h).symm
        have h := hk7
        rw [← he] at h
        obtain rfl := Option.some.inj h
        exact ⟨rfl, [_], ⟨rfl, trivial⟩, rfl, by first | exact .inl rfl | exact .inr rfl⟩
      · have h := ifF h hc
        refine pw_skip ?_
        refine sr1 (by kernel_rfl) ?_
        refine y0 rfl (o_move (d := .int .i64 s8) rfl) ?_
        refine y0 rfl (o_ari rfl rfl rfl) ?_
        refine y0 rfl (o_assign (d := .int .i64 (w64 (s8 + 1))) rfl) ?_
        refine y_nil ?_
        exact ⟨rfl, w64 (s8 + 1), (Option.some.inj h).symm, (wk_st _ _ ⟨rfl, rfl, rfl, rfl, rfl, rfl, rfl, rfl, rfl, trivial⟩ trivial)⟩
    · have h := ifF h hc
      refine pw_exit ?_
      refine thenQ_exit ?_
      refine thenQ_exit ?_
      refine blockQ_exit ?_
      have he := hx8 _ (Option.some.inj h).symm
      have h := hk7
      rw [← he] at h
      exact ⟨rfl, (), h, (wk_st _ _ trivial trivial)⟩

set_option maxHeartbeats 4000000 in
theorem r10_Home_ok {a0 : Int} {a1 : Int} {r : Int} (h : r10_Home a0 a1 = some r) : PCalls Try.prog 25 [.int .i64 a0, .int .i64 a1] (.int .i64 r) := by
  unfold r10_Home at h
  refine pc_intro (N := 19) Try.func25 rfl rfl (Nat.le_of_ble_eq_true rfl) fun w0 imm0 => ?_
  refine sr (by kernel_rfl) ?_
  refine y0 rfl (o_assign (d := .int .i64 0) rfl) ?_
  refine y_nil ?_
  refine pw_seq ?_
  refine sr (by kernel_rfl) ?_
  refine y0 rfl (o_move (d := .int .i64 a0) rfl) ?_
  refine y0 rfl (o_cmp rfl rfl rfl) ?_
  refine y_nil ?_
  refine pw_cond (decide (a0 < 1)) rfl (fun hc => ?_) (fun hc => ?_)
  · have h := ifT h hc
    refine sr (by kernel_rfl) ?_
    refine y0 rfl (o_assign (d := .int .i64 0) rfl) ?_
    refine y_nil ?_
    refine pw_ret ?_
    obtain rfl := Option.some.inj h
    exact ⟨rfl, [_], ⟨rfl, trivial⟩, rfl, by first | exact .inl rfl | exact .inr rfl⟩
  · have h := ifF h hc
    refine pw_skip ?_
    refine sr (by kernel_rfl) ?_
    refine y0 rfl (o_move (d := .int .i64 a1) rfl) ?_
    refine y0 rfl (o_ari rfl rfl rfl) ?_
    refine y0 rfl (o_ari rfl rfl rfl) ?_
    refine y0 rfl (o_move (d := .int .i64 a0) rfl) ?_
    obtain ⟨v1, hv1, h⟩ := bindE h
    refine y0 rfl (o_ari rfl rfl hv1) ?_
    refine y0 rfl (o_assign (d := .int .i64 v1) rfl) ?_
    refine y_nil ?_
    refine pw_seq ?_
    refine sr (by kernel_rfl) ?_
    refine y0 rfl (o_move (d := .int .i64 v1) rfl) ?_
    refine y0 rfl (o_cmp rfl rfl rfl) ?_
    refine y_nil ?_
    refine pw_cond (decide (v1 < 0)) rfl (fun hc => ?_) (fun hc => ?_)
    · have h := ifT h hc
      refine sr1 (by kernel_rfl) ?_
      refine y0 rfl (o_move (d := .int .i64 v1) rfl) ?_
      refine y0 rfl (o_move (d := .int .i64 a0) rfl) ?_
      refine y0 rfl (o_ari rfl rfl rfl) ?_
      refine y0 rfl (o_assign (d := .int .i64 (w64 (v1 + a0))) rfl) ?_
      refine y_nil ?_
      refine sr (by kernel_rfl) ?_
      refine y0 rfl (o_move (d := .int .i64 (w64 (v1 + a0))) rfl) ?_
      refine y0 rfl (o_assign (d := .int .i64 (w64 (v1 + a0))) rfl) ?_
      refine y_nil ?_
      refine pw_ret ?_
      obtain rfl := Option.some.inj h
      exact ⟨rfl, [_], ⟨rfl, trivial⟩, rfl, by first | exact .inl rfl | exact .inr rfl⟩
    · have h := ifF h hc
      refine pw_skip ?_
      refine sr (by kernel_rfl) ?_
      refine y0 rfl (o_move (d := .int .i64 v1) rfl) ?_
      refine y0 rfl (o_assign (d := .int .i64 v1) rfl) ?_
      refine y_nil ?_
      refine pw_ret ?_
      obtain rfl := Option.some.inj h
      exact ⟨rfl, [_], ⟨rfl, trivial⟩, rfl, by first | exact .inl rfl | exact .inr rfl⟩

set_option maxHeartbeats 4000000 in
theorem r10_Right_ok {a0 : List r10_Place} {r : Bool} (h : r10_Right a0 = some r) : PCalls Try.prog 29 [.lst false (List.map r10_Place.Pv a0)] (.bool r) := by
  unfold r10_Right at h
  refine pc_intro (N := 73) Try.func29 rfl rfl (Nat.le_of_ble_eq_true rfl) fun w0 imm0 => ?_
  refine sr (by kernel_rfl) ?_
  refine y0 rfl (o_assign (d := .bool false) rfl) ?_
  refine y_nil ?_
  refine sr (by kernel_rfl) ?_
  refine y0 rfl (o_move (d := .lst false (List.map r10_Place.Pv a0)) rfl) ?_
  refine y0 rfl (o_lnL (f := r10_Place.Pv) rfl Ty.e25) ?_
  refine y0 rfl (o_assign (d := .int .i64 (a0.length : Int)) rfl) ?_
  refine y_nil ?_
  refine pw_seq ?_
  refine sr (by kernel_rfl) ?_
  refine y0 rfl (o_move (d := .int .i64 (a0.length : Int)) rfl) ?_
  refine y0 rfl (o_cmp rfl rfl rfl) ?_
  refine y0 rfl (o_move (d := .bool (decide ((a0.length : Int) < 1))) rfl) ?_
  refine y_if (g := ((decide ((a0.length : Int) < 1)) == false)) rfl (fun hg => o_move (d := .int .i64 (a0.length : Int)) rfl) ?_
  refine y_if (g := ((decide ((a0.length : Int) < 1)) == false)) rfl (fun hg => o_cmp (ct hg) rfl rfl) ?_
  refine y0 rfl (pk_or rfl rfl rfl (fun q => eqF q)) ?_
  refine y_nil ?_
  refine pw_cond ((decide ((a0.length : Int) < 1)) || (decide ((a0.length : Int) > 8))) rfl (fun hc => ?_) (fun hc => ?_)
  · have h := ifT h hc
    refine sr (by kernel_rfl) ?_
    refine y0 rfl (o_assign (d := .bool false) rfl) ?_
    refine y_nil ?_
    refine pw_ret ?_
    obtain rfl := Option.some.inj h
    exact ⟨rfl, [_], ⟨rfl, trivial⟩, rfl, by first | exact .inl rfl | exact .inr rfl⟩
  · have h := ifF h hc
    refine pw_skip ?_
    obtain ⟨κ22, hκ21, h⟩ := jnE h
    refine pw_jn0 (κ := κ22) (r := r) (fun (_ : Unit) => St.of [] []) (fun q23 h => ?_) ?_
    · subst hκ21
      refine sr (by kernel_rfl) ?_
      refine y0 rfl (o_assign (d := .bool true) rfl) ?_
      refine y_nil ?_
      refine pw_ret ?_
      obtain rfl := Option.some.inj h
      exact ⟨rfl, [_], ⟨rfl, trivial⟩, rfl, by first | exact .inl rfl | exact .inr rfl⟩
    · skip
      refine sr (by kernel_rfl) ?_
      refine y0 rfl (o_assign (d := .int .i64 0) rfl) ?_
      refine y_nil ?_
      refine pw_block ?_
      obtain ⟨e24, hl22, hk23⟩ := bindE h
      refine pw_lp0 (fun (s25 : Int) => St.of [(0, .lst false (List.map r10_Place.Pv a0)), (3, .int .i64 (a0.length : Int)), (4, .int .i64 s25)] []) hl22 (wk_st _ _ ⟨rfl, rfl, rfl, rfl, rfl, rfl, rfl, rfl, rfl, trivial⟩ trivial) (fun s25 x26 h hx24 => ?_)
      refine pw_seq ?_
      refine sr (by kernel_rfl) ?_
      refine y0 rfl (o_move (d := .int .i64 s25) rfl) ?_
      refine y0 rfl (o_move (d := .int .i64 (a0.length : Int)) rfl) ?_
      refine y0 rfl (o_cmp rfl rfl rfl) ?_
      refine y_nil ?_
      refine pw_cond (decide (s25 < (a0.length : Int))) rfl (fun hc => ?_) (fun hc => ?_)
      · have h := ifT h hc
        refine pw_skip ?_
        obtain ⟨κ35, hκ33, h⟩ := jnE h
        refine pw_jn0 (κ := κ35) (r := x26) (fun (_ : Unit) => St.of [(0, .lst false (List.map r10_Place.Pv a0)), (3, .int .i64 (a0.length : Int)), (4, .int .i64 s25)] []) (fun q36 h => ?_) ?_
        · subst hκ33
          refine sr1 (by kernel_rfl) ?_
          refine y0 rfl (o_move (d := .int .i64 s25) rfl) ?_
          refine y0 rfl (o_ari rfl rfl rfl) ?_
          refine y0 rfl (o_assign (d := .int .i64 (w64 (s25 + 1))) rfl) ?_
          refine y_nil ?_
          exact ⟨rfl, w64 (s25 + 1), (Option.some.inj h).symm, (wk_st _ _ ⟨rfl, rfl, rfl, rfl, rfl, rfl, rfl, rfl, rfl, trivial⟩ trivial)⟩
        · skip
          refine pw_block ?_
          refine sr (by kernel_rfl) ?_
          refine y0 rfl (o_move (d := .lst false (List.map r10_Place.Pv a0)) rfl) ?_
          refine y0 rfl (o_move (d := .int .i64 s25) rfl) ?_
          obtain ⟨v37, hv34, h⟩ := bindE h
          refine y0 rfl (o_ixL (f := r10_Place.Pv) (cs := r10_Place.Pc v37) hv34 rfl rfl Ty.e25 Ty.s60 rfl rfl) ?_
          refine y0 rfl (o_loadRA (cs := r10_Place.Pc v37) rfl Ty.a60 Ty.s60 (Nat.le_of_ble_eq_true rfl) rfl) ?_
          refine y1 rfl (o_alloc (d := .agg [.int .i64 0, .int .i64 0, .int .i64 0]) (z := 3) rfl Ty.z60 rfl rfl rfl) rfl ?_
          refine y_sto (x' := r10_Place.Pv v37) (cl' := true) rfl rfl (.inl rfl) Ty.s60 ?_
          refine y_nil ?_
          refine pw_seq ?_
          refine sr (by kernel_rfl) ?_
          refine y0 rfl (o_fieldAddrP (k := 0) rfl Ty.f60_0 rfl) ?_
          refine y0 rfl (o_loadS rfl rfl rfl Ty.a3 rfl) ?_
          refine y0 rfl (o_cmp rfl rfl rfl) ?_
          refine y0 rfl (o_move (d := .bool (decide (v37.State < 0))) rfl) ?_
          refine y_if (g := ((decide (v37.State < 0)) == false)) rfl (fun hg => o_fieldAddrP (k := 0) rfl Ty.f60_0 rfl) ?_
          refine y_if (g := ((decide (v37.State < 0)) == false)) rfl (fun hg => o_loadS (ct hg) rfl rfl Ty.a3 rfl) ?_
          refine y_if (g := ((decide (v37.State < 0)) == false)) rfl (fun hg => o_cmp (ct hg) rfl rfl) ?_
          refine y0 rfl (pk_or rfl rfl rfl (fun q => eqF q)) ?_
          refine y0 rfl (o_move (d := .bool ((decide (v37.State < 0)) || (decide (v37.State > 2)))) rfl) ?_
          refine y_if (g := (((decide (v37.State < 0)) || (decide (v37.State > 2))) == false)) rfl (fun hg => o_fieldAddrP (k := 0) rfl Ty.f60_0 rfl) ?_
          refine y_if (g := (((decide (v37.State < 0)) || (decide (v37.State > 2))) == false)) rfl (fun hg => o_loadS (ct hg) rfl rfl Ty.a3 rfl) ?_
          refine y_if (g := (((decide (v37.State < 0)) || (decide (v37.State > 2))) == false)) rfl (fun hg => o_cmp (ct hg) rfl rfl) ?_
          refine y_if (g := (((decide (v37.State < 0)) || (decide (v37.State > 2))) == false)) rfl (fun hg => o_move (d := .bool (v37.State != 1)) (ct hg)) ?_
          refine y_if (g := ((((decide (v37.State < 0)) || (decide (v37.State > 2))) == false) && ((v37.State != 1) == true))) (want2 rfl rfl rfl) (fun hg => o_fieldAddrP (k := 1) rfl Ty.f60_1 rfl) ?_
          refine y_if (g := ((((decide (v37.State < 0)) || (decide (v37.State > 2))) == false) && ((v37.State != 1) == true))) (want2 rfl rfl rfl) (fun hg => o_loadS (ct hg) rfl rfl Ty.a3 rfl) ?_
          refine y_if (g := ((((decide (v37.State < 0)) || (decide (v37.State > 2))) == false) && ((v37.State != 1) == true))) (want2 rfl rfl rfl) (fun hg => o_cmp (ct hg) rfl rfl) ?_
          refine y_if (g := ((((decide (v37.State < 0)) || (decide (v37.State > 2))) == false) && ((v37.State != 1) == true))) (want2 rfl rfl rfl) (fun hg => o_move (d := .bool (v37.Key != 0)) (ct hg)) ?_
          refine y_if (g := (((((decide (v37.State < 0)) || (decide (v37.State > 2))) == false) && ((v37.State != 1) == true)) && ((v37.Key != 0) == false))) (want2 rfl rfl rfl) (fun hg => o_fieldAddrP (k := 2) rfl Ty.f60_2 rfl) ?_
          refine y_if (g := (((((decide (v37.State < 0)) || (decide (v37.State > 2))) == false) && ((v37.State != 1) == true)) && ((v37.Key != 0) == false))) (want2 rfl rfl rfl) (fun hg => o_loadS (ct hg) rfl rfl Ty.a3 rfl) ?_
          refine y_if (g := (((((decide (v37.State < 0)) || (decide (v37.State > 2))) == false) && ((v37.State != 1) == true)) && ((v37.Key != 0) == false))) (want2 rfl rfl rfl) (fun hg => o_cmp (ct hg) rfl rfl) ?_
          refine y_if (g := ((((decide (v37.State < 0)) || (decide (v37.State > 2))) == false) && ((v37.State != 1) == true))) (want2 rfl rfl rfl) (fun hg => pk_or (ct hg) rfl rfl (fun q => andI hg (eqF q))) ?_
          refine y_if (g := (((decide (v37.State < 0)) || (decide (v37.State > 2))) == false)) rfl (fun hg => pk_and (ct hg) rfl rfl (fun q => andI hg (eqT q))) ?_
          refine y0 rfl (pk_or rfl rfl rfl (fun q => eqF q)) ?_
          refine y_nil ?_
          refine pw_cond (((decide (v37.State < 0)) || (decide (v37.State > 2))) || ((v37.State != 1) && ((v37.Key != 0) || (v37.Val != 0)))) rfl (fun hc => ?_) (fun hc => ?_)
          · have h := ifT h hc
            refine sr (by kernel_rfl) ?_
            refine y0 rfl (o_assign (d := .bool false) rfl) ?_
            refine y_nil ?_
            refine pw_ret ?_
            have he := hx24 _ (Option.some.inj h).symm
            have h := hk23
            rw [← he] at h
            obtain rfl := Option.some.inj h
            exact ⟨rfl, [_], ⟨rfl, trivial⟩, rfl, by first | exact .inl rfl | exact .inr rfl⟩
          · have h := ifF h hc
            refine pw_skip ?_
            refine pw_seq ?_
            refine sr (by kernel_rfl) ?_
            refine y0 rfl (o_fieldAddrP (k := 0) rfl Ty.f60_0 rfl) ?_
            refine y0 rfl (o_loadS rfl rfl rfl Ty.a3 rfl) ?_
            refine y0 rfl (o_cmp rfl rfl rfl) ?_
            refine y_nil ?_
            refine pw_cond (v37.State != 1) rfl (fun hc => ?_) (fun hc => ?_)
            · have h := ifT h hc
              refine pw_exit ?_
              refine thenQ_exit ?_
              refine blockQ_exit ?_
              exact ⟨rfl, (), h, (wk_st _ _ ⟨rfl, rfl, rfl, rfl, rfl, rfl, rfl, rfl, rfl, trivial⟩ trivial)⟩
            · have h := ifF h hc
              refine pw_skip ?_
              refine pw_seq ?_
              refine sr (by kernel_rfl) ?_
              refine y0 rfl (o_move (d := .lst false (List.map r10_Place.Pv a0)) rfl) ?_
              refine y0 rfl (o_fieldAddrP (k := 1) rfl Ty.f60_1 rfl) ?_
              refine y0 rfl (o_loadS rfl rfl rfl Ty.a3 rfl) ?_
              obtain ⟨v38, hv35, h⟩ := bindE h
              refine y0 rfl (o_call (ds := [.lst false (List.map r10_Place.Pv a0), .int .i64 v37.Key]) rfl Ty.k19 rfl (r10_Find_ok hv35)) ?_
              refine y0 rfl (o_move (d := .int .i64 s25) rfl) ?_
              refine y0 rfl (o_cmp rfl rfl rfl) ?_
              refine y_nil ?_
              refine pw_cond (v38 != s25) rfl (fun hc => ?_) (fun hc => ?_)
              · have h := ifT h hc
                refine sr (by kernel_rfl) ?_
                refine y0 rfl (o_assign (d := .bool false) rfl) ?_
                refine y_nil ?_
                refine pw_ret ?_
                have he := hx24 _ (Option.some.inj h).symm
                have h := hk23
                rw [← he] at h
                obtain rfl := Option.some.inj h
                exact ⟨rfl, [_], ⟨rfl, trivial⟩, rfl, by first | exact .inl rfl | exact .inr rfl⟩
              · have h := ifF h hc
                refine pw_skip ?_
                refine sr (by kernel_rfl) ?_
                refine y0 rfl (o_move (d := .int .i64 (a0.length : Int)) rfl) ?_
                refine y0 rfl (o_fieldAddrP (k := 1) rfl Ty.f60_1 rfl) ?_
                refine y0 rfl (o_loadS rfl rfl rfl Ty.a3 rfl) ?_
                obtain ⟨v39, hv36, h⟩ := bindE h
                refine y0 rfl (o_call (ds := [.int .i64 (a0.length : Int), .int .i64 v37.Key]) rfl Ty.k25 rfl (r10_Home_ok hv36)) ?_
                refine y0 rfl (o_assign (d := .int .i64 v39) rfl) ?_
                refine y_nil ?_
                refine pw_block ?_
                obtain ⟨e40, hl37, hk38⟩ := bindE h
                refine pw_lp0 (fun (s41 : Int) => St.of [(0, .lst false (List.map r10_Place.Pv a0)), (3, .int .i64 (a0.length : Int)), (4, .int .i64 s25), (6, .int .i64 s41)] []) hl37 (wk_st _ _ ⟨rfl, rfl, rfl, rfl, rfl, rfl, rfl, rfl, rfl, rfl, rfl, rfl, trivial⟩ trivial) (fun s41 x42 h hx39 => ?_)
                refine pw_seq ?_
                refine sr (by kernel_rfl) ?_
                refine y0 rfl (o_move (d := .int .i64 s41) rfl) ?_
                refine y0 rfl (o_move (d := .int .i64 s25) rfl) ?_
                refine y0 rfl (o_cmp rfl rfl rfl) ?_
                refine y_nil ?_
                refine pw_cond (s41 != s25) rfl (fun hc => ?_) (fun hc => ?_)
                · have h := ifT h hc
                  refine pw_skip ?_
                  refine pw_seq ?_
                  refine pw_block ?_
                  refine sr (by kernel_rfl) ?_
                  refine y0 rfl (o_move (d := .lst false (List.map r10_Place.Pv a0)) rfl) ?_
                  refine y0 rfl (o_move (d := .int .i64 s41) rfl) ?_
                  obtain ⟨v43, hv40, h⟩ := bindE h
                  refine y0 rfl (o_ixL (f := r10_Place.Pv) (cs := r10_Place.Pc v43) hv40 rfl rfl Ty.e25 Ty.s60 rfl rfl) ?_
                  refine y0 rfl (o_fieldAddrR rfl Ty.f60_0 rfl) ?_
                  refine y0 rfl (o_loadRS rfl Ty.a3 rfl) ?_
                  refine y0 rfl (o_cmp rfl rfl rfl) ?_
                  refine y_nil ?_
                  refine pw_cond (v43.State == 0) rfl (fun hc => ?_) (fun hc => ?_)
                  · have h := ifT h hc
                    refine sr (by kernel_rfl) ?_
                    refine y0 rfl (o_assign (d := .bool false) rfl) ?_
                    refine y_nil ?_
                    refine pw_ret ?_
                    have he := hx39 _ (Option.some.inj h).symm
                    have h := hk38
                    rw [← he] at h
                    have he := hx24 _ (Option.some.inj h).symm
                    have h := hk23
                    rw [← he] at h
                    obtain rfl := Option.some.inj h
                    exact ⟨rfl, [_], ⟨rfl, trivial⟩, rfl, by first | exact .inl rfl | exact .inr rfl⟩
                  · have h := ifF h hc
                    refine pw_skip ?_
                    refine sr1 (by kernel_rfl) ?_
                    refine y0 rfl (o_move (d := .int .i64 s41) rfl) ?_
                    refine y0 rfl (o_ari rfl rfl rfl) ?_
                    refine y0 rfl (o_move (d := .int .i64 (a0.length : Int)) rfl) ?_
                    obtain ⟨v44, hv41, h⟩ := bindE h
                    refine y0 rfl (o_ari rfl rfl hv41) ?_
                    refine y0 rfl (o_assign (d := .int .i64 v44) rfl) ?_
                    refine y_nil ?_
                    exact ⟨rfl, v44, (Option.some.inj h).symm, (wk_st _ _ ⟨rfl, rfl, rfl, rfl, rfl, rfl, rfl, rfl, rfl, rfl, rfl, rfl, trivial⟩ trivial)⟩
                · have h := ifF h hc
                  refine pw_exit ?_
                  refine thenQ_exit ?_
                  refine thenQ_exit ?_
                  refine blockQ_exit ?_
                  have he := hx39 _ (Option.some.inj h).symm
                  have h := hk38
                  rw [← he] at h
                  exact ⟨rfl, (), h, (wk_st _ _ ⟨rfl, rfl, rfl, rfl, rfl, rfl, rfl, rfl, rfl, trivial⟩ trivial)⟩
      · have h := ifF h hc
        refine pw_exit ?_
        refine thenQ_exit ?_
        refine thenQ_exit ?_
        refine blockQ_exit ?_
        have he := hx24 _ (Option.some.inj h).symm
        have h := hk23
        rw [← he] at h
        exact ⟨rfl, (), h, (wk_st _ _ trivial trivial)⟩

set_option maxHeartbeats 4000000 in
theorem w10_right_ok {a0 : List hash_Place} {r : Bool} (h : w10_right a0 = some r) : PCalls Try.prog 9 [.lst false (List.map hash_Place.Pv a0)] (.bool r) := by
  unfold w10_right at h
  refine pc_intro (N := 11) Try.func9 rfl rfl (Nat.le_of_ble_eq_true rfl) fun w0 imm0 => ?_
  refine sr (by kernel_rfl) ?_
  refine y0 rfl (o_assign (d := .bool false) rfl) ?_
  refine y_nil ?_
  refine sr (by kernel_rfl) ?_
  refine y0 rfl (o_move (d := .lst false (List.map hash_Place.Pv a0)) rfl) ?_
  refine y0 rfl (o_lnL (f := hash_Place.Pv) rfl Ty.e22) ?_
  refine y0 rfl (o_cmp rfl rfl rfl) ?_
  refine y0 rfl (o_move (d := .bool (decide ((a0.length : Int) ≤ 8))) rfl) ?_
  refine y_if (g := ((decide ((a0.length : Int) ≤ 8)) == true)) rfl (fun hg => o_move (d := .lst false (List.map hash_Place.Pv a0)) rfl) ?_
  obtain ⟨v1, hv1, h⟩ := bindE h
  refine y_ifc (g := ((decide ((a0.length : Int) ≤ 8)) == true)) rfl (fun hg => o_callF (ls := []) (ds := [.lst false (List.map hash_Place.Pv a0)]) rfl Ty.k11 (consE (ct hg) rfl) (w10_its_ok (onlyE hv1 hg))) ?_
  obtain ⟨v2, hv2, h⟩ := bindE h
  refine y_if (g := ((decide ((a0.length : Int) ≤ 8)) == true)) rfl (fun hg => o_call (ds := [.lst false (List.map r10_Place.Pv v1)]) rfl Ty.k29 (consE (ct hg) rfl) (r10_Right_ok (onlyE hv2 hg))) ?_
  refine y0 rfl (pk_and rfl rfl rfl (fun q => eqT q)) ?_
  refine y0 rfl (o_assign (d := .bool ((decide ((a0.length : Int) ≤ 8)) && v2)) rfl) ?_
  refine y_nil ?_
  refine pw_ret ?_
  obtain rfl := Option.some.inj h
  exact ⟨rfl, [_], ⟨rfl, trivial⟩, rfl, by first | exact .inl rfl | exact .inr rfl⟩

set_option maxHeartbeats 4000000 in
theorem hash_New_ok {a0 : Int} {r : List hash_Place} (h : hash_New a0 = some r) : PCalls Try.prog 26 [.int .i64 a0] (.lst false (List.map hash_Place.Pv r)) := by
  unfold hash_New at h
  refine pc_intro (N := 11) Try.func26 rfl rfl (Nat.le_of_ble_eq_true rfl) fun w0 imm0 => ?_
  refine sr (by kernel_rfl) ?_
  refine y0 rfl (o_assign (d := .lst true (List.map hash_Place.Pv [])) rfl) ?_
  refine y_nil ?_
  refine pw_seq ?_
  refine sr (by kernel_rfl) ?_
  refine y0 rfl (o_move (d := .int .i64 a0) rfl) ?_
  refine y0 rfl (o_cmp rfl rfl rfl) ?_
  refine y0 rfl (o_move (d := .bool (decide (a0 < 1))) rfl) ?_
  refine y_if (g := ((decide (a0 < 1)) == false)) rfl (fun hg => o_move (d := .int .i64 a0) rfl) ?_
  refine y_if (g := ((decide (a0 < 1)) == false)) rfl (fun hg => o_cmp (ct hg) rfl rfl) ?_
  refine y0 rfl (pk_or rfl rfl rfl (fun q => eqF q)) ?_
  refine y_nil ?_
  refine pw_cond ((decide (a0 < 1)) || (decide (a0 > 8))) rfl (fun hc => ?_) (fun hc => ?_)
  · have h := ifT h hc
    refine sr (by kernel_rfl) ?_
    refine y0 rfl (o_assign (d := .lst true (List.map hash_Place.Pv [])) rfl) ?_
    refine y_nil ?_
    refine pw_ret ?_
    obtain rfl := Option.some.inj h
    exact ⟨rfl, [_], ⟨rfl, trivial⟩, rfl, by first | exact .inl rfl | exact .inr rfl⟩
  · have h := ifF h hc
    refine pw_skip ?_
    refine sr (by kernel_rfl) ?_
    refine y0 rfl (o_move (d := .int .i64 a0) rfl) ?_
    obtain ⟨v1, hv1, h⟩ := bindE h
    refine y1 rfl (o_mk (f := hash_Place.Pv) hv1 rfl rfl rfl Ty.e22 Ty.s61 Ty.z61 Ty.b61 rfl rfl rfl rfl) rfl ?_
    refine y0 rfl (o_assign (d := .sl 10) rfl) ?_
    refine y_nil ?_
    refine pw_ret ?_
    obtain rfl := Option.some.inj h
    exact ⟨rfl, [_], ⟨rfl, trivial⟩, rfl, by first | exact .inl rfl | exact .inr rfl⟩

set_option maxHeartbeats 4000000 in
theorem hash_road_ok {a0 : Int} {a1 : Int} {r : Int × Int} (h : hash_road a0 a1 = some r) : PCalls Try.prog 31 [.int .i64 a0, .int .i64 a1] (.fn (.func 34) [.rptr [.int .i64 r.1], .rptr [.int .i64 r.2]]) := by
  unfold hash_road at h
  refine pc_intro (N := 6) Try.func31 rfl rfl (Nat.le_of_ble_eq_true rfl) fun w0 imm0 => ?_
  refine sr (by kernel_rfl) ?_
  refine y1 rfl (o_box (d := .int .i64 a0) (z := 1) (cl := true) rfl rfl rfl rfl rfl) rfl ?_
  refine y1 rfl (o_box (d := .int .i64 a1) (z := 1) (cl := true) rfl rfl rfl rfl rfl) rfl ?_
  refine y0 rfl (o_assign (d := .nilfn) rfl) ?_
  refine y_nil ?_
  refine sr (by kernel_rfl) ?_
  refine y0 rfl (o_mkFunc rfl) ?_
  refine y0 rfl (o_assign (d := .fn (.func 34) [.ptr 2 0 0, .ptr 3 0 0]) rfl) ?_
  refine y_nil ?_
  refine pw_ret ?_
  obtain rfl := Option.some.inj h
  exact ⟨rfl, [_], ⟨rfl, trivial⟩, rfl, by first | exact .inl rfl | exact .inr rfl⟩

set_option maxHeartbeats 4000000 in
theorem hash_Home_ok {a0 : Int} {a1 : Int} {r : Int} (h : hash_Home a0 a1 = some r) : PCalls Try.prog 24 [.int .i64 a0, .int .i64 a1] (.int .i64 r) := by
  unfold hash_Home at h
  refine pc_intro (N := 19) Try.func24 rfl rfl (Nat.le_of_ble_eq_true rfl) fun w0 imm0 => ?_
  refine sr (by kernel_rfl) ?_
  refine y0 rfl (o_assign (d := .int .i64 0) rfl) ?_
  refine y_nil ?_
  refine pw_seq ?_
  refine sr (by kernel_rfl) ?_
  refine y0 rfl (o_move (d := .int .i64 a0) rfl) ?_
  refine y0 rfl (o_cmp rfl rfl rfl) ?_
  refine y_nil ?_
  refine pw_cond (decide (a0 < 1)) rfl (fun hc => ?_) (fun hc => ?_)
  · have h := ifT h hc
    refine sr (by kernel_rfl) ?_
    refine y0 rfl (o_assign (d := .int .i64 0) rfl) ?_
    refine y_nil ?_
    refine pw_ret ?_
    obtain rfl := Option.some.inj h
    exact ⟨rfl, [_], ⟨rfl, trivial⟩, rfl, by first | exact .inl rfl | exact .inr rfl⟩
  · have h := ifF h hc
    refine pw_skip ?_
    refine sr (by kernel_rfl) ?_
    refine y0 rfl (o_move (d := .int .i64 a1) rfl) ?_
    refine y0 rfl (o_ari rfl rfl rfl) ?_
    refine y0 rfl (o_ari rfl rfl rfl) ?_
    refine y0 rfl (o_move (d := .int .i64 a0) rfl) ?_
    obtain ⟨v1, hv1, h⟩ := bindE h
    refine y0 rfl (o_ari rfl rfl hv1) ?_
    refine y0 rfl (o_assign (d := .int .i64 v1) rfl) ?_
    refine y_nil ?_
    refine pw_seq ?_
    refine sr (by kernel_rfl) ?_
    refine y0 rfl (o_move (d := .int .i64 v1) rfl) ?_
    refine y0 rfl (o_cmp rfl rfl rfl) ?_
    refine y_nil ?_
    refine pw_cond (decide (v1 < 0)) rfl (fun hc => ?_) (fun hc => ?_)
    · have h := ifT h hc
      refine sr1 (by kernel_rfl) ?_
      refine y0 rfl (o_move (d := .int .i64 v1) rfl) ?_
      refine y0 rfl (o_move (d := .int .i64 a0) rfl) ?_
      refine y0 rfl (o_ari rfl rfl rfl) ?_
      refine y0 rfl (o_assign (d := .int .i64 (w64 (v1 + a0))) rfl) ?_
      refine y_nil ?_
      refine sr (by kernel_rfl) ?_
      refine y0 rfl (o_move (d := .int .i64 (w64 (v1 + a0))) rfl) ?_
      refine y0 rfl (o_assign (d := .int .i64 (w64 (v1 + a0))) rfl) ?_
      refine y_nil ?_
      refine pw_ret ?_
      obtain rfl := Option.some.inj h
      exact ⟨rfl, [_], ⟨rfl, trivial⟩, rfl, by first | exact .inl rfl | exact .inr rfl⟩
    · have h := ifF h hc
      refine pw_skip ?_
      refine sr (by kernel_rfl) ?_
      refine y0 rfl (o_move (d := .int .i64 v1) rfl) ?_
      refine y0 rfl (o_assign (d := .int .i64 v1) rfl) ?_
      refine y_nil ?_
      refine pw_ret ?_
      obtain rfl := Option.some.inj h
      exact ⟨rfl, [_], ⟨rfl, trivial⟩, rfl, by first | exact .inl rfl | exact .inr rfl⟩

set_option maxHeartbeats 4000000 in
theorem hash_Find_ok {a0 : List hash_Place} {a1 : Int} {r : Int} (h : hash_Find a0 a1 = some r) : PCalls Try.prog 18 [.lst false (List.map hash_Place.Pv a0), .int .i64 a1] (.int .i64 r) := by
  unfold hash_Find at h
  refine pc_intro (N := 33) Try.func18 rfl rfl (Nat.le_of_ble_eq_true rfl) fun w0 imm0 => ?_
  refine sr (by kernel_rfl) ?_
  refine y1 rfl (o_box (d := .lst false (List.map hash_Place.Pv a0)) (z := 1) (cl := true) rfl rfl rfl rfl rfl) rfl ?_
  refine y1 rfl (o_box (d := .int .i64 a1) (z := 1) (cl := true) rfl rfl rfl rfl rfl) rfl ?_
  refine y1 rfl (o_alloc (d := .int .i64 0) (z := 1) rfl Ty.z3 rfl rfl rfl) rfl ?_
  refine y_nil ?_
  obtain ⟨κ8, hκ15, h⟩ := jnE h
  refine pw_jn0 (κ := κ8) (r := r) (fun (_ : Unit) => St.of [(4, .ptr 2001 0 0)] [(2001, ⟨[.int .i64 0], 0, false, 1, true⟩)]) (fun q9 h => ?_) ?_
  · subst hκ15
    refine sr (by kernel_rfl) ?_
    refine y_sto (x' := .int .i64 (-1)) (cl' := true) rfl rfl (.inl rfl) Ty.s3 ?_
    refine y_nil ?_
    refine pw_ret ?_
    obtain rfl := Option.some.inj h
    exact ⟨rfl, [_], ⟨o_loadS rfl rfl rfl Ty.a3 rfl, trivial⟩, rfl, by first | exact .inl rfl | exact .inr rfl⟩
  · skip
    refine sr (by kernel_rfl) ?_
    refine y0 rfl (o_loadS rfl rfl rfl Ty.a22 rfl) ?_
    refine y0 rfl (o_lnL (f := hash_Place.Pv) rfl Ty.e22) ?_
    refine y0 rfl (o_loadS rfl rfl rfl Ty.a3 rfl) ?_
    obtain ⟨v10, hv16, h⟩ := bindE h
    refine yc rfl (o_callF (ls := []) (ds := [.int .i64 (a0.length : Int), .int .i64 a1]) rfl Ty.k31 rfl (hash_road_ok hv16)) ?_
    refine y_nil ?_
    refine pw_block ?_
    refine pw_wk (wk_stP (fun l => if l = 2004 then 4 else if l = 2005 then 3 else if l = 2006 then 2 else l) [(2, .ptr 2006 0 0), (3, .ptr 2005 0 0), (4, .ptr 2004 0 0), (9, .fn (.func 34) [.rptr [.int .i64 v10.1], .rptr [.int .i64 v10.2]])] [(2004, ⟨[.int .i64 0], 0, false, 1, true⟩), (2005, ⟨[.int .i64 a1], 0, false, 1, true⟩), (2006, ⟨[.lst false (List.map hash_Place.Pv a0)], 0, false, 1, true⟩)] ⟨rfl, rfl, rfl, rfl, rfl, rfl, rfl, rfl, rfl, rfl, rfl, rfl, trivial⟩ ⟨rowLe_ren rfl rfl rfl (fun q => nomatch q) rfl rfl rfl, rowLe_ren rfl rfl rfl (fun q => nomatch q) rfl rfl rfl, rowLe_ren rfl rfl rfl (fun q => nomatch q) rfl rfl rfl, trivial⟩ rfl) ?_
    refine pw_range (fn := Try.f34) (N1 := 20) rfl Try.func34 rfl rfl (Nat.le_of_ble_eq_true rfl) rfl Ty.k34 rfl rfl (fun l17 e18 o19 hR20 => ?_)
    refine sr (by kernel_rfl) ?_
    refine y0 rfl (o_loadRS rfl Ty.a3 rfl) ?_
    refine y0 rfl (o_move (d := .int .i64 0) rfl) ?_
    refine y_nil ?_
    refine pw_block ?_
    obtain ⟨e11, hl21, hk22⟩ := bindE h
    refine pw_lp0 (fun (s12 : Int) => St.of [(1000002, .ptr 2006 0 0), (1000003, .ptr 2005 0 0), (1000004, .ptr 2004 0 0), (1000009, .fn (.func 34) [.rptr [.int .i64 v10.1], .rptr [.int .i64 v10.2]]), (0, .fn (.yield l17) []), (1, .rptr [.int .i64 v10.1]), (2, .rptr [.int .i64 v10.2]), (5, .int .i64 v10.1), (6, .int .i64 s12)] [(2004, ⟨[.int .i64 0], 0, false, 1, true⟩), (2005, ⟨[.int .i64 a1], 0, false, 1, true⟩), (2006, ⟨[.lst false (List.map hash_Place.Pv a0)], 0, false, 1, true⟩)]) hl21 (wk_st _ _ ⟨rfl, rfl, rfl, rfl, rfl, rfl, rfl, rfl, rfl, rfl, rfl, rfl, rfl, rfl, rfl, rfl, rfl, rfl, rfl, rfl, rfl, rfl, rfl, rfl, rfl, rfl, rfl, trivial⟩ ⟨rowLe_same rfl rfl rfl (fun q => nomatch q) rfl rfl rfl, rowLe_same rfl rfl rfl (fun q => nomatch q) rfl rfl rfl, rowLe_same rfl rfl rfl (fun q => nomatch q) rfl rfl rfl, trivial⟩) (fun s12 x13 h hx23 => ?_)
    refine sr (by kernel_rfl) ?_
    refine y0 rfl (o_cmp rfl rfl rfl) ?_
    refine y_nil ?_
    refine pw_seq ?_
    refine pw_cond (decide (s12 < v10.1)) rfl (fun hc => ?_) (fun hc => ?_)
    · have h := ifT h hc
      refine pw_skip ?_
      refine pw_seq ?_
      refine pw_block ?_
      refine sr (by kernel_rfl) ?_
      refine y0 rfl (o_move (d := .int .i64 s12) rfl) ?_
      refine y0 rfl (o_assign (d := .int .i64 s12) rfl) ?_
      refine y_nil ?_
      refine drY [] 8 Ty.mix (by kernel_rfl) (by kernel_rfl) (by kernel_rfl) (by kernel_rfl) (Nat.le_of_ble_eq_true rfl) ?_
      refine d7 rfl (fun _ hN => o_move (d := .fn (.yield l17) []) rfl) rfl ?_
      refine d0 rfl (o_loadRS rfl Ty.a3 rfl) rfl ?_
      refine d0 rfl (o_loadRS rfl Ty.a3 rfl) rfl ?_
      obtain ⟨v14, hv24, h⟩ := bindE h
      refine d2 rfl (o_call (ds := [.int .i64 v10.1, .int .i64 v10.2]) rfl Ty.k24 rfl (hash_Home_ok hv24)) rfl ?_
      refine d7 rfl (fun _ hN => o_move (d := .int .i64 s12) rfl) rfl ?_
      refine d7 rfl (fun _ hN => o_ari rfl rfl rfl) rfl ?_
      refine d0 rfl (o_loadRS rfl Ty.a3 rfl) rfl ?_
      obtain ⟨v15, hv25, h⟩ := bindE h
      refine d7 rfl (fun _ hN => o_ari rfl rfl hv25) rfl ?_
      refine d_nil ?_
      refine opq_wk (wk_st [(1000002, .ptr 2006 0 0), (1000003, .ptr 2005 0 0), (1000004, .ptr 2004 0 0), (1000009, .fn (.func 34) [.rptr [.int .i64 v10.1], .rptr [.int .i64 v10.2]]), (0, .fn (.yield l17) []), (1, .rptr [.int .i64 v10.1]), (2, .rptr [.int .i64 v10.2]), (5, .int .i64 v10.1), (6, .int .i64 s12), (9, .fn (.yield l17) []), (16, .int .i64 v15)] [(2004, ⟨[.int .i64 0], 0, false, 1, true⟩), (2005, ⟨[.int .i64 a1], 0, false, 1, true⟩), (2006, ⟨[.lst false (List.map hash_Place.Pv a0)], 0, false, 1, true⟩)] ⟨rfl, rfl, rfl, rfl, rfl, rfl, rfl, rfl, rfl, rfl, rfl, rfl, rfl, rfl, rfl, rfl, rfl, rfl, rfl, rfl, rfl, rfl, rfl, rfl, rfl, rfl, rfl, rfl, rfl, rfl, rfl, rfl, rfl, trivial⟩ ⟨rowLe_same rfl rfl rfl (fun q => nomatch q) rfl rfl rfl, rowLe_same rfl rfl rfl (fun q => nomatch q) rfl rfl rfl, rowLe_same rfl rfl rfl (fun q => nomatch q) rfl rfl rfl, trivial⟩) ?_
      refine y_yield0 rfl hR20 rfl rfl rfl rfl rfl rfl (fun e26 o27 o28 => ?_)
      refine sr1 (by kernel_rfl) ?_
      refine y0 rfl (o_assign (d := .int .i64 v15) rfl) ?_
      refine y_nil ?_
      refine ⟨rfl, ?_⟩
      refine pw_block ?_
      refine pw_seq ?_
      refine sr (by kernel_rfl) ?_
      refine y0 rfl (o_loadS rfl rfl rfl Ty.a22 rfl) ?_
      refine y0 rfl (o_move (d := .int .i64 v15) rfl) ?_
      obtain ⟨v16, hv29, h⟩ := bindE h
      refine y0 rfl (o_ixL (f := hash_Place.Pv) (cs := hash_Place.Pc v16) hv29 rfl rfl Ty.e22 Ty.s61 rfl rfl) ?_
      refine y0 rfl (o_fieldAddrR rfl Ty.f61_0 rfl) ?_
      refine y0 rfl (o_loadRS rfl Ty.a3 rfl) ?_
      refine y0 rfl (o_cmp rfl rfl rfl) ?_
      refine y_nil ?_
      refine pw_cond (v16.State == 0) rfl (fun hc => ?_) (fun hc => ?_)
      · have h := ifT h hc
        refine pw_exit ?_
        refine thenQ_exit ?_
        refine blockQ_other (by decide) ?_
        refine ⟨rfl, ?_⟩
        refine ⟨_, wk_st [(1000002, .ptr 2006 0 0), (1000003, .ptr 2005 0 0), (1000004, .ptr 2004 0 0), (1000009, .fn (.func 34) [.rptr [.int .i64 v10.1], .rptr [.int .i64 v10.2]]), (0, .fn (.yield l17) []), (1, .rptr [.int .i64 v10.1]), (2, .rptr [.int .i64 v10.2]), (5, .int .i64 v10.1), (6, .int .i64 s12), (17, .bool false)] [(2004, ⟨[.int .i64 0], 0, false, 1, true⟩), (2005, ⟨[.int .i64 a1], 0, false, 1, true⟩), (2006, ⟨[.lst false (List.map hash_Place.Pv a0)], 0, false, 1, true⟩)] ⟨rfl, rfl, rfl, rfl, rfl, rfl, rfl, rfl, rfl, rfl, rfl, rfl, rfl, rfl, rfl, rfl, rfl, rfl, rfl, rfl, rfl, rfl, rfl, rfl, rfl, rfl, rfl, rfl, rfl, rfl, trivial⟩ ⟨rowLe_same rfl rfl rfl (fun q => nomatch q) rfl rfl rfl, rowLe_same rfl rfl rfl (fun q => nomatch q) rfl rfl rfl, rowLe_same rfl rfl rfl (fun q => nomatch q) rfl rfl rfl, trivial⟩, ?_⟩
        refine d7 rfl (fun _ hN => o_not rfl rfl) rfl ?_
        refine d_nil ?_
        refine pw_cond true rfl (fun _ => ?_) (fun q => nomatch q)
        refine pw_ret ?_
        refine .inr ⟨.exit 0, rfl, jmpE ?_⟩
        refine blockQ_exit ?_
        have he := hx23 _ (Option.some.inj h).symm
        have h := hk22
        rw [← he] at h
        exact ⟨rfl, (), h, (wk_stP (fun l => if l = 2001 then 2004 else l) _ _ ⟨rfl, rfl, rfl, trivial⟩ ⟨rowLe_ren rfl rfl rfl (fun q => nomatch q) rfl rfl rfl, trivial⟩ rfl)⟩
      · have h := ifF h hc
        refine pw_skip ?_
        refine dr [] Ty.mix (by kernel_rfl) (by kernel_rfl) ?_
        refine d0 rfl (o_loadS rfl rfl rfl Ty.a22 rfl) rfl ?_
        refine d7 rfl (fun _ hN => o_move (d := .int .i64 v15) rfl) rfl ?_
        refine d0 rfl (o_ixL (f := hash_Place.Pv) (cs := hash_Place.Pc v16) hv29 rfl rfl Ty.e22 Ty.s61 rfl rfl) rfl ?_
        refine d7 rfl (fun _ hN => o_fieldAddrR rfl Ty.f61_0 rfl) rfl ?_
        refine d0 rfl (o_loadRS rfl Ty.a3 rfl) rfl ?_
        refine d7 rfl (fun _ hN => o_cmp rfl rfl rfl) rfl ?_
        refine d7 rfl (fun _ hN => o_move (d := .bool (v16.State == 1)) rfl) rfl ?_
        refine d_if0 (g := ((v16.State == 1) == true)) rfl (fun hg => o_loadS rfl rfl rfl Ty.a22 rfl) rfl ?_
        refine d_if7 (g := ((v16.State == 1) == true)) rfl (fun hg _ hN => o_move (d := .int .i64 v15) rfl) rfl ?_
        refine d_if0 (g := ((v16.State == 1) == true)) rfl (fun hg => o_ixL (f := hash_Place.Pv) (cs := hash_Place.Pc v16) hv29 (ct hg) (ct hg) Ty.e22 Ty.s61 rfl rfl) rfl ?_
        refine d_if7 (g := ((v16.State == 1) == true)) rfl (fun hg _ hN => o_fieldAddrR (ct hg) Ty.f61_1 rfl) rfl ?_
        refine d_if0 (g := ((v16.State == 1) == true)) rfl (fun hg => o_loadRS (ct hg) Ty.a3 rfl) rfl ?_
        refine d_if0 (g := ((v16.State == 1) == true)) rfl (fun hg => o_loadS rfl rfl rfl Ty.a3 rfl) rfl ?_
        refine d_if7 (g := ((v16.State == 1) == true)) rfl (fun hg _ hN => o_cmp (ct hg) (ct hg) rfl) rfl ?_
        refine d7 rfl (fun _ hN => pk_and rfl rfl rfl (fun q => eqT q)) rfl ?_
        refine d_nil ?_
        refine pw_cond ((v16.State == 1) && (v16.Key == a1)) rfl (fun hc => ?_) (fun hc => ?_)
        · have h := ifT h hc
          refine sr (by kernel_rfl) ?_
          refine y0 rfl (o_move (d := .int .i64 v15) rfl) ?_
          refine y_sto (x' := .int .i64 v15) (cl' := true) rfl rfl (.inl rfl) Ty.s3 ?_
          refine y_nil ?_
          refine pw_ret ?_
          refine ⟨rfl, ?_⟩
          refine ⟨_, wk_st [(1000002, .ptr 2006 0 0), (1000003, .ptr 2005 0 0), (1000004, .ptr 2004 0 0), (1000009, .fn (.func 34) [.rptr [.int .i64 v10.1], .rptr [.int .i64 v10.2]]), (0, .fn (.yield l17) []), (1, .rptr [.int .i64 v10.1]), (2, .rptr [.int .i64 v10.2]), (5, .int .i64 v10.1), (6, .int .i64 s12), (17, .bool false)] [(2004, ⟨[.int .i64 v15], 0, false, 1, true⟩), (2005, ⟨[.int .i64 a1], 0, false, 1, true⟩), (2006, ⟨[.lst false (List.map hash_Place.Pv a0)], 0, false, 1, true⟩)] ⟨rfl, rfl, rfl, rfl, rfl, rfl, rfl, rfl, rfl, rfl, rfl, rfl, rfl, rfl, rfl, rfl, rfl, rfl, rfl, rfl, rfl, rfl, rfl, rfl, rfl, rfl, rfl, rfl, rfl, rfl, trivial⟩ ⟨rowLe_same rfl rfl rfl (fun q => nomatch q) rfl rfl rfl, rowLe_same rfl rfl rfl (fun q => nomatch q) rfl rfl rfl, rowLe_same rfl rfl rfl (fun q => nomatch q) rfl rfl rfl, trivial⟩, ?_⟩
          refine d7 rfl (fun _ hN => o_not rfl rfl) rfl ?_
          refine d_nil ?_
          refine pw_cond true rfl (fun _ => ?_) (fun q => nomatch q)
          refine pw_ret ?_
          refine .inr ⟨.ret, rfl, jmpR ?_⟩
          have he := hx23 _ (Option.some.inj h).symm
          have h := hk22
          rw [← he] at h
          obtain rfl := Option.some.inj h
          exact ⟨rfl, [_], ⟨o_loadS rfl rfl rfl Ty.a3 rfl, trivial⟩, rfl, by first | exact .inl rfl | exact .inr rfl⟩
        · have h := ifF h hc
          refine pw_skip ?_
          refine ⟨rfl, ?_⟩
          refine ⟨_, wk_st [(1000002, .ptr 2006 0 0), (1000003, .ptr 2005 0 0), (1000004, .ptr 2004 0 0), (1000009, .fn (.func 34) [.rptr [.int .i64 v10.1], .rptr [.int .i64 v10.2]]), (0, .fn (.yield l17) []), (1, .rptr [.int .i64 v10.1]), (2, .rptr [.int .i64 v10.2]), (5, .int .i64 v10.1), (6, .int .i64 s12), (17, .bool true)] [(2004, ⟨[.int .i64 0], 0, false, 1, true⟩), (2005, ⟨[.int .i64 a1], 0, false, 1, true⟩), (2006, ⟨[.lst false (List.map hash_Place.Pv a0)], 0, false, 1, true⟩)] ⟨rfl, rfl, rfl, rfl, rfl, rfl, rfl, rfl, rfl, rfl, rfl, rfl, rfl, rfl, rfl, rfl, rfl, rfl, rfl, rfl, rfl, rfl, rfl, rfl, rfl, rfl, rfl, rfl, rfl, rfl, trivial⟩ ⟨rowLe_same rfl rfl rfl (fun q => nomatch q) rfl rfl rfl, rowLe_same rfl rfl rfl (fun q => nomatch q) rfl rfl rfl, rowLe_same rfl rfl rfl (fun q => nomatch q) rfl rfl rfl, trivial⟩, ?_⟩
          refine d7 rfl (fun _ hN => o_not rfl rfl) rfl ?_
          refine d_nil ?_
          refine pw_cond false rfl (fun q => nomatch q) (fun _ => ?_)
          refine pw_skip ?_
          refine sr1 (by kernel_rfl) ?_
          refine y0 rfl (o_ari rfl rfl rfl) ?_
          refine y0 rfl (o_move (d := .int .i64 (w64 (s12 + 1))) rfl) ?_
          refine y_nil ?_
          exact ⟨rfl, w64 (s12 + 1), (Option.some.inj h).symm, (wk_st _ _ ⟨rfl, rfl, rfl, rfl, rfl, rfl, rfl, rfl, rfl, rfl, rfl, rfl, rfl, rfl, rfl, rfl, rfl, rfl, rfl, rfl, rfl, rfl, rfl, rfl, rfl, rfl, rfl, trivial⟩ ⟨rowLe_same rfl rfl rfl (fun q => nomatch q) rfl rfl rfl, rowLe_same rfl rfl rfl (fun q => nomatch q) rfl rfl rfl, rowLe_same rfl rfl rfl (fun q => nomatch q) rfl rfl rfl, trivial⟩)⟩
    · have h := ifF h hc
      refine pw_exit ?_
      refine thenQ_exit ?_
      refine thenQ_exit ?_
      refine blockQ_exit ?_
      refine .inl ⟨rfl, ?_⟩
      have he := hx23 _ (Option.some.inj h).symm
      have h := hk22
      rw [← he] at h
      exact ⟨rfl, (), h, (wk_stP (fun l => if l = 2001 then 2004 else l) _ _ ⟨rfl, rfl, rfl, trivial⟩ ⟨rowLe_ren rfl rfl rfl (fun q => nomatch q) rfl rfl rfl, trivial⟩ rfl)⟩

set_option maxHeartbeats 4000000 in
theorem slices_Clone_hash_Place_hash_Place_okN {a0 r : List hash_Place} (h : slices_Clone_hash_Place_hash_Place a0 = some r) : PCallsN Try.prog 33 [.lst false (List.map hash_Place.Pv a0)] ⟨List.map hash_Place.Pv r, 0, true, 3, true⟩ := by
  unfold slices_Clone_hash_Place_hash_Place at h
  refine pc_introN (N := 8) Try.func33 rfl rfl (Nat.le_of_ble_eq_true rfl) fun w0 imm0 => ?_
  refine sr (by kernel_rfl) ?_
  refine y0 rfl (o_assign (d := .lst true (List.map hash_Place.Pv [])) rfl) ?_
  refine y_nil ?_
  refine pw_seq ?_
  refine sr (by kernel_rfl) ?_
  refine y0 rfl (o_move (d := .lst false (List.map hash_Place.Pv a0)) rfl) ?_
  refine y_eqnil rfl Ty.e22 fun b hb => ?_
  refine y_nil ?_
  refine pw_cond b rfl (fun hc => ?_) (fun hc => ?_)
  · obtain rfl : a0 = [] := by simpa using hb hc
    refine sr (by kernel_rfl) ?_
    refine y0 rfl (o_assign (d := .lst true (List.map hash_Place.Pv [])) rfl) ?_
    refine y_nil ?_
    refine pw_wk (wk_nil (t := 2) (l := 920000) (z := 3) rfl rfl) ?_
    refine pw_ret ?_
    obtain rfl := Option.some.inj h
    exact ⟨rfl, _, _, rfl, rfl, rfl, rfl⟩
  · refine pw_skip ?_
    refine sr (by kernel_rfl) ?_
    refine y0 rfl (o_nslice rfl Ty.e22 Ty.s61) ?_
    refine y0 rfl (o_move (d := .lst false (List.map hash_Place.Pv a0)) rfl) ?_
    refine y1 rfl (o_apT (f := hash_Place.Pv) h rfl rfl (.inl ⟨_, rfl, rfl⟩) Ty.e22 Ty.s61 Ty.b61 Ty.z61 rfl (fun _ => rfl)) rfl ?_
    refine y0 rfl (o_assign (d := .sl 7) rfl) ?_
    refine y_nil ?_
    refine pw_ret ?_
    exact ⟨rfl, _, _, rfl, rfl, rfl, rfl⟩

set_option maxHeartbeats 4000000 in
theorem slices_Clone_hash_Place_hash_Place_ok {a0 r : List hash_Place} (h : slices_Clone_hash_Place_hash_Place a0 = some r) : PCalls Try.prog 33 [.lst false (List.map hash_Place.Pv a0)] (.lst false (List.map hash_Place.Pv r)) := pcalls_ofN (slices_Clone_hash_Place_hash_Place_okN h) rfl

set_option maxHeartbeats 4000000 in
theorem hash_with_ok {a0 : List hash_Place} {a1 : Int} {a2 : hash_Place} {r : List hash_Place} (h : hash_with a0 a1 a2 = some r) : PCalls Try.prog 30 [.lst false (List.map hash_Place.Pv a0), .int .i64 a1, hash_Place.Pv a2] (.lst false (List.map hash_Place.Pv r)) := by
  unfold hash_with at h
  refine pc_intro (N := 14) Try.func30 rfl rfl (Nat.le_of_ble_eq_true rfl) fun w0 imm0 => ?_
  refine sr (by kernel_rfl) ?_
  refine y1 rfl (o_box (d := hash_Place.Pv a2) (z := 3) (cl := true) rfl rfl rfl rfl rfl) rfl ?_
  refine y0 rfl (o_assign (d := .lst true (List.map hash_Place.Pv [])) rfl) ?_
  refine y_nil ?_
  refine sr (by kernel_rfl) ?_
  refine y0 rfl (o_move (d := .lst false (List.map hash_Place.Pv a0)) rfl) ?_
  obtain ⟨v1, hv1, h⟩ := bindE h
  refine ycN rfl (o_callN (ls := []) (ds := [.lst false (List.map hash_Place.Pv a0)]) rfl Ty.k33 rfl (slices_Clone_hash_Place_hash_Place_okN hv1)) rfl rfl ?_
  refine y0 rfl (o_assign (d := .sl 8) rfl) ?_
  refine y_nil ?_
  refine sr (by kernel_rfl) ?_
  refine y0 rfl (o_move (d := .sl 8) rfl) ?_
  refine y0 rfl (o_move (d := .int .i64 a1) rfl) ?_
  refine y0 rfl (o_loadA (cs := hash_Place.Pc a2) rfl rfl rfl Ty.a61 Ty.s61 (Nat.le_of_ble_eq_true rfl) rfl) ?_
  obtain ⟨v2, hv2, h⟩ := bindE h
  refine y0 rfl (o_ixR (f := hash_Place.Pv) hv2 rfl rfl rfl rfl Ty.e22 Ty.s61 rfl) ?_
  refine y_stE (f := hash_Place.Pv) (v := a2) hv2 rfl rfl (.inl rfl) Ty.s61 ?_
  refine y_nil ?_
  refine sr (by kernel_rfl) ?_
  refine y0 rfl (o_move (d := .sl 8) rfl) ?_
  refine y0 rfl (o_assign (d := .sl 8) rfl) ?_
  refine y_nil ?_
  refine pw_ret ?_
  obtain rfl := Option.some.inj h
  exact ⟨rfl, [_], ⟨rfl, trivial⟩, rfl, by first | exact .inl rfl | exact .inr rfl⟩

set_option maxHeartbeats 4000000 in
theorem hash_Put_ok {a0 : List hash_Place} {a1 : Int} {a2 : Int} {r : (List hash_Place) × Int} (h : hash_Put a0 a1 a2 = some r) : PCalls Try.prog 14 [.lst false (List.map hash_Place.Pv a0), .int .i64 a1, .int .i64 a2] (.tup [.lst false (List.map hash_Place.Pv r.1), .int .i64 r.2]) := by
  unfold hash_Put at h
  refine pc_intro (N := 39) Try.func14 rfl rfl (Nat.le_of_ble_eq_true rfl) fun w0 imm0 => ?_
  refine sr (by kernel_rfl) ?_
  refine y1 rfl (o_box (d := .lst false (List.map hash_Place.Pv a0)) (z := 1) (cl := true) rfl rfl rfl rfl rfl) rfl ?_
  refine y1 rfl (o_alloc (d := .lst true (List.map hash_Place.Pv [])) (z := 1) rfl Ty.z22 rfl rfl rfl) rfl ?_
  refine y1 rfl (o_alloc (d := .int .i64 0) (z := 1) rfl Ty.z27 rfl rfl rfl) rfl ?_
  refine y_nil ?_
  refine sr (by kernel_rfl) ?_
  refine y0 rfl (o_move (d := .int .i64 a1) rfl) ?_
  refine y0 rfl (o_move (d := .int .i64 a2) rfl) ?_
  refine y0 rfl (o_build (cs := [.int .i64 1, .int .i64 a1, .int .i64 a2]) rfl Ty.p61 Ty.z61 rfl rfl rfl) ?_
  refine y1 rfl (o_alloc (d := .agg [.int .i64 0, .int .i64 0, .int .i64 0]) (z := 3) rfl Ty.z61 rfl rfl rfl) rfl ?_
  refine y_sto (x' := .agg [.int .i64 1, .int .i64 a1, .int .i64 a2]) (cl' := true) rfl rfl (.inl rfl) Ty.s61 ?_
  refine y_nil ?_
  refine pw_seq ?_
  refine sr (by kernel_rfl) ?_
  refine y0 rfl (o_loadS rfl rfl rfl Ty.a22 rfl) ?_
  refine y0 rfl (o_move (d := .int .i64 a1) rfl) ?_
  obtain ⟨v1, hv1, h⟩ := bindE h
  refine y0 rfl (o_call (ds := [.lst false (List.map hash_Place.Pv a0), .int .i64 a1]) rfl Ty.k18 rfl (hash_Find_ok hv1)) ?_
  refine y0 rfl (o_assign (d := .int .i64 v1) rfl) ?_
  refine y_nil ?_
  refine sr (by kernel_rfl) ?_
  refine y0 rfl (o_move (d := .int .i64 v1) rfl) ?_
  refine y0 rfl (o_cmp rfl rfl rfl) ?_
  refine y_nil ?_
  refine pw_cond (decide (v1 ≥ 0)) rfl (fun hc => ?_) (fun hc => ?_)
  · have h := ifT h hc
    refine sr (by kernel_rfl) ?_
    refine y0 rfl (o_loadS rfl rfl rfl Ty.a22 rfl) ?_
    refine y0 rfl (o_move (d := .int .i64 v1) rfl) ?_
    refine y0 rfl (o_loadA (cs := [.int .i64 1, .int .i64 a1, .int .i64 a2]) rfl rfl rfl Ty.a61 Ty.s61 (Nat.le_of_ble_eq_true rfl) rfl) ?_
    obtain ⟨v2, hv2, h⟩ := bindE h
    refine yc rfl (o_callF (ls := []) (ds := [.lst false (List.map hash_Place.Pv a0), .int .i64 v1, .agg [.int .i64 1, .int .i64 a1, .int .i64 a2]]) rfl Ty.k30 rfl (hash_with_ok hv2)) ?_
    refine y_sto (x' := .lst false (List.map hash_Place.Pv v2)) (cl' := true) rfl rfl (.inl rfl) Ty.s22 ?_
    refine y_sto (x' := .int .i64 0) (cl' := true) rfl rfl (.inl rfl) Ty.s27 ?_
    refine y_nil ?_
    refine pw_ret ?_
    obtain rfl := Option.some.inj h
    exact ⟨rfl, [_, _], ⟨o_loadS rfl rfl rfl Ty.a22 rfl, ⟨o_loadS rfl rfl rfl Ty.a27 rfl, trivial⟩⟩, rfl, by first | exact .inl rfl | exact .inr rfl⟩
  · have h := ifF h hc
    refine pw_skip ?_
    obtain ⟨κ11, hκ18, h⟩ := jnE h
    refine pw_jn0 (κ := κ11) (r := r) (fun (_ : Unit) => St.of [(3, .ptr 2004 0 0), (6, .ptr 2003 0 0), (7, .ptr 2002 0 0)] [(2002, ⟨[.int .i64 0], 0, false, 1, true⟩), (2003, ⟨[.lst true (List.map hash_Place.Pv [])], 0, false, 1, true⟩), (2004, ⟨[.lst false (List.map hash_Place.Pv a0)], 0, false, 1, true⟩)]) (fun q12 h => ?_) ?_
    · subst hκ18
      refine sr (by kernel_rfl) ?_
      refine y0 rfl (o_loadS rfl rfl rfl Ty.a22 rfl) ?_
      refine y_sto (x' := .lst false (List.map hash_Place.Pv a0)) (cl' := true) rfl rfl (.inl rfl) Ty.s22 ?_
      refine y_sto (x' := .int .i64 8) (cl' := true) rfl rfl (.inl rfl) Ty.s27 ?_
      refine y_nil ?_
      refine pw_ret ?_
      obtain rfl := Option.some.inj h
      exact ⟨rfl, [_, _], ⟨o_loadS rfl rfl rfl Ty.a22 rfl, ⟨o_loadS rfl rfl rfl Ty.a27 rfl, trivial⟩⟩, rfl, by first | exact .inl rfl | exact .inr rfl⟩
    · skip
      refine sr (by kernel_rfl) ?_
      refine y0 rfl (o_loadS rfl rfl rfl Ty.a22 rfl) ?_
      refine y0 rfl (o_lnL (f := hash_Place.Pv) rfl Ty.e22) ?_
      refine y0 rfl (o_move (d := .int .i64 a1) rfl) ?_
      obtain ⟨v13, hv19, h⟩ := bindE h
      refine yc rfl (o_callF (ls := []) (ds := [.int .i64 (a0.length : Int), .int .i64 a1]) rfl Ty.k31 rfl (hash_road_ok hv19)) ?_
      refine y_nil ?_
      refine pw_block ?_
      refine pw_wk (wk_stP (fun l => if l = 2005 then 8 else if l = 2006 then 7 else if l = 2007 then 6 else if l = 2008 then 3 else l) [(3, .ptr 2008 0 0), (6, .ptr 2007 0 0), (7, .ptr 2006 0 0), (8, .ptr 2005 0 0), (26, .fn (.func 34) [.rptr [.int .i64 v13.1], .rptr [.int .i64 v13.2]])] [(2005, ⟨[.agg [.int .i64 1, .int .i64 a1, .int .i64 a2]], 0, false, 3, true⟩), (2006, ⟨[.int .i64 0], 0, false, 1, true⟩), (2007, ⟨[.lst true (List.map hash_Place.Pv [])], 0, false, 1, true⟩), (2008, ⟨[.lst false (List.map hash_Place.Pv a0)], 0, false, 1, true⟩)] ⟨rfl, rfl, rfl, rfl, rfl, rfl, rfl, rfl, rfl, rfl, rfl, rfl, rfl, rfl, rfl, trivial⟩ ⟨rowLe_ren rfl rfl rfl (fun q => nomatch q) rfl rfl rfl, rowLe_ren rfl rfl rfl (fun q => nomatch q) rfl rfl rfl, rowLe_ren rfl rfl rfl (fun q => nomatch q) rfl rfl rfl, rowLe_ren rfl rfl rfl (fun q => nomatch q) rfl rfl rfl, trivial⟩ rfl) ?_
      refine pw_range (fn := Try.f34) (N1 := 20) rfl Try.func34 rfl rfl (Nat.le_of_ble_eq_true rfl) rfl Ty.k34 rfl rfl (fun l20 e21 o22 hR23 => ?_)
      refine sr (by kernel_rfl) ?_
      refine y0 rfl (o_loadRS rfl Ty.a3 rfl) ?_
      refine y0 rfl (o_move (d := .int .i64 0) rfl) ?_
      refine y_nil ?_
      refine pw_block ?_
      obtain ⟨e14, hl24, hk25⟩ := bindE h
      refine pw_lp0 (fun (s15 : Int) => St.of [(1000003, .ptr 2008 0 0), (1000006, .ptr 2007 0 0), (1000007, .ptr 2006 0 0), (1000008, .ptr 2005 0 0), (1000026, .fn (.func 34) [.rptr [.int .i64 v13.1], .rptr [.int .i64 v13.2]]), (0, .fn (.yield l20) []), (1, .rptr [.int .i64 v13.1]), (2, .rptr [.int .i64 v13.2]), (5, .int .i64 v13.1), (6, .int .i64 s15)] [(2005, ⟨[.agg [.int .i64 1, .int .i64 a1, .int .i64 a2]], 0, false, 3, true⟩), (2006, ⟨[.int .i64 0], 0, false, 1, true⟩), (2007, ⟨[.lst true (List.map hash_Place.Pv [])], 0, false, 1, true⟩), (2008, ⟨[.lst false (List.map hash_Place.Pv a0)], 0, false, 1, true⟩)]) hl24 (wk_st _ _ ⟨rfl, rfl, rfl, rfl, rfl, rfl, rfl, rfl, rfl, rfl, rfl, rfl, rfl, rfl, rfl, rfl, rfl, rfl, rfl, rfl, rfl, rfl, rfl, rfl, rfl, rfl, rfl, rfl, rfl, rfl, trivial⟩ ⟨rowLe_same rfl rfl rfl (fun q => nomatch q) rfl rfl rfl, rowLe_same rfl rfl rfl (fun q => nomatch q) rfl rfl rfl, rowLe_same rfl rfl rfl (fun q => nomatch q) rfl rfl rfl, rowLe_same rfl rfl rfl (fun q => nomatch q) rfl rfl rfl, trivial⟩) (fun s15 x16 h hx26 => ?_)
      refine sr (by kernel_rfl) ?_
      refine y0 rfl (o_cmp rfl rfl rfl) ?_
      refine y_nil ?_
      refine pw_seq ?_
      refine pw_cond (decide (s15 < v13.1)) rfl (fun hc => ?_) (fun hc => ?_)
      · have h := ifT h hc
        refine pw_skip ?_
        refine pw_seq ?_
        refine pw_block ?_
        refine sr (by kernel_rfl) ?_
        refine y0 rfl (o_move (d := .int .i64 s15) rfl) ?_
        refine y0 rfl (o_assign (d := .int .i64 s15) rfl) ?_
        refine y_nil ?_
        refine drY [] 8 Ty.mix (by kernel_rfl) (by kernel_rfl) (by kernel_rfl) (by kernel_rfl) (Nat.le_of_ble_eq_true rfl) ?_
        refine d7 rfl (fun _ hN => o_move (d := .fn (.yield l20) []) rfl) rfl ?_
        refine d0 rfl (o_loadRS rfl Ty.a3 rfl) rfl ?_
        refine d0 rfl (o_loadRS rfl Ty.a3 rfl) rfl ?_
        obtain ⟨v17, hv27, h⟩ := bindE h
        refine d2 rfl (o_call (ds := [.int .i64 v13.1, .int .i64 v13.2]) rfl Ty.k24 rfl (hash_Home_ok hv27)) rfl ?_
        refine d7 rfl (fun _ hN => o_move (d := .int .i64 s15) rfl) rfl ?_
        refine d7 rfl (fun _ hN => o_ari rfl rfl rfl) rfl ?_
        refine d0 rfl (o_loadRS rfl Ty.a3 rfl) rfl ?_
        obtain ⟨v18, hv28, h⟩ := bindE h
        refine d7 rfl (fun _ hN => o_ari rfl rfl hv28) rfl ?_
        refine d_nil ?_
        refine opq_wk (wk_st [(1000003, .ptr 2008 0 0), (1000006, .ptr 2007 0 0), (1000007, .ptr 2006 0 0), (1000008, .ptr 2005 0 0), (1000026, .fn (.func 34) [.rptr [.int .i64 v13.1], .rptr [.int .i64 v13.2]]), (0, .fn (.yield l20) []), (1, .rptr [.int .i64 v13.1]), (2, .rptr [.int .i64 v13.2]), (5, .int .i64 v13.1), (6, .int .i64 s15), (9, .fn (.yield l20) []), (16, .int .i64 v18)] [(2005, ⟨[.agg [.int .i64 1, .int .i64 a1, .int .i64 a2]], 0, false, 3, true⟩), (2006, ⟨[.int .i64 0], 0, false, 1, true⟩), (2007, ⟨[.lst true (List.map hash_Place.Pv [])], 0, false, 1, true⟩), (2008, ⟨[.lst false (List.map hash_Place.Pv a0)], 0, false, 1, true⟩)] ⟨rfl, rfl, rfl, rfl, rfl, rfl, rfl, rfl, rfl, rfl, rfl, rfl, rfl, rfl, rfl, rfl, rfl, rfl, rfl, rfl, rfl, rfl, rfl, rfl, rfl, rfl, rfl, rfl, rfl, rfl, rfl, rfl, rfl, rfl, rfl, rfl, trivial⟩ ⟨rowLe_same rfl rfl rfl (fun q => nomatch q) rfl rfl rfl, rowLe_same rfl rfl rfl (fun q => nomatch q) rfl rfl rfl, rowLe_same rfl rfl rfl (fun q => nomatch q) rfl rfl rfl, rowLe_same rfl rfl rfl (fun q => nomatch q) rfl rfl rfl, trivial⟩) ?_
        refine y_yield0 rfl hR23 rfl rfl rfl rfl rfl rfl (fun e29 o30 o31 => ?_)
        refine sr1 (by kernel_rfl) ?_
        refine y0 rfl (o_assign (d := .int .i64 v18) rfl) ?_
        refine y_nil ?_
        refine ⟨rfl, ?_⟩
        refine pw_block ?_
        refine sr (by kernel_rfl) ?_
        refine y0 rfl (o_loadS rfl rfl rfl Ty.a22 rfl) ?_
        refine y0 rfl (o_move (d := .int .i64 v18) rfl) ?_
        obtain ⟨v19, hv32, h⟩ := bindE h
        refine y0 rfl (o_ixL (f := hash_Place.Pv) (cs := hash_Place.Pc v19) hv32 rfl rfl Ty.e22 Ty.s61 rfl rfl) ?_
        refine y0 rfl (o_fieldAddrR rfl Ty.f61_0 rfl) ?_
        refine y0 rfl (o_loadRS rfl Ty.a3 rfl) ?_
        refine y0 rfl (o_cmp rfl rfl rfl) ?_
        refine y_nil ?_
        refine pw_cond (v19.State != 1) rfl (fun hc => ?_) (fun hc => ?_)
        · have h := ifT h hc
          refine sr (by kernel_rfl) ?_
          refine y0 rfl (o_loadS rfl rfl rfl Ty.a22 rfl) ?_
          refine y0 rfl (o_move (d := .int .i64 v18) rfl) ?_
          refine y0 rfl (o_loadA (cs := [.int .i64 1, .int .i64 a1, .int .i64 a2]) rfl rfl rfl Ty.a61 Ty.s61 (Nat.le_of_ble_eq_true rfl) rfl) ?_
          obtain ⟨v20, hv33, h⟩ := bindE h
          refine yc rfl (o_callF (ls := []) (ds := [.lst false (List.map hash_Place.Pv a0), .int .i64 v18, .agg [.int .i64 1, .int .i64 a1, .int .i64 a2]]) rfl Ty.k30 rfl (hash_with_ok hv33)) ?_
          refine y_sto (x' := .lst false (List.map hash_Place.Pv v20)) (cl' := true) rfl rfl (.inl rfl) Ty.s22 ?_
          refine y_sto (x' := .int .i64 0) (cl' := true) rfl rfl (.inl rfl) Ty.s27 ?_
          refine y_nil ?_
          refine pw_ret ?_
          refine ⟨rfl, ?_⟩
          refine ⟨_, wk_st [(1000003, .ptr 2008 0 0), (1000006, .ptr 2007 0 0), (1000007, .ptr 2006 0 0), (1000008, .ptr 2005 0 0), (1000026, .fn (.func 34) [.rptr [.int .i64 v13.1], .rptr [.int .i64 v13.2]]), (0, .fn (.yield l20) []), (1, .rptr [.int .i64 v13.1]), (2, .rptr [.int .i64 v13.2]), (5, .int .i64 v13.1), (6, .int .i64 s15), (17, .bool false)] [(2005, ⟨[.agg [.int .i64 1, .int .i64 a1, .int .i64 a2]], 0, false, 3, true⟩), (2006, ⟨[.int .i64 0], 0, false, 1, true⟩), (2007, ⟨[.lst false (List.map hash_Place.Pv v20)], 0, false, 1, true⟩), (2008, ⟨[.lst false (List.map hash_Place.Pv a0)], 0, false, 1, true⟩)] ⟨rfl, rfl, rfl, rfl, rfl, rfl, rfl, rfl, rfl, rfl, rfl, rfl, rfl, rfl, rfl, rfl, rfl, rfl, rfl, rfl, rfl, rfl, rfl, rfl, rfl, rfl, rfl, rfl, rfl, rfl, rfl, rfl, rfl, trivial⟩ ⟨rowLe_same rfl rfl rfl (fun q => nomatch q) rfl rfl rfl, rowLe_same rfl rfl rfl (fun q => nomatch q) rfl rfl rfl, rowLe_same rfl rfl rfl (fun q => nomatch q) rfl rfl rfl, rowLe_same rfl rfl rfl (fun q => nomatch q) rfl rfl rfl, trivial⟩, ?_⟩
          refine d7 rfl (fun _ hN => o_not rfl rfl) rfl ?_
          refine d_nil ?_
          refine pw_cond true rfl (fun _ => ?_) (fun q => nomatch q)
          refine pw_ret ?_
          refine .inr ⟨.ret, rfl, jmpR ?_⟩
          have he := hx26 _ (Option.some.inj h).symm
          have h := hk25
          rw [← he] at h
          obtain rfl := Option.some.inj h
          exact ⟨rfl, [_, _], ⟨o_loadS rfl rfl rfl Ty.a22 rfl, ⟨o_loadS rfl rfl rfl Ty.a27 rfl, trivial⟩⟩, rfl, by first | exact .inl rfl | exact .inr rfl⟩
        · have h := ifF h hc
          refine pw_skip ?_
          refine ⟨rfl, ?_⟩
          refine ⟨_, wk_st [(1000003, .ptr 2008 0 0), (1000006, .ptr 2007 0 0), (1000007, .ptr 2006 0 0), (1000008, .ptr 2005 0 0), (1000026, .fn (.func 34) [.rptr [.int .i64 v13.1], .rptr [.int .i64 v13.2]]), (0, .fn (.yield l20) []), (1, .rptr [.int .i64 v13.1]), (2, .rptr [.int .i64 v13.2]), (5, .int .i64 v13.1), (6, .int .i64 s15), (17, .bool true)] [(2005, ⟨[.agg [.int .i64 1, .int .i64 a1, .int .i64 a2]], 0, false, 3, true⟩), (2006, ⟨[.int .i64 0], 0, false, 1, true⟩), (2007, ⟨[.lst true (List.map hash_Place.Pv [])], 0, false, 1, true⟩), (2008, ⟨[.lst false (List.map hash_Place.Pv a0)], 0, false, 1, true⟩)] ⟨rfl, rfl, rfl, rfl, rfl, rfl, rfl, rfl, rfl, rfl, rfl, rfl, rfl, rfl, rfl, rfl, rfl, rfl, rfl, rfl, rfl, rfl, rfl, rfl, rfl, rfl, rfl, rfl, rfl, rfl, rfl, rfl, rfl, trivial⟩ ⟨rowLe_same rfl rfl rfl (fun q => nomatch q) rfl rfl rfl, rowLe_same rfl rfl rfl (fun q => nomatch q) rfl rfl rfl, rowLe_same rfl rfl rfl (fun q => nomatch q) rfl rfl rfl, rowLe_same rfl rfl rfl (fun q => nomatch q) rfl rfl rfl, trivial⟩, ?_⟩
          refine d7 rfl (fun _ hN => o_not rfl rfl) rfl ?_
          refine d_nil ?_
          refine pw_cond false rfl (fun q => nomatch q) (fun _ => ?_)
          refine pw_skip ?_
          refine sr1 (by kernel_rfl) ?_
          refine y0 rfl (o_ari rfl rfl rfl) ?_
          refine y0 rfl (o_move (d := .int .i64 (w64 (s15 + 1))) rfl) ?_
          refine y_nil ?_
          exact ⟨rfl, w64 (s15 + 1), (Option.some.inj h).symm, (wk_st _ _ ⟨rfl, rfl, rfl, rfl, rfl, rfl, rfl, rfl, rfl, rfl, rfl, rfl, rfl, rfl, rfl, rfl, rfl, rfl, rfl, rfl, rfl, rfl, rfl, rfl, rfl, rfl, rfl, rfl, rfl, rfl, trivial⟩ ⟨rowLe_same rfl rfl rfl (fun q => nomatch q) rfl rfl rfl, rowLe_same rfl rfl rfl (fun q => nomatch q) rfl rfl rfl, rowLe_same rfl rfl rfl (fun q => nomatch q) rfl rfl rfl, rowLe_same rfl rfl rfl (fun q => nomatch q) rfl rfl rfl, trivial⟩)⟩
      · have h := ifF h hc
        refine pw_exit ?_
        refine thenQ_exit ?_
        refine thenQ_exit ?_
        refine blockQ_exit ?_
        refine .inl ⟨rfl, ?_⟩
        have he := hx26 _ (Option.some.inj h).symm
        have h := hk25
        rw [← he] at h
        exact ⟨rfl, (), h, (wk_stP (fun l => if l = 2004 then 2008 else if l = 2003 then 2007 else if l = 2002 then 2006 else l) _ _ ⟨rfl, rfl, rfl, rfl, rfl, rfl, rfl, rfl, rfl, trivial⟩ ⟨rowLe_ren rfl rfl rfl (fun q => nomatch q) rfl rfl rfl, rowLe_ren rfl rfl rfl (fun q => nomatch q) rfl rfl rfl, rowLe_ren rfl rfl rfl (fun q => nomatch q) rfl rfl rfl, trivial⟩ rfl)⟩

set_option maxHeartbeats 4000000 in
theorem hash_Drop_ok {a0 : List hash_Place} {a1 : Int} {r : (List hash_Place) × Int × Int} (h : hash_Drop a0 a1 = some r) : PCalls Try.prog 16 [.lst false (List.map hash_Place.Pv a0), .int .i64 a1] (.tup [.lst false (List.map hash_Place.Pv r.1), .int .i64 r.2.1, .int .i64 r.2.2]) := by
  unfold hash_Drop at h
  refine pc_intro (N := 23) Try.func16 rfl rfl (Nat.le_of_ble_eq_true rfl) fun w0 imm0 => ?_
  refine sr (by kernel_rfl) ?_
  refine y0 rfl (o_assign (d := .lst true (List.map hash_Place.Pv [])) rfl) ?_
  refine y0 rfl (o_assign (d := .int .i64 0) rfl) ?_
  refine y0 rfl (o_assign (d := .int .i64 0) rfl) ?_
  refine y_nil ?_
  refine sr (by kernel_rfl) ?_
  refine y0 rfl (o_move (d := .lst false (List.map hash_Place.Pv a0)) rfl) ?_
  refine y0 rfl (o_move (d := .int .i64 a1) rfl) ?_
  obtain ⟨v1, hv1, h⟩ := bindE h
  refine y0 rfl (o_call (ds := [.lst false (List.map hash_Place.Pv a0), .int .i64 a1]) rfl Ty.k18 rfl (hash_Find_ok hv1)) ?_
  refine y0 rfl (o_assign (d := .int .i64 v1) rfl) ?_
  refine y_nil ?_
  refine pw_seq ?_
  refine sr (by kernel_rfl) ?_
  refine y0 rfl (o_move (d := .int .i64 v1) rfl) ?_
  refine y0 rfl (o_cmp rfl rfl rfl) ?_
  refine y_nil ?_
  refine pw_cond (decide (v1 < 0)) rfl (fun hc => ?_) (fun hc => ?_)
  · have h := ifT h hc
    refine sr (by kernel_rfl) ?_
    refine y0 rfl (o_move (d := .lst false (List.map hash_Place.Pv a0)) rfl) ?_
    refine y0 rfl (o_assign (d := .lst false (List.map hash_Place.Pv a0)) rfl) ?_
    refine y0 rfl (o_assign (d := .int .i64 0) rfl) ?_
    refine y0 rfl (o_assign (d := .int .i64 9) rfl) ?_
    refine y_nil ?_
    refine pw_ret ?_
    obtain rfl := Option.some.inj h
    exact ⟨rfl, [_, _, _], ⟨rfl, ⟨rfl, ⟨rfl, trivial⟩⟩⟩, rfl, by first | exact .inl rfl | exact .inr rfl⟩
  · have h := ifF h hc
    refine pw_skip ?_
    refine dr [] Ty.mix (by kernel_rfl) (by kernel_rfl) ?_
    refine d7 rfl (fun _ hN => o_move (d := .lst false (List.map hash_Place.Pv a0)) rfl) rfl ?_
    refine d7 rfl (fun _ hN => o_move (d := .int .i64 v1) rfl) rfl ?_
    refine d7 rfl (fun _ hN => o_build (cs := [.int .i64 2, .int .i64 0, .int .i64 0]) rfl Ty.p61 Ty.z61 rfl rfl rfl) rfl ?_
    obtain ⟨v2, hv2, h⟩ := bindE h
    refine d2f rfl (o_callF (ls := []) (ds := [.lst false (List.map hash_Place.Pv a0), .int .i64 v1, .agg [.int .i64 2, .int .i64 0, .int .i64 0]]) rfl Ty.k30 rfl (hash_with_ok hv2)) rfl ?_
    refine d7 rfl (fun _ hN => o_move (d := .lst false (List.map hash_Place.Pv a0)) rfl) rfl ?_
    refine d7 rfl (fun _ hN => o_move (d := .int .i64 v1) rfl) rfl ?_
    obtain ⟨v3, hv3, h⟩ := bindE h
    refine d0 rfl (o_ixL (f := hash_Place.Pv) (cs := hash_Place.Pc v3) hv3 rfl rfl Ty.e22 Ty.s61 rfl rfl) rfl ?_
    refine d7 rfl (fun _ hN => o_fieldAddrR rfl Ty.f61_2 rfl) rfl ?_
    refine d0 rfl (o_loadRS rfl Ty.a3 rfl) rfl ?_
    refine d7 rfl (fun _ hN => o_assign (d := .lst false (List.map hash_Place.Pv v2)) rfl) rfl ?_
    refine d7 rfl (fun _ hN => o_assign (d := .int .i64 v3.Val) rfl) rfl ?_
    refine d7 rfl (fun _ hN => o_assign (d := .int .i64 0) rfl) rfl ?_
    refine d_nil ?_
    refine pw_ret ?_
    obtain rfl := Option.some.inj h
    exact ⟨rfl, [_, _, _], ⟨rfl, ⟨rfl, ⟨rfl, trivial⟩⟩⟩, rfl, by first | exact .inl rfl | exact .inr rfl⟩

set_option maxHeartbeats 4000000 in
theorem hash_Get_ok {a0 : List hash_Place} {a1 : Int} {r : Int × Int} (h : hash_Get a0 a1 = some r) : PCalls Try.prog 12 [.lst false (List.map hash_Place.Pv a0), .int .i64 a1] (.tup [.int .i64 r.1, .int .i64 r.2]) := by
  unfold hash_Get at h
  refine pc_intro (N := 17) Try.func12 rfl rfl (Nat.le_of_ble_eq_true rfl) fun w0 imm0 => ?_
  refine sr (by kernel_rfl) ?_
  refine y0 rfl (o_assign (d := .int .i64 0) rfl) ?_
  refine y0 rfl (o_assign (d := .int .i64 0) rfl) ?_
  refine y_nil ?_
  refine sr (by kernel_rfl) ?_
  refine y0 rfl (o_move (d := .lst false (List.map hash_Place.Pv a0)) rfl) ?_
  refine y0 rfl (o_move (d := .int .i64 a1) rfl) ?_
  obtain ⟨v1, hv1, h⟩ := bindE h
  refine y0 rfl (o_call (ds := [.lst false (List.map hash_Place.Pv a0), .int .i64 a1]) rfl Ty.k18 rfl (hash_Find_ok hv1)) ?_
  refine y0 rfl (o_assign (d := .int .i64 v1) rfl) ?_
  refine y_nil ?_
  refine pw_seq ?_
  refine sr (by kernel_rfl) ?_
  refine y0 rfl (o_move (d := .int .i64 v1) rfl) ?_
  refine y0 rfl (o_cmp rfl rfl rfl) ?_
  refine y_nil ?_
  refine pw_cond (decide (v1 < 0)) rfl (fun hc => ?_) (fun hc => ?_)
  · have h := ifT h hc
    refine sr (by kernel_rfl) ?_
    refine y0 rfl (o_assign (d := .int .i64 0) rfl) ?_
    refine y0 rfl (o_assign (d := .int .i64 9) rfl) ?_
    refine y_nil ?_
    refine pw_ret ?_
    obtain rfl := Option.some.inj h
    exact ⟨rfl, [_, _], ⟨rfl, ⟨rfl, trivial⟩⟩, rfl, by first | exact .inl rfl | exact .inr rfl⟩
  · have h := ifF h hc
    refine pw_skip ?_
    refine sr (by kernel_rfl) ?_
    refine y0 rfl (o_move (d := .lst false (List.map hash_Place.Pv a0)) rfl) ?_
    refine y0 rfl (o_move (d := .int .i64 v1) rfl) ?_
    obtain ⟨v2, hv2, h⟩ := bindE h
    refine y0 rfl (o_ixL (f := hash_Place.Pv) (cs := hash_Place.Pc v2) hv2 rfl rfl Ty.e22 Ty.s61 rfl rfl) ?_
    refine y0 rfl (o_fieldAddrR rfl Ty.f61_2 rfl) ?_
    refine y0 rfl (o_loadRS rfl Ty.a3 rfl) ?_
    refine y0 rfl (o_assign (d := .int .i64 v2.Val) rfl) ?_
    refine y0 rfl (o_assign (d := .int .i64 0) rfl) ?_
    refine y_nil ?_
    refine pw_ret ?_
    obtain rfl := Option.some.inj h
    exact ⟨rfl, [_, _], ⟨rfl, ⟨rfl, trivial⟩⟩, rfl, by first | exact .inl rfl | exact .inr rfl⟩

set_option maxHeartbeats 4000000 in
theorem hash_Keys_ok {a0 : List hash_Place} {r : List Int} (h : hash_Keys a0 = some r) : PCalls Try.prog 22 [.lst false (List.map hash_Place.Pv a0)] (.lst false (List.map (PV.int .i64) r)) := by
  unfold hash_Keys at h
  refine pc_intro (N := 22) Try.func22 rfl rfl (Nat.le_of_ble_eq_true rfl) fun w0 imm0 => ?_
  refine sr (by kernel_rfl) ?_
  refine y0 rfl (o_assign (d := .lst true (List.map (PV.int .i64) [])) rfl) ?_
  refine y_nil ?_
  refine sr (by kernel_rfl) ?_
  refine y0 rfl (o_assign (d := .lst true (List.map (PV.int .i64) [])) rfl) ?_
  refine y_nil ?_
  obtain ⟨κ12, hκ9, h⟩ := jnE h
  refine pw_jn0 (κ := κ12) (r := r) (fun (j13 : List Int) => St.of [(3, .sl 910003)] [(910003, ⟨List.map (PV.int .i64) j13, (List.map (PV.int .i64) j13).length, true, 1, true⟩)]) (fun j13 h => ?_) ?_
  · subst hκ9
    refine sr (by kernel_rfl) ?_
    refine y0 rfl (o_move (d := .sl 910003) rfl) ?_
    refine y0 rfl (o_assign (d := .sl 910003) rfl) ?_
    refine y_nil ?_
    refine pw_ret ?_
    obtain rfl := Option.some.inj h
    exact ⟨rfl, [_], ⟨rfl, trivial⟩, rfl, by first | exact .inl rfl | exact .inr rfl⟩
  · skip
    refine sr (by kernel_rfl) ?_
    refine y0 rfl (o_move (d := .lst false (List.map hash_Place.Pv a0)) rfl) ?_
    refine y0 rfl (o_lnL (f := hash_Place.Pv) rfl Ty.e22) ?_
    refine y0 rfl (o_move (d := .int .i64 0) rfl) ?_
    refine y_nil ?_
    refine pw_block ?_
    obtain ⟨e14, hl10, hk11⟩ := bindE h
    refine pw_lp0 (fun (q : Int × (List Int)) => St.of [(3, .sl 910003), (6, .lst false (List.map hash_Place.Pv a0)), (7, .int .i64 (a0.length : Int)), (8, .int .i64 q.1)] [(910003, ⟨List.map (PV.int .i64) q.2, (List.map (PV.int .i64) q.2).length, true, 1, true⟩)]) hl10 (Wk.trans (wk_nil (t := 3) (l := 920003) (z := 1) rfl rfl) (wk_stP (fun l => if l = 910003 then 920003 else l) _ _ ⟨rfl, rfl, rfl, rfl, rfl, rfl, rfl, rfl, rfl, rfl, rfl, rfl, trivial⟩ ⟨rowLe_ren rfl rfl rfl (fun _ => rfl) rfl rfl rfl, trivial⟩ rfl)) (fun q18 x17 h hx12 => ?_)
    obtain ⟨s15, s16⟩ := q18
    refine sr (by kernel_rfl) ?_
    refine y0 rfl (o_cmp rfl rfl rfl) ?_
    refine y_nil ?_
    refine pw_seq ?_
    refine pw_cond (decide (s15 < (a0.length : Int))) rfl (fun hc => ?_) (fun hc => ?_)
    · have h := ifT h hc
      refine pw_skip ?_
      obtain ⟨κ21, hκ15, h⟩ := jnE h
      refine pw_jn0 (κ := κ21) (r := x17) (fun (j22 : List Int) => St.of [(3, .sl 19), (6, .lst false (List.map hash_Place.Pv a0)), (7, .int .i64 (a0.length : Int)), (8, .int .i64 s15)] [(19, ⟨List.map (PV.int .i64) j22, (List.map (PV.int .i64) j22).length, true, 1, true⟩)]) (fun j22 h => ?_) ?_
      · subst hκ15
        refine sr1 (by kernel_rfl) ?_
        refine y0 rfl (o_ari rfl rfl rfl) ?_
        refine y0 rfl (o_move (d := .int .i64 (w64 (s15 + 1))) rfl) ?_
        refine y_nil ?_
        exact ⟨rfl, (w64 (s15 + 1), j22), (Option.some.inj h).symm, (Wk.trans (wk_frz _ [19]) (wk_stP (fun l => if l = 910003 then 19 else l) _ _ ⟨rfl, rfl, rfl, rfl, rfl, rfl, rfl, rfl, rfl, rfl, rfl, rfl, trivial⟩ ⟨rowLe_ren rfl rfl rfl (fun _ => rfl) rfl rfl rfl, trivial⟩ rfl))⟩
      · skip
        refine pw_block ?_
        refine sr (by kernel_rfl) ?_
        obtain ⟨v23, hv16, h⟩ := bindE h
        refine y0 rfl (o_ixL (f := hash_Place.Pv) (cs := hash_Place.Pc v23) hv16 rfl rfl Ty.e22 Ty.s61 rfl rfl) ?_
        refine y0 rfl (o_loadRA (cs := hash_Place.Pc v23) rfl Ty.a61 Ty.s61 (Nat.le_of_ble_eq_true rfl) rfl) ?_
        refine y1 rfl (o_alloc (d := .agg [.int .i64 0, .int .i64 0, .int .i64 0]) (z := 3) rfl Ty.z61 rfl rfl rfl) rfl ?_
        refine y_sto (x' := hash_Place.Pv v23) (cl' := true) rfl rfl (.inl rfl) Ty.s61 ?_
        refine y_nil ?_
        refine sr (by kernel_rfl) ?_
        refine y0 rfl (o_fieldAddrP (k := 0) rfl Ty.f61_0 rfl) ?_
        refine y0 rfl (o_loadS rfl rfl rfl Ty.a3 rfl) ?_
        refine y0 rfl (o_cmp rfl rfl rfl) ?_
        refine y_nil ?_
        refine pw_cond (v23.State == 1) rfl (fun hc => ?_) (fun hc => ?_)
        · have h := ifT h hc
          refine sr1 (by kernel_rfl) ?_
          refine y0 rfl (o_move (d := .sl 910003) rfl) ?_
          refine y0 rfl (o_fieldAddrP (k := 1) rfl Ty.f61_1 rfl) ?_
          refine y0 rfl (o_loadS rfl rfl rfl Ty.a3 rfl) ?_
          refine y0 rfl (o_bI (f := (PV.int .i64)) (l := [v23.Key]) rfl Ty.e43 Ty.s3 Ty.z3 rfl rfl (Nat.le_of_ble_eq_true rfl) rfl rfl) ?_
          obtain ⟨v24, hv17, h⟩ := bindE h
          refine y_app rfl (o_apR (f := (PV.int .i64)) hv17 rfl rfl rfl rfl rfl rfl (.inl ⟨_, rfl, rfl⟩) Ty.e43 Ty.s3 Ty.b3 Ty.z3 rfl (fun _ => rfl)) rfl rfl rfl ?_
          refine y0 rfl (o_assign (d := .sl 19) rfl) ?_
          refine y_nil ?_
          exact ⟨rfl, v24, h, (Wk.trans (wk_frz _ [19]) (wk_st _ _ ⟨rfl, rfl, rfl, rfl, rfl, rfl, rfl, rfl, rfl, rfl, rfl, rfl, trivial⟩ ⟨rowLe_same rfl rfl rfl (fun _ => rfl) rfl rfl rfl, trivial⟩))⟩
        · have h := ifF h hc
          refine pw_skip ?_
          exact ⟨rfl, s16, h, (Wk.trans (wk_frz _ [910003]) (wk_stP (fun l => if l = 19 then 910003 else l) _ _ ⟨rfl, rfl, rfl, rfl, rfl, rfl, rfl, rfl, rfl, rfl, rfl, rfl, trivial⟩ ⟨rowLe_ren rfl rfl rfl (fun _ => rfl) rfl rfl rfl, trivial⟩ rfl))⟩
    · have h := ifF h hc
      refine pw_exit ?_
      refine thenQ_exit ?_
      refine thenQ_exit ?_
      refine blockQ_exit ?_
      have he := hx12 _ (Option.some.inj h).symm
      have h := hk11
      rw [← he] at h
      exact ⟨rfl, s16, h, (Wk.trans (wk_frz _ [910003]) (wk_st _ _ ⟨rfl, rfl, rfl, trivial⟩ ⟨rowLe_same rfl rfl rfl (fun _ => rfl) rfl rfl rfl, trivial⟩))⟩

set_option maxHeartbeats 4000000 in
theorem hash_Right_ok {a0 : List hash_Place} {r : Bool} (h : hash_Right a0 = some r) : PCalls Try.prog 28 [.lst false (List.map hash_Place.Pv a0)] (.bool r) := by
  unfold hash_Right at h
  refine pc_intro (N := 45) Try.func28 rfl rfl (Nat.le_of_ble_eq_true rfl) fun w0 imm0 => ?_
  refine sr (by kernel_rfl) ?_
  refine y0 rfl (o_assign (d := .bool false) rfl) ?_
  refine y_nil ?_
  refine pw_seq ?_
  refine sr (by kernel_rfl) ?_
  refine y0 rfl (o_move (d := .lst false (List.map hash_Place.Pv a0)) rfl) ?_
  refine y0 rfl (o_lnL (f := hash_Place.Pv) rfl Ty.e22) ?_
  refine y0 rfl (o_cmp rfl rfl rfl) ?_
  refine y0 rfl (o_move (d := .bool (decide ((a0.length : Int) < 1))) rfl) ?_
  refine y_if (g := ((decide ((a0.length : Int) < 1)) == false)) rfl (fun hg => o_move (d := .lst false (List.map hash_Place.Pv a0)) rfl) ?_
  refine y_if (g := ((decide ((a0.length : Int) < 1)) == false)) rfl (fun hg => o_lnL (f := hash_Place.Pv) (ct hg) Ty.e22) ?_
  refine y_if (g := ((decide ((a0.length : Int) < 1)) == false)) rfl (fun hg => o_cmp (ct hg) rfl rfl) ?_
  refine y0 rfl (pk_or rfl rfl rfl (fun q => eqF q)) ?_
  refine y_nil ?_
  refine pw_cond ((decide ((a0.length : Int) < 1)) || (decide ((a0.length : Int) > 8))) rfl (fun hc => ?_) (fun hc => ?_)
  · have h := ifT h hc
    refine sr (by kernel_rfl) ?_
    refine y0 rfl (o_assign (d := .bool false) rfl) ?_
    refine y_nil ?_
    refine pw_ret ?_
    obtain rfl := Option.some.inj h
    exact ⟨rfl, [_], ⟨rfl, trivial⟩, rfl, by first | exact .inl rfl | exact .inr rfl⟩
  · have h := ifF h hc
    refine pw_skip ?_
    obtain ⟨κ6, hκ6, h⟩ := jnE h
    refine pw_jn0 (κ := κ6) (r := r) (fun (_ : Unit) => St.of [] []) (fun q7 h => ?_) ?_
    · subst hκ6
      refine sr (by kernel_rfl) ?_
      refine y0 rfl (o_assign (d := .bool true) rfl) ?_
      refine y_nil ?_
      refine pw_ret ?_
      obtain rfl := Option.some.inj h
      exact ⟨rfl, [_], ⟨rfl, trivial⟩, rfl, by first | exact .inl rfl | exact .inr rfl⟩
    · skip
      refine sr (by kernel_rfl) ?_
      refine y0 rfl (o_move (d := .lst false (List.map hash_Place.Pv a0)) rfl) ?_
      refine y0 rfl (o_lnL (f := hash_Place.Pv) rfl Ty.e22) ?_
      refine y0 rfl (o_move (d := .int .i64 0) rfl) ?_
      refine y_nil ?_
      refine pw_block ?_
      obtain ⟨e8, hl7, hk8⟩ := bindE h
      refine pw_lp0 (fun (s9 : Int) => St.of [(0, .lst false (List.map hash_Place.Pv a0)), (14, .lst false (List.map hash_Place.Pv a0)), (15, .int .i64 (a0.length : Int)), (16, .int .i64 s9)] []) hl7 (wk_st _ _ ⟨rfl, rfl, rfl, rfl, rfl, rfl, rfl, rfl, rfl, rfl, rfl, rfl, trivial⟩ trivial) (fun s9 x10 h hx9 => ?_)
      refine sr (by kernel_rfl) ?_
      refine y0 rfl (o_cmp rfl rfl rfl) ?_
      refine y_nil ?_
      refine pw_seq ?_
      refine pw_cond (decide (s9 < (a0.length : Int))) rfl (fun hc => ?_) (fun hc => ?_)
      · have h := ifT h hc
        refine pw_skip ?_
        refine pw_seq ?_
        refine pw_block ?_
        refine sr (by kernel_rfl) ?_
        refine y0 rfl (o_move (d := .int .i64 s9) rfl) ?_
        obtain ⟨v11, hv10, h⟩ := bindE h
        refine y0 rfl (o_ixL (f := hash_Place.Pv) (cs := hash_Place.Pc v11) hv10 rfl rfl Ty.e22 Ty.s61 rfl rfl) ?_
        refine y0 rfl (o_loadRA (cs := hash_Place.Pc v11) rfl Ty.a61 Ty.s61 (Nat.le_of_ble_eq_true rfl) rfl) ?_
        refine y1 rfl (o_alloc (d := .agg [.int .i64 0, .int .i64 0, .int .i64 0]) (z := 3) rfl Ty.z61 rfl rfl rfl) rfl ?_
        refine y0 rfl (o_assign (d := .int .i64 s9) rfl) ?_
        refine y_sto (x' := hash_Place.Pv v11) (cl' := true) rfl rfl (.inl rfl) Ty.s61 ?_
        refine y_nil ?_
        refine sr (by kernel_rfl) ?_
        refine y0 rfl (o_loadA (cs := hash_Place.Pc v11) rfl rfl rfl Ty.a61 Ty.s61 (Nat.le_of_ble_eq_true rfl) rfl) ?_
        refine y0 rfl (o_build (cs := [.int .i64 0, .int .i64 0, .int .i64 0]) rfl Ty.p61 Ty.z61 rfl rfl rfl) ?_
        refine y0 rfl (o_eqA (xs := hash_Place.Pc v11) (ys := [.int .i64 0, .int .i64 0, .int .i64 0]) Ty.q61 rfl rfl rfl) ?_
        refine y0 rfl (o_move (d := .bool ((v11.State == 0) && ((v11.Key == 0) && ((v11.Val == 0) && true)))) rfl) ?_
        refine y_if (g := (((v11.State == 0) && ((v11.Key == 0) && ((v11.Val == 0) && true))) == false)) rfl (fun hg => o_loadA (cs := hash_Place.Pc v11) rfl rfl rfl Ty.a61 Ty.s61 (Nat.le_of_ble_eq_true rfl) rfl) ?_
        refine y_if (g := (((v11.State == 0) && ((v11.Key == 0) && ((v11.Val == 0) && true))) == false)) rfl (fun hg => o_build (cs := [.int .i64 2, .int .i64 0, .int .i64 0]) rfl Ty.p61 Ty.z61 rfl rfl rfl) ?_
        refine y_if (g := (((v11.State == 0) && ((v11.Key == 0) && ((v11.Val == 0) && true))) == false)) rfl (fun hg => o_eqA (xs := hash_Place.Pc v11) (ys := [.int .i64 2, .int .i64 0, .int .i64 0]) Ty.q61 (ct hg) (ct hg) rfl) ?_
        refine y0 rfl (pk_or rfl rfl rfl (fun q => eqF q)) ?_
        refine y0 rfl (o_assign (d := .bool (((v11.State == 0) && ((v11.Key == 0) && ((v11.Val == 0) && true))) || ((v11.State == 2) && ((v11.Key == 0) && ((v11.Val == 0) && true))))) rfl) ?_
        refine y_nil ?_
        refine sr (by kernel_rfl) ?_
        refine y0 rfl (o_move (d := .bool (((v11.State == 0) && ((v11.Key == 0) && ((v11.Val == 0) && true))) || ((v11.State == 2) && ((v11.Key == 0) && ((v11.Val == 0) && true))))) rfl) ?_
        refine y0 rfl (o_not rfl rfl) ?_
        refine y0 rfl (o_move (d := .bool (!(((v11.State == 0) && ((v11.Key == 0) && ((v11.Val == 0) && true))) || ((v11.State == 2) && ((v11.Key == 0) && ((v11.Val == 0) && true)))))) rfl) ?_
        refine y_if (g := ((!(((v11.State == 0) && ((v11.Key == 0) && ((v11.Val == 0) && true))) || ((v11.State == 2) && ((v11.Key == 0) && ((v11.Val == 0) && true))))) == true)) rfl (fun hg => o_fieldAddrP (k := 0) rfl Ty.f61_0 rfl) ?_
        refine y_if (g := ((!(((v11.State == 0) && ((v11.Key == 0) && ((v11.Val == 0) && true))) || ((v11.State == 2) && ((v11.Key == 0) && ((v11.Val == 0) && true))))) == true)) rfl (fun hg => o_loadS (ct hg) rfl rfl Ty.a3 rfl) ?_
        refine y_if (g := ((!(((v11.State == 0) && ((v11.Key == 0) && ((v11.Val == 0) && true))) || ((v11.State == 2) && ((v11.Key == 0) && ((v11.Val == 0) && true))))) == true)) rfl (fun hg => o_cmp (ct hg) rfl rfl) ?_
        refine y_if (g := ((!(((v11.State == 0) && ((v11.Key == 0) && ((v11.Val == 0) && true))) || ((v11.State == 2) && ((v11.Key == 0) && ((v11.Val == 0) && true))))) == true)) rfl (fun hg => o_move (d := .bool (v11.State != 1)) (ct hg)) ?_
        refine y_if (g := (((!(((v11.State == 0) && ((v11.Key == 0) && ((v11.Val == 0) && true))) || ((v11.State == 2) && ((v11.Key == 0) && ((v11.Val == 0) && true))))) == true) && ((v11.State != 1) == false))) (want2 rfl rfl rfl) (fun hg => o_move (d := .lst false (List.map hash_Place.Pv a0)) rfl) ?_
        refine y_if (g := (((!(((v11.State == 0) && ((v11.Key == 0) && ((v11.Val == 0) && true))) || ((v11.State == 2) && ((v11.Key == 0) && ((v11.Val == 0) && true))))) == true) && ((v11.State != 1) == false))) (want2 rfl rfl rfl) (fun hg => o_fieldAddrP (k := 1) rfl Ty.f61_1 rfl) ?_
        refine y_if (g := (((!(((v11.State == 0) && ((v11.Key == 0) && ((v11.Val == 0) && true))) || ((v11.State == 2) && ((v11.Key == 0) && ((v11.Val == 0) && true))))) == true) && ((v11.State != 1) == false))) (want2 rfl rfl rfl) (fun hg => o_loadS (ct hg) rfl rfl Ty.a3 rfl) ?_
        obtain ⟨v12, hv11, h⟩ := bindE h
        refine y_if (g := (((!(((v11.State == 0) && ((v11.Key == 0) && ((v11.Val == 0) && true))) || ((v11.State == 2) && ((v11.Key == 0) && ((v11.Val == 0) && true))))) == true) && ((v11.State != 1) == false))) (want2 rfl rfl rfl) (fun hg => o_call (ds := [.lst false (List.map hash_Place.Pv a0), .int .i64 v11.Key]) rfl Ty.k18 (consE (ct hg) (consE (ct hg) rfl)) (hash_Find_ok (onlyE hv11 hg))) ?_
        refine y_if (g := (((!(((v11.State == 0) && ((v11.Key == 0) && ((v11.Val == 0) && true))) || ((v11.State == 2) && ((v11.Key == 0) && ((v11.Val == 0) && true))))) == true) && ((v11.State != 1) == false))) (want2 rfl rfl rfl) (fun hg => o_move (d := .int .i64 s9) rfl) ?_
        refine y_if (g := (((!(((v11.State == 0) && ((v11.Key == 0) && ((v11.Val == 0) && true))) || ((v11.State == 2) && ((v11.Key == 0) && ((v11.Val == 0) && true))))) == true) && ((v11.State != 1) == false))) (want2 rfl rfl rfl) (fun hg => o_cmp (ct hg) (ct hg) rfl) ?_
        refine y_if (g := ((!(((v11.State == 0) && ((v11.Key == 0) && ((v11.Val == 0) && true))) || ((v11.State == 2) && ((v11.Key == 0) && ((v11.Val == 0) && true))))) == true)) rfl (fun hg => pk_or (ct hg) rfl rfl (fun q => andI hg (eqF q))) ?_
        refine y0 rfl (pk_and rfl rfl rfl (fun q => eqT q)) ?_
        refine y_nil ?_
        refine pw_cond ((!(((v11.State == 0) && ((v11.Key == 0) && ((v11.Val == 0) && true))) || ((v11.State == 2) && ((v11.Key == 0) && ((v11.Val == 0) && true))))) && ((v11.State != 1) || (v12 != s9))) rfl (fun hc => ?_) (fun hc => ?_)
        · have h := ifT h hc
          refine sr (by kernel_rfl) ?_
          refine y0 rfl (o_assign (d := .bool false) rfl) ?_
          refine y_nil ?_
          refine pw_ret ?_
          have he := hx9 _ (Option.some.inj h).symm
          have h := hk8
          rw [← he] at h
          obtain rfl := Option.some.inj h
          exact ⟨rfl, [_], ⟨rfl, trivial⟩, rfl, by first | exact .inl rfl | exact .inr rfl⟩
        · have h := ifF h hc
          refine pw_skip ?_
          refine sr1 (by kernel_rfl) ?_
          refine y0 rfl (o_ari rfl rfl rfl) ?_
          refine y0 rfl (o_move (d := .int .i64 (w64 (s9 + 1))) rfl) ?_
          refine y_nil ?_
          exact ⟨rfl, w64 (s9 + 1), (Option.some.inj h).symm, (wk_st _ _ ⟨rfl, rfl, rfl, rfl, rfl, rfl, rfl, rfl, rfl, rfl, rfl, rfl, trivial⟩ trivial)⟩
      · have h := ifF h hc
        refine pw_exit ?_
        refine thenQ_exit ?_
        refine thenQ_exit ?_
        refine blockQ_exit ?_
        have he := hx9 _ (Option.some.inj h).symm
        have h := hk8
        rw [← he] at h
        exact ⟨rfl, (), h, (wk_st _ _ trivial trivial)⟩

set_option maxHeartbeats 4000000 in
theorem w10_shown_ok  {r : Bool} (h : w10_shown = some r) : PCalls Try.prog 10 [] (.bool r) := by
  unfold w10_shown at h
  refine pc_intro (N := 118) Try.func10 rfl rfl (Nat.le_of_ble_eq_true rfl) fun w0 imm0 => ?_
  refine sr (by kernel_rfl) ?_
  refine y0 rfl (o_assign (d := .bool false) rfl) ?_
  refine y_nil ?_
  refine sr (by kernel_rfl) ?_
  obtain ⟨v1, hv1, h⟩ := bindE h
  refine yc rfl (o_callF (ls := []) (ds := [.int .i64 8]) rfl Ty.k26 rfl (hash_New_ok hv1)) ?_
  obtain ⟨v2, hv2, h⟩ := bindE h
  refine yc rfl (o_callF (ls := []) (ds := [.lst false (List.map hash_Place.Pv v1), .int .i64 0, .int .i64 5]) rfl Ty.k14 rfl (hash_Put_ok hv2)) ?_
  refine y0 rfl (o_move (d := .tup [.lst false (List.map hash_Place.Pv v2.1), .int .i64 v2.2]) rfl) ?_
  refine y0 rfl (o_extract rfl rfl) ?_
  refine y0 rfl (o_extract rfl rfl) ?_
  refine y0 rfl (o_assign (d := .lst false (List.map hash_Place.Pv v2.1)) rfl) ?_
  refine y0 rfl (o_assign (d := .int .i64 v2.2) rfl) ?_
  refine y_nil ?_
  refine sr (by kernel_rfl) ?_
  refine y0 rfl (o_move (d := .lst false (List.map hash_Place.Pv v2.1)) rfl) ?_
  obtain ⟨v3, hv3, h⟩ := bindE h
  refine yc rfl (o_callF (ls := []) (ds := [.lst false (List.map hash_Place.Pv v2.1), .int .i64 8, .int .i64 6]) rfl Ty.k14 rfl (hash_Put_ok hv3)) ?_
  refine y0 rfl (o_move (d := .tup [.lst false (List.map hash_Place.Pv v3.1), .int .i64 v3.2]) rfl) ?_
  refine y0 rfl (o_extract rfl rfl) ?_
  refine y0 rfl (o_extract rfl rfl) ?_
  refine y0 rfl (o_assign (d := .lst false (List.map hash_Place.Pv v3.1)) rfl) ?_
  refine y_nil ?_
  refine sr (by kernel_rfl) ?_
  refine y0 rfl (o_move (d := .lst false (List.map hash_Place.Pv v3.1)) rfl) ?_
  obtain ⟨v4, hv4, h⟩ := bindE h
  refine yc rfl (o_callF (ls := []) (ds := [.lst false (List.map hash_Place.Pv v3.1), .int .i64 1, .int .i64 7]) rfl Ty.k14 rfl (hash_Put_ok hv4)) ?_
  refine y0 rfl (o_move (d := .tup [.lst false (List.map hash_Place.Pv v4.1), .int .i64 v4.2]) rfl) ?_
  refine y0 rfl (o_extract rfl rfl) ?_
  refine y0 rfl (o_extract rfl rfl) ?_
  refine y0 rfl (o_assign (d := .lst false (List.map hash_Place.Pv v4.1)) rfl) ?_
  refine y_nil ?_
  refine sr (by kernel_rfl) ?_
  refine y0 rfl (o_move (d := .lst false (List.map hash_Place.Pv v4.1)) rfl) ?_
  obtain ⟨v5, hv5, h⟩ := bindE h
  refine yc rfl (o_callF (ls := []) (ds := [.lst false (List.map hash_Place.Pv v4.1), .int .i64 0]) rfl Ty.k16 rfl (hash_Drop_ok hv5)) ?_
  refine y0 rfl (o_move (d := .tup [.lst false (List.map hash_Place.Pv v5.1), .int .i64 v5.2.1, .int .i64 v5.2.2]) rfl) ?_
  refine y0 rfl (o_extract rfl rfl) ?_
  refine y0 rfl (o_extract rfl rfl) ?_
  refine y0 rfl (o_extract rfl rfl) ?_
  refine y0 rfl (o_assign (d := .lst false (List.map hash_Place.Pv v5.1)) rfl) ?_
  refine y0 rfl (o_assign (d := .int .i64 v5.2.1) rfl) ?_
  refine y0 rfl (o_assign (d := .int .i64 v5.2.2) rfl) ?_
  refine y_nil ?_
  refine sr (by kernel_rfl) ?_
  refine y0 rfl (o_move (d := .lst false (List.map hash_Place.Pv v5.1)) rfl) ?_
  obtain ⟨v6, hv6, h⟩ := bindE h
  refine y0 rfl (o_call (ds := [.lst false (List.map hash_Place.Pv v5.1), .int .i64 8]) rfl Ty.k12 rfl (hash_Get_ok hv6)) ?_
  refine y0 rfl (o_move (d := .tup [.int .i64 v6.1, .int .i64 v6.2]) rfl) ?_
  refine y0 rfl (o_extract rfl rfl) ?_
  refine y0 rfl (o_extract rfl rfl) ?_
  refine y0 rfl (o_assign (d := .int .i64 v6.1) rfl) ?_
  refine y0 rfl (o_assign (d := .int .i64 v6.2) rfl) ?_
  refine y_nil ?_
  refine sr (by kernel_rfl) ?_
  refine y0 rfl (o_move (d := .lst false (List.map hash_Place.Pv v5.1)) rfl) ?_
  obtain ⟨v7, hv7, h⟩ := bindE h
  refine y0 rfl (o_call (ds := [.lst false (List.map hash_Place.Pv v5.1), .int .i64 0]) rfl Ty.k12 rfl (hash_Get_ok hv7)) ?_
  refine y0 rfl (o_move (d := .tup [.int .i64 v7.1, .int .i64 v7.2]) rfl) ?_
  refine y0 rfl (o_extract rfl rfl) ?_
  refine y0 rfl (o_extract rfl rfl) ?_
  refine y0 rfl (o_assign (d := .int .i64 v7.1) rfl) ?_
  refine y0 rfl (o_assign (d := .int .i64 v7.2) rfl) ?_
  refine y_nil ?_
  refine sr (by kernel_rfl) ?_
  refine y0 rfl (o_move (d := .lst false (List.map hash_Place.Pv v5.1)) rfl) ?_
  obtain ⟨v8, hv8, h⟩ := bindE h
  refine yc rfl (o_callF (ls := []) (ds := [.lst false (List.map hash_Place.Pv v5.1), .int .i64 16, .int .i64 9]) rfl Ty.k14 rfl (hash_Put_ok hv8)) ?_
  refine y0 rfl (o_move (d := .tup [.lst false (List.map hash_Place.Pv v8.1), .int .i64 v8.2]) rfl) ?_
  refine y0 rfl (o_extract rfl rfl) ?_
  refine y0 rfl (o_extract rfl rfl) ?_
  refine y0 rfl (o_assign (d := .lst false (List.map hash_Place.Pv v8.1)) rfl) ?_
  refine y0 rfl (o_assign (d := .int .i64 v8.2) rfl) ?_
  refine y_nil ?_
  refine sr (by kernel_rfl) ?_
  refine y0 rfl (o_move (d := .lst false (List.map hash_Place.Pv v8.1)) rfl) ?_
  obtain ⟨v9, hv9, h⟩ := bindE h
  refine yc rfl (o_callF (ls := []) (ds := [.lst false (List.map hash_Place.Pv v8.1)]) rfl Ty.k22 rfl (hash_Keys_ok hv9)) ?_
  refine y0 rfl (o_assign (d := .lst false (List.map (PV.int .i64) v9)) rfl) ?_
  refine y_nil ?_
  refine sr (by kernel_rfl) ?_
  refine y0 rfl (o_move (d := .int .i64 v2.2) rfl) ?_
  refine y0 rfl (o_cmp rfl rfl rfl) ?_
  refine y0 rfl (o_move (d := .bool (v2.2 == 0)) rfl) ?_
  refine y_if (g := ((v2.2 == 0) == true)) rfl (fun hg => o_move (d := .int .i64 v5.2.1) rfl) ?_
  refine y_if (g := ((v2.2 == 0) == true)) rfl (fun hg => o_cmp (ct hg) rfl rfl) ?_
  refine y0 rfl (pk_and rfl rfl rfl (fun q => eqT q)) ?_
  refine y0 rfl (o_move (d := .bool ((v2.2 == 0) && (v5.2.1 == 5))) rfl) ?_
  refine y_if (g := (((v2.2 == 0) && (v5.2.1 == 5)) == true)) rfl (fun hg => o_move (d := .int .i64 v5.2.2) rfl) ?_
  refine y_if (g := (((v2.2 == 0) && (v5.2.1 == 5)) == true)) rfl (fun hg => o_cmp (ct hg) rfl rfl) ?_
  refine y0 rfl (pk_and rfl rfl rfl (fun q => eqT q)) ?_
  refine y0 rfl (o_move (d := .bool (((v2.2 == 0) && (v5.2.1 == 5)) && (v5.2.2 == 0))) rfl) ?_
  refine y_if (g := ((((v2.2 == 0) && (v5.2.1 == 5)) && (v5.2.2 == 0)) == true)) rfl (fun hg => o_move (d := .int .i64 v6.1) rfl) ?_
  refine y_if (g := ((((v2.2 == 0) && (v5.2.1 == 5)) && (v5.2.2 == 0)) == true)) rfl (fun hg => o_cmp (ct hg) rfl rfl) ?_
  refine y0 rfl (pk_and rfl rfl rfl (fun q => eqT q)) ?_
  refine y0 rfl (o_move (d := .bool ((((v2.2 == 0) && (v5.2.1 == 5)) && (v5.2.2 == 0)) && (v6.1 == 6))) rfl) ?_
  refine y_if (g := (((((v2.2 == 0) && (v5.2.1 == 5)) && (v5.2.2 == 0)) && (v6.1 == 6)) == true)) rfl (fun hg => o_move (d := .int .i64 v6.2) rfl) ?_
  refine y_if (g := (((((v2.2 == 0) && (v5.2.1 == 5)) && (v5.2.2 == 0)) && (v6.1 == 6)) == true)) rfl (fun hg => o_cmp (ct hg) rfl rfl) ?_
  refine y0 rfl (pk_and rfl rfl rfl (fun q => eqT q)) ?_
  refine y0 rfl (o_move (d := .bool (((((v2.2 == 0) && (v5.2.1 == 5)) && (v5.2.2 == 0)) && (v6.1 == 6)) && (v6.2 == 0))) rfl) ?_
  refine y_if (g := ((((((v2.2 == 0) && (v5.2.1 == 5)) && (v5.2.2 == 0)) && (v6.1 == 6)) && (v6.2 == 0)) == true)) rfl (fun hg => o_move (d := .int .i64 v7.2) rfl) ?_
  refine y_if (g := ((((((v2.2 == 0) && (v5.2.1 == 5)) && (v5.2.2 == 0)) && (v6.1 == 6)) && (v6.2 == 0)) == true)) rfl (fun hg => o_cmp (ct hg) rfl rfl) ?_
  refine y0 rfl (pk_and rfl rfl rfl (fun q => eqT q)) ?_
  refine y0 rfl (o_move (d := .bool ((((((v2.2 == 0) && (v5.2.1 == 5)) && (v5.2.2 == 0)) && (v6.1 == 6)) && (v6.2 == 0)) && (v7.2 == 9))) rfl) ?_
  obtain ⟨v10, hv10, h⟩ := bindE h
  refine y_if (g := (((((((v2.2 == 0) && (v5.2.1 == 5)) && (v5.2.2 == 0)) && (v6.1 == 6)) && (v6.2 == 0)) && (v7.2 == 9)) == true)) rfl (fun hg => o_call (ds := [.int .i64 8, .int .i64 8]) rfl Ty.k24 rfl (hash_Home_ok (onlyE hv10 hg))) ?_
  refine y_if (g := (((((((v2.2 == 0) && (v5.2.1 == 5)) && (v5.2.2 == 0)) && (v6.1 == 6)) && (v6.2 == 0)) && (v7.2 == 9)) == true)) rfl (fun hg => o_cmp (ct hg) rfl rfl) ?_
  refine y0 rfl (pk_and rfl rfl rfl (fun q => eqT q)) ?_
  refine y0 rfl (o_move (d := .bool (((((((v2.2 == 0) && (v5.2.1 == 5)) && (v5.2.2 == 0)) && (v6.1 == 6)) && (v6.2 == 0)) && (v7.2 == 9)) && (v10 == 1))) rfl) ?_
  obtain ⟨v11, hv11, h⟩ := bindE h
  refine y_if (g := ((((((((v2.2 == 0) && (v5.2.1 == 5)) && (v5.2.2 == 0)) && (v6.1 == 6)) && (v6.2 == 0)) && (v7.2 == 9)) && (v10 == 1)) == true)) rfl (fun hg => o_call (ds := [.int .i64 8, .int .i64 1]) rfl Ty.k24 rfl (hash_Home_ok (onlyE hv11 hg))) ?_
  refine y_if (g := ((((((((v2.2 == 0) && (v5.2.1 == 5)) && (v5.2.2 == 0)) && (v6.1 == 6)) && (v6.2 == 0)) && (v7.2 == 9)) && (v10 == 1)) == true)) rfl (fun hg => o_cmp (ct hg) rfl rfl) ?_
  refine y0 rfl (pk_and rfl rfl rfl (fun q => eqT q)) ?_
  refine y0 rfl (o_move (d := .bool ((((((((v2.2 == 0) && (v5.2.1 == 5)) && (v5.2.2 == 0)) && (v6.1 == 6)) && (v6.2 == 0)) && (v7.2 == 9)) && (v10 == 1)) && (v11 == 6))) rfl) ?_
  refine y_if (g := (((((((((v2.2 == 0) && (v5.2.1 == 5)) && (v5.2.2 == 0)) && (v6.1 == 6)) && (v6.2 == 0)) && (v7.2 == 9)) && (v10 == 1)) && (v11 == 6)) == true)) rfl (fun hg => o_move (d := .lst false (List.map (PV.int .i64) v9)) rfl) ?_
  refine y_if (g := (((((((((v2.2 == 0) && (v5.2.1 == 5)) && (v5.2.2 == 0)) && (v6.1 == 6)) && (v6.2 == 0)) && (v7.2 == 9)) && (v10 == 1)) && (v11 == 6)) == true)) rfl (fun hg => o_lnL (f := (PV.int .i64)) (ct hg) Ty.e43) ?_
  refine y_if (g := (((((((((v2.2 == 0) && (v5.2.1 == 5)) && (v5.2.2 == 0)) && (v6.1 == 6)) && (v6.2 == 0)) && (v7.2 == 9)) && (v10 == 1)) && (v11 == 6)) == true)) rfl (fun hg => o_cmp (ct hg) rfl rfl) ?_
  refine y0 rfl (pk_and rfl rfl rfl (fun q => eqT q)) ?_
  refine y0 rfl (o_move (d := .bool (((((((((v2.2 == 0) && (v5.2.1 == 5)) && (v5.2.2 == 0)) && (v6.1 == 6)) && (v6.2 == 0)) && (v7.2 == 9)) && (v10 == 1)) && (v11 == 6)) && ((v9.length : Int) == 3))) rfl) ?_
  refine y_if (g := ((((((((((v2.2 == 0) && (v5.2.1 == 5)) && (v5.2.2 == 0)) && (v6.1 == 6)) && (v6.2 == 0)) && (v7.2 == 9)) && (v10 == 1)) && (v11 == 6)) && ((v9.length : Int) == 3)) == true)) rfl (fun hg => o_move (d := .lst false (List.map (PV.int .i64) v9)) rfl) ?_
  obtain ⟨v12, hv12, h⟩ := bindE h
  refine y_if (g := ((((((((((v2.2 == 0) && (v5.2.1 == 5)) && (v5.2.2 == 0)) && (v6.1 == 6)) && (v6.2 == 0)) && (v7.2 == 9)) && (v10 == 1)) && (v11 == 6)) && ((v9.length : Int) == 3)) == true)) rfl (fun hg => o_ixL (f := (PV.int .i64)) (cs := [.int .i64 v12]) (onlyE hv12 hg) (ct hg) rfl Ty.e43 Ty.s3 rfl rfl) ?_
  refine y_if (g := ((((((((((v2.2 == 0) && (v5.2.1 == 5)) && (v5.2.2 == 0)) && (v6.1 == 6)) && (v6.2 == 0)) && (v7.2 == 9)) && (v10 == 1)) && (v11 == 6)) && ((v9.length : Int) == 3)) == true)) rfl (fun hg => o_loadRS (ct hg) Ty.a3 rfl) ?_
  refine y_if (g := ((((((((((v2.2 == 0) && (v5.2.1 == 5)) && (v5.2.2 == 0)) && (v6.1 == 6)) && (v6.2 == 0)) && (v7.2 == 9)) && (v10 == 1)) && (v11 == 6)) && ((v9.length : Int) == 3)) == true)) rfl (fun hg => o_cmp (ct hg) rfl rfl) ?_
  refine y0 rfl (pk_and rfl rfl rfl (fun q => eqT q)) ?_
  refine y0 rfl (o_move (d := .bool ((((((((((v2.2 == 0) && (v5.2.1 == 5)) && (v5.2.2 == 0)) && (v6.1 == 6)) && (v6.2 == 0)) && (v7.2 == 9)) && (v10 == 1)) && (v11 == 6)) && ((v9.length : Int) == 3)) && (v12 == 16))) rfl) ?_
  refine y_if (g := (((((((((((v2.2 == 0) && (v5.2.1 == 5)) && (v5.2.2 == 0)) && (v6.1 == 6)) && (v6.2 == 0)) && (v7.2 == 9)) && (v10 == 1)) && (v11 == 6)) && ((v9.length : Int) == 3)) && (v12 == 16)) == true)) rfl (fun hg => o_move (d := .lst false (List.map (PV.int .i64) v9)) rfl) ?_
  obtain ⟨v13, hv13, h⟩ := bindE h
  refine y_if (g := (((((((((((v2.2 == 0) && (v5.2.1 == 5)) && (v5.2.2 == 0)) && (v6.1 == 6)) && (v6.2 == 0)) && (v7.2 == 9)) && (v10 == 1)) && (v11 == 6)) && ((v9.length : Int) == 3)) && (v12 == 16)) == true)) rfl (fun hg => o_ixL (f := (PV.int .i64)) (cs := [.int .i64 v13]) (onlyE hv13 hg) (ct hg) rfl Ty.e43 Ty.s3 rfl rfl) ?_
  refine y_if (g := (((((((((((v2.2 == 0) && (v5.2.1 == 5)) && (v5.2.2 == 0)) && (v6.1 == 6)) && (v6.2 == 0)) && (v7.2 == 9)) && (v10 == 1)) && (v11 == 6)) && ((v9.length : Int) == 3)) && (v12 == 16)) == true)) rfl (fun hg => o_loadRS (ct hg) Ty.a3 rfl) ?_
  refine y_if (g := (((((((((((v2.2 == 0) && (v5.2.1 == 5)) && (v5.2.2 == 0)) && (v6.1 == 6)) && (v6.2 == 0)) && (v7.2 == 9)) && (v10 == 1)) && (v11 == 6)) && ((v9.length : Int) == 3)) && (v12 == 16)) == true)) rfl (fun hg => o_cmp (ct hg) rfl rfl) ?_
  refine y0 rfl (pk_and rfl rfl rfl (fun q => eqT q)) ?_
  refine y0 rfl (o_move (d := .bool (((((((((((v2.2 == 0) && (v5.2.1 == 5)) && (v5.2.2 == 0)) && (v6.1 == 6)) && (v6.2 == 0)) && (v7.2 == 9)) && (v10 == 1)) && (v11 == 6)) && ((v9.length : Int) == 3)) && (v12 == 16)) && (v13 == 8))) rfl) ?_
  refine y_if (g := ((((((((((((v2.2 == 0) && (v5.2.1 == 5)) && (v5.2.2 == 0)) && (v6.1 == 6)) && (v6.2 == 0)) && (v7.2 == 9)) && (v10 == 1)) && (v11 == 6)) && ((v9.length : Int) == 3)) && (v12 == 16)) && (v13 == 8)) == true)) rfl (fun hg => o_move (d := .lst false (List.map (PV.int .i64) v9)) rfl) ?_
  obtain ⟨v14, hv14, h⟩ := bindE h
  refine y_if (g := ((((((((((((v2.2 == 0) && (v5.2.1 == 5)) && (v5.2.2 == 0)) && (v6.1 == 6)) && (v6.2 == 0)) && (v7.2 == 9)) && (v10 == 1)) && (v11 == 6)) && ((v9.length : Int) == 3)) && (v12 == 16)) && (v13 == 8)) == true)) rfl (fun hg => o_ixL (f := (PV.int .i64)) (cs := [.int .i64 v14]) (onlyE hv14 hg) (ct hg) rfl Ty.e43 Ty.s3 rfl rfl) ?_
  refine y_if (g := ((((((((((((v2.2 == 0) && (v5.2.1 == 5)) && (v5.2.2 == 0)) && (v6.1 == 6)) && (v6.2 == 0)) && (v7.2 == 9)) && (v10 == 1)) && (v11 == 6)) && ((v9.length : Int) == 3)) && (v12 == 16)) && (v13 == 8)) == true)) rfl (fun hg => o_loadRS (ct hg) Ty.a3 rfl) ?_
  refine y_if (g := ((((((((((((v2.2 == 0) && (v5.2.1 == 5)) && (v5.2.2 == 0)) && (v6.1 == 6)) && (v6.2 == 0)) && (v7.2 == 9)) && (v10 == 1)) && (v11 == 6)) && ((v9.length : Int) == 3)) && (v12 == 16)) && (v13 == 8)) == true)) rfl (fun hg => o_cmp (ct hg) rfl rfl) ?_
  refine y0 rfl (pk_and rfl rfl rfl (fun q => eqT q)) ?_
  refine y0 rfl (o_move (d := .bool ((((((((((((v2.2 == 0) && (v5.2.1 == 5)) && (v5.2.2 == 0)) && (v6.1 == 6)) && (v6.2 == 0)) && (v7.2 == 9)) && (v10 == 1)) && (v11 == 6)) && ((v9.length : Int) == 3)) && (v12 == 16)) && (v13 == 8)) && (v14 == 1))) rfl) ?_
  refine y_if (g := (((((((((((((v2.2 == 0) && (v5.2.1 == 5)) && (v5.2.2 == 0)) && (v6.1 == 6)) && (v6.2 == 0)) && (v7.2 == 9)) && (v10 == 1)) && (v11 == 6)) && ((v9.length : Int) == 3)) && (v12 == 16)) && (v13 == 8)) && (v14 == 1)) == true)) rfl (fun hg => o_move (d := .lst false (List.map hash_Place.Pv v8.1)) rfl) ?_
  obtain ⟨v15, hv15, h⟩ := bindE h
  refine y_if (g := (((((((((((((v2.2 == 0) && (v5.2.1 == 5)) && (v5.2.2 == 0)) && (v6.1 == 6)) && (v6.2 == 0)) && (v7.2 == 9)) && (v10 == 1)) && (v11 == 6)) && ((v9.length : Int) == 3)) && (v12 == 16)) && (v13 == 8)) && (v14 == 1)) == true)) rfl (fun hg => o_call (ds := [.lst false (List.map hash_Place.Pv v8.1), .int .i64 8]) rfl Ty.k18 (consE (ct hg) (consE rfl rfl)) (hash_Find_ok (onlyE hv15 hg))) ?_
  refine y_if (g := (((((((((((((v2.2 == 0) && (v5.2.1 == 5)) && (v5.2.2 == 0)) && (v6.1 == 6)) && (v6.2 == 0)) && (v7.2 == 9)) && (v10 == 1)) && (v11 == 6)) && ((v9.length : Int) == 3)) && (v12 == 16)) && (v13 == 8)) && (v14 == 1)) == true)) rfl (fun hg => o_cmp (ct hg) rfl rfl) ?_
  refine y0 rfl (pk_and rfl rfl rfl (fun q => eqT q)) ?_
  refine y0 rfl (o_move (d := .bool (((((((((((((v2.2 == 0) && (v5.2.1 == 5)) && (v5.2.2 == 0)) && (v6.1 == 6)) && (v6.2 == 0)) && (v7.2 == 9)) && (v10 == 1)) && (v11 == 6)) && ((v9.length : Int) == 3)) && (v12 == 16)) && (v13 == 8)) && (v14 == 1)) && (v15 == 2))) rfl) ?_
  refine y_if (g := ((((((((((((((v2.2 == 0) && (v5.2.1 == 5)) && (v5.2.2 == 0)) && (v6.1 == 6)) && (v6.2 == 0)) && (v7.2 == 9)) && (v10 == 1)) && (v11 == 6)) && ((v9.length : Int) == 3)) && (v12 == 16)) && (v13 == 8)) && (v14 == 1)) && (v15 == 2)) == true)) rfl (fun hg => o_move (d := .lst false (List.map hash_Place.Pv v8.1)) rfl) ?_
  obtain ⟨v16, hv16, h⟩ := bindE h
  refine y_if (g := ((((((((((((((v2.2 == 0) && (v5.2.1 == 5)) && (v5.2.2 == 0)) && (v6.1 == 6)) && (v6.2 == 0)) && (v7.2 == 9)) && (v10 == 1)) && (v11 == 6)) && ((v9.length : Int) == 3)) && (v12 == 16)) && (v13 == 8)) && (v14 == 1)) && (v15 == 2)) == true)) rfl (fun hg => o_call (ds := [.lst false (List.map hash_Place.Pv v8.1)]) rfl Ty.k28 (consE (ct hg) rfl) (hash_Right_ok (onlyE hv16 hg))) ?_
  refine y0 rfl (pk_and rfl rfl rfl (fun q => eqT q)) ?_
  refine y0 rfl (o_move (d := .bool ((((((((((((((v2.2 == 0) && (v5.2.1 == 5)) && (v5.2.2 == 0)) && (v6.1 == 6)) && (v6.2 == 0)) && (v7.2 == 9)) && (v10 == 1)) && (v11 == 6)) && ((v9.length : Int) == 3)) && (v12 == 16)) && (v13 == 8)) && (v14 == 1)) && (v15 == 2)) && v16)) rfl) ?_
  obtain ⟨v17, hv17, h⟩ := bindE h
  refine y_ifc (g := (((((((((((((((v2.2 == 0) && (v5.2.1 == 5)) && (v5.2.2 == 0)) && (v6.1 == 6)) && (v6.2 == 0)) && (v7.2 == 9)) && (v10 == 1)) && (v11 == 6)) && ((v9.length : Int) == 3)) && (v12 == 16)) && (v13 == 8)) && (v14 == 1)) && (v15 == 2)) && v16) == true)) rfl (fun hg => o_callF (ls := []) (ds := [.int .i64 9]) rfl Ty.k26 rfl (hash_New_ok (onlyE hv17 hg))) ?_
  refine y_if (g := (((((((((((((((v2.2 == 0) && (v5.2.1 == 5)) && (v5.2.2 == 0)) && (v6.1 == 6)) && (v6.2 == 0)) && (v7.2 == 9)) && (v10 == 1)) && (v11 == 6)) && ((v9.length : Int) == 3)) && (v12 == 16)) && (v13 == 8)) && (v14 == 1)) && (v15 == 2)) && v16) == true)) rfl (fun hg => o_lnL (f := hash_Place.Pv) (ct hg) Ty.e22) ?_
  refine y_if (g := (((((((((((((((v2.2 == 0) && (v5.2.1 == 5)) && (v5.2.2 == 0)) && (v6.1 == 6)) && (v6.2 == 0)) && (v7.2 == 9)) && (v10 == 1)) && (v11 == 6)) && ((v9.length : Int) == 3)) && (v12 == 16)) && (v13 == 8)) && (v14 == 1)) && (v15 == 2)) && v16) == true)) rfl (fun hg => o_cmp (ct hg) rfl rfl) ?_
  refine y0 rfl (pk_and rfl rfl rfl (fun q => eqT q)) ?_
  refine y0 rfl (o_assign (d := .bool (((((((((((((((v2.2 == 0) && (v5.2.1 == 5)) && (v5.2.2 == 0)) && (v6.1 == 6)) && (v6.2 == 0)) && (v7.2 == 9)) && (v10 == 1)) && (v11 == 6)) && ((v9.length : Int) == 3)) && (v12 == 16)) && (v13 == 8)) && (v14 == 1)) && (v15 == 2)) && v16) && ((v17.length : Int) == 0))) rfl) ?_
  refine y_nil ?_
  refine pw_ret ?_
  obtain rfl := Option.some.inj h
  exact ⟨rfl, [_], ⟨rfl, trivial⟩, rfl, by first | exact .inl rfl | exact .inr rfl⟩

set_option maxHeartbeats 4000000 in
theorem r10_Get_ok {a0 : List r10_Place} {a1 : Int} {r : Int × Int} (h : r10_Get a0 a1 = some r) : PCalls Try.prog 13 [.lst false (List.map r10_Place.Pv a0), .int .i64 a1] (.tup [.int .i64 r.1, .int .i64 r.2]) := by
  unfold r10_Get at h
  refine pc_intro (N := 17) Try.func13 rfl rfl (Nat.le_of_ble_eq_true rfl) fun w0 imm0 => ?_
  refine sr (by kernel_rfl) ?_
  refine y0 rfl (o_assign (d := .int .i64 0) rfl) ?_
  refine y0 rfl (o_assign (d := .int .i64 0) rfl) ?_
  refine y_nil ?_
  refine sr (by kernel_rfl) ?_
  refine y0 rfl (o_move (d := .lst false (List.map r10_Place.Pv a0)) rfl) ?_
  refine y0 rfl (o_move (d := .int .i64 a1) rfl) ?_
  obtain ⟨v1, hv1, h⟩ := bindE h
  refine y0 rfl (o_call (ds := [.lst false (List.map r10_Place.Pv a0), .int .i64 a1]) rfl Ty.k19 rfl (r10_Find_ok hv1)) ?_
  refine y0 rfl (o_assign (d := .int .i64 v1) rfl) ?_
  refine y_nil ?_
  refine pw_seq ?_
  refine sr (by kernel_rfl) ?_
  refine y0 rfl (o_move (d := .int .i64 v1) rfl) ?_
  refine y0 rfl (o_cmp rfl rfl rfl) ?_
  refine y_nil ?_
  refine pw_cond (decide (v1 < 0)) rfl (fun hc => ?_) (fun hc => ?_)
  · have h := ifT h hc
    refine sr (by kernel_rfl) ?_
    refine y0 rfl (o_assign (d := .int .i64 0) rfl) ?_
    refine y0 rfl (o_assign (d := .int .i64 9) rfl) ?_
    refine y_nil ?_
    refine pw_ret ?_
    obtain rfl := Option.some.inj h
    exact ⟨rfl, [_, _], ⟨rfl, ⟨rfl, trivial⟩⟩, rfl, by first | exact .inl rfl | exact .inr rfl⟩
  · have h := ifF h hc
    refine pw_skip ?_
    refine sr (by kernel_rfl) ?_
    refine y0 rfl (o_move (d := .lst false (List.map r10_Place.Pv a0)) rfl) ?_
    refine y0 rfl (o_move (d := .int .i64 v1) rfl) ?_
    obtain ⟨v2, hv2, h⟩ := bindE h
    refine y0 rfl (o_ixL (f := r10_Place.Pv) (cs := r10_Place.Pc v2) hv2 rfl rfl Ty.e25 Ty.s60 rfl rfl) ?_
    refine y0 rfl (o_fieldAddrR rfl Ty.f60_2 rfl) ?_
    refine y0 rfl (o_loadRS rfl Ty.a3 rfl) ?_
    refine y0 rfl (o_assign (d := .int .i64 v2.Val) rfl) ?_
    refine y0 rfl (o_assign (d := .int .i64 0) rfl) ?_
    refine y_nil ?_
    refine pw_ret ?_
    obtain rfl := Option.some.inj h
    exact ⟨rfl, [_, _], ⟨rfl, ⟨rfl, trivial⟩⟩, rfl, by first | exact .inl rfl | exact .inr rfl⟩

set_option maxHeartbeats 4000000 in
theorem r10_with_ok {a0 : List r10_Place} {a1 : Int} {a2 : r10_Place} {r : List r10_Place} (h : r10_with a0 a1 a2 = some r) : PCalls Try.prog 32 [.lst false (List.map r10_Place.Pv a0), .int .i64 a1, r10_Place.Pv a2] (.lst false (List.map r10_Place.Pv r)) := by
  unfold r10_with at h
  refine pc_intro (N := 16) Try.func32 rfl rfl (Nat.le_of_ble_eq_true rfl) fun w0 imm0 => ?_
  refine sr (by kernel_rfl) ?_
  refine y1 rfl (o_box (d := r10_Place.Pv a2) (z := 3) (cl := true) rfl rfl rfl rfl rfl) rfl ?_
  refine y0 rfl (o_assign (d := .lst true (List.map r10_Place.Pv [])) rfl) ?_
  refine y_nil ?_
  refine sr (by kernel_rfl) ?_
  refine y0 rfl (o_nslice rfl Ty.e25 Ty.s60) ?_
  refine y0 rfl (o_move (d := .lst false (List.map r10_Place.Pv a0)) rfl) ?_
  obtain ⟨v1, hv1, h⟩ := bindE h
  refine y1 rfl (o_apT (f := r10_Place.Pv) hv1 rfl rfl (.inl ⟨_, rfl, rfl⟩) Ty.e25 Ty.s60 Ty.b60 Ty.z60 rfl (fun _ => rfl)) rfl ?_
  refine y0 rfl (o_assign (d := .sl 10) rfl) ?_
  refine y_nil ?_
  refine sr (by kernel_rfl) ?_
  refine y0 rfl (o_move (d := .sl 10) rfl) ?_
  refine y0 rfl (o_move (d := .int .i64 a1) rfl) ?_
  refine y0 rfl (o_loadA (cs := r10_Place.Pc a2) rfl rfl rfl Ty.a60 Ty.s60 (Nat.le_of_ble_eq_true rfl) rfl) ?_
  obtain ⟨v2, hv2, h⟩ := bindE h
  refine y0 rfl (o_ixR (f := r10_Place.Pv) hv2 rfl rfl rfl rfl Ty.e25 Ty.s60 rfl) ?_
  refine y_stE (f := r10_Place.Pv) (v := a2) hv2 rfl rfl (.inl rfl) Ty.s60 ?_
  refine y_nil ?_
  refine sr (by kernel_rfl) ?_
  refine y0 rfl (o_move (d := .sl 10) rfl) ?_
  refine y0 rfl (o_assign (d := .sl 10) rfl) ?_
  refine y_nil ?_
  refine pw_ret ?_
  obtain rfl := Option.some.inj h
  exact ⟨rfl, [_], ⟨rfl, trivial⟩, rfl, by first | exact .inl rfl | exact .inr rfl⟩

set_option maxHeartbeats 4000000 in
theorem r10_Put_ok {a0 : List r10_Place} {a1 : Int} {a2 : Int} {r : (List r10_Place) × Int} (h : r10_Put a0 a1 a2 = some r) : PCalls Try.prog 15 [.lst false (List.map r10_Place.Pv a0), .int .i64 a1, .int .i64 a2] (.tup [.lst false (List.map r10_Place.Pv r.1), .int .i64 r.2]) := by
  unfold r10_Put at h
  refine pc_intro (N := 50) Try.func15 rfl rfl (Nat.le_of_ble_eq_true rfl) fun w0 imm0 => ?_
  refine sr (by kernel_rfl) ?_
  refine y0 rfl (o_assign (d := .lst true (List.map r10_Place.Pv [])) rfl) ?_
  refine y0 rfl (o_assign (d := .int .i64 0) rfl) ?_
  refine y_nil ?_
  refine sr (by kernel_rfl) ?_
  refine y0 rfl (o_move (d := .lst false (List.map r10_Place.Pv a0)) rfl) ?_
  refine y0 rfl (o_move (d := .int .i64 a1) rfl) ?_
  obtain ⟨v1, hv1, h⟩ := bindE h
  refine y0 rfl (o_call (ds := [.lst false (List.map r10_Place.Pv a0), .int .i64 a1]) rfl Ty.k19 rfl (r10_Find_ok hv1)) ?_
  refine y0 rfl (o_assign (d := .int .i64 v1) rfl) ?_
  refine y_nil ?_
  refine pw_seq ?_
  refine sr (by kernel_rfl) ?_
  refine y0 rfl (o_move (d := .int .i64 v1) rfl) ?_
  refine y0 rfl (o_cmp rfl rfl rfl) ?_
  refine y_nil ?_
  refine pw_cond (decide (v1 ≥ 0)) rfl (fun hc => ?_) (fun hc => ?_)
  · have h := ifT h hc
    refine sr (by kernel_rfl) ?_
    refine y0 rfl (o_move (d := .lst false (List.map r10_Place.Pv a0)) rfl) ?_
    refine y0 rfl (o_move (d := .int .i64 v1) rfl) ?_
    refine y0 rfl (o_move (d := .int .i64 a1) rfl) ?_
    refine y0 rfl (o_move (d := .int .i64 a2) rfl) ?_
    refine y0 rfl (o_build (cs := [.int .i64 1, .int .i64 a1, .int .i64 a2]) rfl Ty.p60 Ty.z60 rfl rfl rfl) ?_
    obtain ⟨v2, hv2, h⟩ := bindE h
    refine yc rfl (o_callF (ls := []) (ds := [.lst false (List.map r10_Place.Pv a0), .int .i64 v1, .agg [.int .i64 1, .int .i64 a1, .int .i64 a2]]) rfl Ty.k32 rfl (r10_with_ok hv2)) ?_
    refine y0 rfl (o_assign (d := .lst false (List.map r10_Place.Pv v2)) rfl) ?_
    refine y0 rfl (o_assign (d := .int .i64 0) rfl) ?_
    refine y_nil ?_
    refine pw_ret ?_
    obtain rfl := Option.some.inj h
    exact ⟨rfl, [_, _], ⟨rfl, ⟨rfl, trivial⟩⟩, rfl, by first | exact .inl rfl | exact .inr rfl⟩
  · have h := ifF h hc
    refine pw_skip ?_
    refine sr (by kernel_rfl) ?_
    refine y0 rfl (o_move (d := .lst false (List.map r10_Place.Pv a0)) rfl) ?_
    refine y0 rfl (o_lnL (f := r10_Place.Pv) rfl Ty.e25) ?_
    refine y0 rfl (o_assign (d := .int .i64 (a0.length : Int)) rfl) ?_
    refine y_nil ?_
    refine sr (by kernel_rfl) ?_
    refine y0 rfl (o_move (d := .int .i64 (a0.length : Int)) rfl) ?_
    refine y0 rfl (o_move (d := .int .i64 a1) rfl) ?_
    obtain ⟨v3, hv3, h⟩ := bindE h
    refine y0 rfl (o_call (ds := [.int .i64 (a0.length : Int), .int .i64 a1]) rfl Ty.k25 rfl (r10_Home_ok hv3)) ?_
    refine y0 rfl (o_assign (d := .int .i64 v3) rfl) ?_
    refine y_nil ?_
    obtain ⟨κ12, hκ10, h⟩ := jnE h
    refine pw_jn0 (κ := κ12) (r := r) (fun (_ : Unit) => St.of [(0, .lst false (List.map r10_Place.Pv a0))] []) (fun q13 h => ?_) ?_
    · subst hκ10
      refine sr (by kernel_rfl) ?_
      refine y0 rfl (o_move (d := .lst false (List.map r10_Place.Pv a0)) rfl) ?_
      refine y0 rfl (o_assign (d := .lst false (List.map r10_Place.Pv a0)) rfl) ?_
      refine y0 rfl (o_assign (d := .int .i64 8) rfl) ?_
      refine y_nil ?_
      refine pw_ret ?_
      obtain rfl := Option.some.inj h
      exact ⟨rfl, [_, _], ⟨rfl, ⟨rfl, trivial⟩⟩, rfl, by first | exact .inl rfl | exact .inr rfl⟩
    · skip
      refine sr (by kernel_rfl) ?_
      refine y0 rfl (o_assign (d := .int .i64 0) rfl) ?_
      refine y_nil ?_
      refine pw_block ?_
      obtain ⟨e14, hl11, hk12⟩ := bindE h
      refine pw_lp0 (fun (q : Int × Int) => St.of [(0, .lst false (List.map r10_Place.Pv a0)), (1, .int .i64 a1), (2, .int .i64 a2), (9, .int .i64 (a0.length : Int)), (10, .int .i64 q.1), (11, .int .i64 q.2)] []) hl11 (wk_st _ _ ⟨rfl, rfl, rfl, rfl, rfl, rfl, rfl, rfl, rfl, rfl, rfl, rfl, rfl, rfl, rfl, rfl, rfl, rfl, trivial⟩ trivial) (fun q18 x17 h hx13 => ?_)
      obtain ⟨s15, s16⟩ := q18
      refine pw_seq ?_
      refine sr (by kernel_rfl) ?_
      refine y0 rfl (o_move (d := .int .i64 s16) rfl) ?_
      refine y0 rfl (o_move (d := .int .i64 (a0.length : Int)) rfl) ?_
      refine y0 rfl (o_cmp rfl rfl rfl) ?_
      refine y_nil ?_
      refine pw_cond (decide (s16 < (a0.length : Int))) rfl (fun hc => ?_) (fun hc => ?_)
      · have h := ifT h hc
        refine pw_skip ?_
        refine pw_seq ?_
        refine pw_block ?_
        refine pw_seq ?_
        refine sr (by kernel_rfl) ?_
        refine y0 rfl (o_move (d := .lst false (List.map r10_Place.Pv a0)) rfl) ?_
        refine y0 rfl (o_move (d := .int .i64 s15) rfl) ?_
        obtain ⟨v19, hv14, h⟩ := bindE h
        refine y0 rfl (o_ixL (f := r10_Place.Pv) (cs := r10_Place.Pc v19) hv14 rfl rfl Ty.e25 Ty.s60 rfl rfl) ?_
        refine y0 rfl (o_fieldAddrR rfl Ty.f60_0 rfl) ?_
        refine y0 rfl (o_loadRS rfl Ty.a3 rfl) ?_
        refine y0 rfl (o_cmp rfl rfl rfl) ?_
        refine y_nil ?_
        refine pw_cond (v19.State != 1) rfl (fun hc => ?_) (fun hc => ?_)
        · have h := ifT h hc
          refine sr (by kernel_rfl) ?_
          refine y0 rfl (o_move (d := .lst false (List.map r10_Place.Pv a0)) rfl) ?_
          refine y0 rfl (o_move (d := .int .i64 s15) rfl) ?_
          refine y0 rfl (o_move (d := .int .i64 a1) rfl) ?_
          refine y0 rfl (o_move (d := .int .i64 a2) rfl) ?_
          refine y0 rfl (o_build (cs := [.int .i64 1, .int .i64 a1, .int .i64 a2]) rfl Ty.p60 Ty.z60 rfl rfl rfl) ?_
          obtain ⟨v20, hv15, h⟩ := bindE h
          refine yc rfl (o_callF (ls := []) (ds := [.lst false (List.map r10_Place.Pv a0), .int .i64 s15, .agg [.int .i64 1, .int .i64 a1, .int .i64 a2]]) rfl Ty.k32 rfl (r10_with_ok hv15)) ?_
          refine y0 rfl (o_assign (d := .lst false (List.map r10_Place.Pv v20)) rfl) ?_
          refine y0 rfl (o_assign (d := .int .i64 0) rfl) ?_
          refine y_nil ?_
          refine pw_ret ?_
          have he := hx13 _ (Option.some.inj h).symm
          have h := hk12
          rw [← he] at h
          obtain rfl := Option.some.inj h
          exact ⟨rfl, [_, _], ⟨rfl, ⟨rfl, trivial⟩⟩, rfl, by first | exact .inl rfl | exact .inr rfl⟩
        · have h := ifF h hc
          refine pw_skip ?_
          refine sr1 (by kernel_rfl) ?_
          refine y0 rfl (o_move (d := .int .i64 s15) rfl) ?_
          refine y0 rfl (o_ari rfl rfl rfl) ?_
          refine y0 rfl (o_move (d := .int .i64 (a0.length : Int)) rfl) ?_
          obtain ⟨v21, hv16, h⟩ := bindE h
          refine y0 rfl (o_ari rfl rfl hv16) ?_
          refine y0 rfl (o_assign (d := .int .i64 v21) rfl) ?_
          refine y_nil ?_
          refine sr1 (by kernel_rfl) ?_
          refine y0 rfl (o_move (d := .int .i64 s16) rfl) ?_
          refine y0 rfl (o_ari rfl rfl rfl) ?_
          refine y0 rfl (o_assign (d := .int .i64 (w64 (s16 + 1))) rfl) ?_
          refine y_nil ?_
          exact ⟨rfl, (v21, w64 (s16 + 1)), (Option.some.inj h).symm, (wk_st _ _ ⟨rfl, rfl, rfl, rfl, rfl, rfl, rfl, rfl, rfl, rfl, rfl, rfl, rfl, rfl, rfl, rfl, rfl, rfl, trivial⟩ trivial)⟩
      · have h := ifF h hc
        refine pw_exit ?_
        refine thenQ_exit ?_
        refine thenQ_exit ?_
        refine blockQ_exit ?_
        have he := hx13 _ (Option.some.inj h).symm
        have h := hk12
        rw [← he] at h
        exact ⟨rfl, (), h, (wk_st _ _ ⟨rfl, rfl, rfl, trivial⟩ trivial)⟩

set_option maxHeartbeats 4000000 in
theorem r10_Drop_ok {a0 : List r10_Place} {a1 : Int} {r : (List r10_Place) × Int × Int} (h : r10_Drop a0 a1 = some r) : PCalls Try.prog 17 [.lst false (List.map r10_Place.Pv a0), .int .i64 a1] (.tup [.lst false (List.map r10_Place.Pv r.1), .int .i64 r.2.1, .int .i64 r.2.2]) := by
  unfold r10_Drop at h
  refine pc_intro (N := 23) Try.func17 rfl rfl (Nat.le_of_ble_eq_true rfl) fun w0 imm0 => ?_
  refine sr (by kernel_rfl) ?_
  refine y0 rfl (o_assign (d := .lst true (List.map r10_Place.Pv [])) rfl) ?_
  refine y0 rfl (o_assign (d := .int .i64 0) rfl) ?_
  refine y0 rfl (o_assign (d := .int .i64 0) rfl) ?_
  refine y_nil ?_
  refine sr (by kernel_rfl) ?_
  refine y0 rfl (o_move (d := .lst false (List.map r10_Place.Pv a0)) rfl) ?_
  refine y0 rfl (o_move (d := .int .i64 a1) rfl) ?_
  obtain ⟨v1, hv1, h⟩ := bindE h
  refine y0 rfl (o_call (ds := [.lst false (List.map r10_Place.Pv a0), .int .i64 a1]) rfl Ty.k19 rfl (r10_Find_ok hv1)) ?_
  refine y0 rfl (o_assign (d := .int .i64 v1) rfl) ?_
  refine y_nil ?_
  refine pw_seq ?_
  refine sr (by kernel_rfl) ?_
  refine y0 rfl (o_move (d := .int .i64 v1) rfl) ?_
  refine y0 rfl (o_cmp rfl rfl rfl) ?_
  refine y_nil ?_
  refine pw_cond (decide (v1 < 0)) rfl (fun hc => ?_) (fun hc => ?_)
  · have h := ifT h hc
    refine sr (by kernel_rfl) ?_
    refine y0 rfl (o_move (d := .lst false (List.map r10_Place.Pv a0)) rfl) ?_
    refine y0 rfl (o_assign (d := .lst false (List.map r10_Place.Pv a0)) rfl) ?_
    refine y0 rfl (o_assign (d := .int .i64 0) rfl) ?_
    refine y0 rfl (o_assign (d := .int .i64 9) rfl) ?_
    refine y_nil ?_
    refine pw_ret ?_
    obtain rfl := Option.some.inj h
    exact ⟨rfl, [_, _, _], ⟨rfl, ⟨rfl, ⟨rfl, trivial⟩⟩⟩, rfl, by first | exact .inl rfl | exact .inr rfl⟩
  · have h := ifF h hc
    refine pw_skip ?_
    refine dr [] Ty.mix (by kernel_rfl) (by kernel_rfl) ?_
    refine d7 rfl (fun _ hN => o_move (d := .lst false (List.map r10_Place.Pv a0)) rfl) rfl ?_
    refine d7 rfl (fun _ hN => o_move (d := .int .i64 v1) rfl) rfl ?_
    refine d7 rfl (fun _ hN => o_build (cs := [.int .i64 2, .int .i64 0, .int .i64 0]) rfl Ty.p60 Ty.z60 rfl rfl rfl) rfl ?_
    obtain ⟨v2, hv2, h⟩ := bindE h
    refine d2f rfl (o_callF (ls := []) (ds := [.lst false (List.map r10_Place.Pv a0), .int .i64 v1, .agg [.int .i64 2, .int .i64 0, .int .i64 0]]) rfl Ty.k32 rfl (r10_with_ok hv2)) rfl ?_
    refine d7 rfl (fun _ hN => o_move (d := .lst false (List.map r10_Place.Pv a0)) rfl) rfl ?_
    refine d7 rfl (fun _ hN => o_move (d := .int .i64 v1) rfl) rfl ?_
    obtain ⟨v3, hv3, h⟩ := bindE h
    refine d0 rfl (o_ixL (f := r10_Place.Pv) (cs := r10_Place.Pc v3) hv3 rfl rfl Ty.e25 Ty.s60 rfl rfl) rfl ?_
    refine d7 rfl (fun _ hN => o_fieldAddrR rfl Ty.f60_2 rfl) rfl ?_
    refine d0 rfl (o_loadRS rfl Ty.a3 rfl) rfl ?_
    refine d7 rfl (fun _ hN => o_assign (d := .lst false (List.map r10_Place.Pv v2)) rfl) rfl ?_
    refine d7 rfl (fun _ hN => o_assign (d := .int .i64 v3.Val) rfl) rfl ?_
    refine d7 rfl (fun _ hN => o_assign (d := .int .i64 0) rfl) rfl ?_
    refine d_nil ?_
    refine pw_ret ?_
    obtain rfl := Option.some.inj h
    exact ⟨rfl, [_, _, _], ⟨rfl, ⟨rfl, ⟨rfl, trivial⟩⟩⟩, rfl, by first | exact .inl rfl | exact .inr rfl⟩

set_option maxHeartbeats 4000000 in
theorem r10_Same_ok {a0 : List r10_Place} {a1 : List r10_Place} {r : Bool} (h : r10_Same a0 a1 = some r) : PCalls Try.prog 20 [.lst false (List.map r10_Place.Pv a0), .lst false (List.map r10_Place.Pv a1)] (.bool r) := by
  unfold r10_Same at h
  refine pc_intro (N := 26) Try.func20 rfl rfl (Nat.le_of_ble_eq_true rfl) fun w0 imm0 => ?_
  refine sr (by kernel_rfl) ?_
  refine y0 rfl (o_assign (d := .bool false) rfl) ?_
  refine y_nil ?_
  refine pw_seq ?_
  refine sr (by kernel_rfl) ?_
  refine y0 rfl (o_move (d := .lst false (List.map r10_Place.Pv a0)) rfl) ?_
  refine y0 rfl (o_lnL (f := r10_Place.Pv) rfl Ty.e25) ?_
  refine y0 rfl (o_move (d := .lst false (List.map r10_Place.Pv a1)) rfl) ?_
  refine y0 rfl (o_lnL (f := r10_Place.Pv) rfl Ty.e25) ?_
  refine y0 rfl (o_cmp rfl rfl rfl) ?_
  refine y_nil ?_
  refine pw_cond ((a0.length : Int) != (a1.length : Int)) rfl (fun hc => ?_) (fun hc => ?_)
  · have h := ifT h hc
    refine sr (by kernel_rfl) ?_
    refine y0 rfl (o_assign (d := .bool false) rfl) ?_
    refine y_nil ?_
    refine pw_ret ?_
    obtain rfl := Option.some.inj h
    exact ⟨rfl, [_], ⟨rfl, trivial⟩, rfl, by first | exact .inl rfl | exact .inr rfl⟩
  · have h := ifF h hc
    refine pw_skip ?_
    obtain ⟨κ6, hκ6, h⟩ := jnE h
    refine pw_jn0 (κ := κ6) (r := r) (fun (_ : Unit) => St.of [] []) (fun q7 h => ?_) ?_
    · subst hκ6
      refine sr (by kernel_rfl) ?_
      refine y0 rfl (o_assign (d := .bool true) rfl) ?_
      refine y_nil ?_
      refine pw_ret ?_
      obtain rfl := Option.some.inj h
      exact ⟨rfl, [_], ⟨rfl, trivial⟩, rfl, by first | exact .inl rfl | exact .inr rfl⟩
    · skip
      refine sr (by kernel_rfl) ?_
      refine y0 rfl (o_assign (d := .int .i64 0) rfl) ?_
      refine y_nil ?_
      refine pw_block ?_
      obtain ⟨e8, hl7, hk8⟩ := bindE h
      refine pw_lp0 (fun (s9 : Int) => St.of [(0, .lst false (List.map r10_Place.Pv a0)), (1, .lst false (List.map r10_Place.Pv a1)), (5, .int .i64 s9)] []) hl7 (wk_st _ _ ⟨rfl, rfl, rfl, rfl, rfl, rfl, rfl, rfl, rfl, trivial⟩ trivial) (fun s9 x10 h hx9 => ?_)
      refine pw_seq ?_
      refine sr (by kernel_rfl) ?_
      refine y0 rfl (o_move (d := .int .i64 s9) rfl) ?_
      refine y0 rfl (o_move (d := .lst false (List.map r10_Place.Pv a0)) rfl) ?_
      refine y0 rfl (o_lnL (f := r10_Place.Pv) rfl Ty.e25) ?_
      refine y0 rfl (o_cmp rfl rfl rfl) ?_
      refine y_nil ?_
      refine pw_cond (decide (s9 < (a0.length : Int))) rfl (fun hc => ?_) (fun hc => ?_)
      · have h := ifT h hc
        refine pw_skip ?_
        refine pw_seq ?_
        refine pw_block ?_
        refine dr [] Ty.mix (by kernel_rfl) (by kernel_rfl) ?_
        refine d7 rfl (fun _ hN => o_move (d := .lst false (List.map r10_Place.Pv a0)) rfl) rfl ?_
        refine d7 rfl (fun _ hN => o_move (d := .int .i64 s9) rfl) rfl ?_
        obtain ⟨v11, hv10, h⟩ := bindE h
        refine d0 rfl (o_ixL (f := r10_Place.Pv) (cs := r10_Place.Pc v11) hv10 rfl rfl Ty.e25 Ty.s60 rfl rfl) rfl ?_
        refine d0 rfl (o_loadRA (cs := r10_Place.Pc v11) rfl Ty.a60 Ty.s60 (Nat.le_of_ble_eq_true rfl) rfl) rfl ?_
        refine d7 rfl (fun _ hN => o_move (d := .lst false (List.map r10_Place.Pv a1)) rfl) rfl ?_
        refine d7 rfl (fun _ hN => o_move (d := .int .i64 s9) rfl) rfl ?_
        obtain ⟨v12, hv11, h⟩ := bindE h
        refine d0 rfl (o_ixL (f := r10_Place.Pv) (cs := r10_Place.Pc v12) hv11 rfl rfl Ty.e25 Ty.s60 rfl rfl) rfl ?_
        refine d0 rfl (o_loadRA (cs := r10_Place.Pc v12) rfl Ty.a60 Ty.s60 (Nat.le_of_ble_eq_true rfl) rfl) rfl ?_
        refine d7 rfl (fun _ hN => o_neA (xs := r10_Place.Pc v11) (ys := r10_Place.Pc v12) Ty.q60 rfl rfl rfl rfl) rfl ?_
        refine d_nil ?_
        refine pw_cond (!((v11.State == v12.State) && ((v11.Key == v12.Key) && ((v11.Val == v12.Val) && true)))) rfl (fun hc => ?_) (fun hc => ?_)
        · have h := ifT h hc
          refine sr (by kernel_rfl) ?_
          refine y0 rfl (o_assign (d := .bool false) rfl) ?_
          refine y_nil ?_
          refine pw_ret ?_
          have he := hx9 _ (Option.some.inj h).symm
          have h := hk8
          rw [← he] at h
          obtain rfl := Option.some.inj h
          exact ⟨rfl, [_], ⟨rfl, trivial⟩, rfl, by first | exact .inl rfl | exact .inr rfl⟩
        · have h := ifF h hc
          refine pw_skip ?_
          refine sr1 (by kernel_rfl) ?_
          refine y0 rfl (o_move (d := .int .i64 s9) rfl) ?_
          refine y0 rfl (o_ari rfl rfl rfl) ?_
          refine y0 rfl (o_assign (d := .int .i64 (w64 (s9 + 1))) rfl) ?_
          refine y_nil ?_
          exact ⟨rfl, w64 (s9 + 1), (Option.some.inj h).symm, (wk_st _ _ ⟨rfl, rfl, rfl, rfl, rfl, rfl, rfl, rfl, rfl, trivial⟩ trivial)⟩
      · have h := ifF h hc
        refine pw_exit ?_
        refine thenQ_exit ?_
        refine thenQ_exit ?_
        refine blockQ_exit ?_
        have he := hx9 _ (Option.some.inj h).symm
        have h := hk8
        rw [← he] at h
        exact ⟨rfl, (), h, (wk_st _ _ trivial trivial)⟩

set_option maxHeartbeats 4000000 in
theorem r10_Keys_ok {a0 : List r10_Place} {r : List Int} (h : r10_Keys a0 = some r) : PCalls Try.prog 23 [.lst false (List.map r10_Place.Pv a0)] (.lst false (List.map (PV.int .i64) r)) := by
  unfold r10_Keys at h
  refine pc_intro (N := 27) Try.func23 rfl rfl (Nat.le_of_ble_eq_true rfl) fun w0 imm0 => ?_
  refine sr (by kernel_rfl) ?_
  refine y0 rfl (o_assign (d := .lst true (List.map (PV.int .i64) [])) rfl) ?_
  refine y_nil ?_
  refine sr (by kernel_rfl) ?_
  refine y0 rfl (o_nslice rfl Ty.e43 Ty.s3) ?_
  refine y0 rfl (o_assign (d := .lst true (List.map (PV.int .i64) [])) rfl) ?_
  refine y_nil ?_
  obtain ⟨κ12, hκ9, h⟩ := jnE h
  refine pw_jn0 (κ := κ12) (r := r) (fun (j13 : List Int) => St.of [(3, .sl 910003)] [(910003, ⟨List.map (PV.int .i64) j13, (List.map (PV.int .i64) j13).length, true, 1, true⟩)]) (fun j13 h => ?_) ?_
  · subst hκ9
    refine sr (by kernel_rfl) ?_
    refine y0 rfl (o_move (d := .sl 910003) rfl) ?_
    refine y0 rfl (o_assign (d := .sl 910003) rfl) ?_
    refine y_nil ?_
    refine pw_ret ?_
    obtain rfl := Option.some.inj h
    exact ⟨rfl, [_], ⟨rfl, trivial⟩, rfl, by first | exact .inl rfl | exact .inr rfl⟩
  · skip
    refine sr (by kernel_rfl) ?_
    refine y0 rfl (o_assign (d := .int .i64 0) rfl) ?_
    refine y_nil ?_
    refine pw_block ?_
    obtain ⟨e14, hl10, hk11⟩ := bindE h
    refine pw_lp0 (fun (q : Int × (List Int)) => St.of [(0, .lst false (List.map r10_Place.Pv a0)), (3, .sl 910003), (4, .int .i64 q.1)] [(910003, ⟨List.map (PV.int .i64) q.2, (List.map (PV.int .i64) q.2).length, true, 1, true⟩)]) hl10 (Wk.trans (wk_nil (t := 3) (l := 920003) (z := 1) rfl rfl) (wk_stP (fun l => if l = 910003 then 920003 else l) _ _ ⟨rfl, rfl, rfl, rfl, rfl, rfl, rfl, rfl, rfl, trivial⟩ ⟨rowLe_ren rfl rfl rfl (fun _ => rfl) rfl rfl rfl, trivial⟩ rfl)) (fun q18 x17 h hx12 => ?_)
    obtain ⟨s15, s16⟩ := q18
    refine pw_seq ?_
    refine sr (by kernel_rfl) ?_
    refine y0 rfl (o_move (d := .int .i64 s15) rfl) ?_
    refine y0 rfl (o_move (d := .lst false (List.map r10_Place.Pv a0)) rfl) ?_
    refine y0 rfl (o_lnL (f := r10_Place.Pv) rfl Ty.e25) ?_
    refine y0 rfl (o_cmp rfl rfl rfl) ?_
    refine y_nil ?_
    refine pw_cond (decide (s15 < (a0.length : Int))) rfl (fun hc => ?_) (fun hc => ?_)
    · have h := ifT h hc
      refine pw_skip ?_
      obtain ⟨κ21, hκ15, h⟩ := jnE h
      refine pw_jn0 (κ := κ21) (r := x17) (fun (j22 : List Int) => St.of [(0, .lst false (List.map r10_Place.Pv a0)), (3, .sl 25), (4, .int .i64 s15)] [(25, ⟨List.map (PV.int .i64) j22, (List.map (PV.int .i64) j22).length, true, 1, true⟩)]) (fun j22 h => ?_) ?_
      · subst hκ15
        refine sr1 (by kernel_rfl) ?_
        refine y0 rfl (o_move (d := .int .i64 s15) rfl) ?_
        refine y0 rfl (o_ari rfl rfl rfl) ?_
        refine y0 rfl (o_assign (d := .int .i64 (w64 (s15 + 1))) rfl) ?_
        refine y_nil ?_
        exact ⟨rfl, (w64 (s15 + 1), j22), (Option.some.inj h).symm, (Wk.trans (wk_frz _ [25]) (wk_stP (fun l => if l = 910003 then 25 else l) _ _ ⟨rfl, rfl, rfl, rfl, rfl, rfl, rfl, rfl, rfl, trivial⟩ ⟨rowLe_ren rfl rfl rfl (fun _ => rfl) rfl rfl rfl, trivial⟩ rfl))⟩
      · skip
        refine pw_block ?_
        refine sr (by kernel_rfl) ?_
        refine y0 rfl (o_move (d := .lst false (List.map r10_Place.Pv a0)) rfl) ?_
        refine y0 rfl (o_move (d := .int .i64 s15) rfl) ?_
        obtain ⟨v23, hv16, h⟩ := bindE h
        refine y0 rfl (o_ixL (f := r10_Place.Pv) (cs := r10_Place.Pc v23) hv16 rfl rfl Ty.e25 Ty.s60 rfl rfl) ?_
        refine y0 rfl (o_fieldAddrR rfl Ty.f60_0 rfl) ?_
        refine y0 rfl (o_loadRS rfl Ty.a3 rfl) ?_
        refine y0 rfl (o_cmp rfl rfl rfl) ?_
        refine y_nil ?_
        refine pw_cond (v23.State == 1) rfl (fun hc => ?_) (fun hc => ?_)
        · have h := ifT h hc
          refine sr1 (by kernel_rfl) ?_
          refine y0 rfl (o_move (d := .sl 910003) rfl) ?_
          refine y0 rfl (o_move (d := .lst false (List.map r10_Place.Pv a0)) rfl) ?_
          refine y0 rfl (o_move (d := .int .i64 s15) rfl) ?_
          refine y0 rfl (o_ixL (f := r10_Place.Pv) (cs := r10_Place.Pc v23) hv16 rfl rfl Ty.e25 Ty.s60 rfl rfl) ?_
          refine y0 rfl (o_fieldAddrR rfl Ty.f60_1 rfl) ?_
          refine y0 rfl (o_loadRS rfl Ty.a3 rfl) ?_
          refine y0 rfl (o_bI (f := (PV.int .i64)) (l := [v23.Key]) rfl Ty.e43 Ty.s3 Ty.z3 rfl rfl (Nat.le_of_ble_eq_true rfl) rfl rfl) ?_
          obtain ⟨v24, hv17, h⟩ := bindE h
          refine y_app rfl (o_apR (f := (PV.int .i64)) hv17 rfl rfl rfl rfl rfl rfl (.inl ⟨_, rfl, rfl⟩) Ty.e43 Ty.s3 Ty.b3 Ty.z3 rfl (fun _ => rfl)) rfl rfl rfl ?_
          refine y0 rfl (o_assign (d := .sl 25) rfl) ?_
          refine y_nil ?_
          exact ⟨rfl, v24, h, (Wk.trans (wk_frz _ [25]) (wk_st _ _ ⟨rfl, rfl, rfl, rfl, rfl, rfl, rfl, rfl, rfl, trivial⟩ ⟨rowLe_same rfl rfl rfl (fun _ => rfl) rfl rfl rfl, trivial⟩))⟩
        · have h := ifF h hc
          refine pw_skip ?_
          exact ⟨rfl, s16, h, (Wk.trans (wk_frz _ [910003]) (wk_stP (fun l => if l = 25 then 910003 else l) _ _ ⟨rfl, rfl, rfl, rfl, rfl, rfl, rfl, rfl, rfl, trivial⟩ ⟨rowLe_ren rfl rfl rfl (fun _ => rfl) rfl rfl rfl, trivial⟩ rfl))⟩
    · have h := ifF h hc
      refine pw_exit ?_
      refine thenQ_exit ?_
      refine thenQ_exit ?_
      refine blockQ_exit ?_
      have he := hx12 _ (Option.some.inj h).symm
      have h := hk11
      rw [← he] at h
      exact ⟨rfl, s16, h, (Wk.trans (wk_frz _ [910003]) (wk_st _ _ ⟨rfl, rfl, rfl, trivial⟩ ⟨rowLe_same rfl rfl rfl (fun _ => rfl) rfl rfl rfl, trivial⟩))⟩

set_option maxHeartbeats 4000000 in
theorem r02_Ints_ok {a0 : List Int} {a1 : List Int} {r : Bool} (h : r02_Ints a0 a1 = some r) : PCalls Try.prog 21 [.lst false (List.map (PV.int .i64) a0), .lst false (List.map (PV.int .i64) a1)] (.bool r) := by
  unfold r02_Ints at h
  refine pc_intro (N := 26) Try.func21 rfl rfl (Nat.le_of_ble_eq_true rfl) fun w0 imm0 => ?_
  refine sr (by kernel_rfl) ?_
  refine y0 rfl (o_assign (d := .bool false) rfl) ?_
  refine y_nil ?_
  refine pw_seq ?_
  refine sr (by kernel_rfl) ?_
  refine y0 rfl (o_move (d := .lst false (List.map (PV.int .i64) a0)) rfl) ?_
  refine y0 rfl (o_lnL (f := (PV.int .i64)) rfl Ty.e43) ?_
  refine y0 rfl (o_move (d := .lst false (List.map (PV.int .i64) a1)) rfl) ?_
  refine y0 rfl (o_lnL (f := (PV.int .i64)) rfl Ty.e43) ?_
  refine y0 rfl (o_cmp rfl rfl rfl) ?_
  refine y_nil ?_
  refine pw_cond ((a0.length : Int) != (a1.length : Int)) rfl (fun hc => ?_) (fun hc => ?_)
  · have h := ifT h hc
    refine sr (by kernel_rfl) ?_
    refine y0 rfl (o_assign (d := .bool false) rfl) ?_
    refine y_nil ?_
    refine pw_ret ?_
    obtain rfl := Option.some.inj h
    exact ⟨rfl, [_], ⟨rfl, trivial⟩, rfl, by first | exact .inl rfl | exact .inr rfl⟩
  · have h := ifF h hc
    refine pw_skip ?_
    obtain ⟨κ6, hκ6, h⟩ := jnE h
    refine pw_jn0 (κ := κ6) (r := r) (fun (_ : Unit) => St.of [] []) (fun q7 h => ?_) ?_
    · subst hκ6
      refine sr (by kernel_rfl) ?_
      refine y0 rfl (o_assign (d := .bool true) rfl) ?_
      refine y_nil ?_
      refine pw_ret ?_
      obtain rfl := Option.some.inj h
      exact ⟨rfl, [_], ⟨rfl, trivial⟩, rfl, by first | exact .inl rfl | exact .inr rfl⟩
    · skip
      refine sr (by kernel_rfl) ?_
      refine y0 rfl (o_assign (d := .int .i64 0) rfl) ?_
      refine y_nil ?_
      refine pw_block ?_
      obtain ⟨e8, hl7, hk8⟩ := bindE h
      refine pw_lp0 (fun (s9 : Int) => St.of [(0, .lst false (List.map (PV.int .i64) a0)), (1, .lst false (List.map (PV.int .i64) a1)), (5, .int .i64 s9)] []) hl7 (wk_st _ _ ⟨rfl, rfl, rfl, rfl, rfl, rfl, rfl, rfl, rfl, trivial⟩ trivial) (fun s9 x10 h hx9 => ?_)
      refine pw_seq ?_
      refine sr (by kernel_rfl) ?_
      refine y0 rfl (o_move (d := .int .i64 s9) rfl) ?_
      refine y0 rfl (o_move (d := .lst false (List.map (PV.int .i64) a0)) rfl) ?_
      refine y0 rfl (o_lnL (f := (PV.int .i64)) rfl Ty.e43) ?_
      refine y0 rfl (o_cmp rfl rfl rfl) ?_
      refine y_nil ?_
      refine pw_cond (decide (s9 < (a0.length : Int))) rfl (fun hc => ?_) (fun hc => ?_)
      · have h := ifT h hc
        refine pw_skip ?_
        refine pw_seq ?_
        refine pw_block ?_
        refine dr [] Ty.mix (by kernel_rfl) (by kernel_rfl) ?_
        refine d7 rfl (fun _ hN => o_move (d := .lst false (List.map (PV.int .i64) a0)) rfl) rfl ?_
        refine d7 rfl (fun _ hN => o_move (d := .int .i64 s9) rfl) rfl ?_
        obtain ⟨v11, hv10, h⟩ := bindE h
        refine d0 rfl (o_ixL (f := (PV.int .i64)) (cs := [.int .i64 v11]) hv10 rfl rfl Ty.e43 Ty.s3 rfl rfl) rfl ?_
        refine d0 rfl (o_loadRS rfl Ty.a3 rfl) rfl ?_
        refine d7 rfl (fun _ hN => o_move (d := .lst false (List.map (PV.int .i64) a1)) rfl) rfl ?_
        refine d7 rfl (fun _ hN => o_move (d := .int .i64 s9) rfl) rfl ?_
        obtain ⟨v12, hv11, h⟩ := bindE h
        refine d0 rfl (o_ixL (f := (PV.int .i64)) (cs := [.int .i64 v12]) hv11 rfl rfl Ty.e43 Ty.s3 rfl rfl) rfl ?_
        refine d0 rfl (o_loadRS rfl Ty.a3 rfl) rfl ?_
        refine d7 rfl (fun _ hN => o_cmp rfl rfl rfl) rfl ?_
        refine d_nil ?_
        refine pw_cond (v11 != v12) rfl (fun hc => ?_) (fun hc => ?_)
        · have h := ifT h hc
          refine sr (by kernel_rfl) ?_
          refine y0 rfl (o_assign (d := .bool false) rfl) ?_
          refine y_nil ?_
          refine pw_ret ?_
          have he := hx9 _ (Option.some.inj h).symm
          have h := hk8
          rw [← he] at h
          obtain rfl := Option.some.inj h
          exact ⟨rfl, [_], ⟨rfl, trivial⟩, rfl, by first | exact .inl rfl | exact .inr rfl⟩
        · have h := ifF h hc
          refine pw_skip ?_
          refine sr1 (by kernel_rfl) ?_
          refine y0 rfl (o_move (d := .int .i64 s9) rfl) ?_
          refine y0 rfl (o_ari rfl rfl rfl) ?_
          refine y0 rfl (o_assign (d := .int .i64 (w64 (s9 + 1))) rfl) ?_
          refine y_nil ?_
          exact ⟨rfl, w64 (s9 + 1), (Option.some.inj h).symm, (wk_st _ _ ⟨rfl, rfl, rfl, rfl, rfl, rfl, rfl, rfl, rfl, trivial⟩ trivial)⟩
      · have h := ifF h hc
        refine pw_exit ?_
        refine thenQ_exit ?_
        refine thenQ_exit ?_
        refine blockQ_exit ?_
        have he := hx9 _ (Option.some.inj h).symm
        have h := hk8
        rw [← he] at h
        exact ⟨rfl, (), h, (wk_st _ _ trivial trivial)⟩

set_option maxHeartbeats 4000000 in
theorem w10_HashActs_ok {a0 : List hash_Place} {a1 : Int} {a2 : Int} {r : Bool} (h : w10_HashActs a0 a1 a2 = some r) : PCalls Try.prog 3 [.lst false (List.map hash_Place.Pv a0), .int .i64 a1, .int .i64 a2] (.bool r) := by
  unfold w10_HashActs at h
  refine pc_intro (N := 123) Try.func3 rfl rfl (Nat.le_of_ble_eq_true rfl) fun w0 imm0 => ?_
  refine sr (by kernel_rfl) ?_
  refine y0 rfl (o_assign (d := .bool false) rfl) ?_
  refine y_nil ?_
  refine pw_seq ?_
  refine sr (by kernel_rfl) ?_
  refine y0 rfl (o_move (d := .lst false (List.map hash_Place.Pv a0)) rfl) ?_
  obtain ⟨v1, hv1, h⟩ := bindE h
  refine y0 rfl (o_call (ds := [.lst false (List.map hash_Place.Pv a0)]) rfl Ty.k9 rfl (w10_right_ok hv1)) ?_
  refine y0 rfl (o_not rfl rfl) ?_
  refine y0 rfl (o_move (d := .bool (!v1)) rfl) ?_
  obtain ⟨v2, hv2, h⟩ := bindE h
  refine y_if (g := ((!v1) == false)) rfl (fun hg => o_call (ds := []) rfl Ty.k10 rfl (w10_shown_ok (onlyE hv2 hg))) ?_
  refine y_if (g := ((!v1) == false)) rfl (fun hg => o_not (ct hg) rfl) ?_
  refine y0 rfl (pk_or rfl rfl rfl (fun q => eqF q)) ?_
  refine y_nil ?_
  refine pw_cond ((!v1) || (!v2)) rfl (fun hc => ?_) (fun hc => ?_)
  · have h := ifT h hc
    refine sr (by kernel_rfl) ?_
    obtain ⟨v3, hv3, h⟩ := bindE h
    refine y0 rfl (o_call (ds := []) rfl Ty.k10 rfl (w10_shown_ok hv3)) ?_
    refine y0 rfl (o_assign (d := .bool v3) rfl) ?_
    refine y_nil ?_
    refine pw_ret ?_
    obtain rfl := Option.some.inj h
    exact ⟨rfl, [_], ⟨rfl, trivial⟩, rfl, by first | exact .inl rfl | exact .inr rfl⟩
  · have h := ifF h hc
    refine pw_skip ?_
    refine sr (by kernel_rfl) ?_
    refine y0 rfl (o_move (d := .lst false (List.map hash_Place.Pv a0)) rfl) ?_
    obtain ⟨v4, hv4, h⟩ := bindE h
    refine yc rfl (o_callF (ls := []) (ds := [.lst false (List.map hash_Place.Pv a0)]) rfl Ty.k11 rfl (w10_its_ok hv4)) ?_
    refine y0 rfl (o_assign (d := .lst false (List.map r10_Place.Pv v4)) rfl) ?_
    refine y_nil ?_
    refine sr (by kernel_rfl) ?_
    refine y0 rfl (o_move (d := .lst false (List.map hash_Place.Pv a0)) rfl) ?_
    refine y0 rfl (o_move (d := .int .i64 a1) rfl) ?_
    obtain ⟨v5, hv5, h⟩ := bindE h
    refine y0 rfl (o_call (ds := [.lst false (List.map hash_Place.Pv a0), .int .i64 a1]) rfl Ty.k12 rfl (hash_Get_ok hv5)) ?_
    refine y0 rfl (o_move (d := .tup [.int .i64 v5.1, .int .i64 v5.2]) rfl) ?_
    refine y0 rfl (o_extract rfl rfl) ?_
    refine y0 rfl (o_extract rfl rfl) ?_
    refine y0 rfl (o_assign (d := .int .i64 v5.1) rfl) ?_
    refine y0 rfl (o_assign (d := .int .i64 v5.2) rfl) ?_
    refine y_nil ?_
    refine sr (by kernel_rfl) ?_
    refine y0 rfl (o_move (d := .lst false (List.map r10_Place.Pv v4)) rfl) ?_
    refine y0 rfl (o_move (d := .int .i64 a1) rfl) ?_
    obtain ⟨v6, hv6, h⟩ := bindE h
    refine y0 rfl (o_call (ds := [.lst false (List.map r10_Place.Pv v4), .int .i64 a1]) rfl Ty.k13 rfl (r10_Get_ok hv6)) ?_
    refine y0 rfl (o_move (d := .tup [.int .i64 v6.1, .int .i64 v6.2]) rfl) ?_
    refine y0 rfl (o_extract rfl rfl) ?_
    refine y0 rfl (o_extract rfl rfl) ?_
    refine y0 rfl (o_assign (d := .int .i64 v6.1) rfl) ?_
    refine y0 rfl (o_assign (d := .int .i64 v6.2) rfl) ?_
    refine y_nil ?_
    refine sr (by kernel_rfl) ?_
    refine y0 rfl (o_move (d := .lst false (List.map hash_Place.Pv a0)) rfl) ?_
    refine y0 rfl (o_move (d := .int .i64 a1) rfl) ?_
    refine y0 rfl (o_move (d := .int .i64 a2) rfl) ?_
    obtain ⟨v7, hv7, h⟩ := bindE h
    refine yc rfl (o_callF (ls := []) (ds := [.lst false (List.map hash_Place.Pv a0), .int .i64 a1, .int .i64 a2]) rfl Ty.k14 rfl (hash_Put_ok hv7)) ?_
    refine y0 rfl (o_move (d := .tup [.lst false (List.map hash_Place.Pv v7.1), .int .i64 v7.2]) rfl) ?_
    refine y0 rfl (o_extract rfl rfl) ?_
    refine y0 rfl (o_extract rfl rfl) ?_
    refine y0 rfl (o_assign (d := .lst false (List.map hash_Place.Pv v7.1)) rfl) ?_
    refine y0 rfl (o_assign (d := .int .i64 v7.2) rfl) ?_
    refine y_nil ?_
    refine sr (by kernel_rfl) ?_
    refine y0 rfl (o_move (d := .lst false (List.map r10_Place.Pv v4)) rfl) ?_
    refine y0 rfl (o_move (d := .int .i64 a1) rfl) ?_
    refine y0 rfl (o_move (d := .int .i64 a2) rfl) ?_
    obtain ⟨v8, hv8, h⟩ := bindE h
    refine yc rfl (o_callF (ls := []) (ds := [.lst false (List.map r10_Place.Pv v4), .int .i64 a1, .int .i64 a2]) rfl Ty.k15 rfl (r10_Put_ok hv8)) ?_
    refine y0 rfl (o_move (d := .tup [.lst false (List.map r10_Place.Pv v8.1), .int .i64 v8.2]) rfl) ?_
    refine y0 rfl (o_extract rfl rfl) ?_
    refine y0 rfl (o_extract rfl rfl) ?_
    refine y0 rfl (o_assign (d := .lst false (List.map r10_Place.Pv v8.1)) rfl) ?_
    refine y0 rfl (o_assign (d := .int .i64 v8.2) rfl) ?_
    refine y_nil ?_
    refine sr (by kernel_rfl) ?_
    refine y0 rfl (o_move (d := .lst false (List.map hash_Place.Pv a0)) rfl) ?_
    refine y0 rfl (o_move (d := .int .i64 a1) rfl) ?_
    obtain ⟨v9, hv9, h⟩ := bindE h
    refine yc rfl (o_callF (ls := []) (ds := [.lst false (List.map hash_Place.Pv a0), .int .i64 a1]) rfl Ty.k16 rfl (hash_Drop_ok hv9)) ?_
    refine y0 rfl (o_move (d := .tup [.lst false (List.map hash_Place.Pv v9.1), .int .i64 v9.2.1, .int .i64 v9.2.2]) rfl) ?_
    refine y0 rfl (o_extract rfl rfl) ?_
    refine y0 rfl (o_extract rfl rfl) ?_
    refine y0 rfl (o_extract rfl rfl) ?_
    refine y0 rfl (o_assign (d := .lst false (List.map hash_Place.Pv v9.1)) rfl) ?_
    refine y0 rfl (o_assign (d := .int .i64 v9.2.1) rfl) ?_
    refine y0 rfl (o_assign (d := .int .i64 v9.2.2) rfl) ?_
    refine y_nil ?_
    refine sr (by kernel_rfl) ?_
    refine y0 rfl (o_move (d := .lst false (List.map r10_Place.Pv v4)) rfl) ?_
    refine y0 rfl (o_move (d := .int .i64 a1) rfl) ?_
    obtain ⟨v10, hv10, h⟩ := bindE h
    refine yc rfl (o_callF (ls := []) (ds := [.lst false (List.map r10_Place.Pv v4), .int .i64 a1]) rfl Ty.k17 rfl (r10_Drop_ok hv10)) ?_
    refine y0 rfl (o_move (d := .tup [.lst false (List.map r10_Place.Pv v10.1), .int .i64 v10.2.1, .int .i64 v10.2.2]) rfl) ?_
    refine y0 rfl (o_extract rfl rfl) ?_
    refine y0 rfl (o_extract rfl rfl) ?_
    refine y0 rfl (o_extract rfl rfl) ?_
    refine y0 rfl (o_assign (d := .lst false (List.map r10_Place.Pv v10.1)) rfl) ?_
    refine y0 rfl (o_assign (d := .int .i64 v10.2.1) rfl) ?_
    refine y0 rfl (o_assign (d := .int .i64 v10.2.2) rfl) ?_
    refine y_nil ?_
    refine sr (by kernel_rfl) ?_
    refine y0 rfl (o_move (d := .lst false (List.map hash_Place.Pv a0)) rfl) ?_
    refine y0 rfl (o_move (d := .int .i64 a1) rfl) ?_
    obtain ⟨v11, hv11, h⟩ := bindE h
    refine y0 rfl (o_call (ds := [.lst false (List.map hash_Place.Pv a0), .int .i64 a1]) rfl Ty.k18 rfl (hash_Find_ok hv11)) ?_
    refine y0 rfl (o_move (d := .lst false (List.map r10_Place.Pv v4)) rfl) ?_
    refine y0 rfl (o_move (d := .int .i64 a1) rfl) ?_
    obtain ⟨v12, hv12, h⟩ := bindE h
    refine y0 rfl (o_call (ds := [.lst false (List.map r10_Place.Pv v4), .int .i64 a1]) rfl Ty.k19 rfl (r10_Find_ok hv12)) ?_
    refine y0 rfl (o_cmp rfl rfl rfl) ?_
    refine y0 rfl (o_move (d := .bool (v11 == v12)) rfl) ?_
    refine y_if (g := ((v11 == v12) == true)) rfl (fun hg => o_move (d := .int .i64 v5.1) rfl) ?_
    refine y_if (g := ((v11 == v12) == true)) rfl (fun hg => o_move (d := .int .i64 v6.1) rfl) ?_
    refine y_if (g := ((v11 == v12) == true)) rfl (fun hg => o_cmp (ct hg) (ct hg) rfl) ?_
    refine y0 rfl (pk_and rfl rfl rfl (fun q => eqT q)) ?_
    refine y0 rfl (o_move (d := .bool ((v11 == v12) && (v5.1 == v6.1))) rfl) ?_
    refine y_if (g := (((v11 == v12) && (v5.1 == v6.1)) == true)) rfl (fun hg => o_move (d := .int .i64 v5.2) rfl) ?_
    refine y_if (g := (((v11 == v12) && (v5.1 == v6.1)) == true)) rfl (fun hg => o_move (d := .int .i64 v6.2) rfl) ?_
    refine y_if (g := (((v11 == v12) && (v5.1 == v6.1)) == true)) rfl (fun hg => o_cmp (ct hg) (ct hg) rfl) ?_
    refine y0 rfl (pk_and rfl rfl rfl (fun q => eqT q)) ?_
    refine y0 rfl (o_move (d := .bool (((v11 == v12) && (v5.1 == v6.1)) && (v5.2 == v6.2))) rfl) ?_
    refine y_if (g := ((((v11 == v12) && (v5.1 == v6.1)) && (v5.2 == v6.2)) == true)) rfl (fun hg => o_move (d := .lst false (List.map hash_Place.Pv v7.1)) rfl) ?_
    obtain ⟨v13, hv13, h⟩ := bindE h
    refine y_ifc (g := ((((v11 == v12) && (v5.1 == v6.1)) && (v5.2 == v6.2)) == true)) rfl (fun hg => o_callF (ls := []) (ds := [.lst false (List.map hash_Place.Pv v7.1)]) rfl Ty.k11 (consE (ct hg) rfl) (w10_its_ok (onlyE hv13 hg))) ?_
    refine y_if (g := ((((v11 == v12) && (v5.1 == v6.1)) && (v5.2 == v6.2)) == true)) rfl (fun hg => o_move (d := .lst false (List.map r10_Place.Pv v8.1)) rfl) ?_
    obtain ⟨v14, hv14, h⟩ := bindE h
    refine y_if (g := ((((v11 == v12) && (v5.1 == v6.1)) && (v5.2 == v6.2)) == true)) rfl (fun hg => o_call (ds := [.lst false (List.map r10_Place.Pv v13), .lst false (List.map r10_Place.Pv v8.1)]) rfl Ty.k20 (consE (ct hg) (consE (ct hg) rfl)) (r10_Same_ok (onlyE hv14 hg))) ?_
    refine y0 rfl (pk_and rfl rfl rfl (fun q => eqT q)) ?_
    refine y0 rfl (o_move (d := .bool ((((v11 == v12) && (v5.1 == v6.1)) && (v5.2 == v6.2)) && v14)) rfl) ?_
    refine y_if (g := (((((v11 == v12) && (v5.1 == v6.1)) && (v5.2 == v6.2)) && v14) == true)) rfl (fun hg => o_move (d := .int .i64 v7.2) rfl) ?_
    refine y_if (g := (((((v11 == v12) && (v5.1 == v6.1)) && (v5.2 == v6.2)) && v14) == true)) rfl (fun hg => o_move (d := .int .i64 v8.2) rfl) ?_
    refine y_if (g := (((((v11 == v12) && (v5.1 == v6.1)) && (v5.2 == v6.2)) && v14) == true)) rfl (fun hg => o_cmp (ct hg) (ct hg) rfl) ?_
    refine y0 rfl (pk_and rfl rfl rfl (fun q => eqT q)) ?_
    refine y0 rfl (o_move (d := .bool (((((v11 == v12) && (v5.1 == v6.1)) && (v5.2 == v6.2)) && v14) && (v7.2 == v8.2))) rfl) ?_
    refine y_if (g := ((((((v11 == v12) && (v5.1 == v6.1)) && (v5.2 == v6.2)) && v14) && (v7.2 == v8.2)) == true)) rfl (fun hg => o_move (d := .lst false (List.map hash_Place.Pv v9.1)) rfl) ?_
    obtain ⟨v15, hv15, h⟩ := bindE h
    refine y_ifc (g := ((((((v11 == v12) && (v5.1 == v6.1)) && (v5.2 == v6.2)) && v14) && (v7.2 == v8.2)) == true)) rfl (fun hg => o_callF (ls := []) (ds := [.lst false (List.map hash_Place.Pv v9.1)]) rfl Ty.k11 (consE (ct hg) rfl) (w10_its_ok (onlyE hv15 hg))) ?_
    refine y_if (g := ((((((v11 == v12) && (v5.1 == v6.1)) && (v5.2 == v6.2)) && v14) && (v7.2 == v8.2)) == true)) rfl (fun hg => o_move (d := .lst false (List.map r10_Place.Pv v10.1)) rfl) ?_
    obtain ⟨v16, hv16, h⟩ := bindE h
    refine y_if (g := ((((((v11 == v12) && (v5.1 == v6.1)) && (v5.2 == v6.2)) && v14) && (v7.2 == v8.2)) == true)) rfl (fun hg => o_call (ds := [.lst false (List.map r10_Place.Pv v15), .lst false (List.map r10_Place.Pv v10.1)]) rfl Ty.k20 (consE (ct hg) (consE (ct hg) rfl)) (r10_Same_ok (onlyE hv16 hg))) ?_
    refine y0 rfl (pk_and rfl rfl rfl (fun q => eqT q)) ?_
    refine y0 rfl (o_move (d := .bool ((((((v11 == v12) && (v5.1 == v6.1)) && (v5.2 == v6.2)) && v14) && (v7.2 == v8.2)) && v16)) rfl) ?_
    refine y_if (g := (((((((v11 == v12) && (v5.1 == v6.1)) && (v5.2 == v6.2)) && v14) && (v7.2 == v8.2)) && v16) == true)) rfl (fun hg => o_move (d := .int .i64 v9.2.1) rfl) ?_
    refine y_if (g := (((((((v11 == v12) && (v5.1 == v6.1)) && (v5.2 == v6.2)) && v14) && (v7.2 == v8.2)) && v16) == true)) rfl (fun hg => o_move (d := .int .i64 v10.2.1) rfl) ?_
    refine y_if (g := (((((((v11 == v12) && (v5.1 == v6.1)) && (v5.2 == v6.2)) && v14) && (v7.2 == v8.2)) && v16) == true)) rfl (fun hg => o_cmp (ct hg) (ct hg) rfl) ?_
    refine y0 rfl (pk_and rfl rfl rfl (fun q => eqT q)) ?_
    refine y0 rfl (o_move (d := .bool (((((((v11 == v12) && (v5.1 == v6.1)) && (v5.2 == v6.2)) && v14) && (v7.2 == v8.2)) && v16) && (v9.2.1 == v10.2.1))) rfl) ?_
    refine y_if (g := ((((((((v11 == v12) && (v5.1 == v6.1)) && (v5.2 == v6.2)) && v14) && (v7.2 == v8.2)) && v16) && (v9.2.1 == v10.2.1)) == true)) rfl (fun hg => o_move (d := .int .i64 v9.2.2) rfl) ?_
    refine y_if (g := ((((((((v11 == v12) && (v5.1 == v6.1)) && (v5.2 == v6.2)) && v14) && (v7.2 == v8.2)) && v16) && (v9.2.1 == v10.2.1)) == true)) rfl (fun hg => o_move (d := .int .i64 v10.2.2) rfl) ?_
    refine y_if (g := ((((((((v11 == v12) && (v5.1 == v6.1)) && (v5.2 == v6.2)) && v14) && (v7.2 == v8.2)) && v16) && (v9.2.1 == v10.2.1)) == true)) rfl (fun hg => o_cmp (ct hg) (ct hg) rfl) ?_
    refine y0 rfl (pk_and rfl rfl rfl (fun q => eqT q)) ?_
    refine y0 rfl (o_move (d := .bool ((((((((v11 == v12) && (v5.1 == v6.1)) && (v5.2 == v6.2)) && v14) && (v7.2 == v8.2)) && v16) && (v9.2.1 == v10.2.1)) && (v9.2.2 == v10.2.2))) rfl) ?_
    refine y_if (g := (((((((((v11 == v12) && (v5.1 == v6.1)) && (v5.2 == v6.2)) && v14) && (v7.2 == v8.2)) && v16) && (v9.2.1 == v10.2.1)) && (v9.2.2 == v10.2.2)) == true)) rfl (fun hg => o_move (d := .lst false (List.map hash_Place.Pv a0)) rfl) ?_
    obtain ⟨v17, hv17, h⟩ := bindE h
    refine y_ifc (g := (((((((((v11 == v12) && (v5.1 == v6.1)) && (v5.2 == v6.2)) && v14) && (v7.2 == v8.2)) && v16) && (v9.2.1 == v10.2.1)) && (v9.2.2 == v10.2.2)) == true)) rfl (fun hg => o_callF (ls := []) (ds := [.lst false (List.map hash_Place.Pv a0)]) rfl Ty.k22 (consE (ct hg) rfl) (hash_Keys_ok (onlyE hv17 hg))) ?_
    refine y_if (g := (((((((((v11 == v12) && (v5.1 == v6.1)) && (v5.2 == v6.2)) && v14) && (v7.2 == v8.2)) && v16) && (v9.2.1 == v10.2.1)) && (v9.2.2 == v10.2.2)) == true)) rfl (fun hg => o_move (d := .lst false (List.map r10_Place.Pv v4)) rfl) ?_
    obtain ⟨v18, hv18, h⟩ := bindE h
    refine y_ifc (g := (((((((((v11 == v12) && (v5.1 == v6.1)) && (v5.2 == v6.2)) && v14) && (v7.2 == v8.2)) && v16) && (v9.2.1 == v10.2.1)) && (v9.2.2 == v10.2.2)) == true)) rfl (fun hg => o_callF (ls := []) (ds := [.lst false (List.map r10_Place.Pv v4)]) rfl Ty.k23 (consE (ct hg) rfl) (r10_Keys_ok (onlyE hv18 hg))) ?_
    obtain ⟨v19, hv19, h⟩ := bindE h
    refine y_if (g := (((((((((v11 == v12) && (v5.1 == v6.1)) && (v5.2 == v6.2)) && v14) && (v7.2 == v8.2)) && v16) && (v9.2.1 == v10.2.1)) && (v9.2.2 == v10.2.2)) == true)) rfl (fun hg => o_call (ds := [.lst false (List.map (PV.int .i64) v17), .lst false (List.map (PV.int .i64) v18)]) rfl Ty.k21 (consE (ct hg) (consE (ct hg) rfl)) (r02_Ints_ok (onlyE hv19 hg))) ?_
    refine y0 rfl (pk_and rfl rfl rfl (fun q => eqT q)) ?_
    refine y0 rfl (o_assign (d := .bool (((((((((v11 == v12) && (v5.1 == v6.1)) && (v5.2 == v6.2)) && v14) && (v7.2 == v8.2)) && v16) && (v9.2.1 == v10.2.1)) && (v9.2.2 == v10.2.2)) && v19)) rfl) ?_
    refine y_nil ?_
    refine pw_ret ?_
    obtain rfl := Option.some.inj h
    exact ⟨rfl, [_], ⟨rfl, trivial⟩, rfl, by first | exact .inl rfl | exact .inr rfl⟩

set_option maxHeartbeats 4000000 in
theorem r10_New_ok {a0 : Int} {r : List r10_Place} (h : r10_New a0 = some r) : PCalls Try.prog 27 [.int .i64 a0] (.lst false (List.map r10_Place.Pv r)) := by
  unfold r10_New at h
  refine pc_intro (N := 11) Try.func27 rfl rfl (Nat.le_of_ble_eq_true rfl) fun w0 imm0 => ?_
  refine sr (by kernel_rfl) ?_
  refine y0 rfl (o_assign (d := .lst true (List.map r10_Place.Pv [])) rfl) ?_
  refine y_nil ?_
  refine pw_seq ?_
  refine sr (by kernel_rfl) ?_
  refine y0 rfl (o_move (d := .int .i64 a0) rfl) ?_
  refine y0 rfl (o_cmp rfl rfl rfl) ?_
  refine y0 rfl (o_move (d := .bool (decide (a0 < 1))) rfl) ?_
  refine y_if (g := ((decide (a0 < 1)) == false)) rfl (fun hg => o_move (d := .int .i64 a0) rfl) ?_
  refine y_if (g := ((decide (a0 < 1)) == false)) rfl (fun hg => o_cmp (ct hg) rfl rfl) ?_
  refine y0 rfl (pk_or rfl rfl rfl (fun q => eqF q)) ?_
  refine y_nil ?_
  refine pw_cond ((decide (a0 < 1)) || (decide (a0 > 8))) rfl (fun hc => ?_) (fun hc => ?_)
  · have h := ifT h hc
    refine sr (by kernel_rfl) ?_
    refine y0 rfl (o_assign (d := .lst true (List.map r10_Place.Pv [])) rfl) ?_
    refine y_nil ?_
    refine pw_ret ?_
    obtain rfl := Option.some.inj h
    exact ⟨rfl, [_], ⟨rfl, trivial⟩, rfl, by first | exact .inl rfl | exact .inr rfl⟩
  · have h := ifF h hc
    refine pw_skip ?_
    refine sr (by kernel_rfl) ?_
    refine y0 rfl (o_move (d := .int .i64 a0) rfl) ?_
    obtain ⟨v1, hv1, h⟩ := bindE h
    refine y1 rfl (o_mk (f := r10_Place.Pv) hv1 rfl rfl rfl Ty.e25 Ty.s60 Ty.z60 Ty.b60 rfl rfl rfl rfl) rfl ?_
    refine y0 rfl (o_assign (d := .sl 10) rfl) ?_
    refine y_nil ?_
    refine pw_ret ?_
    obtain rfl := Option.some.inj h
    exact ⟨rfl, [_], ⟨rfl, trivial⟩, rfl, by first | exact .inl rfl | exact .inr rfl⟩

set_option maxHeartbeats 4000000 in
theorem w10_HashHomes_ok {a0 : Int} {a1 : Int} {a2 : List hash_Place} {r : Bool} (h : w10_HashHomes a0 a1 a2 = some r) : PCalls Try.prog 4 [.int .i64 a0, .int .i64 a1, .lst false (List.map hash_Place.Pv a2)] (.bool r) := by
  unfold w10_HashHomes at h
  refine pc_intro (N := 38) Try.func4 rfl rfl (Nat.le_of_ble_eq_true rfl) fun w0 imm0 => ?_
  refine sr (by kernel_rfl) ?_
  refine y0 rfl (o_assign (d := .bool false) rfl) ?_
  refine y_nil ?_
  refine pw_seq ?_
  refine sr (by kernel_rfl) ?_
  refine y0 rfl (o_move (d := .lst false (List.map hash_Place.Pv a2)) rfl) ?_
  refine y0 rfl (o_lnL (f := hash_Place.Pv) rfl Ty.e22) ?_
  refine y0 rfl (o_cmp rfl rfl rfl) ?_
  refine y0 rfl (o_move (d := .bool (decide ((a2.length : Int) > 20))) rfl) ?_
  obtain ⟨v1, hv1, h⟩ := bindE h
  refine y_if (g := ((decide ((a2.length : Int) > 20)) == false)) rfl (fun hg => o_call (ds := []) rfl Ty.k10 rfl (w10_shown_ok (onlyE hv1 hg))) ?_
  refine y_if (g := ((decide ((a2.length : Int) > 20)) == false)) rfl (fun hg => o_not (ct hg) rfl) ?_
  refine y0 rfl (pk_or rfl rfl rfl (fun q => eqF q)) ?_
  refine y_nil ?_
  refine pw_cond ((decide ((a2.length : Int) > 20)) || (!v1)) rfl (fun hc => ?_) (fun hc => ?_)
  · have h := ifT h hc
    refine sr (by kernel_rfl) ?_
    obtain ⟨v2, hv2, h⟩ := bindE h
    refine y0 rfl (o_call (ds := []) rfl Ty.k10 rfl (w10_shown_ok hv2)) ?_
    refine y0 rfl (o_assign (d := .bool v2) rfl) ?_
    refine y_nil ?_
    refine pw_ret ?_
    obtain rfl := Option.some.inj h
    exact ⟨rfl, [_], ⟨rfl, trivial⟩, rfl, by first | exact .inl rfl | exact .inr rfl⟩
  · have h := ifF h hc
    refine pw_skip ?_
    refine sr (by kernel_rfl) ?_
    refine y0 rfl (o_move (d := .int .i64 a0) rfl) ?_
    refine y0 rfl (o_move (d := .int .i64 a1) rfl) ?_
    obtain ⟨v3, hv3, h⟩ := bindE h
    refine y0 rfl (o_call (ds := [.int .i64 a0, .int .i64 a1]) rfl Ty.k24 rfl (hash_Home_ok hv3)) ?_
    refine y0 rfl (o_move (d := .int .i64 a0) rfl) ?_
    refine y0 rfl (o_move (d := .int .i64 a1) rfl) ?_
    obtain ⟨v4, hv4, h⟩ := bindE h
    refine y0 rfl (o_call (ds := [.int .i64 a0, .int .i64 a1]) rfl Ty.k25 rfl (r10_Home_ok hv4)) ?_
    refine y0 rfl (o_cmp rfl rfl rfl) ?_
    refine y0 rfl (o_move (d := .bool (v3 == v4)) rfl) ?_
    refine y_if (g := ((v3 == v4) == true)) rfl (fun hg => o_move (d := .int .i64 a0) rfl) ?_
    obtain ⟨v5, hv5, h⟩ := bindE h
    refine y_ifc (g := ((v3 == v4) == true)) rfl (fun hg => o_callF (ls := []) (ds := [.int .i64 a0]) rfl Ty.k26 (consE (ct hg) rfl) (hash_New_ok (onlyE hv5 hg))) ?_
    obtain ⟨v6, hv6, h⟩ := bindE h
    refine y_ifc (g := ((v3 == v4) == true)) rfl (fun hg => o_callF (ls := []) (ds := [.lst false (List.map hash_Place.Pv v5)]) rfl Ty.k11 (consE (ct hg) rfl) (w10_its_ok (onlyE hv6 hg))) ?_
    refine y_if (g := ((v3 == v4) == true)) rfl (fun hg => o_move (d := .int .i64 a0) rfl) ?_
    obtain ⟨v7, hv7, h⟩ := bindE h
    refine y_ifc (g := ((v3 == v4) == true)) rfl (fun hg => o_callF (ls := []) (ds := [.int .i64 a0]) rfl Ty.k27 (consE (ct hg) rfl) (r10_New_ok (onlyE hv7 hg))) ?_
    obtain ⟨v8, hv8, h⟩ := bindE h
    refine y_if (g := ((v3 == v4) == true)) rfl (fun hg => o_call (ds := [.lst false (List.map r10_Place.Pv v6), .lst false (List.map r10_Place.Pv v7)]) rfl Ty.k20 (consE (ct hg) (consE (ct hg) rfl)) (r10_Same_ok (onlyE hv8 hg))) ?_
    refine y0 rfl (pk_and rfl rfl rfl (fun q => eqT q)) ?_
    refine y0 rfl (o_move (d := .bool ((v3 == v4) && v8)) rfl) ?_
    refine y_if (g := (((v3 == v4) && v8) == true)) rfl (fun hg => o_move (d := .lst false (List.map hash_Place.Pv a2)) rfl) ?_
    obtain ⟨v9, hv9, h⟩ := bindE h
    refine y_if (g := (((v3 == v4) && v8) == true)) rfl (fun hg => o_call (ds := [.lst false (List.map hash_Place.Pv a2)]) rfl Ty.k28 (consE (ct hg) rfl) (hash_Right_ok (onlyE hv9 hg))) ?_
    refine y_if (g := (((v3 == v4) && v8) == true)) rfl (fun hg => o_move (d := .lst false (List.map hash_Place.Pv a2)) rfl) ?_
    obtain ⟨v10, hv10, h⟩ := bindE h
    refine y_ifc (g := (((v3 == v4) && v8) == true)) rfl (fun hg => o_callF (ls := []) (ds := [.lst false (List.map hash_Place.Pv a2)]) rfl Ty.k11 (consE (ct hg) rfl) (w10_its_ok (onlyE hv10 hg))) ?_
    obtain ⟨v11, hv11, h⟩ := bindE h
    refine y_if (g := (((v3 == v4) && v8) == true)) rfl (fun hg => o_call (ds := [.lst false (List.map r10_Place.Pv v10)]) rfl Ty.k29 (consE (ct hg) rfl) (r10_Right_ok (onlyE hv11 hg))) ?_
    refine y_if (g := (((v3 == v4) && v8) == true)) rfl (fun hg => o_eqB (ct hg) (ct hg) Ty.u4 rfl) ?_
    refine y0 rfl (pk_and rfl rfl rfl (fun q => eqT q)) ?_
    refine y0 rfl (o_assign (d := .bool (((v3 == v4) && v8) && (v9 == v11))) rfl) ?_
    refine y_nil ?_
    refine pw_ret ?_
    obtain rfl := Option.some.inj h
    exact ⟨rfl, [_], ⟨rfl, trivial⟩, rfl, by first | exact .inl rfl | exact .inr rfl⟩

set_option maxHeartbeats 4000000 in
theorem w10_HashStays_ok {a0 : List hash_Place} {a1 : List Int} {r : Bool} (h : w10_HashStays a0 a1 = some r) : PCalls Try.prog 5 [.lst false (List.map hash_Place.Pv a0), .lst false (List.map (PV.int .i64) a1)] (.bool r) := by
  unfold w10_HashStays at h
  refine pc_intro (N := 67) Try.func5 rfl rfl (Nat.le_of_ble_eq_true rfl) fun w0 imm0 => ?_
  refine sr (by kernel_rfl) ?_
  refine y0 rfl (o_assign (d := .bool false) rfl) ?_
  refine y_nil ?_
  refine pw_seq ?_
  refine sr (by kernel_rfl) ?_
  refine y0 rfl (o_move (d := .lst false (List.map hash_Place.Pv a0)) rfl) ?_
  obtain ⟨v1, hv1, h⟩ := bindE h
  refine y0 rfl (o_call (ds := [.lst false (List.map hash_Place.Pv a0)]) rfl Ty.k9 rfl (w10_right_ok hv1)) ?_
  refine y0 rfl (o_not rfl rfl) ?_
  refine y0 rfl (o_move (d := .bool (!v1)) rfl) ?_
  refine y_if (g := ((!v1) == false)) rfl (fun hg => o_move (d := .lst false (List.map (PV.int .i64) a1)) rfl) ?_
  refine y_if (g := ((!v1) == false)) rfl (fun hg => o_lnL (f := (PV.int .i64)) (ct hg) Ty.e43) ?_
  refine y_if (g := ((!v1) == false)) rfl (fun hg => o_cmp (ct hg) rfl rfl) ?_
  refine y0 rfl (pk_or rfl rfl rfl (fun q => eqF q)) ?_
  refine y0 rfl (o_move (d := .bool ((!v1) || (decide ((a1.length : Int) > 60)))) rfl) ?_
  obtain ⟨v2, hv2, h⟩ := bindE h
  refine y_if (g := (((!v1) || (decide ((a1.length : Int) > 60))) == false)) rfl (fun hg => o_call (ds := []) rfl Ty.k10 rfl (w10_shown_ok (onlyE hv2 hg))) ?_
  refine y_if (g := (((!v1) || (decide ((a1.length : Int) > 60))) == false)) rfl (fun hg => o_not (ct hg) rfl) ?_
  refine y0 rfl (pk_or rfl rfl rfl (fun q => eqF q)) ?_
  refine y_nil ?_
  refine pw_cond (((!v1) || (decide ((a1.length : Int) > 60))) || (!v2)) rfl (fun hc => ?_) (fun hc => ?_)
  · have h := ifT h hc
    refine sr (by kernel_rfl) ?_
    obtain ⟨v3, hv3, h⟩ := bindE h
    refine y0 rfl (o_call (ds := []) rfl Ty.k10 rfl (w10_shown_ok hv3)) ?_
    refine y0 rfl (o_assign (d := .bool v3) rfl) ?_
    refine y_nil ?_
    refine pw_ret ?_
    obtain rfl := Option.some.inj h
    exact ⟨rfl, [_], ⟨rfl, trivial⟩, rfl, by first | exact .inl rfl | exact .inr rfl⟩
  · have h := ifF h hc
    refine pw_skip ?_
    obtain ⟨κ24, hκ21, h⟩ := jnE h
    refine pw_jn0 (κ := κ24) (r := r) (fun (_ : Unit) => St.of [] []) (fun q25 h => ?_) ?_
    · subst hκ21
      refine sr (by kernel_rfl) ?_
      refine y0 rfl (o_assign (d := .bool true) rfl) ?_
      refine y_nil ?_
      refine pw_ret ?_
      obtain rfl := Option.some.inj h
      exact ⟨rfl, [_], ⟨rfl, trivial⟩, rfl, by first | exact .inl rfl | exact .inr rfl⟩
    · skip
      refine sr (by kernel_rfl) ?_
      refine y0 rfl (o_assign (d := .int .i64 0) rfl) ?_
      refine y_nil ?_
      refine pw_block ?_
      obtain ⟨e26, hl22, hk23⟩ := bindE h
      refine pw_lp0 (fun (q : (List hash_Place) × Int) => St.of [(0, .lst false (List.map hash_Place.Pv q.1)), (1, .lst false (List.map (PV.int .i64) a1)), (5, .int .i64 q.2)] []) hl22 (wk_st _ _ ⟨rfl, rfl, rfl, rfl, rfl, rfl, rfl, rfl, rfl, trivial⟩ trivial) (fun q30 x29 h hx24 => ?_)
      obtain ⟨s27, s28⟩ := q30
      refine pw_seq ?_
      refine sr (by kernel_rfl) ?_
      refine y0 rfl (o_move (d := .int .i64 s28) rfl) ?_
      refine y0 rfl (o_ari rfl rfl rfl) ?_
      refine y0 rfl (o_move (d := .lst false (List.map (PV.int .i64) a1)) rfl) ?_
      refine y0 rfl (o_lnL (f := (PV.int .i64)) rfl Ty.e43) ?_
      refine y0 rfl (o_cmp rfl rfl rfl) ?_
      refine y_nil ?_
      refine pw_cond (decide ((w64 (s28 + 1)) < (a1.length : Int))) rfl (fun hc => ?_) (fun hc => ?_)
      · have h := ifT h hc
        refine pw_skip ?_
        refine pw_seq ?_
        refine pw_block ?_
        obtain ⟨κ37, hκ31, h⟩ := jnE h
        refine pw_jn0 (κ := κ37) (r := x29) (fun (j38 : List hash_Place) => St.of [(0, .lst false (List.map hash_Place.Pv j38)), (1, .lst false (List.map (PV.int .i64) a1)), (5, .int .i64 s28)] []) (fun j38 h => ?_) ?_
        · subst hκ31
          refine sr (by kernel_rfl) ?_
          refine y0 rfl (o_move (d := .lst false (List.map hash_Place.Pv j38)) rfl) ?_
          obtain ⟨v39, hv32, h⟩ := bindE h
          refine y0 rfl (o_call (ds := [.lst false (List.map hash_Place.Pv j38)]) rfl Ty.k9 rfl (w10_right_ok hv32)) ?_
          refine y0 rfl (o_not rfl rfl) ?_
          refine y_nil ?_
          refine pw_cond (!v39) rfl (fun hc => ?_) (fun hc => ?_)
          · have h := ifT h hc
            refine sr (by kernel_rfl) ?_
            refine y0 rfl (o_assign (d := .bool false) rfl) ?_
            refine y_nil ?_
            refine pw_ret ?_
            have he := hx24 _ (Option.some.inj h).symm
            have h := hk23
            rw [← he] at h
            obtain rfl := Option.some.inj h
            exact ⟨rfl, [_], ⟨rfl, trivial⟩, rfl, by first | exact .inl rfl | exact .inr rfl⟩
          · have h := ifF h hc
            refine pw_skip ?_
            refine sr1 (by kernel_rfl) ?_
            refine y0 rfl (o_move (d := .int .i64 s28) rfl) ?_
            refine y0 rfl (o_ari rfl rfl rfl) ?_
            refine y0 rfl (o_assign (d := .int .i64 (w64 (s28 + 2))) rfl) ?_
            refine y_nil ?_
            exact ⟨rfl, (j38, w64 (s28 + 2)), (Option.some.inj h).symm, (wk_st _ _ ⟨rfl, rfl, rfl, rfl, rfl, rfl, rfl, rfl, rfl, trivial⟩ trivial)⟩
        · skip
          refine sr (by kernel_rfl) ?_
          refine y0 rfl (o_move (d := .lst false (List.map (PV.int .i64) a1)) rfl) ?_
          refine y0 rfl (o_move (d := .int .i64 s28) rfl) ?_
          obtain ⟨v40, hv33, h⟩ := bindE h
          refine y0 rfl (o_ixL (f := (PV.int .i64)) (cs := [.int .i64 v40]) hv33 rfl rfl Ty.e43 Ty.s3 rfl rfl) ?_
          refine y0 rfl (o_loadRS rfl Ty.a3 rfl) ?_
          obtain ⟨v41, hv34, h⟩ := bindE h
          refine y0 rfl (o_ari rfl rfl hv34) ?_
          refine y0 rfl (o_cmp rfl rfl rfl) ?_
          refine y_nil ?_
          refine pw_cond (v41 == 0) rfl (fun hc => ?_) (fun hc => ?_)
          · have h := ifT h hc
            refine sr (by kernel_rfl) ?_
            refine y0 rfl (o_move (d := .lst false (List.map hash_Place.Pv s27)) rfl) ?_
            refine y0 rfl (o_move (d := .lst false (List.map (PV.int .i64) a1)) rfl) ?_
            refine y0 rfl (o_move (d := .int .i64 s28) rfl) ?_
            refine y0 rfl (o_ari rfl rfl rfl) ?_
            obtain ⟨v42, hv35, h⟩ := bindE h
            refine y0 rfl (o_ixL (f := (PV.int .i64)) (cs := [.int .i64 v42]) hv35 rfl rfl Ty.e43 Ty.s3 rfl rfl) ?_
            refine y0 rfl (o_loadRS rfl Ty.a3 rfl) ?_
            obtain ⟨v43, hv36, h⟩ := bindE h
            refine yc rfl (o_callF (ls := []) (ds := [.lst false (List.map hash_Place.Pv s27), .int .i64 v42]) rfl Ty.k16 rfl (hash_Drop_ok hv36)) ?_
            refine y0 rfl (o_move (d := .tup [.lst false (List.map hash_Place.Pv v43.1), .int .i64 v43.2.1, .int .i64 v43.2.2]) rfl) ?_
            refine y0 rfl (o_extract rfl rfl) ?_
            refine y0 rfl (o_extract rfl rfl) ?_
            refine y0 rfl (o_extract rfl rfl) ?_
            refine y0 rfl (o_assign (d := .lst false (List.map hash_Place.Pv v43.1)) rfl) ?_
            refine y0 rfl (o_assign (d := .int .i64 v43.2.1) rfl) ?_
            refine y0 rfl (o_assign (d := .int .i64 v43.2.2) rfl) ?_
            refine y_nil ?_
            refine sr1 (by kernel_rfl) ?_
            refine y0 rfl (o_move (d := .lst false (List.map hash_Place.Pv v43.1)) rfl) ?_
            refine y0 rfl (o_assign (d := .lst false (List.map hash_Place.Pv v43.1)) rfl) ?_
            refine y_nil ?_
            exact ⟨rfl, v43.1, h, (wk_st _ _ ⟨rfl, rfl, rfl, rfl, rfl, rfl, rfl, rfl, rfl, trivial⟩ trivial)⟩
          · have h := ifF h hc
            refine dr [] Ty.mix (by kernel_rfl) (by kernel_rfl) ?_
            refine d7 rfl (fun _ hN => o_move (d := .lst false (List.map hash_Place.Pv s27)) rfl) rfl ?_
            refine d7 rfl (fun _ hN => o_move (d := .lst false (List.map (PV.int .i64) a1)) rfl) rfl ?_
            refine d7 rfl (fun _ hN => o_move (d := .int .i64 s28) rfl) rfl ?_
            refine d7 rfl (fun _ hN => o_ari rfl rfl rfl) rfl ?_
            obtain ⟨v44, hv37, h⟩ := bindE h
            refine d0 rfl (o_ixL (f := (PV.int .i64)) (cs := [.int .i64 v44]) hv37 rfl rfl Ty.e43 Ty.s3 rfl rfl) rfl ?_
            refine d0 rfl (o_loadRS rfl Ty.a3 rfl) rfl ?_
            refine d7 rfl (fun _ hN => o_move (d := .lst false (List.map (PV.int .i64) a1)) rfl) rfl ?_
            refine d7 rfl (fun _ hN => o_move (d := .int .i64 s28) rfl) rfl ?_
            refine d0 rfl (o_ixL (f := (PV.int .i64)) (cs := [.int .i64 v40]) hv33 rfl rfl Ty.e43 Ty.s3 rfl rfl) rfl ?_
            refine d0 rfl (o_loadRS rfl Ty.a3 rfl) rfl ?_
            obtain ⟨v45, hv38, h⟩ := bindE h
            refine d2f rfl (o_callF (ls := []) (ds := [.lst false (List.map hash_Place.Pv s27), .int .i64 v44, .int .i64 v40]) rfl Ty.k14 rfl (hash_Put_ok hv38)) rfl ?_
            refine d7 rfl (fun _ hN => o_move (d := .tup [.lst false (List.map hash_Place.Pv v45.1), .int .i64 v45.2]) rfl) rfl ?_
            refine d7 rfl (fun _ hN => o_extract rfl rfl) rfl ?_
            refine d7 rfl (fun _ hN => o_extract rfl rfl) rfl ?_
            refine d7 rfl (fun _ hN => o_assign (d := .lst false (List.map hash_Place.Pv v45.1)) rfl) rfl ?_
            refine d7 rfl (fun _ hN => o_assign (d := .int .i64 v45.2) rfl) rfl ?_
            refine d_nil ?_
            refine sr1 (by kernel_rfl) ?_
            refine y0 rfl (o_move (d := .lst false (List.map hash_Place.Pv v45.1)) rfl) ?_
            refine y0 rfl (o_assign (d := .lst false (List.map hash_Place.Pv v45.1)) rfl) ?_
            refine y_nil ?_
            exact ⟨rfl, v45.1, h, (wk_st _ _ ⟨rfl, rfl, rfl, rfl, rfl, rfl, rfl, rfl, rfl, trivial⟩ trivial)⟩
      · have h := ifF h hc
        refine pw_exit ?_
        refine thenQ_exit ?_
        refine thenQ_exit ?_
        refine blockQ_exit ?_
        have he := hx24 _ (Option.some.inj h).symm
        have h := hk23
        rw [← he] at h
        exact ⟨rfl, (), h, (wk_st _ _ trivial trivial)⟩

set_option maxHeartbeats 4000000 in
theorem w10_HashMaps_ok {a0 : List Int} {r : Bool} (h : w10_HashMaps a0 = some r) : PCalls Try.prog 6 [.lst false (List.map (PV.int .i64) a0)] (.bool r) := by
  unfold w10_HashMaps at h
  refine pc_intro (N := 147) Try.func6 rfl rfl (Nat.le_of_ble_eq_true rfl) fun w0 imm0 => ?_
  refine sr (by kernel_rfl) ?_
  refine y0 rfl (o_assign (d := .bool false) rfl) ?_
  refine y_nil ?_
  refine pw_seq ?_
  refine sr (by kernel_rfl) ?_
  refine y0 rfl (o_move (d := .lst false (List.map (PV.int .i64) a0)) rfl) ?_
  refine y0 rfl (o_lnL (f := (PV.int .i64)) rfl Ty.e43) ?_
  refine y0 rfl (o_cmp rfl rfl rfl) ?_
  refine y0 rfl (o_move (d := .bool (decide ((a0.length : Int) > 60))) rfl) ?_
  obtain ⟨v1, hv1, h⟩ := bindE h
  refine y_if (g := ((decide ((a0.length : Int) > 60)) == false)) rfl (fun hg => o_call (ds := []) rfl Ty.k10 rfl (w10_shown_ok (onlyE hv1 hg))) ?_
  refine y_if (g := ((decide ((a0.length : Int) > 60)) == false)) rfl (fun hg => o_not (ct hg) rfl) ?_
  refine y0 rfl (pk_or rfl rfl rfl (fun q => eqF q)) ?_
  refine y_nil ?_
  refine pw_cond ((decide ((a0.length : Int) > 60)) || (!v1)) rfl (fun hc => ?_) (fun hc => ?_)
  · have h := ifT h hc
    refine sr (by kernel_rfl) ?_
    obtain ⟨v2, hv2, h⟩ := bindE h
    refine y0 rfl (o_call (ds := []) rfl Ty.k10 rfl (w10_shown_ok hv2)) ?_
    refine y0 rfl (o_assign (d := .bool v2) rfl) ?_
    refine y_nil ?_
    refine pw_ret ?_
    obtain rfl := Option.some.inj h
    exact ⟨rfl, [_], ⟨rfl, trivial⟩, rfl, by first | exact .inl rfl | exact .inr rfl⟩
  · have h := ifF h hc
    refine pw_skip ?_
    refine sr (by kernel_rfl) ?_
    obtain ⟨v3, hv3, h⟩ := bindE h
    refine yc rfl (o_callF (ls := []) (ds := [.int .i64 8]) rfl Ty.k26 rfl (hash_New_ok hv3)) ?_
    refine y0 rfl (o_assign (d := .lst false (List.map hash_Place.Pv v3)) rfl) ?_
    refine y_nil ?_
    refine sr (by kernel_rfl) ?_
    refine y_mkM (KT := Int) (VT := Int) (EK := (PV.int .i64)) (E := (PV.int .i64)) 5000028 rfl rfl ?_
    refine y0 rfl (o_assign (d := .mp 5000028) rfl) ?_
    refine y_nil ?_
    obtain ⟨κ82, hκ68, h⟩ := jnE h
    refine pw_jn0 (κ := κ82) (r := r) (fun (_ : Unit) => St.of [] []) (fun q83 h => ?_) ?_
    · subst hκ68
      refine sr (by kernel_rfl) ?_
      refine y0 rfl (o_assign (d := .bool true) rfl) ?_
      refine y_nil ?_
      refine pw_ret ?_
      obtain rfl := Option.some.inj h
      exact ⟨rfl, [_], ⟨rfl, trivial⟩, rfl, by first | exact .inl rfl | exact .inr rfl⟩
    · skip
      refine sr (by kernel_rfl) ?_
      refine y0 rfl (o_assign (d := .int .i64 0) rfl) ?_
      refine y_nil ?_
      refine pw_block ?_
      obtain ⟨e84, hl69, hk70⟩ := bindE h
      refine pw_lp0 (fun (q : (List hash_Place) × Int × (List (Int × Int))) => St.of [(0, .lst false (List.map (PV.int .i64) a0)), (3, .lst false (List.map hash_Place.Pv q.1)), (4, .mp 5000028), (5, .int .i64 q.2.1)] [(5000028, ⟨[.mapc (List.map (ent (PV.int .i64) (PV.int .i64)) q.2.2)], 0, false, 0, false⟩)]) hl69 (wk_st _ _ ⟨rfl, rfl, rfl, rfl, rfl, rfl, rfl, rfl, rfl, rfl, rfl, rfl, trivial⟩ ⟨rowLe_open rfl rfl rfl (fun q => nomatch q) rfl rfl rfl rfl, trivial⟩) (fun q89 x88 h hx71 => ?_)
      obtain ⟨s85, s86, s87⟩ := q89
      refine pw_seq ?_
      refine sr (by kernel_rfl) ?_
      refine y0 rfl (o_move (d := .int .i64 s86) rfl) ?_
      refine y0 rfl (o_ari rfl rfl rfl) ?_
      refine y0 rfl (o_move (d := .lst false (List.map (PV.int .i64) a0)) rfl) ?_
      refine y0 rfl (o_lnL (f := (PV.int .i64)) rfl Ty.e43) ?_
      refine y0 rfl (o_cmp rfl rfl rfl) ?_
      refine y_nil ?_
      refine pw_cond (decide ((w64 (s86 + 1)) < (a0.length : Int))) rfl (fun hc => ?_) (fun hc => ?_)
      · have h := ifT h hc
        refine pw_skip ?_
        obtain ⟨κ124, hκ102, h⟩ := jnE h
        refine pw_jn0 (κ := κ124) (r := x88) (fun (q : (List hash_Place) × (List (Int × Int))) => St.of [(0, .lst false (List.map (PV.int .i64) a0)), (3, .lst false (List.map hash_Place.Pv q.1)), (4, .mp 5000028), (5, .int .i64 s86)] [(5000028, ⟨[.mapc (List.map (ent (PV.int .i64) (PV.int .i64)) q.2)], 0, false, 0, false⟩)]) (fun q127 h => ?_) ?_
        · subst hκ102
          obtain ⟨j125, j126⟩ := q127
          refine sr1 (by kernel_rfl) ?_
          refine y0 rfl (o_move (d := .int .i64 s86) rfl) ?_
          refine y0 rfl (o_ari rfl rfl rfl) ?_
          refine y0 rfl (o_assign (d := .int .i64 (w64 (s86 + 2))) rfl) ?_
          refine y_nil ?_
          exact ⟨rfl, (j125, w64 (s86 + 2), j126), (Option.some.inj h).symm, (wk_st _ _ ⟨rfl, rfl, rfl, rfl, rfl, rfl, rfl, rfl, rfl, rfl, rfl, rfl, trivial⟩ ⟨rowLe_open rfl rfl rfl (fun q => nomatch q) rfl rfl rfl rfl, trivial⟩)⟩
        · skip
          refine pw_block ?_
          refine sr (by kernel_rfl) ?_
          refine y0 rfl (o_move (d := .lst false (List.map (PV.int .i64) a0)) rfl) ?_
          refine y0 rfl (o_move (d := .int .i64 s86) rfl) ?_
          refine y0 rfl (o_ari rfl rfl rfl) ?_
          obtain ⟨v128, hv103, h⟩ := bindE h
          refine y0 rfl (o_ixL (f := (PV.int .i64)) (cs := [.int .i64 v128]) hv103 rfl rfl Ty.e43 Ty.s3 rfl rfl) ?_
          refine y0 rfl (o_loadRS rfl Ty.a3 rfl) ?_
          refine y0 rfl (o_assign (d := .int .i64 v128) rfl) ?_
          refine y_nil ?_
          refine sr (by kernel_rfl) ?_
          refine y0 rfl (o_move (d := .mp 5000028) rfl) ?_
          refine y0 rfl (o_move (d := .int .i64 v128) rfl) ?_
          refine y_lkM (es := s87) (k := v128) (E := (PV.int .i64)) (EK := (PV.int .i64)) (d := .tup [.int .i64 ((mget s87 v128).getD (0 : Int)), .bool ((mget s87 v128).isSome)]) rfl rfl rfl rfl Ty.mm53 (keyT_int Ty.u3) Ty.z3 rfl (lk2 _ _ _) ?_
          refine y0 rfl (o_move (d := .tup [.int .i64 ((mget s87 v128).getD (0 : Int)), .bool ((mget s87 v128).isSome)]) rfl) ?_
          refine y0 rfl (o_extract rfl rfl) ?_
          refine y0 rfl (o_extract rfl rfl) ?_
          refine y0 rfl (o_assign (d := .int .i64 ((mget s87 v128).getD (0 : Int))) rfl) ?_
          refine y0 rfl (o_assign (d := .bool ((mget s87 v128).isSome)) rfl) ?_
          refine y_nil ?_
          obtain ⟨κ137, hκ112, h⟩ := jnE h
          refine pw_jn0 (κ := κ137) (r := x88) (fun (q : (List hash_Place) × (List (Int × Int))) => St.of [(0, .lst false (List.map (PV.int .i64) a0)), (3, .lst false (List.map hash_Place.Pv q.1)), (4, .mp 5000028), (5, .int .i64 s86)] [(5000028, ⟨[.mapc (List.map (ent (PV.int .i64) (PV.int .i64)) q.2)], 0, false, 0, false⟩)]) (fun q140 h => ?_) ?_
          · subst hκ112
            obtain ⟨j138, j139⟩ := q140
            obtain ⟨κ146, hκ118, h⟩ := jnE h
            refine pw_jn0 (κ := κ146) (r := x88) (fun (_ : Unit) => St.of [(0, .lst false (List.map (PV.int .i64) a0)), (3, .lst false (List.map hash_Place.Pv j138)), (4, .mp 5000028), (5, .int .i64 s86)] [(5000028, ⟨[.mapc (List.map (ent (PV.int .i64) (PV.int .i64)) j139)], 0, false, 0, false⟩)]) (fun q147 h => ?_) ?_
            · subst hκ118
              refine sr (by kernel_rfl) ?_
              refine y0 rfl (o_move (d := .lst false (List.map hash_Place.Pv j138)) rfl) ?_
              obtain ⟨v148, hv119, h⟩ := bindE h
              refine yc rfl (o_callF (ls := []) (ds := [.lst false (List.map hash_Place.Pv j138)]) rfl Ty.k22 rfl (hash_Keys_ok hv119)) ?_
              refine y0 rfl (o_lnL (f := (PV.int .i64)) rfl Ty.e43) ?_
              refine y0 rfl (o_move (d := .mp 5000028) rfl) ?_
              refine y_lnM rfl rfl rfl rfl Ty.mm53 ?_
              refine y0 rfl (o_cmp rfl rfl rfl) ?_
              refine y_nil ?_
              refine pw_cond ((v148.length : Int) != (j139.length : Int)) rfl (fun hc => ?_) (fun hc => ?_)
              · have h := ifT h hc
                refine sr (by kernel_rfl) ?_
                refine y0 rfl (o_assign (d := .bool false) rfl) ?_
                refine y_nil ?_
                refine pw_ret ?_
                have he := hx71 _ (Option.some.inj h).symm
                have h := hk70
                rw [← he] at h
                obtain rfl := Option.some.inj h
                exact ⟨rfl, [_], ⟨rfl, trivial⟩, rfl, by first | exact .inl rfl | exact .inr rfl⟩
              · have h := ifF h hc
                refine pw_skip ?_
                exact ⟨rfl, (j138, j139), h, (wk_st _ _ ⟨rfl, rfl, rfl, rfl, rfl, rfl, rfl, rfl, rfl, rfl, rfl, rfl, trivial⟩ ⟨rowLe_open rfl rfl rfl (fun q => nomatch q) rfl rfl rfl rfl, trivial⟩)⟩
            · skip
              refine sr (by kernel_rfl) ?_
              refine y0 rfl (o_assign (d := .int .i64 1) rfl) ?_
              refine y_nil ?_
              refine pw_block ?_
              obtain ⟨e149, hl120, hk121⟩ := bindE h
              refine pw_lp0 (fun (s150 : Int) => St.of [(0, .lst false (List.map (PV.int .i64) a0)), (3, .lst false (List.map hash_Place.Pv j138)), (4, .mp 5000028), (5, .int .i64 s86), (14, .int .i64 s150)] [(5000028, ⟨[.mapc (List.map (ent (PV.int .i64) (PV.int .i64)) j139)], 0, false, 0, false⟩)]) hl120 (wk_st _ _ ⟨rfl, rfl, rfl, rfl, rfl, rfl, rfl, rfl, rfl, rfl, rfl, rfl, rfl, rfl, rfl, trivial⟩ ⟨rowLe_open rfl rfl rfl (fun q => nomatch q) rfl rfl rfl rfl, trivial⟩) (fun s150 x151 h hx122 => ?_)
              refine pw_seq ?_
              refine sr (by kernel_rfl) ?_
              refine y0 rfl (o_move (d := .int .i64 s150) rfl) ?_
              refine y0 rfl (o_move (d := .int .i64 s86) rfl) ?_
              refine y0 rfl (o_ari rfl rfl rfl) ?_
              refine y0 rfl (o_cmp rfl rfl rfl) ?_
              refine y_nil ?_
              refine pw_cond (decide (s150 ≤ (w64 (s86 + 1)))) rfl (fun hc => ?_) (fun hc => ?_)
              · have h := ifT h hc
                refine pw_skip ?_
                refine pw_seq ?_
                refine pw_block ?_
                refine sr (by kernel_rfl) ?_
                refine y0 rfl (o_move (d := .lst false (List.map hash_Place.Pv j138)) rfl) ?_
                refine y0 rfl (o_move (d := .lst false (List.map (PV.int .i64) a0)) rfl) ?_
                refine y0 rfl (o_move (d := .int .i64 s150) rfl) ?_
                obtain ⟨v152, hv123, h⟩ := bindE h
                refine y0 rfl (o_ixL (f := (PV.int .i64)) (cs := [.int .i64 v152]) hv123 rfl rfl Ty.e43 Ty.s3 rfl rfl) ?_
                refine y0 rfl (o_loadRS rfl Ty.a3 rfl) ?_
                obtain ⟨v153, hv124, h⟩ := bindE h
                refine y0 rfl (o_call (ds := [.lst false (List.map hash_Place.Pv j138), .int .i64 v152]) rfl Ty.k12 rfl (hash_Get_ok hv124)) ?_
                refine y0 rfl (o_move (d := .tup [.int .i64 v153.1, .int .i64 v153.2]) rfl) ?_
                refine y0 rfl (o_extract rfl rfl) ?_
                refine y0 rfl (o_extract rfl rfl) ?_
                refine y0 rfl (o_assign (d := .int .i64 v153.1) rfl) ?_
                refine y0 rfl (o_assign (d := .int .i64 v153.2) rfl) ?_
                refine y_nil ?_
                refine sr (by kernel_rfl) ?_
                refine y0 rfl (o_move (d := .mp 5000028) rfl) ?_
                refine y0 rfl (o_move (d := .lst false (List.map (PV.int .i64) a0)) rfl) ?_
                refine y0 rfl (o_move (d := .int .i64 s150) rfl) ?_
                refine y0 rfl (o_ixL (f := (PV.int .i64)) (cs := [.int .i64 v152]) hv123 rfl rfl Ty.e43 Ty.s3 rfl rfl) ?_
                refine y0 rfl (o_loadRS rfl Ty.a3 rfl) ?_
                refine y_lkM (es := j139) (k := v152) (E := (PV.int .i64)) (EK := (PV.int .i64)) (d := .tup [.int .i64 ((mget j139 v152).getD (0 : Int)), .bool ((mget j139 v152).isSome)]) rfl rfl rfl rfl Ty.mm53 (keyT_int Ty.u3) Ty.z3 rfl (lk2 _ _ _) ?_
                refine y0 rfl (o_move (d := .tup [.int .i64 ((mget j139 v152).getD (0 : Int)), .bool ((mget j139 v152).isSome)]) rfl) ?_
                refine y0 rfl (o_extract rfl rfl) ?_
                refine y0 rfl (o_extract rfl rfl) ?_
                refine y0 rfl (o_assign (d := .int .i64 ((mget j139 v152).getD (0 : Int))) rfl) ?_
                refine y0 rfl (o_assign (d := .bool ((mget j139 v152).isSome)) rfl) ?_
                refine y_nil ?_
                refine sr (by kernel_rfl) ?_
                refine y0 rfl (o_move (d := .int .i64 v153.2) rfl) ?_
                refine y0 rfl (o_cmp rfl rfl rfl) ?_
                refine y0 rfl (o_move (d := .bool ((mget j139 v152).isSome)) rfl) ?_
                refine y0 rfl (o_neB rfl rfl Ty.u4 rfl) ?_
                refine y0 rfl (o_move (d := .bool ((v153.2 == 0) != ((mget j139 v152).isSome))) rfl) ?_
                refine y_if (g := (((v153.2 == 0) != ((mget j139 v152).isSome)) == false)) rfl (fun hg => o_move (d := .bool ((mget j139 v152).isSome)) rfl) ?_
                refine y_if (g := (((v153.2 == 0) != ((mget j139 v152).isSome)) == false)) rfl (fun hg => o_move (d := .bool ((mget j139 v152).isSome)) (ct hg)) ?_
                refine y_if (g := ((((v153.2 == 0) != ((mget j139 v152).isSome)) == false) && ((mget j139 v152).isSome == true))) (want2 rfl rfl rfl) (fun hg => o_move (d := .int .i64 v153.1) rfl) ?_
                refine y_if (g := ((((v153.2 == 0) != ((mget j139 v152).isSome)) == false) && ((mget j139 v152).isSome == true))) (want2 rfl rfl rfl) (fun hg => o_move (d := .int .i64 ((mget j139 v152).getD (0 : Int))) rfl) ?_
                refine y_if (g := ((((v153.2 == 0) != ((mget j139 v152).isSome)) == false) && ((mget j139 v152).isSome == true))) (want2 rfl rfl rfl) (fun hg => o_cmp (ct hg) (ct hg) rfl) ?_
                refine y_if (g := (((v153.2 == 0) != ((mget j139 v152).isSome)) == false)) rfl (fun hg => pk_and (ct hg) rfl rfl (fun q => andI hg (eqT q))) ?_
                refine y0 rfl (pk_or rfl rfl rfl (fun q => eqF q)) ?_
                refine y_nil ?_
                refine pw_cond (((v153.2 == 0) != ((mget j139 v152).isSome)) || ((mget j139 v152).isSome && (v153.1 != ((mget j139 v152).getD (0 : Int))))) rfl (fun hc => ?_) (fun hc => ?_)
                · have h := ifT h hc
                  refine sr (by kernel_rfl) ?_
                  refine y0 rfl (o_assign (d := .bool false) rfl) ?_
                  refine y_nil ?_
                  refine pw_ret ?_
                  have he := hx122 _ (Option.some.inj h).symm
                  have h := hk121
                  rw [← he] at h
                  have he := hx71 _ (Option.some.inj h).symm
                  have h := hk70
                  rw [← he] at h
                  obtain rfl := Option.some.inj h
                  exact ⟨rfl, [_], ⟨rfl, trivial⟩, rfl, by first | exact .inl rfl | exact .inr rfl⟩
                · have h := ifF h hc
                  refine pw_skip ?_
                  refine sr1 (by kernel_rfl) ?_
                  refine y0 rfl (o_move (d := .int .i64 s150) rfl) ?_
                  refine y0 rfl (o_ari rfl rfl rfl) ?_
                  refine y0 rfl (o_assign (d := .int .i64 (w64 (s150 + 2))) rfl) ?_
                  refine y_nil ?_
                  exact ⟨rfl, w64 (s150 + 2), (Option.some.inj h).symm, (wk_st _ _ ⟨rfl, rfl, rfl, rfl, rfl, rfl, rfl, rfl, rfl, rfl, rfl, rfl, rfl, rfl, rfl, trivial⟩ ⟨rowLe_open rfl rfl rfl (fun q => nomatch q) rfl rfl rfl rfl, trivial⟩)⟩
              · have h := ifF h hc
                refine pw_exit ?_
                refine thenQ_exit ?_
                refine thenQ_exit ?_
                refine blockQ_exit ?_
                have he := hx122 _ (Option.some.inj h).symm
                have h := hk121
                rw [← he] at h
                exact ⟨rfl, (), h, (wk_st _ _ ⟨rfl, rfl, rfl, rfl, rfl, rfl, rfl, rfl, rfl, rfl, rfl, rfl, trivial⟩ ⟨rowLe_open rfl rfl rfl (fun q => nomatch q) rfl rfl rfl rfl, trivial⟩)⟩
          · skip
            refine sr (by kernel_rfl) ?_
            refine y0 rfl (o_move (d := .lst false (List.map (PV.int .i64) a0)) rfl) ?_
            refine y0 rfl (o_move (d := .int .i64 s86) rfl) ?_
            obtain ⟨v154, hv125, h⟩ := bindE h
            refine y0 rfl (o_ixL (f := (PV.int .i64)) (cs := [.int .i64 v154]) hv125 rfl rfl Ty.e43 Ty.s3 rfl rfl) ?_
            refine y0 rfl (o_loadRS rfl Ty.a3 rfl) ?_
            obtain ⟨v155, hv126, h⟩ := bindE h
            refine y0 rfl (o_ari rfl rfl hv126) ?_
            refine y0 rfl (o_cmp rfl rfl rfl) ?_
            refine y_nil ?_
            refine pw_cond (v155 == 0) rfl (fun hc => ?_) (fun hc => ?_)
            · have h := ifT h hc
              refine sr (by kernel_rfl) ?_
              refine y0 rfl (o_move (d := .lst false (List.map hash_Place.Pv s85)) rfl) ?_
              refine y0 rfl (o_move (d := .int .i64 v128) rfl) ?_
              obtain ⟨v156, hv127, h⟩ := bindE h
              refine yc rfl (o_callF (ls := []) (ds := [.lst false (List.map hash_Place.Pv s85), .int .i64 v128]) rfl Ty.k16 rfl (hash_Drop_ok hv127)) ?_
              refine y0 rfl (o_move (d := .tup [.lst false (List.map hash_Place.Pv v156.1), .int .i64 v156.2.1, .int .i64 v156.2.2]) rfl) ?_
              refine y0 rfl (o_extract rfl rfl) ?_
              refine y0 rfl (o_extract rfl rfl) ?_
              refine y0 rfl (o_extract rfl rfl) ?_
              refine y0 rfl (o_assign (d := .lst false (List.map hash_Place.Pv v156.1)) rfl) ?_
              refine y0 rfl (o_assign (d := .int .i64 v156.2.1) rfl) ?_
              refine y0 rfl (o_assign (d := .int .i64 v156.2.2) rfl) ?_
              refine y_nil ?_
              refine pw_seq ?_
              refine sr (by kernel_rfl) ?_
              refine y0 rfl (o_move (d := .int .i64 v156.2.2) rfl) ?_
              refine y0 rfl (o_cmp rfl rfl rfl) ?_
              refine y0 rfl (o_move (d := .bool ((mget s87 v128).isSome)) rfl) ?_
              refine y0 rfl (o_neB rfl rfl Ty.u4 rfl) ?_
              refine y0 rfl (o_move (d := .bool ((v156.2.2 == 0) != ((mget s87 v128).isSome))) rfl) ?_
              refine y_if (g := (((v156.2.2 == 0) != ((mget s87 v128).isSome)) == false)) rfl (fun hg => o_move (d := .bool ((mget s87 v128).isSome)) rfl) ?_
              refine y_if (g := (((v156.2.2 == 0) != ((mget s87 v128).isSome)) == false)) rfl (fun hg => o_move (d := .bool ((mget s87 v128).isSome)) (ct hg)) ?_
              refine y_if (g := ((((v156.2.2 == 0) != ((mget s87 v128).isSome)) == false) && ((mget s87 v128).isSome == true))) (want2 rfl rfl rfl) (fun hg => o_move (d := .int .i64 v156.2.1) rfl) ?_
              refine y_if (g := ((((v156.2.2 == 0) != ((mget s87 v128).isSome)) == false) && ((mget s87 v128).isSome == true))) (want2 rfl rfl rfl) (fun hg => o_move (d := .mp 5000028) rfl) ?_
              refine y_if (g := ((((v156.2.2 == 0) != ((mget s87 v128).isSome)) == false) && ((mget s87 v128).isSome == true))) (want2 rfl rfl rfl) (fun hg => o_move (d := .int .i64 v128) rfl) ?_
              rcases Bool.eq_false_or_eq_true ((((v156.2.2 == 0) != ((mget s87 v128).isSome)) == false) && ((mget s87 v128).isSome == true)) with hg128 | hg128
              · have h := ifT h hg128
                refine y_lkM (es := s87) (k := v128) (E := (PV.int .i64)) (EK := (PV.int .i64)) (d := .int .i64 ((mget s87 v128).getD (0 : Int))) ((want2 rfl rfl rfl).trans (congrArg some hg128)) (ct hg128) rfl (ct hg128) Ty.mm53 (keyT_int Ty.u3) Ty.z3 rfl (lk1 _ _ _) ?_
                refine y0 ((want2 rfl rfl rfl).trans (congrArg some hg128)) (o_cmp (ct hg128) rfl rfl) ?_
                refine y_if (g := (((v156.2.2 == 0) != ((mget s87 v128).isSome)) == false)) rfl (fun hg => pk_and' (ct hg) rfl rfl) ?_
                refine y0 rfl (pk_or rfl rfl rfl (fun q => eqF q)) ?_
                refine y_nil ?_
                refine pw_cond (((v156.2.2 == 0) != ((mget s87 v128).isSome)) || ((mget s87 v128).isSome && (v156.2.1 != ((mget s87 v128).getD (0 : Int))))) rfl (fun hc => ?_) (fun hc => ?_)
                · have h := ifT h hc
                  refine sr (by kernel_rfl) ?_
                  refine y0 rfl (o_assign (d := .bool false) rfl) ?_
                  refine y_nil ?_
                  refine pw_ret ?_
                  have he := hx71 _ (Option.some.inj h).symm
                  have h := hk70
                  rw [← he] at h
                  obtain rfl := Option.some.inj h
                  exact ⟨rfl, [_], ⟨rfl, trivial⟩, rfl, by first | exact .inl rfl | exact .inr rfl⟩
                · have h := ifF h hc
                  refine pw_skip ?_
                  refine sr (by kernel_rfl) ?_
                  refine y0 rfl (o_move (d := .mp 5000028) rfl) ?_
                  refine y0 rfl (o_move (d := .int .i64 v128) rfl) ?_
                  refine y_delM (es := s87) (k := v128) (E := (PV.int .i64)) (EK := (PV.int .i64)) rfl rfl rfl rfl rfl Ty.mm53 (by exact (keyT_int Ty.u3)) ?_
                  refine y_nil ?_
                  refine sr1 (by kernel_rfl) ?_
                  refine y0 rfl (o_move (d := .lst false (List.map hash_Place.Pv v156.1)) rfl) ?_
                  refine y0 rfl (o_assign (d := .lst false (List.map hash_Place.Pv v156.1)) rfl) ?_
                  refine y_nil ?_
                  exact ⟨rfl, (v156.1, (mdel s87 v128)), h, (wk_st _ _ ⟨rfl, rfl, rfl, rfl, rfl, rfl, rfl, rfl, rfl, rfl, rfl, rfl, trivial⟩ ⟨rowLe_open rfl rfl rfl (fun q => nomatch q) rfl rfl rfl rfl, trivial⟩)⟩
              · have h := ifF h hg128
                refine y_skip ((want2 rfl rfl rfl).trans (congrArg some hg128)) ?_
                refine y_skip ((want2 rfl rfl rfl).trans (congrArg some hg128)) ?_
                refine y_if (g := (((v156.2.2 == 0) != ((mget s87 v128).isSome)) == false)) rfl (fun hg => pk_andF (ct hg) rfl (andFr hg128 hg)) ?_
                refine y0 rfl (pk_or rfl rfl rfl (fun q => eqF q)) ?_
                refine y_nil ?_
                refine pw_cond (((v156.2.2 == 0) != ((mget s87 v128).isSome)) || false) rfl (fun hc => ?_) (fun hc => ?_)
                · have h := ifT h hc
                  refine sr (by kernel_rfl) ?_
                  refine y0 rfl (o_assign (d := .bool false) rfl) ?_
                  refine y_nil ?_
                  refine pw_ret ?_
                  have he := hx71 _ (Option.some.inj h).symm
                  have h := hk70
                  rw [← he] at h
                  obtain rfl := Option.some.inj h
                  exact ⟨rfl, [_], ⟨rfl, trivial⟩, rfl, by first | exact .inl rfl | exact .inr rfl⟩
                · have h := ifF h hc
                  refine pw_skip ?_
                  refine sr (by kernel_rfl) ?_
                  refine y0 rfl (o_move (d := .mp 5000028) rfl) ?_
                  refine y0 rfl (o_move (d := .int .i64 v128) rfl) ?_
                  refine y_delM (es := s87) (k := v128) (E := (PV.int .i64)) (EK := (PV.int .i64)) rfl rfl rfl rfl rfl Ty.mm53 (by exact (keyT_int Ty.u3)) ?_
                  refine y_nil ?_
                  refine sr1 (by kernel_rfl) ?_
                  refine y0 rfl (o_move (d := .lst false (List.map hash_Place.Pv v156.1)) rfl) ?_
                  refine y0 rfl (o_assign (d := .lst false (List.map hash_Place.Pv v156.1)) rfl) ?_
                  refine y_nil ?_
                  exact ⟨rfl, (v156.1, (mdel s87 v128)), h, (wk_st _ _ ⟨rfl, rfl, rfl, rfl, rfl, rfl, rfl, rfl, rfl, rfl, rfl, rfl, trivial⟩ ⟨rowLe_open rfl rfl rfl (fun q => nomatch q) rfl rfl rfl rfl, trivial⟩)⟩
            · have h := ifF h hc
              refine sr (by kernel_rfl) ?_
              refine y0 rfl (o_move (d := .lst false (List.map hash_Place.Pv s85)) rfl) ?_
              refine y0 rfl (o_move (d := .int .i64 v128) rfl) ?_
              refine y0 rfl (o_move (d := .lst false (List.map (PV.int .i64) a0)) rfl) ?_
              refine y0 rfl (o_move (d := .int .i64 s86) rfl) ?_
              refine y0 rfl (o_ixL (f := (PV.int .i64)) (cs := [.int .i64 v154]) hv125 rfl rfl Ty.e43 Ty.s3 rfl rfl) ?_
              refine y0 rfl (o_loadRS rfl Ty.a3 rfl) ?_
              obtain ⟨v157, hv129, h⟩ := bindE h
              refine yc rfl (o_callF (ls := []) (ds := [.lst false (List.map hash_Place.Pv s85), .int .i64 v128, .int .i64 v154]) rfl Ty.k14 rfl (hash_Put_ok hv129)) ?_
              refine y0 rfl (o_move (d := .tup [.lst false (List.map hash_Place.Pv v157.1), .int .i64 v157.2]) rfl) ?_
              refine y0 rfl (o_extract rfl rfl) ?_
              refine y0 rfl (o_extract rfl rfl) ?_
              refine y0 rfl (o_assign (d := .lst false (List.map hash_Place.Pv v157.1)) rfl) ?_
              refine y0 rfl (o_assign (d := .int .i64 v157.2) rfl) ?_
              refine y_nil ?_
              refine pw_seq ?_
              refine sr (by kernel_rfl) ?_
              refine y0 rfl (o_move (d := .int .i64 v157.2) rfl) ?_
              refine y0 rfl (o_cmp rfl rfl rfl) ?_
              refine y0 rfl (o_move (d := .bool ((mget s87 v128).isSome)) rfl) ?_
              refine y0 rfl (o_move (d := .bool ((mget s87 v128).isSome)) rfl) ?_
              refine y_if (g := ((mget s87 v128).isSome == false)) rfl (fun hg => o_move (d := .mp 5000028) rfl) ?_
              rcases Bool.eq_false_or_eq_true ((mget s87 v128).isSome == false) with hg130 | hg130
              · have h := ifT h hg130
                refine y_lnM (congrArg some hg130) (ct hg130) rfl rfl Ty.mm53 ?_
                refine y0 (congrArg some hg130) (o_cmp rfl rfl rfl) ?_
                refine y0 rfl (pk_orT rfl rfl hg130) ?_
                refine y0 rfl (o_neB rfl rfl Ty.u4 rfl) ?_
                refine y_nil ?_
                refine pw_cond ((v157.2 == 0) != (decide ((s87.length : Int) < 8))) rfl (fun hc => ?_) (fun hc => ?_)
                · have h := ifT h hc
                  refine sr (by kernel_rfl) ?_
                  refine y0 rfl (o_assign (d := .bool false) rfl) ?_
                  refine y_nil ?_
                  refine pw_ret ?_
                  have he := hx71 _ (Option.some.inj h).symm
                  have h := hk70
                  rw [← he] at h
                  obtain rfl := Option.some.inj h
                  exact ⟨rfl, [_], ⟨rfl, trivial⟩, rfl, by first | exact .inl rfl | exact .inr rfl⟩
                · have h := ifF h hc
                  refine pw_skip ?_
                  obtain ⟨κ158, hκ131, h⟩ := jnE h
                  refine pw_jn0 (κ := κ158) (r := x88) (fun (j159 : List (Int × Int)) => St.of [(0, .lst false (List.map (PV.int .i64) a0)), (4, .mp 5000028), (5, .int .i64 s86), (12, .lst false (List.map hash_Place.Pv v157.1))] [(5000028, ⟨[.mapc (List.map (ent (PV.int .i64) (PV.int .i64)) j159)], 0, false, 0, false⟩)]) (fun j159 h => ?_) ?_
                  · subst hκ131
                    refine sr1 (by kernel_rfl) ?_
                    refine y0 rfl (o_move (d := .lst false (List.map hash_Place.Pv v157.1)) rfl) ?_
                    refine y0 rfl (o_assign (d := .lst false (List.map hash_Place.Pv v157.1)) rfl) ?_
                    refine y_nil ?_
                    exact ⟨rfl, (v157.1, j159), h, (wk_st _ _ ⟨rfl, rfl, rfl, rfl, rfl, rfl, rfl, rfl, rfl, rfl, rfl, rfl, trivial⟩ ⟨rowLe_open rfl rfl rfl (fun q => nomatch q) rfl rfl rfl rfl, trivial⟩)⟩
                  · skip
                    refine sr (by kernel_rfl) ?_
                    refine y0 rfl (o_move (d := .int .i64 v157.2) rfl) ?_
                    refine y0 rfl (o_cmp rfl rfl rfl) ?_
                    refine y_nil ?_
                    refine pw_cond (v157.2 == 0) rfl (fun hc => ?_) (fun hc => ?_)
                    · have h := ifT h hc
                      refine sr1 (by kernel_rfl) ?_
                      refine y0 rfl (o_move (d := .mp 5000028) rfl) ?_
                      refine y0 rfl (o_move (d := .int .i64 v128) rfl) ?_
                      refine y0 rfl (o_move (d := .lst false (List.map (PV.int .i64) a0)) rfl) ?_
                      refine y0 rfl (o_move (d := .int .i64 s86) rfl) ?_
                      refine y0 rfl (o_ixL (f := (PV.int .i64)) (cs := [.int .i64 v154]) hv125 rfl rfl Ty.e43 Ty.s3 rfl rfl) ?_
                      refine y0 rfl (o_loadRS rfl Ty.a3 rfl) ?_
                      refine y_setM (es := s87) (k := v128) (v := v154) (E := (PV.int .i64)) (EK := (PV.int .i64)) (.inl rfl) rfl rfl rfl rfl rfl rfl Ty.mm53 (keyT_int Ty.u3) ?_
                      refine y_nil ?_
                      exact ⟨rfl, (mput s87 v128 v154), h, (wk_st _ _ ⟨rfl, rfl, rfl, rfl, rfl, rfl, rfl, rfl, rfl, rfl, rfl, rfl, trivial⟩ ⟨rowLe_open rfl rfl rfl (fun q => nomatch q) rfl rfl rfl rfl, trivial⟩)⟩
                    · have h := ifF h hc
                      refine pw_skip ?_
                      exact ⟨rfl, s87, h, (wk_st _ _ ⟨rfl, rfl, rfl, rfl, rfl, rfl, rfl, rfl, rfl, rfl, rfl, rfl, trivial⟩ ⟨rowLe_open rfl rfl rfl (fun q => nomatch q) rfl rfl rfl rfl, trivial⟩)⟩
              · have h := ifF h hg130
                refine y_skip (congrArg some hg130) ?_
                refine y_skip (congrArg some hg130) ?_
                refine y0 rfl (pk_orF rfl rfl hg130) ?_
                refine y0 rfl (o_neB rfl rfl Ty.u4 rfl) ?_
                refine y_nil ?_
                refine pw_cond ((v157.2 == 0) != true) rfl (fun hc => ?_) (fun hc => ?_)
                · have h := ifT h hc
                  refine sr (by kernel_rfl) ?_
                  refine y0 rfl (o_assign (d := .bool false) rfl) ?_
                  refine y_nil ?_
                  refine pw_ret ?_
                  have he := hx71 _ (Option.some.inj h).symm
                  have h := hk70
                  rw [← he] at h
                  obtain rfl := Option.some.inj h
                  exact ⟨rfl, [_], ⟨rfl, trivial⟩, rfl, by first | exact .inl rfl | exact .inr rfl⟩
                · have h := ifF h hc
                  refine pw_skip ?_
                  obtain ⟨κ160, hκ132, h⟩ := jnE h
                  refine pw_jn0 (κ := κ160) (r := x88) (fun (j161 : List (Int × Int)) => St.of [(0, .lst false (List.map (PV.int .i64) a0)), (4, .mp 5000028), (5, .int .i64 s86), (12, .lst false (List.map hash_Place.Pv v157.1))] [(5000028, ⟨[.mapc (List.map (ent (PV.int .i64) (PV.int .i64)) j161)], 0, false, 0, false⟩)]) (fun j161 h => ?_) ?_
                  · subst hκ132
                    refine sr1 (by kernel_rfl) ?_
                    refine y0 rfl (o_move (d := .lst false (List.map hash_Place.Pv v157.1)) rfl) ?_
                    refine y0 rfl (o_assign (d := .lst false (List.map hash_Place.Pv v157.1)) rfl) ?_
                    refine y_nil ?_
                    exact ⟨rfl, (v157.1, j161), h, (wk_st _ _ ⟨rfl, rfl, rfl, rfl, rfl, rfl, rfl, rfl, rfl, rfl, rfl, rfl, trivial⟩ ⟨rowLe_open rfl rfl rfl (fun q => nomatch q) rfl rfl rfl rfl, trivial⟩)⟩
                  · skip
                    refine sr (by kernel_rfl) ?_
                    refine y0 rfl (o_move (d := .int .i64 v157.2) rfl) ?_
                    refine y0 rfl (o_cmp rfl rfl rfl) ?_
                    refine y_nil ?_
                    refine pw_cond (v157.2 == 0) rfl (fun hc => ?_) (fun hc => ?_)
                    · have h := ifT h hc
                      refine sr1 (by kernel_rfl) ?_
                      refine y0 rfl (o_move (d := .mp 5000028) rfl) ?_
                      refine y0 rfl (o_move (d := .int .i64 v128) rfl) ?_
                      refine y0 rfl (o_move (d := .lst false (List.map (PV.int .i64) a0)) rfl) ?_
                      refine y0 rfl (o_move (d := .int .i64 s86) rfl) ?_
                      refine y0 rfl (o_ixL (f := (PV.int .i64)) (cs := [.int .i64 v154]) hv125 rfl rfl Ty.e43 Ty.s3 rfl rfl) ?_
                      refine y0 rfl (o_loadRS rfl Ty.a3 rfl) ?_
                      refine y_setM (es := s87) (k := v128) (v := v154) (E := (PV.int .i64)) (EK := (PV.int .i64)) (.inl rfl) rfl rfl rfl rfl rfl rfl Ty.mm53 (keyT_int Ty.u3) ?_
                      refine y_nil ?_
                      exact ⟨rfl, (mput s87 v128 v154), h, (wk_st _ _ ⟨rfl, rfl, rfl, rfl, rfl, rfl, rfl, rfl, rfl, rfl, rfl, rfl, trivial⟩ ⟨rowLe_open rfl rfl rfl (fun q => nomatch q) rfl rfl rfl rfl, trivial⟩)⟩
                    · have h := ifF h hc
                      refine pw_skip ?_
                      exact ⟨rfl, s87, h, (wk_st _ _ ⟨rfl, rfl, rfl, rfl, rfl, rfl, rfl, rfl, rfl, rfl, rfl, rfl, trivial⟩ ⟨rowLe_open rfl rfl rfl (fun q => nomatch q) rfl rfl rfl rfl, trivial⟩)⟩
      · have h := ifF h hc
        refine pw_exit ?_
        refine thenQ_exit ?_
        refine thenQ_exit ?_
        refine blockQ_exit ?_
        have he := hx71 _ (Option.some.inj h).symm
        have h := hk70
        rw [← he] at h
        exact ⟨rfl, (), h, (wk_st _ _ trivial trivial)⟩

set_option maxHeartbeats 4000000 in
theorem w10_HashOthers_ok {a0 : List hash_Place} {a1 : Int} {a2 : Int} {a3 : Int} {r : Bool} (h : w10_HashOthers a0 a1 a2 a3 = some r) : PCalls Try.prog 7 [.lst false (List.map hash_Place.Pv a0), .int .i64 a1, .int .i64 a2, .int .i64 a3] (.bool r) := by
  unfold w10_HashOthers at h
  refine pc_intro (N := 83) Try.func7 rfl rfl (Nat.le_of_ble_eq_true rfl) fun w0 imm0 => ?_
  refine sr (by kernel_rfl) ?_
  refine y0 rfl (o_assign (d := .bool false) rfl) ?_
  refine y_nil ?_
  refine pw_seq ?_
  refine sr (by kernel_rfl) ?_
  refine y0 rfl (o_move (d := .lst false (List.map hash_Place.Pv a0)) rfl) ?_
  obtain ⟨v1, hv1, h⟩ := bindE h
  refine y0 rfl (o_call (ds := [.lst false (List.map hash_Place.Pv a0)]) rfl Ty.k9 rfl (w10_right_ok hv1)) ?_
  refine y0 rfl (o_not rfl rfl) ?_
  refine y0 rfl (o_move (d := .bool (!v1)) rfl) ?_
  refine y_if (g := ((!v1) == false)) rfl (fun hg => o_move (d := .int .i64 a1) rfl) ?_
  refine y_if (g := ((!v1) == false)) rfl (fun hg => o_move (d := .int .i64 a3) rfl) ?_
  refine y_if (g := ((!v1) == false)) rfl (fun hg => o_cmp (ct hg) (ct hg) rfl) ?_
  refine y0 rfl (pk_or rfl rfl rfl (fun q => eqF q)) ?_
  refine y0 rfl (o_move (d := .bool ((!v1) || (a1 == a3))) rfl) ?_
  obtain ⟨v2, hv2, h⟩ := bindE h
  refine y_if (g := (((!v1) || (a1 == a3)) == false)) rfl (fun hg => o_call (ds := []) rfl Ty.k10 rfl (w10_shown_ok (onlyE hv2 hg))) ?_
  refine y_if (g := (((!v1) || (a1 == a3)) == false)) rfl (fun hg => o_not (ct hg) rfl) ?_
  refine y0 rfl (pk_or rfl rfl rfl (fun q => eqF q)) ?_
  refine y_nil ?_
  refine pw_cond (((!v1) || (a1 == a3)) || (!v2)) rfl (fun hc => ?_) (fun hc => ?_)
  · have h := ifT h hc
    refine sr (by kernel_rfl) ?_
    obtain ⟨v3, hv3, h⟩ := bindE h
    refine y0 rfl (o_call (ds := []) rfl Ty.k10 rfl (w10_shown_ok hv3)) ?_
    refine y0 rfl (o_assign (d := .bool v3) rfl) ?_
    refine y_nil ?_
    refine pw_ret ?_
    obtain rfl := Option.some.inj h
    exact ⟨rfl, [_], ⟨rfl, trivial⟩, rfl, by first | exact .inl rfl | exact .inr rfl⟩
  · have h := ifF h hc
    refine pw_skip ?_
    refine sr (by kernel_rfl) ?_
    refine y0 rfl (o_move (d := .lst false (List.map hash_Place.Pv a0)) rfl) ?_
    refine y0 rfl (o_move (d := .int .i64 a3) rfl) ?_
    obtain ⟨v4, hv4, h⟩ := bindE h
    refine y0 rfl (o_call (ds := [.lst false (List.map hash_Place.Pv a0), .int .i64 a3]) rfl Ty.k12 rfl (hash_Get_ok hv4)) ?_
    refine y0 rfl (o_move (d := .tup [.int .i64 v4.1, .int .i64 v4.2]) rfl) ?_
    refine y0 rfl (o_extract rfl rfl) ?_
    refine y0 rfl (o_extract rfl rfl) ?_
    refine y0 rfl (o_assign (d := .int .i64 v4.1) rfl) ?_
    refine y0 rfl (o_assign (d := .int .i64 v4.2) rfl) ?_
    refine y_nil ?_
    refine sr (by kernel_rfl) ?_
    refine y0 rfl (o_move (d := .lst false (List.map hash_Place.Pv a0)) rfl) ?_
    refine y0 rfl (o_move (d := .int .i64 a1) rfl) ?_
    refine y0 rfl (o_move (d := .int .i64 a2) rfl) ?_
    obtain ⟨v5, hv5, h⟩ := bindE h
    refine yc rfl (o_callF (ls := []) (ds := [.lst false (List.map hash_Place.Pv a0), .int .i64 a1, .int .i64 a2]) rfl Ty.k14 rfl (hash_Put_ok hv5)) ?_
    refine y0 rfl (o_move (d := .tup [.lst false (List.map hash_Place.Pv v5.1), .int .i64 v5.2]) rfl) ?_
    refine y0 rfl (o_extract rfl rfl) ?_
    refine y0 rfl (o_extract rfl rfl) ?_
    refine y0 rfl (o_assign (d := .lst false (List.map hash_Place.Pv v5.1)) rfl) ?_
    refine y0 rfl (o_assign (d := .int .i64 v5.2) rfl) ?_
    refine y_nil ?_
    refine sr (by kernel_rfl) ?_
    refine y0 rfl (o_move (d := .lst false (List.map hash_Place.Pv a0)) rfl) ?_
    refine y0 rfl (o_move (d := .int .i64 a1) rfl) ?_
    obtain ⟨v6, hv6, h⟩ := bindE h
    refine yc rfl (o_callF (ls := []) (ds := [.lst false (List.map hash_Place.Pv a0), .int .i64 a1]) rfl Ty.k16 rfl (hash_Drop_ok hv6)) ?_
    refine y0 rfl (o_move (d := .tup [.lst false (List.map hash_Place.Pv v6.1), .int .i64 v6.2.1, .int .i64 v6.2.2]) rfl) ?_
    refine y0 rfl (o_extract rfl rfl) ?_
    refine y0 rfl (o_extract rfl rfl) ?_
    refine y0 rfl (o_extract rfl rfl) ?_
    refine y0 rfl (o_assign (d := .lst false (List.map hash_Place.Pv v6.1)) rfl) ?_
    refine y0 rfl (o_assign (d := .int .i64 v6.2.1) rfl) ?_
    refine y0 rfl (o_assign (d := .int .i64 v6.2.2) rfl) ?_
    refine y_nil ?_
    refine sr (by kernel_rfl) ?_
    refine y0 rfl (o_move (d := .lst false (List.map hash_Place.Pv v5.1)) rfl) ?_
    refine y0 rfl (o_move (d := .int .i64 a3) rfl) ?_
    obtain ⟨v7, hv7, h⟩ := bindE h
    refine y0 rfl (o_call (ds := [.lst false (List.map hash_Place.Pv v5.1), .int .i64 a3]) rfl Ty.k12 rfl (hash_Get_ok hv7)) ?_
    refine y0 rfl (o_move (d := .tup [.int .i64 v7.1, .int .i64 v7.2]) rfl) ?_
    refine y0 rfl (o_extract rfl rfl) ?_
    refine y0 rfl (o_extract rfl rfl) ?_
    refine y0 rfl (o_assign (d := .int .i64 v7.1) rfl) ?_
    refine y0 rfl (o_assign (d := .int .i64 v7.2) rfl) ?_
    refine y_nil ?_
    refine sr (by kernel_rfl) ?_
    refine y0 rfl (o_move (d := .lst false (List.map hash_Place.Pv v6.1)) rfl) ?_
    refine y0 rfl (o_move (d := .int .i64 a3) rfl) ?_
    obtain ⟨v8, hv8, h⟩ := bindE h
    refine y0 rfl (o_call (ds := [.lst false (List.map hash_Place.Pv v6.1), .int .i64 a3]) rfl Ty.k12 rfl (hash_Get_ok hv8)) ?_
    refine y0 rfl (o_move (d := .tup [.int .i64 v8.1, .int .i64 v8.2]) rfl) ?_
    refine y0 rfl (o_extract rfl rfl) ?_
    refine y0 rfl (o_extract rfl rfl) ?_
    refine y0 rfl (o_assign (d := .int .i64 v8.1) rfl) ?_
    refine y0 rfl (o_assign (d := .int .i64 v8.2) rfl) ?_
    refine y_nil ?_
    refine sr (by kernel_rfl) ?_
    refine y0 rfl (o_move (d := .int .i64 v7.1) rfl) ?_
    refine y0 rfl (o_move (d := .int .i64 v4.1) rfl) ?_
    refine y0 rfl (o_cmp rfl rfl rfl) ?_
    refine y0 rfl (o_move (d := .bool (v7.1 == v4.1)) rfl) ?_
    refine y_if (g := ((v7.1 == v4.1) == true)) rfl (fun hg => o_move (d := .int .i64 v7.2) rfl) ?_
    refine y_if (g := ((v7.1 == v4.1) == true)) rfl (fun hg => o_move (d := .int .i64 v4.2) rfl) ?_
    refine y_if (g := ((v7.1 == v4.1) == true)) rfl (fun hg => o_cmp (ct hg) (ct hg) rfl) ?_
    refine y0 rfl (pk_and rfl rfl rfl (fun q => eqT q)) ?_
    refine y0 rfl (o_move (d := .bool ((v7.1 == v4.1) && (v7.2 == v4.2))) rfl) ?_
    refine y_if (g := (((v7.1 == v4.1) && (v7.2 == v4.2)) == true)) rfl (fun hg => o_move (d := .int .i64 v8.1) rfl) ?_
    refine y_if (g := (((v7.1 == v4.1) && (v7.2 == v4.2)) == true)) rfl (fun hg => o_move (d := .int .i64 v4.1) rfl) ?_
    refine y_if (g := (((v7.1 == v4.1) && (v7.2 == v4.2)) == true)) rfl (fun hg => o_cmp (ct hg) (ct hg) rfl) ?_
    refine y0 rfl (pk_and rfl rfl rfl (fun q => eqT q)) ?_
    refine y0 rfl (o_move (d := .bool (((v7.1 == v4.1) && (v7.2 == v4.2)) && (v8.1 == v4.1))) rfl) ?_
    refine y_if (g := ((((v7.1 == v4.1) && (v7.2 == v4.2)) && (v8.1 == v4.1)) == true)) rfl (fun hg => o_move (d := .int .i64 v8.2) rfl) ?_
    refine y_if (g := ((((v7.1 == v4.1) && (v7.2 == v4.2)) && (v8.1 == v4.1)) == true)) rfl (fun hg => o_move (d := .int .i64 v4.2) rfl) ?_
    refine y_if (g := ((((v7.1 == v4.1) && (v7.2 == v4.2)) && (v8.1 == v4.1)) == true)) rfl (fun hg => o_cmp (ct hg) (ct hg) rfl) ?_
    refine y0 rfl (pk_and rfl rfl rfl (fun q => eqT q)) ?_
    refine y0 rfl (o_assign (d := .bool ((((v7.1 == v4.1) && (v7.2 == v4.2)) && (v8.1 == v4.1)) && (v8.2 == v4.2))) rfl) ?_
    refine y_nil ?_
    refine pw_ret ?_
    obtain rfl := Option.some.inj h
    exact ⟨rfl, [_], ⟨rfl, trivial⟩, rfl, by first | exact .inl rfl | exact .inr rfl⟩

set_option maxHeartbeats 4000000 in
theorem w10_HashFull_ok {a0 : Int} {a1 : List Int} {a2 : Int} {r : Bool} (h : w10_HashFull a0 a1 a2 = some r) : PCalls Try.prog 8 [.int .u8 a0, .lst false (List.map (PV.int .i64) a1), .int .i64 a2] (.bool r) := by
  unfold w10_HashFull at h
  refine pc_intro (N := 135) Try.func8 rfl rfl (Nat.le_of_ble_eq_true rfl) fun w0 imm0 => ?_
  refine sr (by kernel_rfl) ?_
  refine y0 rfl (o_assign (d := .bool false) rfl) ?_
  refine y_nil ?_
  refine sr (by kernel_rfl) ?_
  refine y0 rfl (o_move (d := .int .u8 a0) rfl) ?_
  refine y0 rfl (o_conv rfl Ty.u5 Ty.i3 rfl) ?_
  obtain ⟨v1, hv1, h⟩ := bindE h
  refine y0 rfl (o_ari rfl rfl hv1) ?_
  refine y0 rfl (o_ari rfl rfl rfl) ?_
  refine y0 rfl (o_assign (d := .int .i64 (w64 (1 + v1))) rfl) ?_
  refine y_nil ?_
  refine pw_seq ?_
  refine sr (by kernel_rfl) ?_
  refine y0 rfl (o_move (d := .lst false (List.map (PV.int .i64) a1)) rfl) ?_
  refine y0 rfl (o_lnL (f := (PV.int .i64)) rfl Ty.e43) ?_
  refine y0 rfl (o_cmp rfl rfl rfl) ?_
  refine y0 rfl (o_move (d := .bool (decide ((a1.length : Int) > 60))) rfl) ?_
  obtain ⟨v2, hv2, h⟩ := bindE h
  refine y_if (g := ((decide ((a1.length : Int) > 60)) == false)) rfl (fun hg => o_call (ds := []) rfl Ty.k10 rfl (w10_shown_ok (onlyE hv2 hg))) ?_
  refine y_if (g := ((decide ((a1.length : Int) > 60)) == false)) rfl (fun hg => o_not (ct hg) rfl) ?_
  refine y0 rfl (pk_or rfl rfl rfl (fun q => eqF q)) ?_
  refine y_nil ?_
  refine pw_cond ((decide ((a1.length : Int) > 60)) || (!v2)) rfl (fun hc => ?_) (fun hc => ?_)
  · have h := ifT h hc
    refine sr (by kernel_rfl) ?_
    obtain ⟨v3, hv3, h⟩ := bindE h
    refine y0 rfl (o_call (ds := []) rfl Ty.k10 rfl (w10_shown_ok hv3)) ?_
    refine y0 rfl (o_assign (d := .bool v3) rfl) ?_
    refine y_nil ?_
    refine pw_ret ?_
    obtain rfl := Option.some.inj h
    exact ⟨rfl, [_], ⟨rfl, trivial⟩, rfl, by first | exact .inl rfl | exact .inr rfl⟩
  · have h := ifF h hc
    refine pw_skip ?_
    refine sr (by kernel_rfl) ?_
    refine y0 rfl (o_move (d := .int .i64 (w64 (1 + v1))) rfl) ?_
    obtain ⟨v4, hv4, h⟩ := bindE h
    refine yc rfl (o_callF (ls := []) (ds := [.int .i64 (w64 (1 + v1))]) rfl Ty.k26 rfl (hash_New_ok hv4)) ?_
    refine y0 rfl (o_assign (d := .lst false (List.map hash_Place.Pv v4)) rfl) ?_
    refine y_nil ?_
    refine sr (by kernel_rfl) ?_
    refine y_mkM (KT := Int) (VT := Bool) (EK := (PV.int .i64)) (E := PV.bool) 5000037 rfl rfl ?_
    refine y0 rfl (o_assign (d := .mp 5000037) rfl) ?_
    refine y_nil ?_
    obtain ⟨κ13, hκ11, h⟩ := jnE h
    refine pw_jn0 (κ := κ13) (r := r) (fun (q : (List hash_Place) × (List (Int × Bool))) => St.of [(2, .int .i64 a2), (7, .int .i64 (w64 (1 + v1))), (8, .lst false (List.map hash_Place.Pv q.1)), (9, .mp 5000037)] [(5000037, ⟨[.mapc (List.map (ent (PV.int .i64) PV.bool) q.2)], 0, false, 0, false⟩)]) (fun q16 h => ?_) ?_
    · subst hκ11
      obtain ⟨j14, j15⟩ := q16
      refine pw_seq ?_
      refine sr (by kernel_rfl) ?_
      refine y0 rfl (o_move (d := .mp 5000037) rfl) ?_
      refine y_lnM rfl rfl rfl rfl Ty.mm57 ?_
      refine y0 rfl (o_move (d := .int .i64 (w64 (1 + v1))) rfl) ?_
      refine y0 rfl (o_cmp rfl rfl rfl) ?_
      refine y0 rfl (o_move (d := .bool (decide ((j15.length : Int) < (w64 (1 + v1))))) rfl) ?_
      refine y_if (g := ((decide ((j15.length : Int) < (w64 (1 + v1)))) == false)) rfl (fun hg => o_move (d := .mp 5000037) rfl) ?_
      refine y_if (g := ((decide ((j15.length : Int) < (w64 (1 + v1)))) == false)) rfl (fun hg => o_move (d := .int .i64 a2) rfl) ?_
      rcases Bool.eq_false_or_eq_true ((decide ((j15.length : Int) < (w64 (1 + v1)))) == false) with hg12 | hg12
      · have h := ifT h hg12
        refine y_lkM (es := j15) (k := a2) (E := PV.bool) (EK := (PV.int .i64)) (d := .bool ((mget j15 a2).getD (false : Bool))) (congrArg some hg12) (ct hg12) rfl (ct hg12) Ty.mm57 (keyT_int Ty.u3) Ty.z4 rfl (lk1 _ _ _) ?_
        refine y0 rfl (pk_orT rfl rfl hg12) ?_
        refine y_nil ?_
        refine pw_cond ((mget j15 a2).getD (false : Bool)) rfl (fun hc => ?_) (fun hc => ?_)
        · have h := ifT h hc
          refine sr (by kernel_rfl) ?_
          refine y0 rfl (o_assign (d := .bool true) rfl) ?_
          refine y_nil ?_
          refine pw_ret ?_
          obtain rfl := Option.some.inj h
          exact ⟨rfl, [_], ⟨rfl, trivial⟩, rfl, by first | exact .inl rfl | exact .inr rfl⟩
        · have h := ifF h hc
          refine pw_skip ?_
          refine sr (by kernel_rfl) ?_
          refine y0 rfl (o_move (d := .lst false (List.map hash_Place.Pv j14)) rfl) ?_
          obtain ⟨v17, hv13, h⟩ := bindE h
          refine yc rfl (o_callF (ls := []) (ds := [.lst false (List.map hash_Place.Pv j14)]) rfl Ty.k22 rfl (hash_Keys_ok hv13)) ?_
          refine y0 rfl (o_assign (d := .lst false (List.map (PV.int .i64) v17)) rfl) ?_
          refine y_nil ?_
          refine pw_seq ?_
          refine sr (by kernel_rfl) ?_
          refine y0 rfl (o_move (d := .lst false (List.map (PV.int .i64) v17)) rfl) ?_
          refine y0 rfl (o_lnL (f := (PV.int .i64)) rfl Ty.e43) ?_
          refine y0 rfl (o_move (d := .int .i64 (w64 (1 + v1))) rfl) ?_
          refine y0 rfl (o_cmp rfl rfl rfl) ?_
          refine y_nil ?_
          refine pw_cond ((v17.length : Int) != (w64 (1 + v1))) rfl (fun hc => ?_) (fun hc => ?_)
          · have h := ifT h hc
            refine sr (by kernel_rfl) ?_
            refine y0 rfl (o_assign (d := .bool false) rfl) ?_
            refine y_nil ?_
            refine pw_ret ?_
            obtain rfl := Option.some.inj h
            exact ⟨rfl, [_], ⟨rfl, trivial⟩, rfl, by first | exact .inl rfl | exact .inr rfl⟩
          · have h := ifF h hc
            refine pw_skip ?_
            refine sr (by kernel_rfl) ?_
            refine y0 rfl (o_move (d := .lst false (List.map hash_Place.Pv j14)) rfl) ?_
            refine y0 rfl (o_move (d := .int .i64 a2) rfl) ?_
            obtain ⟨v18, hv14, h⟩ := bindE h
            refine yc rfl (o_callF (ls := []) (ds := [.lst false (List.map hash_Place.Pv j14), .int .i64 a2, .int .i64 1]) rfl Ty.k14 rfl (hash_Put_ok hv14)) ?_
            refine y0 rfl (o_move (d := .tup [.lst false (List.map hash_Place.Pv v18.1), .int .i64 v18.2]) rfl) ?_
            refine y0 rfl (o_extract rfl rfl) ?_
            refine y0 rfl (o_extract rfl rfl) ?_
            refine y0 rfl (o_assign (d := .lst false (List.map hash_Place.Pv v18.1)) rfl) ?_
            refine y0 rfl (o_assign (d := .int .i64 v18.2) rfl) ?_
            refine y_nil ?_
            refine sr (by kernel_rfl) ?_
            refine y0 rfl (o_move (d := .lst false (List.map hash_Place.Pv j14)) rfl) ?_
            refine y0 rfl (o_move (d := .lst false (List.map (PV.int .i64) v17)) rfl) ?_
            obtain ⟨v19, hv15, h⟩ := bindE h
            refine y0 rfl (o_ixL (f := (PV.int .i64)) (cs := [.int .i64 v19]) hv15 rfl rfl Ty.e43 Ty.s3 rfl rfl) ?_
            refine y0 rfl (o_loadRS rfl Ty.a3 rfl) ?_
            obtain ⟨v20, hv16, h⟩ := bindE h
            refine yc rfl (o_callF (ls := []) (ds := [.lst false (List.map hash_Place.Pv j14), .int .i64 v19]) rfl Ty.k16 rfl (hash_Drop_ok hv16)) ?_
            refine y0 rfl (o_move (d := .tup [.lst false (List.map hash_Place.Pv v20.1), .int .i64 v20.2.1, .int .i64 v20.2.2]) rfl) ?_
            refine y0 rfl (o_extract rfl rfl) ?_
            refine y0 rfl (o_extract rfl rfl) ?_
            refine y0 rfl (o_extract rfl rfl) ?_
            refine y0 rfl (o_assign (d := .lst false (List.map hash_Place.Pv v20.1)) rfl) ?_
            refine y0 rfl (o_assign (d := .int .i64 v20.2.1) rfl) ?_
            refine y0 rfl (o_assign (d := .int .i64 v20.2.2) rfl) ?_
            refine y_nil ?_
            refine sr (by kernel_rfl) ?_
            refine y0 rfl (o_move (d := .lst false (List.map hash_Place.Pv v20.1)) rfl) ?_
            refine y0 rfl (o_move (d := .int .i64 a2) rfl) ?_
            obtain ⟨v21, hv17, h⟩ := bindE h
            refine yc rfl (o_callF (ls := []) (ds := [.lst false (List.map hash_Place.Pv v20.1), .int .i64 a2, .int .i64 1]) rfl Ty.k14 rfl (hash_Put_ok hv17)) ?_
            refine y0 rfl (o_move (d := .tup [.lst false (List.map hash_Place.Pv v21.1), .int .i64 v21.2]) rfl) ?_
            refine y0 rfl (o_extract rfl rfl) ?_
            refine y0 rfl (o_extract rfl rfl) ?_
            refine y0 rfl (o_assign (d := .lst false (List.map hash_Place.Pv v21.1)) rfl) ?_
            refine y0 rfl (o_assign (d := .int .i64 v21.2) rfl) ?_
            refine y_nil ?_
            refine sr (by kernel_rfl) ?_
            refine y0 rfl (o_move (d := .lst false (List.map hash_Place.Pv v21.1)) rfl) ?_
            refine y0 rfl (o_move (d := .int .i64 a2) rfl) ?_
            obtain ⟨v22, hv18, h⟩ := bindE h
            refine y0 rfl (o_call (ds := [.lst false (List.map hash_Place.Pv v21.1), .int .i64 a2]) rfl Ty.k12 rfl (hash_Get_ok hv18)) ?_
            refine y0 rfl (o_move (d := .tup [.int .i64 v22.1, .int .i64 v22.2]) rfl) ?_
            refine y0 rfl (o_extract rfl rfl) ?_
            refine y0 rfl (o_extract rfl rfl) ?_
            refine y0 rfl (o_assign (d := .int .i64 v22.1) rfl) ?_
            refine y0 rfl (o_assign (d := .int .i64 v22.2) rfl) ?_
            refine y_nil ?_
            refine sr (by kernel_rfl) ?_
            refine y0 rfl (o_move (d := .int .i64 v18.2) rfl) ?_
            refine y0 rfl (o_cmp rfl rfl rfl) ?_
            refine y0 rfl (o_move (d := .bool (v18.2 == 8)) rfl) ?_
            refine y_if (g := ((v18.2 == 8) == true)) rfl (fun hg => o_move (d := .int .i64 v20.2.2) rfl) ?_
            refine y_if (g := ((v18.2 == 8) == true)) rfl (fun hg => o_cmp (ct hg) rfl rfl) ?_
            refine y0 rfl (pk_and rfl rfl rfl (fun q => eqT q)) ?_
            refine y0 rfl (o_move (d := .bool ((v18.2 == 8) && (v20.2.2 == 0))) rfl) ?_
            refine y_if (g := (((v18.2 == 8) && (v20.2.2 == 0)) == true)) rfl (fun hg => o_move (d := .int .i64 v21.2) rfl) ?_
            refine y_if (g := (((v18.2 == 8) && (v20.2.2 == 0)) == true)) rfl (fun hg => o_cmp (ct hg) rfl rfl) ?_
            refine y0 rfl (pk_and rfl rfl rfl (fun q => eqT q)) ?_
            refine y0 rfl (o_move (d := .bool (((v18.2 == 8) && (v20.2.2 == 0)) && (v21.2 == 0))) rfl) ?_
            refine y_if (g := ((((v18.2 == 8) && (v20.2.2 == 0)) && (v21.2 == 0)) == true)) rfl (fun hg => o_move (d := .int .i64 v22.1) rfl) ?_
            refine y_if (g := ((((v18.2 == 8) && (v20.2.2 == 0)) && (v21.2 == 0)) == true)) rfl (fun hg => o_cmp (ct hg) rfl rfl) ?_
            refine y0 rfl (pk_and rfl rfl rfl (fun q => eqT q)) ?_
            refine y0 rfl (o_move (d := .bool ((((v18.2 == 8) && (v20.2.2 == 0)) && (v21.2 == 0)) && (v22.1 == 1))) rfl) ?_
            refine y_if (g := (((((v18.2 == 8) && (v20.2.2 == 0)) && (v21.2 == 0)) && (v22.1 == 1)) == true)) rfl (fun hg => o_move (d := .int .i64 v22.2) rfl) ?_
            refine y_if (g := (((((v18.2 == 8) && (v20.2.2 == 0)) && (v21.2 == 0)) && (v22.1 == 1)) == true)) rfl (fun hg => o_cmp (ct hg) rfl rfl) ?_
            refine y0 rfl (pk_and rfl rfl rfl (fun q => eqT q)) ?_
            refine y0 rfl (o_move (d := .bool (((((v18.2 == 8) && (v20.2.2 == 0)) && (v21.2 == 0)) && (v22.1 == 1)) && (v22.2 == 0))) rfl) ?_
            refine y_if (g := ((((((v18.2 == 8) && (v20.2.2 == 0)) && (v21.2 == 0)) && (v22.1 == 1)) && (v22.2 == 0)) == true)) rfl (fun hg => o_move (d := .lst false (List.map hash_Place.Pv v21.1)) rfl) ?_
            obtain ⟨v23, hv19, h⟩ := bindE h
            refine y_ifc (g := ((((((v18.2 == 8) && (v20.2.2 == 0)) && (v21.2 == 0)) && (v22.1 == 1)) && (v22.2 == 0)) == true)) rfl (fun hg => o_callF (ls := []) (ds := [.lst false (List.map hash_Place.Pv v21.1)]) rfl Ty.k22 (consE (ct hg) rfl) (hash_Keys_ok (onlyE hv19 hg))) ?_
            refine y_if (g := ((((((v18.2 == 8) && (v20.2.2 == 0)) && (v21.2 == 0)) && (v22.1 == 1)) && (v22.2 == 0)) == true)) rfl (fun hg => o_lnL (f := (PV.int .i64)) (ct hg) Ty.e43) ?_
            refine y_if (g := ((((((v18.2 == 8) && (v20.2.2 == 0)) && (v21.2 == 0)) && (v22.1 == 1)) && (v22.2 == 0)) == true)) rfl (fun hg => o_move (d := .int .i64 (w64 (1 + v1))) rfl) ?_
            refine y_if (g := ((((((v18.2 == 8) && (v20.2.2 == 0)) && (v21.2 == 0)) && (v22.1 == 1)) && (v22.2 == 0)) == true)) rfl (fun hg => o_cmp (ct hg) (ct hg) rfl) ?_
            refine y0 rfl (pk_and rfl rfl rfl (fun q => eqT q)) ?_
            refine y0 rfl (o_assign (d := .bool ((((((v18.2 == 8) && (v20.2.2 == 0)) && (v21.2 == 0)) && (v22.1 == 1)) && (v22.2 == 0)) && ((v23.length : Int) == (w64 (1 + v1))))) rfl) ?_
            refine y_nil ?_
            refine pw_ret ?_
            obtain rfl := Option.some.inj h
            exact ⟨rfl, [_], ⟨rfl, trivial⟩, rfl, by first | exact .inl rfl | exact .inr rfl⟩
      · have h := ifF h hg12
        refine y_skip (congrArg some hg12) ?_
        refine y0 rfl (pk_orF rfl rfl hg12) ?_
        refine y_nil ?_
        refine pw_cond true rfl (fun _ => ?_) (fun q => nomatch q)
        refine sr (by kernel_rfl) ?_
        refine y0 rfl (o_assign (d := .bool true) rfl) ?_
        refine y_nil ?_
        refine pw_ret ?_
        obtain rfl := Option.some.inj h
        exact ⟨rfl, [_], ⟨rfl, trivial⟩, rfl, by first | exact .inl rfl | exact .inr rfl⟩
    · skip
      refine sr (by kernel_rfl) ?_
      refine y0 rfl (o_assign (d := .int .i64 0) rfl) ?_
      refine y_nil ?_
      refine pw_block ?_
      obtain ⟨e24, hl20, hk21⟩ := bindE h
      refine pw_lp0 (fun (q : (List hash_Place) × Int × (List (Int × Bool))) => St.of [(1, .lst false (List.map (PV.int .i64) a1)), (2, .int .i64 a2), (7, .int .i64 (w64 (1 + v1))), (8, .lst false (List.map hash_Place.Pv q.1)), (9, .mp 5000037), (10, .int .i64 q.2.1)] [(5000037, ⟨[.mapc (List.map (ent (PV.int .i64) PV.bool) q.2.2)], 0, false, 0, false⟩)]) hl20 (wk_st _ _ ⟨rfl, rfl, rfl, rfl, rfl, rfl, rfl, rfl, rfl, rfl, rfl, rfl, rfl, rfl, rfl, rfl, rfl, rfl, trivial⟩ ⟨rowLe_open rfl rfl rfl (fun q => nomatch q) rfl rfl rfl rfl, trivial⟩) (fun q29 x28 h hx22 => ?_)
      obtain ⟨s25, s26, s27⟩ := q29
      refine pw_seq ?_
      refine sr (by kernel_rfl) ?_
      refine y0 rfl (o_move (d := .int .i64 s26) rfl) ?_
      refine y0 rfl (o_move (d := .lst false (List.map (PV.int .i64) a1)) rfl) ?_
      refine y0 rfl (o_lnL (f := (PV.int .i64)) rfl Ty.e43) ?_
      refine y0 rfl (o_cmp rfl rfl rfl) ?_
      refine y0 rfl (o_move (d := .bool (decide (s26 < (a1.length : Int)))) rfl) ?_
      refine y_if (g := ((decide (s26 < (a1.length : Int))) == true)) rfl (fun hg => o_move (d := .mp 5000037) rfl) ?_
      rcases Bool.eq_false_or_eq_true ((decide (s26 < (a1.length : Int))) == true) with hg23 | hg23
      · have h := ifT h hg23
        refine y_lnM (congrArg some hg23) (ct hg23) rfl rfl Ty.mm57 ?_
        refine y0 (congrArg some hg23) (o_move (d := .int .i64 (w64 (1 + v1))) rfl) ?_
        refine y0 (congrArg some hg23) (o_cmp rfl rfl rfl) ?_
        refine y0 rfl (pk_andT rfl rfl hg23) ?_
        refine y_nil ?_
        refine pw_cond (decide ((s27.length : Int) < (w64 (1 + v1)))) rfl (fun hc => ?_) (fun hc => ?_)
        · have h := ifT h hc
          refine pw_skip ?_
          refine pw_seq ?_
          refine pw_block ?_
          refine sr (by kernel_rfl) ?_
          refine y0 rfl (o_move (d := .lst false (List.map hash_Place.Pv s25)) rfl) ?_
          refine y0 rfl (o_move (d := .lst false (List.map (PV.int .i64) a1)) rfl) ?_
          refine y0 rfl (o_move (d := .int .i64 s26) rfl) ?_
          obtain ⟨v30, hv24, h⟩ := bindE h
          refine y0 rfl (o_ixL (f := (PV.int .i64)) (cs := [.int .i64 v30]) hv24 rfl rfl Ty.e43 Ty.s3 rfl rfl) ?_
          refine y0 rfl (o_loadRS rfl Ty.a3 rfl) ?_
          refine y0 rfl (o_move (d := .int .i64 s26) rfl) ?_
          obtain ⟨v31, hv25, h⟩ := bindE h
          refine yc rfl (o_callF (ls := []) (ds := [.lst false (List.map hash_Place.Pv s25), .int .i64 v30, .int .i64 s26]) rfl Ty.k14 rfl (hash_Put_ok hv25)) ?_
          refine y0 rfl (o_move (d := .tup [.lst false (List.map hash_Place.Pv v31.1), .int .i64 v31.2]) rfl) ?_
          refine y0 rfl (o_extract rfl rfl) ?_
          refine y0 rfl (o_extract rfl rfl) ?_
          refine y0 rfl (o_assign (d := .lst false (List.map hash_Place.Pv v31.1)) rfl) ?_
          refine y0 rfl (o_assign (d := .int .i64 v31.2) rfl) ?_
          refine y_nil ?_
          refine pw_seq ?_
          refine sr (by kernel_rfl) ?_
          refine y0 rfl (o_move (d := .int .i64 v31.2) rfl) ?_
          refine y0 rfl (o_cmp rfl rfl rfl) ?_
          refine y_nil ?_
          refine pw_cond (v31.2 != 0) rfl (fun hc => ?_) (fun hc => ?_)
          · have h := ifT h hc
            refine sr (by kernel_rfl) ?_
            refine y0 rfl (o_assign (d := .bool false) rfl) ?_
            refine y_nil ?_
            refine pw_ret ?_
            have he := hx22 _ (Option.some.inj h).symm
            have h := hk21
            rw [← he] at h
            obtain rfl := Option.some.inj h
            exact ⟨rfl, [_], ⟨rfl, trivial⟩, rfl, by first | exact .inl rfl | exact .inr rfl⟩
          · have h := ifF h hc
            refine pw_skip ?_
            refine sr (by kernel_rfl) ?_
            refine y0 rfl (o_move (d := .mp 5000037) rfl) ?_
            refine y0 rfl (o_move (d := .lst false (List.map (PV.int .i64) a1)) rfl) ?_
            refine y0 rfl (o_move (d := .int .i64 s26) rfl) ?_
            refine y0 rfl (o_ixL (f := (PV.int .i64)) (cs := [.int .i64 v30]) hv24 rfl rfl Ty.e43 Ty.s3 rfl rfl) ?_
            refine y0 rfl (o_loadRS rfl Ty.a3 rfl) ?_
            refine y_setM (es := s27) (k := v30) (v := true) (E := PV.bool) (EK := (PV.int .i64)) (.inl rfl) rfl rfl rfl rfl rfl rfl Ty.mm57 (keyT_int Ty.u3) ?_
            refine y_nil ?_
            refine sr1 (by kernel_rfl) ?_
            refine y0 rfl (o_move (d := .lst false (List.map hash_Place.Pv v31.1)) rfl) ?_
            refine y0 rfl (o_assign (d := .lst false (List.map hash_Place.Pv v31.1)) rfl) ?_
            refine y_nil ?_
            refine sr1 (by kernel_rfl) ?_
            refine y0 rfl (o_move (d := .int .i64 s26) rfl) ?_
            refine y0 rfl (o_ari rfl rfl rfl) ?_
            refine y0 rfl (o_assign (d := .int .i64 (w64 (s26 + 1))) rfl) ?_
            refine y_nil ?_
            exact ⟨rfl, (v31.1, w64 (s26 + 1), (mput s27 v30 true)), (Option.some.inj h).symm, (wk_st _ _ ⟨rfl, rfl, rfl, rfl, rfl, rfl, rfl, rfl, rfl, rfl, rfl, rfl, rfl, rfl, rfl, rfl, rfl, rfl, trivial⟩ ⟨rowLe_open rfl rfl rfl (fun q => nomatch q) rfl rfl rfl rfl, trivial⟩)⟩
        · have h := ifF h hc
          refine pw_exit ?_
          refine thenQ_exit ?_
          refine thenQ_exit ?_
          refine blockQ_exit ?_
          have he := hx22 _ (Option.some.inj h).symm
          have h := hk21
          rw [← he] at h
          exact ⟨rfl, (s25, s27), h, (wk_st _ _ ⟨rfl, rfl, rfl, rfl, rfl, rfl, rfl, rfl, rfl, rfl, rfl, rfl, trivial⟩ ⟨rowLe_open rfl rfl rfl (fun q => nomatch q) rfl rfl rfl rfl, trivial⟩)⟩
      · have h := ifF h hg23
        refine y_skip (congrArg some hg23) ?_
        refine y_skip (congrArg some hg23) ?_
        refine y_skip (congrArg some hg23) ?_
        refine y0 rfl (pk_andF rfl rfl hg23) ?_
        refine y_nil ?_
        refine pw_cond false rfl (fun q => nomatch q) (fun _ => ?_)
        refine pw_exit ?_
        refine thenQ_exit ?_
        refine thenQ_exit ?_
        refine blockQ_exit ?_
        have he := hx22 _ (Option.some.inj h).symm
        have h := hk21
        rw [← he] at h
        exact ⟨rfl, (s25, s27), h, (wk_st _ _ ⟨rfl, rfl, rfl, rfl, rfl, rfl, rfl, rfl, rfl, rfl, rfl, rfl, trivial⟩ ⟨rowLe_open rfl rfl rfl (fun q => nomatch q) rfl rfl rfl rfl, trivial⟩)⟩

end Go.Proofs.Ytpeoafbdnlellaa.Ok
