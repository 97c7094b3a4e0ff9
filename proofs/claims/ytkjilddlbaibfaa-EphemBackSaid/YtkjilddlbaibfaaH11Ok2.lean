/-
  The functions of the program do as the plain functions do.
-/
import Derived.Test.YtkjilddlbaibfaaH11Ok1
namespace Go.Proofs.Ytkjilddlbaibfaa.Ok
open Go Go.Pw Go.Sh Go.Proofs
set_option linter.unusedVariables false
set_option maxRecDepth 100000
set_option maxHeartbeats 4000000 in
theorem w11_EphemGoes_ok {a0 : List hash_Place} {a1 : List Int} {r : Bool} (h : w11_EphemGoes a0 a1 = some r) : PCalls Try.prog 5 [.lst false (List.map hash_Place.Pv a0), .lst false (List.map (PV.int .i64) a1)] (.bool r) := by
  unfold w11_EphemGoes at h
  refine pc_intro (N := 122) Try.func5 rfl rfl (Nat.le_of_ble_eq_true rfl) fun w0 imm0 => ?_
  refine sr (by kernel_rfl) ?_
  refine y0 rfl (o_assign (d := .bool false) rfl) ?_
  refine y_nil ?_
  refine pw_seq ?_
  refine sr (by kernel_rfl) ?_
  refine y0 rfl (o_move (d := .lst false (List.map hash_Place.Pv a0)) rfl) ?_
  obtain ⟨v1, hv1, h⟩ := bindE h
  refine y0 rfl (o_call (ds := [.lst false (List.map hash_Place.Pv a0)]) rfl Ty.k8 rfl (w11_right_ok hv1)) ?_
  refine y0 rfl (o_not rfl rfl) ?_
  refine y0 rfl (o_move (d := .bool (!v1)) rfl) ?_
  refine y_if (g := ((!v1) == false)) rfl (fun hg => o_move (d := .lst false (List.map (PV.int .i64) a1)) rfl) ?_
  refine y_if (g := ((!v1) == false)) rfl (fun hg => o_lnL (f := (PV.int .i64)) (ct hg) Ty.e23) ?_
  refine y_if (g := ((!v1) == false)) rfl (fun hg => o_cmp (ct hg) rfl rfl) ?_
  refine y0 rfl (pk_or rfl rfl rfl (fun q => eqF q)) ?_
  refine y0 rfl (o_move (d := .bool ((!v1) || (decide ((a1.length : Int) > 30)))) rfl) ?_
  obtain ⟨v2, hv2, h⟩ := bindE h
  refine y_if (g := (((!v1) || (decide ((a1.length : Int) > 30))) == false)) rfl (fun hg => o_call (ds := []) rfl Ty.k9 rfl (w11_shown_ok (onlyE hv2 hg))) ?_
  refine y_if (g := (((!v1) || (decide ((a1.length : Int) > 30))) == false)) rfl (fun hg => o_not (ct hg) rfl) ?_
  refine y0 rfl (pk_or rfl rfl rfl (fun q => eqF q)) ?_
  refine y_nil ?_
  refine pw_cond (((!v1) || (decide ((a1.length : Int) > 30))) || (!v2)) rfl (fun hc => ?_) (fun hc => ?_)
  · have h := ifT h hc
    refine sr (by kernel_rfl) ?_
    obtain ⟨v3, hv3, h⟩ := bindE h
    refine y0 rfl (o_call (ds := []) rfl Ty.k9 rfl (w11_shown_ok hv3)) ?_
    refine y0 rfl (o_assign (d := .bool v3) rfl) ?_
    refine y_nil ?_
    refine pw_ret ?_
    obtain rfl := Option.some.inj h
    exact ⟨rfl, [_], ⟨rfl, trivial⟩, rfl, by first | exact .inl rfl | exact .inr rfl⟩
  · have h := ifF h hc
    refine pw_skip ?_
    refine sr (by kernel_rfl) ?_
    refine y0 rfl (o_move (d := .lst false (List.map hash_Place.Pv a0)) rfl) ?_
    refine y0 rfl (o_move (d := .lst false (List.map (PV.int .i64) a1)) rfl) ?_
    obtain ⟨v4, hv4, h⟩ := bindE h
    refine yc rfl (o_callF (ls := []) (ds := [.lst false (List.map hash_Place.Pv a0), .lst false (List.map (PV.int .i64) a1)]) rfl Ty.k15 rfl (ephem_Without_ok hv4)) ?_
    refine y0 rfl (o_move (d := .tup [.lst false (List.map hash_Place.Pv v4.1), .lst false (List.map (PV.int .i64) v4.2)]) rfl) ?_
    refine y0 rfl (o_extract rfl rfl) ?_
    refine y0 rfl (o_extract rfl rfl) ?_
    refine y0 rfl (o_assign (d := .lst false (List.map hash_Place.Pv v4.1)) rfl) ?_
    refine y0 rfl (o_assign (d := .lst false (List.map (PV.int .i64) v4.2)) rfl) ?_
    refine y_nil ?_
    refine sr (by kernel_rfl) ?_
    refine y0 rfl (o_move (d := .lst false (List.map hash_Place.Pv a0)) rfl) ?_
    obtain ⟨v5, hv5, h⟩ := bindE h
    refine yc rfl (o_callF (ls := []) (ds := [.lst false (List.map hash_Place.Pv a0)]) rfl Ty.k10 rfl (w11_its_ok hv5)) ?_
    obtain ⟨v6, hv6, h⟩ := bindE h
    refine yc rfl (o_callF (ls := []) (ds := [.lst false (List.map r10_Place.Pv v5)]) rfl Ty.k22 rfl (r11_Pairs_ok hv6)) ?_
    refine y0 rfl (o_assign (d := .lst false (List.map r11_Pair.Pv v6)) rfl) ?_
    refine y_nil ?_
    refine pw_seq ?_
    refine sr (by kernel_rfl) ?_
    refine y0 rfl (o_move (d := .lst false (List.map hash_Place.Pv v4.1)) rfl) ?_
    obtain ⟨v7, hv7, h⟩ := bindE h
    refine y0 rfl (o_call (ds := [.lst false (List.map hash_Place.Pv v4.1)]) rfl Ty.k8 rfl (w11_right_ok hv7)) ?_
    refine y0 rfl (o_not rfl rfl) ?_
    refine y0 rfl (o_move (d := .bool (!v7)) rfl) ?_
    refine y_if (g := ((!v7) == false)) rfl (fun hg => o_move (d := .lst false (List.map hash_Place.Pv v4.1)) rfl) ?_
    obtain ⟨v8, hv8, h⟩ := bindE h
    refine y_ifc (g := ((!v7) == false)) rfl (fun hg => o_callF (ls := []) (ds := [.lst false (List.map hash_Place.Pv v4.1)]) rfl Ty.k21 (consE (ct hg) rfl) (ephem_Pairs_ok (onlyE hv8 hg))) ?_
    refine y_if (g := ((!v7) == false)) rfl (fun hg => o_lnL (f := ephem_Pair.Pv) (ct hg) Ty.e45) ?_
    refine y_if (g := ((!v7) == false)) rfl (fun hg => o_move (d := .lst false (List.map (PV.int .i64) v4.2)) rfl) ?_
    refine y_if (g := ((!v7) == false)) rfl (fun hg => o_lnL (f := (PV.int .i64)) (ct hg) Ty.e23) ?_
    refine y_if (g := ((!v7) == false)) rfl (fun hg => o_ari (ct hg) (ct hg) rfl) ?_
    refine y_if (g := ((!v7) == false)) rfl (fun hg => o_move (d := .lst false (List.map r11_Pair.Pv v6)) rfl) ?_
    refine y_if (g := ((!v7) == false)) rfl (fun hg => o_lnL (f := r11_Pair.Pv) (ct hg) Ty.e43) ?_
    refine y_if (g := ((!v7) == false)) rfl (fun hg => o_cmp (ct hg) (ct hg) rfl) ?_
    refine y0 rfl (pk_or rfl rfl rfl (fun q => eqF q)) ?_
    refine y_nil ?_
    refine pw_cond ((!v7) || ((w64 ((v8.length : Int) + (v4.2.length : Int))) != (v6.length : Int))) rfl (fun hc => ?_) (fun hc => ?_)
    · have h := ifT h hc
      refine sr (by kernel_rfl) ?_
      refine y0 rfl (o_assign (d := .bool false) rfl) ?_
      refine y_nil ?_
      refine pw_ret ?_
      obtain rfl := Option.some.inj h
      exact ⟨rfl, [_], ⟨rfl, trivial⟩, rfl, by first | exact .inl rfl | exact .inr rfl⟩
    · have h := ifF h hc
      refine pw_skip ?_
      obtain ⟨κ52, hκ41, h⟩ := jnE h
      refine pw_jn0 (κ := κ52) (r := r) (fun (_ : Unit) => St.of [] []) (fun q53 h => ?_) ?_
      · subst hκ41
        refine sr (by kernel_rfl) ?_
        refine y0 rfl (o_assign (d := .bool true) rfl) ?_
        refine y_nil ?_
        refine pw_ret ?_
        obtain rfl := Option.some.inj h
        exact ⟨rfl, [_], ⟨rfl, trivial⟩, rfl, by first | exact .inl rfl | exact .inr rfl⟩
      · skip
        refine sr (by kernel_rfl) ?_
        refine y0 rfl (o_assign (d := .int .i64 0) rfl) ?_
        refine y_nil ?_
        refine pw_block ?_
        obtain ⟨e54, hl42, hk43⟩ := bindE h
        refine pw_lp0 (fun (s55 : Int) => St.of [(1, .lst false (List.map (PV.int .i64) a1)), (5, .lst false (List.map hash_Place.Pv v4.1)), (6, .lst false (List.map (PV.int .i64) v4.2)), (7, .lst false (List.map r11_Pair.Pv v6)), (8, .int .i64 s55)] []) hl42 (wk_st _ _ ⟨rfl, rfl, rfl, rfl, rfl, rfl, rfl, rfl, rfl, rfl, rfl, rfl, rfl, rfl, rfl, trivial⟩ trivial) (fun s55 x56 h hx44 => ?_)
        refine pw_seq ?_
        refine sr (by kernel_rfl) ?_
        refine y0 rfl (o_move (d := .int .i64 s55) rfl) ?_
        refine y0 rfl (o_move (d := .lst false (List.map r11_Pair.Pv v6)) rfl) ?_
        refine y0 rfl (o_lnL (f := r11_Pair.Pv) rfl Ty.e43) ?_
        refine y0 rfl (o_cmp rfl rfl rfl) ?_
        refine y_nil ?_
        refine pw_cond (decide (s55 < (v6.length : Int))) rfl (fun hc => ?_) (fun hc => ?_)
        · have h := ifT h hc
          refine pw_skip ?_
          obtain ⟨κ76, hκ59, h⟩ := jnE h
          refine pw_jn0 (κ := κ76) (r := x56) (fun (_ : Unit) => St.of [(1, .lst false (List.map (PV.int .i64) a1)), (5, .lst false (List.map hash_Place.Pv v4.1)), (6, .lst false (List.map (PV.int .i64) v4.2)), (7, .lst false (List.map r11_Pair.Pv v6)), (8, .int .i64 s55)] []) (fun q77 h => ?_) ?_
          · subst hκ59
            refine sr1 (by kernel_rfl) ?_
            refine y0 rfl (o_move (d := .int .i64 s55) rfl) ?_
            refine y0 rfl (o_ari rfl rfl rfl) ?_
            refine y0 rfl (o_assign (d := .int .i64 (w64 (s55 + 1))) rfl) ?_
            refine y_nil ?_
            exact ⟨rfl, w64 (s55 + 1), (Option.some.inj h).symm, (wk_st _ _ ⟨rfl, rfl, rfl, rfl, rfl, rfl, rfl, rfl, rfl, rfl, rfl, rfl, rfl, rfl, rfl, trivial⟩ trivial)⟩
          · skip
            refine pw_block ?_
            refine sr (by kernel_rfl) ?_
            refine y0 rfl (o_assign (d := .bool false) rfl) ?_
            refine y_nil ?_
            obtain ⟨κ85, hκ65, h⟩ := jnE h
            refine pw_jn0 (κ := κ85) (r := x56) (fun (j86 : Bool) => St.of [(1, .lst false (List.map (PV.int .i64) a1)), (5, .lst false (List.map hash_Place.Pv v4.1)), (6, .lst false (List.map (PV.int .i64) v4.2)), (7, .lst false (List.map r11_Pair.Pv v6)), (8, .int .i64 s55), (9, .bool j86)] []) (fun j86 h => ?_) ?_
            · subst hκ65
              refine sr (by kernel_rfl) ?_
              refine y0 rfl (o_move (d := .lst false (List.map hash_Place.Pv v4.1)) rfl) ?_
              refine y0 rfl (o_move (d := .lst false (List.map r11_Pair.Pv v6)) rfl) ?_
              refine y0 rfl (o_move (d := .int .i64 s55) rfl) ?_
              obtain ⟨v87, hv66, h⟩ := bindE h
              refine y0 rfl (o_ixL (f := r11_Pair.Pv) (cs := r11_Pair.Pc v87) hv66 rfl rfl Ty.e43 Ty.s53 rfl rfl) ?_
              refine y0 rfl (o_fieldAddrR rfl Ty.f53_0 rfl) ?_
              refine y0 rfl (o_loadRS rfl Ty.a3 rfl) ?_
              obtain ⟨v88, hv67, h⟩ := bindE h
              refine y0 rfl (o_call (ds := [.lst false (List.map hash_Place.Pv v4.1), .int .i64 v87.Key]) rfl Ty.k13 rfl (ephem_Get_ok hv67)) ?_
              refine y0 rfl (o_move (d := .tup [.int .i64 v88.1, .int .i64 v88.2]) rfl) ?_
              refine y0 rfl (o_extract rfl rfl) ?_
              refine y0 rfl (o_extract rfl rfl) ?_
              refine y0 rfl (o_assign (d := .int .i64 v88.1) rfl) ?_
              refine y0 rfl (o_assign (d := .int .i64 v88.2) rfl) ?_
              refine y_nil ?_
              refine sr (by kernel_rfl) ?_
              refine y0 rfl (o_move (d := .bool j86) rfl) ?_
              refine y0 rfl (o_move (d := .int .i64 v88.2) rfl) ?_
              refine y0 rfl (o_cmp rfl rfl rfl) ?_
              refine y0 rfl (o_neB rfl rfl Ty.u4 rfl) ?_
              refine y0 rfl (o_move (d := .bool (j86 != (v88.2 == 9))) rfl) ?_
              refine y_if (g := ((j86 != (v88.2 == 9)) == false)) rfl (fun hg => o_move (d := .bool j86) rfl) ?_
              refine y_if (g := ((j86 != (v88.2 == 9)) == false)) rfl (fun hg => o_not (ct hg) rfl) ?_
              refine y_if (g := ((j86 != (v88.2 == 9)) == false)) rfl (fun hg => o_move (d := .bool (!j86)) (ct hg)) ?_
              refine y_if (g := (((j86 != (v88.2 == 9)) == false) && ((!j86) == true))) (want2 rfl rfl rfl) (fun hg => o_move (d := .int .i64 v88.1) rfl) ?_
              refine y_if (g := (((j86 != (v88.2 == 9)) == false) && ((!j86) == true))) (want2 rfl rfl rfl) (fun hg => o_move (d := .lst false (List.map r11_Pair.Pv v6)) rfl) ?_
              refine y_if (g := (((j86 != (v88.2 == 9)) == false) && ((!j86) == true))) (want2 rfl rfl rfl) (fun hg => o_move (d := .int .i64 s55) rfl) ?_
              refine y_if (g := (((j86 != (v88.2 == 9)) == false) && ((!j86) == true))) (want2 rfl rfl rfl) (fun hg => o_ixL (f := r11_Pair.Pv) (cs := r11_Pair.Pc v87) hv66 (ct hg) (ct hg) Ty.e43 Ty.s53 rfl rfl) ?_
              refine y_if (g := (((j86 != (v88.2 == 9)) == false) && ((!j86) == true))) (want2 rfl rfl rfl) (fun hg => o_fieldAddrR (ct hg) Ty.f53_1 rfl) ?_
              refine y_if (g := (((j86 != (v88.2 == 9)) == false) && ((!j86) == true))) (want2 rfl rfl rfl) (fun hg => o_loadRS (ct hg) Ty.a3 rfl) ?_
              refine y_if (g := (((j86 != (v88.2 == 9)) == false) && ((!j86) == true))) (want2 rfl rfl rfl) (fun hg => o_cmp (ct hg) (ct hg) rfl) ?_
              refine y_if (g := ((j86 != (v88.2 == 9)) == false)) rfl (fun hg => pk_and (ct hg) rfl rfl (fun q => andI hg (eqT q))) ?_
              refine y0 rfl (pk_or rfl rfl rfl (fun q => eqF q)) ?_
              refine y0 rfl (o_move (d := .bool ((j86 != (v88.2 == 9)) || ((!j86) && (v88.1 != v87.Val)))) rfl) ?_
              refine y_if (g := (((j86 != (v88.2 == 9)) || ((!j86) && (v88.1 != v87.Val))) == false)) rfl (fun hg => o_move (d := .bool j86) rfl) ?_
              refine y_if (g := (((j86 != (v88.2 == 9)) || ((!j86) && (v88.1 != v87.Val))) == false)) rfl (fun hg => o_move (d := .bool j86) (ct hg)) ?_
              refine y_if (g := ((((j86 != (v88.2 == 9)) || ((!j86) && (v88.1 != v87.Val))) == false) && (j86 == true))) (want2 rfl rfl rfl) (fun hg => o_move (d := .lst false (List.map r11_Pair.Pv v6)) rfl) ?_
              refine y_if (g := ((((j86 != (v88.2 == 9)) || ((!j86) && (v88.1 != v87.Val))) == false) && (j86 == true))) (want2 rfl rfl rfl) (fun hg => o_move (d := .int .i64 s55) rfl) ?_
              refine y_if (g := ((((j86 != (v88.2 == 9)) || ((!j86) && (v88.1 != v87.Val))) == false) && (j86 == true))) (want2 rfl rfl rfl) (fun hg => o_ixL (f := r11_Pair.Pv) (cs := r11_Pair.Pc v87) hv66 (ct hg) (ct hg) Ty.e43 Ty.s53 rfl rfl) ?_
              refine y_if (g := ((((j86 != (v88.2 == 9)) || ((!j86) && (v88.1 != v87.Val))) == false) && (j86 == true))) (want2 rfl rfl rfl) (fun hg => o_fieldAddrR (ct hg) Ty.f53_1 rfl) ?_
              refine y_if (g := ((((j86 != (v88.2 == 9)) || ((!j86) && (v88.1 != v87.Val))) == false) && (j86 == true))) (want2 rfl rfl rfl) (fun hg => o_loadRS (ct hg) Ty.a3 rfl) ?_
              refine y_if (g := ((((j86 != (v88.2 == 9)) || ((!j86) && (v88.1 != v87.Val))) == false) && (j86 == true))) (want2 rfl rfl rfl) (fun hg => o_cmp (ct hg) rfl rfl) ?_
              refine y_if (g := (((j86 != (v88.2 == 9)) || ((!j86) && (v88.1 != v87.Val))) == false)) rfl (fun hg => pk_and (ct hg) rfl rfl (fun q => andI hg (eqT q))) ?_
              refine y_if (g := (((j86 != (v88.2 == 9)) || ((!j86) && (v88.1 != v87.Val))) == false)) rfl (fun hg => o_move (d := .bool (j86 && (v87.Val != 0))) (ct hg)) ?_
              refine y_if (g := ((((j86 != (v88.2 == 9)) || ((!j86) && (v88.1 != v87.Val))) == false) && ((j86 && (v87.Val != 0)) == true))) (want2 rfl rfl rfl) (fun hg => o_move (d := .lst false (List.map (PV.int .i64) v4.2)) rfl) ?_
              refine y_if (g := ((((j86 != (v88.2 == 9)) || ((!j86) && (v88.1 != v87.Val))) == false) && ((j86 && (v87.Val != 0)) == true))) (want2 rfl rfl rfl) (fun hg => o_move (d := .lst false (List.map r11_Pair.Pv v6)) rfl) ?_
              refine y_if (g := ((((j86 != (v88.2 == 9)) || ((!j86) && (v88.1 != v87.Val))) == false) && ((j86 && (v87.Val != 0)) == true))) (want2 rfl rfl rfl) (fun hg => o_move (d := .int .i64 s55) rfl) ?_
              refine y_if (g := ((((j86 != (v88.2 == 9)) || ((!j86) && (v88.1 != v87.Val))) == false) && ((j86 && (v87.Val != 0)) == true))) (want2 rfl rfl rfl) (fun hg => o_ixL (f := r11_Pair.Pv) (cs := r11_Pair.Pc v87) hv66 (ct hg) (ct hg) Ty.e43 Ty.s53 rfl rfl) ?_
              refine y_if (g := ((((j86 != (v88.2 == 9)) || ((!j86) && (v88.1 != v87.Val))) == false) && ((j86 && (v87.Val != 0)) == true))) (want2 rfl rfl rfl) (fun hg => o_fieldAddrR (ct hg) Ty.f53_1 rfl) ?_
              refine y_if (g := ((((j86 != (v88.2 == 9)) || ((!j86) && (v88.1 != v87.Val))) == false) && ((j86 && (v87.Val != 0)) == true))) (want2 rfl rfl rfl) (fun hg => o_loadRS (ct hg) Ty.a3 rfl) ?_
              obtain ⟨v89, hv68, h⟩ := bindE h
              refine y_if (g := ((((j86 != (v88.2 == 9)) || ((!j86) && (v88.1 != v87.Val))) == false) && ((j86 && (v87.Val != 0)) == true))) (want2 rfl rfl rfl) (fun hg => o_call (ds := [.lst false (List.map (PV.int .i64) v4.2), .int .i64 v87.Val]) rfl Ty.k25 (consE (ct hg) (consE (ct hg) rfl)) (r07_Times_ok (onlyE hv68 hg))) ?_
              refine y_if (g := ((((j86 != (v88.2 == 9)) || ((!j86) && (v88.1 != v87.Val))) == false) && ((j86 && (v87.Val != 0)) == true))) (want2 rfl rfl rfl) (fun hg => o_cmp (ct hg) rfl rfl) ?_
              refine y_if (g := (((j86 != (v88.2 == 9)) || ((!j86) && (v88.1 != v87.Val))) == false)) rfl (fun hg => pk_and (ct hg) rfl rfl (fun q => andI hg (eqT q))) ?_
              refine y0 rfl (pk_or rfl rfl rfl (fun q => eqF q)) ?_
              refine y_nil ?_
              refine pw_cond (((j86 != (v88.2 == 9)) || ((!j86) && (v88.1 != v87.Val))) || ((j86 && (v87.Val != 0)) && (v89 == 0))) rfl (fun hc => ?_) (fun hc => ?_)
              · have h := ifT h hc
                refine sr (by kernel_rfl) ?_
                refine y0 rfl (o_assign (d := .bool false) rfl) ?_
                refine y_nil ?_
                refine pw_ret ?_
                have he := hx44 _ (Option.some.inj h).symm
                have h := hk43
                rw [← he] at h
                obtain rfl := Option.some.inj h
                exact ⟨rfl, [_], ⟨rfl, trivial⟩, rfl, by first | exact .inl rfl | exact .inr rfl⟩
              · have h := ifF h hc
                refine pw_skip ?_
                exact ⟨rfl, (), h, (wk_st _ _ ⟨rfl, rfl, rfl, rfl, rfl, rfl, rfl, rfl, rfl, rfl, rfl, rfl, rfl, rfl, rfl, trivial⟩ trivial)⟩
            · skip
              refine sr (by kernel_rfl) ?_
              refine y0 rfl (o_assign (d := .int .i64 0) rfl) ?_
              refine y_nil ?_
              refine pw_block ?_
              obtain ⟨e90, hl69, hk70⟩ := bindE h
              refine pw_lp0 (fun (q : Bool × Int) => St.of [(1, .lst false (List.map (PV.int .i64) a1)), (5, .lst false (List.map hash_Place.Pv v4.1)), (6, .lst false (List.map (PV.int .i64) v4.2)), (7, .lst false (List.map r11_Pair.Pv v6)), (8, .int .i64 s55), (9, .bool q.1), (10, .int .i64 q.2)] []) hl69 (wk_st _ _ ⟨rfl, rfl, rfl, rfl, rfl, rfl, rfl, rfl, rfl, rfl, rfl, rfl, rfl, rfl, rfl, rfl, rfl, rfl, rfl, rfl, rfl, trivial⟩ trivial) (fun q94 x93 h hx71 => ?_)
              obtain ⟨s91, s92⟩ := q94
              refine pw_seq ?_
              refine sr (by kernel_rfl) ?_
              refine y0 rfl (o_move (d := .int .i64 s92) rfl) ?_
              refine y0 rfl (o_move (d := .lst false (List.map (PV.int .i64) a1)) rfl) ?_
              refine y0 rfl (o_lnL (f := (PV.int .i64)) rfl Ty.e23) ?_
              refine y0 rfl (o_cmp rfl rfl rfl) ?_
              refine y_nil ?_
              refine pw_cond (decide (s92 < (a1.length : Int))) rfl (fun hc => ?_) (fun hc => ?_)
              · have h := ifT h hc
                refine pw_skip ?_
                refine pw_seq ?_
                refine pw_block ?_
                refine pw_drw [] Ty.mix (by kernel_rfl) (by kernel_rfl) ?_
                refine d7 rfl (fun _ hN => o_move (d := .bool s91) rfl) rfl ?_
                refine d7 rfl (fun _ hN => o_move (d := .bool s91) rfl) rfl ?_
                refine d_if7 (g := (s91 == false)) rfl (fun hg _ hN => o_move (d := .lst false (List.map (PV.int .i64) a1)) rfl) rfl ?_
                refine d_if7 (g := (s91 == false)) rfl (fun hg _ hN => o_move (d := .int .i64 s92) rfl) rfl ?_
                obtain ⟨v95, hv72, h⟩ := bindE h
                refine d_if0 (g := (s91 == false)) rfl (fun hg => o_ixL (f := (PV.int .i64)) (cs := [.int .i64 v95]) (onlyE hv72 hg) (ct hg) (ct hg) Ty.e23 Ty.s3 rfl rfl) rfl ?_
                refine d_if0 (g := (s91 == false)) rfl (fun hg => o_loadRS (ct hg) Ty.a3 rfl) rfl ?_
                refine d_if7 (g := (s91 == false)) rfl (fun hg _ hN => o_move (d := .lst false (List.map r11_Pair.Pv v6)) rfl) rfl ?_
                refine d_if7 (g := (s91 == false)) rfl (fun hg _ hN => o_move (d := .int .i64 s55) rfl) rfl ?_
                obtain ⟨v96, hv73, h⟩ := bindE h
                refine d_if0 (g := (s91 == false)) rfl (fun hg => o_ixL (f := r11_Pair.Pv) (cs := r11_Pair.Pc v96) (onlyE hv73 hg) (ct hg) (ct hg) Ty.e43 Ty.s53 rfl rfl) rfl ?_
                refine d_if7 (g := (s91 == false)) rfl (fun hg _ hN => o_fieldAddrR (ct hg) Ty.f53_0 rfl) rfl ?_
                refine d_if0 (g := (s91 == false)) rfl (fun hg => o_loadRS (ct hg) Ty.a3 rfl) rfl ?_
                refine d_if7 (g := (s91 == false)) rfl (fun hg _ hN => o_cmp (ct hg) (ct hg) rfl) rfl ?_
                refine d7 rfl (fun _ hN => pk_or rfl rfl rfl (fun q => eqF q)) rfl ?_
                refine d7 rfl (fun _ hN => o_assign (d := .bool (s91 || (v95 == v96.Key))) rfl) rfl ?_
                refine d_nil ?_
                refine sr1 (by kernel_rfl) ?_
                refine y0 rfl (o_move (d := .int .i64 s92) rfl) ?_
                refine y0 rfl (o_ari rfl rfl rfl) ?_
                refine y0 rfl (o_assign (d := .int .i64 (w64 (s92 + 1))) rfl) ?_
                refine y_nil ?_
                exact ⟨rfl, ((s91 || (v95 == v96.Key)), w64 (s92 + 1)), (Option.some.inj h).symm, (wk_st _ _ ⟨rfl, rfl, rfl, rfl, rfl, rfl, rfl, rfl, rfl, rfl, rfl, rfl, rfl, rfl, rfl, rfl, rfl, rfl, rfl, rfl, rfl, trivial⟩ trivial)⟩
              · have h := ifF h hc
                refine pw_exit ?_
                refine thenQ_exit ?_
                refine thenQ_exit ?_
                refine blockQ_exit ?_
                have he := hx71 _ (Option.some.inj h).symm
                have h := hk70
                rw [← he] at h
                exact ⟨rfl, s91, h, (wk_st _ _ ⟨rfl, rfl, rfl, rfl, rfl, rfl, rfl, rfl, rfl, rfl, rfl, rfl, rfl, rfl, rfl, rfl, rfl, rfl, trivial⟩ trivial)⟩
        · have h := ifF h hc
          refine pw_exit ?_
          refine thenQ_exit ?_
          refine thenQ_exit ?_
          refine blockQ_exit ?_
          have he := hx44 _ (Option.some.inj h).symm
          have h := hk43
          rw [← he] at h
          exact ⟨rfl, (), h, (wk_st _ _ trivial trivial)⟩

set_option maxHeartbeats 4000000 in
theorem w11_EphemSum_ok {a0 : List hash_Place} {r : Bool} (h : w11_EphemSum a0 = some r) : PCalls Try.prog 6 [.lst false (List.map hash_Place.Pv a0)] (.bool r) := by
  unfold w11_EphemSum at h
  refine pc_intro (N := 74) Try.func6 rfl rfl (Nat.le_of_ble_eq_true rfl) fun w0 imm0 => ?_
  refine sr (by kernel_rfl) ?_
  refine y0 rfl (o_assign (d := .bool false) rfl) ?_
  refine y_nil ?_
  refine pw_seq ?_
  refine sr (by kernel_rfl) ?_
  refine y0 rfl (o_move (d := .lst false (List.map hash_Place.Pv a0)) rfl) ?_
  obtain ⟨v1, hv1, h⟩ := bindE h
  refine y0 rfl (o_call (ds := [.lst false (List.map hash_Place.Pv a0)]) rfl Ty.k8 rfl (w11_right_ok hv1)) ?_
  refine y0 rfl (o_not rfl rfl) ?_
  refine y0 rfl (o_move (d := .bool (!v1)) rfl) ?_
  obtain ⟨v2, hv2, h⟩ := bindE h
  refine y_if (g := ((!v1) == false)) rfl (fun hg => o_call (ds := []) rfl Ty.k9 rfl (w11_shown_ok (onlyE hv2 hg))) ?_
  refine y_if (g := ((!v1) == false)) rfl (fun hg => o_not (ct hg) rfl) ?_
  refine y0 rfl (pk_or rfl rfl rfl (fun q => eqF q)) ?_
  refine y_nil ?_
  refine pw_cond ((!v1) || (!v2)) rfl (fun hc => ?_) (fun hc => ?_)
  · have h := ifT h hc
    refine sr (by kernel_rfl) ?_
    obtain ⟨v3, hv3, h⟩ := bindE h
    refine y0 rfl (o_call (ds := []) rfl Ty.k9 rfl (w11_shown_ok hv3)) ?_
    refine y0 rfl (o_assign (d := .bool v3) rfl) ?_
    refine y_nil ?_
    refine pw_ret ?_
    obtain rfl := Option.some.inj h
    exact ⟨rfl, [_], ⟨rfl, trivial⟩, rfl, by first | exact .inl rfl | exact .inr rfl⟩
  · have h := ifF h hc
    refine pw_skip ?_
    refine sr (by kernel_rfl) ?_
    refine y0 rfl (o_move (d := .lst false (List.map hash_Place.Pv a0)) rfl) ?_
    obtain ⟨v4, hv4, h⟩ := bindE h
    refine yc rfl (o_callF (ls := []) (ds := [.lst false (List.map hash_Place.Pv a0)]) rfl Ty.k21 rfl (ephem_Pairs_ok hv4)) ?_
    refine y0 rfl (o_assign (d := .lst false (List.map ephem_Pair.Pv v4)) rfl) ?_
    refine y_nil ?_
    refine sr (by kernel_rfl) ?_
    refine y0 rfl (o_assign (d := .int .i64 0) rfl) ?_
    refine y_nil ?_
    refine sr (by kernel_rfl) ?_
    refine y0 rfl (o_assign (d := .int .i64 0) rfl) ?_
    refine y_nil ?_
    obtain ⟨κ47, hκ31, h⟩ := jnE h
    refine pw_jn0 (κ := κ47) (r := r) (fun (q : Int × Int) => St.of [(3, .lst false (List.map ephem_Pair.Pv v4)), (4, .int .i64 q.1), (5, .int .i64 q.2)] []) (fun q50 h => ?_) ?_
    · subst hκ31
      obtain ⟨j48, j49⟩ := q50
      refine sr (by kernel_rfl) ?_
      refine y0 rfl (o_move (d := .int .i64 j48) rfl) ?_
      refine y0 rfl (o_move (d := .int .i64 j49) rfl) ?_
      refine y0 rfl (o_cmp rfl rfl rfl) ?_
      refine y0 rfl (o_move (d := .bool (j48 == j49)) rfl) ?_
      refine y_if (g := ((j48 == j49) == true)) rfl (fun hg => o_move (d := .lst false (List.map ephem_Pair.Pv v4)) rfl) ?_
      refine y_if (g := ((j48 == j49) == true)) rfl (fun hg => o_lnL (f := ephem_Pair.Pv) (ct hg) Ty.e45) ?_
      refine y_if (g := ((j48 == j49) == true)) rfl (fun hg => o_cmp (ct hg) rfl rfl) ?_
      refine y0 rfl (pk_and rfl rfl rfl (fun q => eqT q)) ?_
      refine y0 rfl (o_assign (d := .bool ((j48 == j49) && (decide ((v4.length : Int) ≤ 8)))) rfl) ?_
      refine y_nil ?_
      refine pw_ret ?_
      obtain rfl := Option.some.inj h
      exact ⟨rfl, [_], ⟨rfl, trivial⟩, rfl, by first | exact .inl rfl | exact .inr rfl⟩
    · skip
      refine sr (by kernel_rfl) ?_
      refine y0 rfl (o_assign (d := .int .i64 0) rfl) ?_
      refine y_nil ?_
      refine pw_block ?_
      obtain ⟨e51, hl32, hk33⟩ := bindE h
      refine pw_lp0 (fun (q : Int × Int × Int) => St.of [(0, .lst false (List.map hash_Place.Pv a0)), (3, .lst false (List.map ephem_Pair.Pv v4)), (4, .int .i64 q.1), (5, .int .i64 q.2.1), (6, .int .i64 q.2.2)] []) hl32 (wk_st _ _ ⟨rfl, rfl, rfl, rfl, rfl, rfl, rfl, rfl, rfl, rfl, rfl, rfl, rfl, rfl, rfl, trivial⟩ trivial) (fun q56 x55 h hx34 => ?_)
      obtain ⟨s52, s53, s54⟩ := q56
      refine pw_seq ?_
      refine sr (by kernel_rfl) ?_
      refine y0 rfl (o_move (d := .int .i64 s54) rfl) ?_
      refine y0 rfl (o_move (d := .lst false (List.map ephem_Pair.Pv v4)) rfl) ?_
      refine y0 rfl (o_lnL (f := ephem_Pair.Pv) rfl Ty.e45) ?_
      refine y0 rfl (o_cmp rfl rfl rfl) ?_
      refine y0 rfl (o_move (d := .bool (decide (s54 < (v4.length : Int)))) rfl) ?_
      refine y_if (g := ((decide (s54 < (v4.length : Int))) == true)) rfl (fun hg => o_move (d := .int .i64 s54) rfl) ?_
      refine y_if (g := ((decide (s54 < (v4.length : Int))) == true)) rfl (fun hg => o_cmp (ct hg) rfl rfl) ?_
      refine y0 rfl (pk_and rfl rfl rfl (fun q => eqT q)) ?_
      refine y_nil ?_
      refine pw_cond ((decide (s54 < (v4.length : Int))) && (decide (s54 < 20))) rfl (fun hc => ?_) (fun hc => ?_)
      · have h := ifT h hc
        refine pw_skip ?_
        obtain ⟨κ73, hκ46, h⟩ := jnE h
        refine pw_jn0 (κ := κ73) (r := x55) (fun (q : Int × Int) => St.of [(0, .lst false (List.map hash_Place.Pv a0)), (3, .lst false (List.map ephem_Pair.Pv v4)), (4, .int .i64 q.1), (5, .int .i64 q.2), (6, .int .i64 s54)] []) (fun q76 h => ?_) ?_
        · subst hκ46
          obtain ⟨j74, j75⟩ := q76
          refine sr1 (by kernel_rfl) ?_
          refine y0 rfl (o_move (d := .int .i64 s54) rfl) ?_
          refine y0 rfl (o_ari rfl rfl rfl) ?_
          refine y0 rfl (o_assign (d := .int .i64 (w64 (s54 + 1))) rfl) ?_
          refine y_nil ?_
          exact ⟨rfl, (j74, j75, w64 (s54 + 1)), (Option.some.inj h).symm, (wk_st _ _ ⟨rfl, rfl, rfl, rfl, rfl, rfl, rfl, rfl, rfl, rfl, rfl, rfl, rfl, rfl, rfl, trivial⟩ trivial)⟩
        · skip
          refine pw_block ?_
          refine pw_seq ?_
          refine sr (by kernel_rfl) ?_
          refine y0 rfl (o_move (d := .lst false (List.map ephem_Pair.Pv v4)) rfl) ?_
          refine y0 rfl (o_move (d := .int .i64 s54) rfl) ?_
          obtain ⟨v77, hv47, h⟩ := bindE h
          refine y0 rfl (o_ixL (f := ephem_Pair.Pv) (cs := ephem_Pair.Pc v77) hv47 rfl rfl Ty.e45 Ty.s56 rfl rfl) ?_
          refine y0 rfl (o_fieldAddrR rfl Ty.f56_1 rfl) ?_
          refine y0 rfl (o_loadRS rfl Ty.a3 rfl) ?_
          refine y0 rfl (o_cmp rfl rfl rfl) ?_
          refine y_nil ?_
          refine pw_cond (v77.Val == 0) rfl (fun hc => ?_) (fun hc => ?_)
          · have h := ifT h hc
            refine pw_exit ?_
            refine thenQ_exit ?_
            refine blockQ_exit ?_
            exact ⟨rfl, (s52, s53), h, (wk_st _ _ ⟨rfl, rfl, rfl, rfl, rfl, rfl, rfl, rfl, rfl, rfl, rfl, rfl, rfl, rfl, rfl, trivial⟩ trivial)⟩
          · have h := ifF h hc
            refine pw_skip ?_
            refine sr (by kernel_rfl) ?_
            refine y0 rfl (o_move (d := .int .i64 s52) rfl) ?_
            refine y0 rfl (o_ari rfl rfl rfl) ?_
            refine y0 rfl (o_assign (d := .int .i64 (w64 (s52 + 1))) rfl) ?_
            refine y_nil ?_
            refine sr (by kernel_rfl) ?_
            refine y0 rfl (o_assign (d := .bool true) rfl) ?_
            refine y_nil ?_
            obtain ⟨κ84, hκ52, h⟩ := jnE h
            refine pw_jn0 (κ := κ84) (r := x55) (fun (j85 : Bool) => St.of [(0, .lst false (List.map hash_Place.Pv a0)), (3, .lst false (List.map ephem_Pair.Pv v4)), (4, .int .i64 (w64 (s52 + 1))), (5, .int .i64 s53), (6, .int .i64 s54), (7, .bool j85)] []) (fun j85 h => ?_) ?_
            · subst hκ52
              refine sr (by kernel_rfl) ?_
              refine y0 rfl (o_move (d := .bool j85) rfl) ?_
              refine y_nil ?_
              refine pw_cond j85 rfl (fun hc => ?_) (fun hc => ?_)
              · have h := ifT h hc
                refine sr1 (by kernel_rfl) ?_
                refine y0 rfl (o_move (d := .int .i64 s53) rfl) ?_
                refine y0 rfl (o_move (d := .lst false (List.map hash_Place.Pv a0)) rfl) ?_
                refine y0 rfl (o_move (d := .lst false (List.map ephem_Pair.Pv v4)) rfl) ?_
                refine y0 rfl (o_move (d := .int .i64 s54) rfl) ?_
                refine y0 rfl (o_ixL (f := ephem_Pair.Pv) (cs := ephem_Pair.Pc v77) hv47 rfl rfl Ty.e45 Ty.s56 rfl rfl) ?_
                refine y0 rfl (o_fieldAddrR rfl Ty.f56_1 rfl) ?_
                refine y0 rfl (o_loadRS rfl Ty.a3 rfl) ?_
                obtain ⟨v86, hv53, h⟩ := bindE h
                refine y0 rfl (o_call (ds := [.lst false (List.map hash_Place.Pv a0), .int .i64 v77.Val]) rfl Ty.k23 rfl (ephem_Owned_ok hv53)) ?_
                refine y0 rfl (o_ari rfl rfl rfl) ?_
                refine y0 rfl (o_assign (d := .int .i64 (w64 (s53 + v86))) rfl) ?_
                refine y_nil ?_
                exact ⟨rfl, (w64 (s52 + 1), w64 (s53 + v86)), h, (wk_st _ _ ⟨rfl, rfl, rfl, rfl, rfl, rfl, rfl, rfl, rfl, rfl, rfl, rfl, rfl, rfl, rfl, trivial⟩ trivial)⟩
              · have h := ifF h hc
                refine pw_skip ?_
                exact ⟨rfl, (w64 (s52 + 1), s53), h, (wk_st _ _ ⟨rfl, rfl, rfl, rfl, rfl, rfl, rfl, rfl, rfl, rfl, rfl, rfl, rfl, rfl, rfl, trivial⟩ trivial)⟩
            · skip
              refine sr (by kernel_rfl) ?_
              refine y0 rfl (o_assign (d := .int .i64 0) rfl) ?_
              refine y_nil ?_
              refine pw_block ?_
              obtain ⟨e87, hl54, hk55⟩ := bindE h
              refine pw_lp0 (fun (q : Bool × Int) => St.of [(0, .lst false (List.map hash_Place.Pv a0)), (3, .lst false (List.map ephem_Pair.Pv v4)), (4, .int .i64 (w64 (s52 + 1))), (5, .int .i64 s53), (6, .int .i64 s54), (7, .bool q.1), (8, .int .i64 q.2)] []) hl54 (wk_st _ _ ⟨rfl, rfl, rfl, rfl, rfl, rfl, rfl, rfl, rfl, rfl, rfl, rfl, rfl, rfl, rfl, rfl, rfl, rfl, rfl, rfl, rfl, trivial⟩ trivial) (fun q91 x90 h hx56 => ?_)
              obtain ⟨s88, s89⟩ := q91
              refine pw_seq ?_
              refine sr (by kernel_rfl) ?_
              refine y0 rfl (o_move (d := .int .i64 s89) rfl) ?_
              refine y0 rfl (o_move (d := .int .i64 s54) rfl) ?_
              refine y0 rfl (o_cmp rfl rfl rfl) ?_
              refine y_nil ?_
              refine pw_cond (decide (s89 < s54)) rfl (fun hc => ?_) (fun hc => ?_)
              · have h := ifT h hc
                refine pw_skip ?_
                refine pw_seq ?_
                refine pw_block ?_
                refine pw_drw [] Ty.mix (by kernel_rfl) (by kernel_rfl) ?_
                refine d7 rfl (fun _ hN => o_move (d := .bool s88) rfl) rfl ?_
                refine d7 rfl (fun _ hN => o_move (d := .bool s88) rfl) rfl ?_
                refine d_if7 (g := (s88 == true)) rfl (fun hg _ hN => o_move (d := .lst false (List.map ephem_Pair.Pv v4)) rfl) rfl ?_
                refine d_if7 (g := (s88 == true)) rfl (fun hg _ hN => o_move (d := .int .i64 s89) rfl) rfl ?_
                obtain ⟨v92, hv57, h⟩ := bindE h
                refine d_if0 (g := (s88 == true)) rfl (fun hg => o_ixL (f := ephem_Pair.Pv) (cs := ephem_Pair.Pc v92) (onlyE hv57 hg) (ct hg) (ct hg) Ty.e45 Ty.s56 rfl rfl) rfl ?_
                refine d_if7 (g := (s88 == true)) rfl (fun hg _ hN => o_fieldAddrR (ct hg) Ty.f56_1 rfl) rfl ?_
                refine d_if0 (g := (s88 == true)) rfl (fun hg => o_loadRS (ct hg) Ty.a3 rfl) rfl ?_
                refine d_if7 (g := (s88 == true)) rfl (fun hg _ hN => o_move (d := .lst false (List.map ephem_Pair.Pv v4)) rfl) rfl ?_
                refine d_if7 (g := (s88 == true)) rfl (fun hg _ hN => o_move (d := .int .i64 s54) rfl) rfl ?_
                refine d_if0 (g := (s88 == true)) rfl (fun hg => o_ixL (f := ephem_Pair.Pv) (cs := ephem_Pair.Pc v77) hv47 (ct hg) (ct hg) Ty.e45 Ty.s56 rfl rfl) rfl ?_
                refine d_if7 (g := (s88 == true)) rfl (fun hg _ hN => o_fieldAddrR (ct hg) Ty.f56_1 rfl) rfl ?_
                refine d_if0 (g := (s88 == true)) rfl (fun hg => o_loadRS (ct hg) Ty.a3 rfl) rfl ?_
                refine d_if7 (g := (s88 == true)) rfl (fun hg _ hN => o_cmp (ct hg) (ct hg) rfl) rfl ?_
                refine d7 rfl (fun _ hN => pk_and rfl rfl rfl (fun q => eqT q)) rfl ?_
                refine d7 rfl (fun _ hN => o_assign (d := .bool (s88 && (v92.Val != v77.Val))) rfl) rfl ?_
                refine d_nil ?_
                refine sr1 (by kernel_rfl) ?_
                refine y0 rfl (o_move (d := .int .i64 s89) rfl) ?_
                refine y0 rfl (o_ari rfl rfl rfl) ?_
                refine y0 rfl (o_assign (d := .int .i64 (w64 (s89 + 1))) rfl) ?_
                refine y_nil ?_
                exact ⟨rfl, ((s88 && (v92.Val != v77.Val)), w64 (s89 + 1)), (Option.some.inj h).symm, (wk_st _ _ ⟨rfl, rfl, rfl, rfl, rfl, rfl, rfl, rfl, rfl, rfl, rfl, rfl, rfl, rfl, rfl, rfl, rfl, rfl, rfl, rfl, rfl, trivial⟩ trivial)⟩
              · have h := ifF h hc
                refine pw_exit ?_
                refine thenQ_exit ?_
                refine thenQ_exit ?_
                refine blockQ_exit ?_
                have he := hx56 _ (Option.some.inj h).symm
                have h := hk55
                rw [← he] at h
                exact ⟨rfl, s88, h, (wk_st _ _ ⟨rfl, rfl, rfl, rfl, rfl, rfl, rfl, rfl, rfl, rfl, rfl, rfl, rfl, rfl, rfl, rfl, rfl, rfl, trivial⟩ trivial)⟩
      · have h := ifF h hc
        refine pw_exit ?_
        refine thenQ_exit ?_
        refine thenQ_exit ?_
        refine blockQ_exit ?_
        have he := hx34 _ (Option.some.inj h).symm
        have h := hk33
        rw [← he] at h
        exact ⟨rfl, (s52, s53), h, (wk_st _ _ ⟨rfl, rfl, rfl, rfl, rfl, rfl, rfl, rfl, rfl, trivial⟩ trivial)⟩

set_option maxHeartbeats 4000000 in
theorem w11_EphemBack_ok {a0 : List hash_Place} {a1 : Int} {a2 : Int} {a3 : Int} {r : Bool} (h : w11_EphemBack a0 a1 a2 a3 = some r) : PCalls Try.prog 7 [.lst false (List.map hash_Place.Pv a0), .int .i64 a1, .int .i64 a2, .int .i64 a3] (.bool r) := by
  unfold w11_EphemBack at h
  refine pc_intro (N := 118) Try.func7 rfl rfl (Nat.le_of_ble_eq_true rfl) fun w0 imm0 => ?_
  refine sr (by kernel_rfl) ?_
  refine y0 rfl (o_assign (d := .bool false) rfl) ?_
  refine y_nil ?_
  refine pw_seq ?_
  refine sr (by kernel_rfl) ?_
  refine y0 rfl (o_move (d := .lst false (List.map hash_Place.Pv a0)) rfl) ?_
  obtain ⟨v1, hv1, h⟩ := bindE h
  refine y0 rfl (o_call (ds := [.lst false (List.map hash_Place.Pv a0)]) rfl Ty.k8 rfl (w11_right_ok hv1)) ?_
  refine y0 rfl (o_not rfl rfl) ?_
  refine y0 rfl (o_move (d := .bool (!v1)) rfl) ?_
  refine y_if (g := ((!v1) == false)) rfl (fun hg => o_move (d := .int .i64 a1) rfl) ?_
  refine y_if (g := ((!v1) == false)) rfl (fun hg => o_cmp (ct hg) rfl rfl) ?_
  refine y0 rfl (pk_or rfl rfl rfl (fun q => eqF q)) ?_
  refine y0 rfl (o_move (d := .bool ((!v1) || (a1 == 0))) rfl) ?_
  refine y_if (g := (((!v1) || (a1 == 0)) == false)) rfl (fun hg => o_move (d := .int .i64 a2) rfl) ?_
  refine y_if (g := (((!v1) || (a1 == 0)) == false)) rfl (fun hg => o_cmp (ct hg) rfl rfl) ?_
  refine y0 rfl (pk_or rfl rfl rfl (fun q => eqF q)) ?_
  refine y0 rfl (o_move (d := .bool (((!v1) || (a1 == 0)) || (a2 == 0))) rfl) ?_
  refine y_if (g := ((((!v1) || (a1 == 0)) || (a2 == 0)) == false)) rfl (fun hg => o_move (d := .int .i64 a3) rfl) ?_
  refine y_if (g := ((((!v1) || (a1 == 0)) || (a2 == 0)) == false)) rfl (fun hg => o_cmp (ct hg) rfl rfl) ?_
  refine y0 rfl (pk_or rfl rfl rfl (fun q => eqF q)) ?_
  refine y0 rfl (o_move (d := .bool ((((!v1) || (a1 == 0)) || (a2 == 0)) || (a3 == 0))) rfl) ?_
  obtain ⟨v2, hv2, h⟩ := bindE h
  refine y_if (g := (((((!v1) || (a1 == 0)) || (a2 == 0)) || (a3 == 0)) == false)) rfl (fun hg => o_call (ds := []) rfl Ty.k9 rfl (w11_shown_ok (onlyE hv2 hg))) ?_
  refine y_if (g := (((((!v1) || (a1 == 0)) || (a2 == 0)) || (a3 == 0)) == false)) rfl (fun hg => o_not (ct hg) rfl) ?_
  refine y0 rfl (pk_or rfl rfl rfl (fun q => eqF q)) ?_
  refine y_nil ?_
  refine pw_cond (((((!v1) || (a1 == 0)) || (a2 == 0)) || (a3 == 0)) || (!v2)) rfl (fun hc => ?_) (fun hc => ?_)
  · have h := ifT h hc
    refine sr (by kernel_rfl) ?_
    obtain ⟨v3, hv3, h⟩ := bindE h
    refine y0 rfl (o_call (ds := []) rfl Ty.k9 rfl (w11_shown_ok hv3)) ?_
    refine y0 rfl (o_assign (d := .bool v3) rfl) ?_
    refine y_nil ?_
    refine pw_ret ?_
    obtain rfl := Option.some.inj h
    exact ⟨rfl, [_], ⟨rfl, trivial⟩, rfl, by first | exact .inl rfl | exact .inr rfl⟩
  · have h := ifF h hc
    refine pw_skip ?_
    refine sr (by kernel_rfl) ?_
    refine y0 rfl (o_move (d := .lst false (List.map hash_Place.Pv a0)) rfl) ?_
    refine y0 rfl (o_move (d := .int .i64 a1) rfl) ?_
    refine y0 rfl (o_move (d := .int .i64 a2) rfl) ?_
    obtain ⟨v4, hv4, h⟩ := bindE h
    refine yc rfl (o_callF (ls := []) (ds := [.lst false (List.map hash_Place.Pv a0), .int .i64 a1, .int .i64 a2]) rfl Ty.k11 rfl (ephem_Set_ok hv4)) ?_
    refine y0 rfl (o_move (d := .tup [.lst false (List.map hash_Place.Pv v4.1), .int .i64 v4.2.1, .int .i64 v4.2.2]) rfl) ?_
    refine y0 rfl (o_extract rfl rfl) ?_
    refine y0 rfl (o_extract rfl rfl) ?_
    refine y0 rfl (o_extract rfl rfl) ?_
    refine y0 rfl (o_assign (d := .lst false (List.map hash_Place.Pv v4.1)) rfl) ?_
    refine y0 rfl (o_assign (d := .int .i64 v4.2.1) rfl) ?_
    refine y0 rfl (o_assign (d := .int .i64 v4.2.2) rfl) ?_
    refine y_nil ?_
    refine pw_seq ?_
    refine sr (by kernel_rfl) ?_
    refine y0 rfl (o_move (d := .int .i64 v4.2.2) rfl) ?_
    refine y0 rfl (o_cmp rfl rfl rfl) ?_
    refine y_nil ?_
    refine pw_cond (v4.2.2 != 0) rfl (fun hc => ?_) (fun hc => ?_)
    · have h := ifT h hc
      refine sr (by kernel_rfl) ?_
      refine y0 rfl (o_move (d := .int .i64 v4.2.2) rfl) ?_
      refine y0 rfl (o_cmp rfl rfl rfl) ?_
      refine y0 rfl (o_move (d := .bool (v4.2.2 == 8)) rfl) ?_
      refine y_if (g := ((v4.2.2 == 8) == true)) rfl (fun hg => o_move (d := .lst false (List.map hash_Place.Pv a0)) rfl) ?_
      obtain ⟨v5, hv5, h⟩ := bindE h
      refine y_ifc (g := ((v4.2.2 == 8) == true)) rfl (fun hg => o_callF (ls := []) (ds := [.lst false (List.map hash_Place.Pv a0)]) rfl Ty.k21 (consE (ct hg) rfl) (ephem_Pairs_ok (onlyE hv5 hg))) ?_
      refine y_if (g := ((v4.2.2 == 8) == true)) rfl (fun hg => o_lnL (f := ephem_Pair.Pv) (ct hg) Ty.e45) ?_
      refine y_if (g := ((v4.2.2 == 8) == true)) rfl (fun hg => o_move (d := .lst false (List.map hash_Place.Pv a0)) rfl) ?_
      refine y_if (g := ((v4.2.2 == 8) == true)) rfl (fun hg => o_lnL (f := hash_Place.Pv) (ct hg) Ty.e22) ?_
      refine y_if (g := ((v4.2.2 == 8) == true)) rfl (fun hg => o_cmp (ct hg) (ct hg) rfl) ?_
      refine y0 rfl (pk_and rfl rfl rfl (fun q => eqT q)) ?_
      refine y0 rfl (o_assign (d := .bool ((v4.2.2 == 8) && ((v5.length : Int) == (a0.length : Int)))) rfl) ?_
      refine y_nil ?_
      refine pw_ret ?_
      obtain rfl := Option.some.inj h
      exact ⟨rfl, [_], ⟨rfl, trivial⟩, rfl, by first | exact .inl rfl | exact .inr rfl⟩
    · have h := ifF h hc
      refine pw_skip ?_
      refine sr (by kernel_rfl) ?_
      refine y0 rfl (o_move (d := .lst false (List.map hash_Place.Pv v4.1)) rfl) ?_
      refine y0 rfl (o_move (d := .int .i64 a1) rfl) ?_
      obtain ⟨v6, hv6, h⟩ := bindE h
      refine y0 rfl (o_call (ds := [.lst false (List.map hash_Place.Pv v4.1), .int .i64 a1]) rfl Ty.k13 rfl (ephem_Get_ok hv6)) ?_
      refine y0 rfl (o_move (d := .tup [.int .i64 v6.1, .int .i64 v6.2]) rfl) ?_
      refine y0 rfl (o_extract rfl rfl) ?_
      refine y0 rfl (o_extract rfl rfl) ?_
      refine y0 rfl (o_assign (d := .int .i64 v6.1) rfl) ?_
      refine y0 rfl (o_assign (d := .int .i64 v6.2) rfl) ?_
      refine y_nil ?_
      refine sr (by kernel_rfl) ?_
      refine y0 rfl (o_move (d := .lst false (List.map hash_Place.Pv v4.1)) rfl) ?_
      refine y0 rfl (o_move (d := .int .i64 a1) rfl) ?_
      refine y0 rfl (o_move (d := .int .i64 a3) rfl) ?_
      obtain ⟨v7, hv7, h⟩ := bindE h
      refine yc rfl (o_callF (ls := []) (ds := [.lst false (List.map hash_Place.Pv v4.1), .int .i64 a1, .int .i64 a3]) rfl Ty.k11 rfl (ephem_Set_ok hv7)) ?_
      refine y0 rfl (o_move (d := .tup [.lst false (List.map hash_Place.Pv v7.1), .int .i64 v7.2.1, .int .i64 v7.2.2]) rfl) ?_
      refine y0 rfl (o_extract rfl rfl) ?_
      refine y0 rfl (o_extract rfl rfl) ?_
      refine y0 rfl (o_extract rfl rfl) ?_
      refine y0 rfl (o_assign (d := .lst false (List.map hash_Place.Pv v7.1)) rfl) ?_
      refine y0 rfl (o_assign (d := .int .i64 v7.2.1) rfl) ?_
      refine y0 rfl (o_assign (d := .int .i64 v7.2.2) rfl) ?_
      refine y_nil ?_
      refine sr (by kernel_rfl) ?_
      refine y0 rfl (o_move (d := .lst false (List.map hash_Place.Pv v7.1)) rfl) ?_
      refine y0 rfl (o_move (d := .int .i64 a1) rfl) ?_
      obtain ⟨v8, hv8, h⟩ := bindE h
      refine yc rfl (o_callF (ls := []) (ds := [.lst false (List.map hash_Place.Pv v7.1), .int .i64 a1, .int .i64 0]) rfl Ty.k11 rfl (ephem_Set_ok hv8)) ?_
      refine y0 rfl (o_move (d := .tup [.lst false (List.map hash_Place.Pv v8.1), .int .i64 v8.2.1, .int .i64 v8.2.2]) rfl) ?_
      refine y0 rfl (o_extract rfl rfl) ?_
      refine y0 rfl (o_extract rfl rfl) ?_
      refine y0 rfl (o_extract rfl rfl) ?_
      refine y0 rfl (o_assign (d := .lst false (List.map hash_Place.Pv v8.1)) rfl) ?_
      refine y0 rfl (o_assign (d := .int .i64 v8.2.1) rfl) ?_
      refine y0 rfl (o_assign (d := .int .i64 v8.2.2) rfl) ?_
      refine y_nil ?_
      refine sr (by kernel_rfl) ?_
      refine y0 rfl (o_move (d := .lst false (List.map hash_Place.Pv v8.1)) rfl) ?_
      refine y0 rfl (o_move (d := .int .i64 a1) rfl) ?_
      obtain ⟨v9, hv9, h⟩ := bindE h
      refine y0 rfl (o_call (ds := [.lst false (List.map hash_Place.Pv v8.1), .int .i64 a1]) rfl Ty.k13 rfl (ephem_Get_ok hv9)) ?_
      refine y0 rfl (o_move (d := .tup [.int .i64 v9.1, .int .i64 v9.2]) rfl) ?_
      refine y0 rfl (o_extract rfl rfl) ?_
      refine y0 rfl (o_extract rfl rfl) ?_
      refine y0 rfl (o_assign (d := .int .i64 v9.1) rfl) ?_
      refine y0 rfl (o_assign (d := .int .i64 v9.2) rfl) ?_
      refine y_nil ?_
      refine sr (by kernel_rfl) ?_
      refine y0 rfl (o_move (d := .int .i64 v6.1) rfl) ?_
      refine y0 rfl (o_move (d := .int .i64 a2) rfl) ?_
      refine y0 rfl (o_cmp rfl rfl rfl) ?_
      refine y0 rfl (o_move (d := .bool (v6.1 == a2)) rfl) ?_
      refine y_if (g := ((v6.1 == a2) == true)) rfl (fun hg => o_move (d := .int .i64 v6.2) rfl) ?_
      refine y_if (g := ((v6.1 == a2) == true)) rfl (fun hg => o_cmp (ct hg) rfl rfl) ?_
      refine y0 rfl (pk_and rfl rfl rfl (fun q => eqT q)) ?_
      refine y0 rfl (o_move (d := .bool ((v6.1 == a2) && (v6.2 == 0))) rfl) ?_
      refine y_if (g := (((v6.1 == a2) && (v6.2 == 0)) == true)) rfl (fun hg => o_move (d := .int .i64 v7.2.1) rfl) ?_
      refine y_if (g := (((v6.1 == a2) && (v6.2 == 0)) == true)) rfl (fun hg => o_move (d := .int .i64 a2) rfl) ?_
      refine y_if (g := (((v6.1 == a2) && (v6.2 == 0)) == true)) rfl (fun hg => o_cmp (ct hg) (ct hg) rfl) ?_
      refine y0 rfl (pk_and rfl rfl rfl (fun q => eqT q)) ?_
      refine y0 rfl (o_move (d := .bool (((v6.1 == a2) && (v6.2 == 0)) && (v7.2.1 == a2))) rfl) ?_
      refine y_if (g := ((((v6.1 == a2) && (v6.2 == 0)) && (v7.2.1 == a2)) == true)) rfl (fun hg => o_move (d := .int .i64 v7.2.2) rfl) ?_
      refine y_if (g := ((((v6.1 == a2) && (v6.2 == 0)) && (v7.2.1 == a2)) == true)) rfl (fun hg => o_cmp (ct hg) rfl rfl) ?_
      refine y0 rfl (pk_and rfl rfl rfl (fun q => eqT q)) ?_
      refine y0 rfl (o_move (d := .bool ((((v6.1 == a2) && (v6.2 == 0)) && (v7.2.1 == a2)) && (v7.2.2 == 0))) rfl) ?_
      refine y_if (g := (((((v6.1 == a2) && (v6.2 == 0)) && (v7.2.1 == a2)) && (v7.2.2 == 0)) == true)) rfl (fun hg => o_move (d := .int .i64 v8.2.1) rfl) ?_
      refine y_if (g := (((((v6.1 == a2) && (v6.2 == 0)) && (v7.2.1 == a2)) && (v7.2.2 == 0)) == true)) rfl (fun hg => o_move (d := .int .i64 a3) rfl) ?_
      refine y_if (g := (((((v6.1 == a2) && (v6.2 == 0)) && (v7.2.1 == a2)) && (v7.2.2 == 0)) == true)) rfl (fun hg => o_cmp (ct hg) (ct hg) rfl) ?_
      refine y0 rfl (pk_and rfl rfl rfl (fun q => eqT q)) ?_
      refine y0 rfl (o_move (d := .bool (((((v6.1 == a2) && (v6.2 == 0)) && (v7.2.1 == a2)) && (v7.2.2 == 0)) && (v8.2.1 == a3))) rfl) ?_
      refine y_if (g := ((((((v6.1 == a2) && (v6.2 == 0)) && (v7.2.1 == a2)) && (v7.2.2 == 0)) && (v8.2.1 == a3)) == true)) rfl (fun hg => o_move (d := .int .i64 v8.2.2) rfl) ?_
      refine y_if (g := ((((((v6.1 == a2) && (v6.2 == 0)) && (v7.2.1 == a2)) && (v7.2.2 == 0)) && (v8.2.1 == a3)) == true)) rfl (fun hg => o_cmp (ct hg) rfl rfl) ?_
      refine y0 rfl (pk_and rfl rfl rfl (fun q => eqT q)) ?_
      refine y0 rfl (o_move (d := .bool ((((((v6.1 == a2) && (v6.2 == 0)) && (v7.2.1 == a2)) && (v7.2.2 == 0)) && (v8.2.1 == a3)) && (v8.2.2 == 0))) rfl) ?_
      refine y_if (g := (((((((v6.1 == a2) && (v6.2 == 0)) && (v7.2.1 == a2)) && (v7.2.2 == 0)) && (v8.2.1 == a3)) && (v8.2.2 == 0)) == true)) rfl (fun hg => o_move (d := .int .i64 v9.2) rfl) ?_
      refine y_if (g := (((((((v6.1 == a2) && (v6.2 == 0)) && (v7.2.1 == a2)) && (v7.2.2 == 0)) && (v8.2.1 == a3)) && (v8.2.2 == 0)) == true)) rfl (fun hg => o_cmp (ct hg) rfl rfl) ?_
      refine y0 rfl (pk_and rfl rfl rfl (fun q => eqT q)) ?_
      refine y0 rfl (o_assign (d := .bool (((((((v6.1 == a2) && (v6.2 == 0)) && (v7.2.1 == a2)) && (v7.2.2 == 0)) && (v8.2.1 == a3)) && (v8.2.2 == 0)) && (v9.2 == 9))) rfl) ?_
      refine y_nil ?_
      refine pw_ret ?_
      obtain rfl := Option.some.inj h
      exact ⟨rfl, [_], ⟨rfl, trivial⟩, rfl, by first | exact .inl rfl | exact .inr rfl⟩

end Go.Proofs.Ytkjilddlbaibfaa.Ok
