/-
 The functions of the program do as the plain functions do.
-/
import Derived.Test.YtnfmdpblilpcbaaGreatI154Ok2
namespace Go.Proofs.YtnfmdpblilpcbaaGreat.Ok
open Go Go.Pw Go.Sh Go.Proofs
set_option linter.unusedVariables false
set_option maxRecDepth 100000
set_option maxHeartbeats 4000000
theorem store_serialsDiffer_ok {a0 : store_Store} {r : Bool} (h : store_serialsDiffer a0 = some r) : PCalls Tryz.prog 254 [store_Store.Pv a0] (.bool r) := by
 unfold store_serialsDiffer at h
 refine pc_intro (N := 28) Tryz.func254 J J nl fun w0 imm0 => sR <| y1 J (o_box (d := store_Store.Pv a0) J J J J J) J <| yb J J <| yN <| sR <| y_mkM (KT := Int) (VT := Bool) (EK := iF) (E := PV.bool) 5000006 J J <| yA (d := .mp 5000006) J J <| yN ?_
 obtain ⟨κ12, hκ9, h⟩ := jnE h
 refine pw_jn0 (κ := κ12) (r := r) (fun (_ : Unit) => St.of [] []) (fun q13 h => ?_) ?_
 ·subst hκ9
  refine sR <| yb J J <| yN <| pw_ret ?_
  obtain rfl := oj h
  exact ⟨J, [_], ⟨J, tr⟩, J, io⟩
 ·skip
  refine sR <| yF J J Ty.f26_0 J <| yF J J Ty.f24_0 J <| yS J J J J Ty.a22 J <| y0 J (o_lnL (f := slab_Cell_store_Obj.Pv) J Ty.e22) <| yI J J <| yN <| pw_block ?_
  obtain ⟨e14, hl10, hk11⟩ := bindE h
  refine pw_lp0 (fun (q : Int × (List (Int × Bool))) => St.of [(3, .mp 5000006), (9, .L slab_Cell_store_Obj.Pv a0.S.Cells), (10, .I (a0.S.Cells.length : Int)), (11, .I q.1)] [(5000006, ⟨[.mapc (List.map (ent iF PV.bool) q.2)], 0, false, 0, false⟩)]) hl10 (wk_st _ _ ⟨J, J, J, J, J, J, J, J, J, J, J, J, tr⟩ ⟨rowLe_open J J J (fun q => nomatch q) J J J J, tr⟩) (fun q18 x17 h hx12 => ?_)
  obtain ⟨s15, s16⟩ := q18
  refine sR <| y0 J (o_cmp J J J) <| yN <| pw_seq ?_
  refine pw_cond (decide (s15 < (a0.S.Cells.length : Int))) J (fun hc => ?_) (fun hc => ?_)
  ·have h := ifT h hc
   refine pw_skip ?_
   obtain ⟨κ21, hκ15, h⟩ := jnE h
   refine pw_jn0 (κ := κ21) (r := x17) (fun (j22 : List (Int × Bool)) => St.of [(3, .mp 5000006), (9, .L slab_Cell_store_Obj.Pv a0.S.Cells), (10, .I (a0.S.Cells.length : Int)), (11, .I s15)] [(5000006, ⟨[.mapc (List.map (ent iF PV.bool) j22)], 0, false, 0, false⟩)]) (fun j22 h => ?_) ?_
   ·subst hκ15
    refine s1 <| y0 J (o_ari J J J) <| yI J J <| yN ?_
    exact ⟨J, (w64 (s15 + 1), j22), (oj h).symm, (wk_st _ _ ⟨J, J, J, J, J, J, J, J, J, J, J, J, tr⟩ ⟨rowLe_open J J J (fun q => nomatch q) J J J J, tr⟩)⟩
   ·skip
    refine pw_block <| sR <| bnE h fun v23 hv16 h => y0 J (o_ixL (f := slab_Cell_store_Obj.Pv) (cs := slab_Cell_store_Obj.Pc v23) hv16 J J Ty.e22 Ty.s141 J J) <| y0 J (o_loadRA J Ty.a141 Ty.s141 nl J) <| y1 J (o_alloc J Ty.z141 J J J) J <| y_sto (x' := slab_Cell_store_Obj.Pv v23) (cl' := true) J J (.inr J) Ty.s141 <| yN <| pw_seq <| sR <| yL J J J J Ty.a141 Ty.s141 nl J <| bnE h fun v24 hv17 h => y0 J (o_call J Ty.k279 J (store_holdsObject_ok hv17)) <| y0 J (o_not J J) <| yN ?_
    refine pw_cond (!v24) J (fun hc => ?_) (fun hc => ?_)
    ·have h := ifT h hc
     refine pw_exit <| thenQ_exit <| blockQ_exit ?_
     exact ⟨J, s16, h, (wk_st _ _ ⟨J, J, J, J, J, J, J, J, J, J, J, J, tr⟩ ⟨rowLe_open J J J (fun q => nomatch q) J J J J, tr⟩)⟩
    ·have h := ifF h hc
     refine pw_skip <| pw_seq <| sR <| yM (d := .mp 5000006) J J <| yF J J Ty.f141_2 J <| yF J J Ty.f91_0 J <| yS J J J J Ty.a3 J <| y_lkM (es := s16) (k := v23.Val.Serial) (E := PV.bool) (EK := iF) (d := .bool ((mget s16 v23.Val.Serial).getD (false : Bool))) J J J J Ty.mm222 (keyT_int Ty.u3) Ty.z4 J (lk1 _ _ _) <| yN ?_
     refine pw_cond ((mget s16 v23.Val.Serial).getD (false : Bool)) J (fun hc => ?_) (fun hc => ?_)
     ·have h := ifT h hc
      refine sR <| yb J J <| yN <| pw_ret ?_
      have he := hx12 _ (oj h).symm
      have h := hk11
      rw [← he] at h
      obtain rfl := oj h
      exact ⟨J, [_], ⟨J, tr⟩, J, io⟩
     ·have h := ifF h hc
      refine pw_skip <| s1 <| yM (d := .mp 5000006) J J <| yF J J Ty.f141_2 J <| yF J J Ty.f91_0 J <| yS J J J J Ty.a3 J <| y_setM (es := s16) (k := v23.Val.Serial) (v := true) (E := PV.bool) (EK := iF) (.inl J) J J J J J J Ty.mm222 (keyT_int Ty.u3) <| yN ?_
      exact ⟨J, (mput s16 v23.Val.Serial true), h, (wk_st _ _ ⟨J, J, J, J, J, J, J, J, J, J, J, J, tr⟩ ⟨rowLe_open J J J (fun q => nomatch q) J J J J, tr⟩)⟩
  ·have h := ifF h hc
   refine pw_exit <| thenQ_exit <| thenQ_exit <| blockQ_exit ?_
   have he := hx12 _ (oj h).symm
   have h := hk11
   rw [← he] at h
   exact ⟨J, (), h, (wk_st _ _ tr tr)⟩

theorem store_Right_ok {a0 : store_Store} {r : Bool} (h : store_Right a0 = some r) : PCalls Tryz.prog 200 [store_Store.Pv a0] (.bool r) := by
 unfold store_Right at h
 refine pc_intro (N := 53) Tryz.func200 J J nl fun w0 imm0 => sR <| y1 J (o_box (d := store_Store.Pv a0) J J J J J) J <| yb J J <| yN <| pw_seq <| sR <| yF J J Ty.f26_0 J <| yF J J Ty.f24_0 J <| yS J J J J Ty.a22 J <| y0 J (o_lnL (f := slab_Cell_store_Obj.Pv) J Ty.e22) <| y0 J (o_cmp J J J) <| yB J J <| y_if J (fun hg => oF J Ty.f26_0 J) <| y_if J (fun hg => oF (ct hg) Ty.f24_1 J) <| y_if J (fun hg => oS (ct hg) J J Ty.a3 J) <| y_if J (fun hg => o_cmp (ct hg) J J) <| y0 J (pk_or J J J (fun q => eqF q)) <| yB J J <| y_if J (fun hg => oF J Ty.f26_0 J) <| y_if J (fun hg => oF (ct hg) Ty.f24_1 J) <| y_if J (fun hg => oS (ct hg) J J Ty.a3 J) <| y_if J (fun hg => o_cmp (ct hg) J J) <| y0 J (pk_or J J J (fun q => eqF q)) <| yB J J <| y_if J (fun hg => oF J Ty.f26_1 J) <| y_if J (fun hg => oS (ct hg) J J Ty.a3 J) <| y_if J (fun hg => o_cmp (ct hg) J J) <| y0 J (pk_or J J J (fun q => eqF q)) <| yN ?_
 refine pw_cond ((((decide ((a0.S.Cells.length : Int) > 24)) || (decide (a0.S.Last < 0))) || (decide (a0.S.Last > 9))) || (decide (a0.Serial < 0))) J (fun hc => ?_) (fun hc => ?_)
 ·have h := ifT h hc
  refine sR <| yb J J <| yN <| pw_ret ?_
  obtain rfl := oj h
  exact ⟨J, [_], ⟨J, tr⟩, J, io⟩
 ·have h := ifF h hc
  refine pw_skip ?_
  obtain ⟨κ22, hκ25, h⟩ := jnE h
  refine pw_jn0 (κ := κ22) (r := r) (fun (_ : Unit) => St.of [(1, .ptr 1 0 0)] [(1, ⟨[store_Store.Pv a0], 0, false, 3, true⟩)]) (fun q23 h => ?_) ?_
  ·subst hκ25
   refine sR <| yL J J J J Ty.a26 Ty.s26 nl J <| bnE h fun v24 hv26 h => y0 J (o_call J Ty.k254 J (store_serialsDiffer_ok hv26)) <| yb J J <| yN <| pw_ret ?_
   obtain rfl := oj h
   exact ⟨J, [_], ⟨J, tr⟩, J, io⟩
  ·skip
   refine sR <| yF J J Ty.f26_0 J <| yF J J Ty.f24_0 J <| yS J J J J Ty.a22 J <| y0 J (o_lnL (f := slab_Cell_store_Obj.Pv) J Ty.e22) <| yI J J <| yN <| pw_block ?_
   obtain ⟨e25, hl27, hk28⟩ := bindE h
   refine pw_lp0 (fun (s26 : Int) => St.of [(1, .ptr 1 0 0), (31, .L slab_Cell_store_Obj.Pv a0.S.Cells), (32, .I (a0.S.Cells.length : Int)), (33, .I s26)] [(1, ⟨[store_Store.Pv a0], 0, false, 3, true⟩)]) hl27 (wk_st _ _ ⟨J, J, J, J, J, J, J, J, J, J, J, J, tr⟩ ⟨rS, tr⟩) (fun s26 x27 h hx29 => ?_)
   refine sR <| y0 J (o_cmp J J J) <| yN <| pw_seq ?_
   refine pw_cond (decide (s26 < (a0.S.Cells.length : Int))) J (fun hc => ?_) (fun hc => ?_)
   ·have h := ifT h hc
    refine pw_skip ?_
    obtain ⟨κ36, hκ40, h⟩ := jnE h
    refine pw_jn0 (κ := κ36) (r := x27) (fun (_ : Unit) => St.of [(1, .ptr 1 0 0), (31, .L slab_Cell_store_Obj.Pv a0.S.Cells), (32, .I (a0.S.Cells.length : Int)), (33, .I s26)] [(1, ⟨[store_Store.Pv a0], 0, false, 3, true⟩)]) (fun q37 h => ?_) ?_
    ·subst hκ40
     refine s1 <| y0 J (o_ari J J J) <| yI J J <| yN ?_
     exact ⟨J, w64 (s26 + 1), (oj h).symm, (wk_st _ _ ⟨J, J, J, J, J, J, J, J, J, J, J, J, tr⟩ ⟨rS, tr⟩)⟩
    ·skip
     refine pw_block <| sR <| bnE h fun v38 hv41 h => y0 J (o_ixL (f := slab_Cell_store_Obj.Pv) (cs := slab_Cell_store_Obj.Pc v38) hv41 J J Ty.e22 Ty.s141 J J) <| y0 J (o_loadRA J Ty.a141 Ty.s141 nl J) <| y1 J (o_alloc J Ty.z141 J J J) J <| y_sto (x' := slab_Cell_store_Obj.Pv v38) (cl' := true) J J (.inr J) Ty.s141 <| yN <| sR <| bnE h fun v39 hv42 h => yc J (o_callF J Ty.k253 J (store_rules_ok hv42)) <| y0 J (o_lnL (f := store_rule.Pv) J Ty.e277) <| yI J J <| yN <| pw_block ?_
     obtain ⟨e40, hl43, hk44⟩ := bindE h
     refine pw_lp0 (fun (s41 : Int) => St.of [(1, .ptr 1 0 0), (4, .ptr 4 0 0), (31, .L slab_Cell_store_Obj.Pv a0.S.Cells), (32, .I (a0.S.Cells.length : Int)), (33, .I s26), (37, .lst true (List.map store_rule.Pv v39)), (38, .I (v39.length : Int)), (39, .I s41)] [(4, ⟨[slab_Cell_store_Obj.Pv v38], 0, false, 8, true⟩), (1, ⟨[store_Store.Pv a0], 0, false, 3, true⟩)]) hl43 (wk_st _ _ ⟨J, J, J, J, J, J, J, J, J, J, J, J, J, J, J, J, J, J, J, J, J, J, J, J, tr⟩ ⟨rS, rS, tr⟩) (fun s41 x42 h hx45 => ?_)
     refine sR <| y0 J (o_cmp J J J) <| yN <| pw_seq ?_
     refine pw_cond (decide (s41 < (v39.length : Int))) J (fun hc => ?_) (fun hc => ?_)
     ·have h := ifT h hc
      refine pw_skip <| pw_seq <| pw_block <| sR <| bnE h fun v43 hv46 h => y0 J (o_ixL (f := store_rule.Pv) (cs := store_rule.Pc v43) hv46 J J Ty.e277 Ty.s281 J J) <| y0 J (o_loadRA J Ty.a281 Ty.s281 nl J) <| y1 J (o_alloc J Ty.z281 J J J) J <| y_sto (x' := store_rule.Pv v43) (cl' := true) J J (.inl J) Ty.s281 <| yN <| sR <| yF J J Ty.f281_0 J <| yS J J J J Ty.a279 J <| yL J J J J Ty.a26 Ty.s26 nl J <| yL J J J J Ty.a141 Ty.s141 nl J ?_
      obtain ⟨v44, hv47, h⟩ := bindE h
      obtain ⟨n45, he48, hk49, hp50⟩ := fvcall0_ok hv47
      refine y_wk (wk_fn 44 J he48) <| y0 J (o_call J hk49 J hp50) <| y0 J (o_not J J) <| yN ?_
      refine pw_cond (!v44) J (fun hc => ?_) (fun hc => ?_)
      ·have h := ifT h hc
       refine sR <| yb J J <| yN <| pw_ret ?_
       have he := hx45 _ (oj h).symm
       have h := hk44
       rw [← he] at h
       have he := hx29 _ (oj h).symm
       have h := hk28
       rw [← he] at h
       obtain rfl := oj h
       exact ⟨J, [_], ⟨J, tr⟩, J, io⟩
      ·have h := ifF h hc
       refine pw_skip <| s1 <| y0 J (o_ari J J J) <| yI J J <| yN ?_
       exact ⟨J, w64 (s41 + 1), (oj h).symm, (wk_st _ _ ⟨J, J, J, J, J, J, J, J, J, J, J, J, J, J, J, J, J, J, J, J, J, J, J, J, tr⟩ ⟨rS, rS, tr⟩)⟩
     ·have h := ifF h hc
      refine pw_exit <| thenQ_exit <| thenQ_exit <| blockQ_exit ?_
      have he := hx45 _ (oj h).symm
      have h := hk44
      rw [← he] at h
      exact ⟨J, (), h, (wk_st _ _ ⟨J, J, J, J, J, J, J, J, J, J, J, J, tr⟩ ⟨rS, tr⟩)⟩
   ·have h := ifF h hc
    refine pw_exit <| thenQ_exit <| thenQ_exit <| blockQ_exit ?_
    have he := hx29 _ (oj h).symm
    have h := hk28
    rw [← he] at h
    exact ⟨J, (), h, (wk_st _ _ ⟨J, J, J, tr⟩ ⟨rS, tr⟩)⟩

theorem hash_Right_ok {a0 : List hash_Place} {r : Bool} (h : hash_Right a0 = some r) : PCalls Tryz.prog 201 [.L hash_Place.Pv a0] (.bool r) := by
 unfold hash_Right at h
 refine pc_intro (N := 45) Tryz.func201 J J nl fun w0 imm0 => sR <| yb J J <| yN <| pw_seq <| sR <| yM (d := .L hash_Place.Pv a0) J J <| y0 J (o_lnL (f := hash_Place.Pv) J Ty.e29) <| y0 J (o_cmp J J J) <| yB J J <| y_if J (fun hg => om (d := .L hash_Place.Pv a0) J) <| y_if J (fun hg => o_lnL (f := hash_Place.Pv) (ct hg) Ty.e29) <| y_if J (fun hg => o_cmp (ct hg) J J) <| y0 J (pk_or J J J (fun q => eqF q)) <| yN ?_
 refine pw_cond ((decide ((a0.length : Int) < 1)) || (decide ((a0.length : Int) > 8))) J (fun hc => ?_) (fun hc => ?_)
 ·have h := ifT h hc
  refine sR <| yb J J <| yN <| pw_ret ?_
  obtain rfl := oj h
  exact ⟨J, [_], ⟨J, tr⟩, J, io⟩
 ·have h := ifF h hc
  refine pw_skip ?_
  obtain ⟨κ6, hκ6, h⟩ := jnE h
  refine pw_jn0 (κ := κ6) (r := r) (fun (_ : Unit) => St.of [] []) (fun q7 h => ?_) ?_
  ·subst hκ6
   refine sR <| yb J J <| yN <| pw_ret ?_
   obtain rfl := oj h
   exact ⟨J, [_], ⟨J, tr⟩, J, io⟩
  ·skip
   refine sR <| yM (d := .L hash_Place.Pv a0) J J <| y0 J (o_lnL (f := hash_Place.Pv) J Ty.e29) <| yI J J <| yN <| pw_block ?_
   obtain ⟨e8, hl7, hk8⟩ := bindE h
   refine pw_lp0 (fun (s9 : Int) => St.of [(0, .L hash_Place.Pv a0), (14, .L hash_Place.Pv a0), (15, .I (a0.length : Int)), (16, .I s9)] []) hl7 (wk_st _ _ ⟨J, J, J, J, J, J, J, J, J, J, J, J, tr⟩ tr) (fun s9 x10 h hx9 => ?_)
   refine sR <| y0 J (o_cmp J J J) <| yN <| pw_seq ?_
   refine pw_cond (decide (s9 < (a0.length : Int))) J (fun hc => ?_) (fun hc => ?_)
   ·have h := ifT h hc
    refine pw_skip <| pw_seq <| pw_block <| sR <| yI J J <| bnE h fun v11 hv10 h => y0 J (o_ixL (f := hash_Place.Pv) (cs := hash_Place.Pc v11) hv10 J J Ty.e29 Ty.s183 J J) <| y0 J (o_loadRA J Ty.a183 Ty.s183 nl J) <| y1 J (o_alloc J Ty.z183 J J J) J <| yi J J <| y_sto (x' := hash_Place.Pv v11) (cl' := true) J J (.inl J) Ty.s183 <| yN <| sR <| yL J J J J Ty.a183 Ty.s183 nl J <| y0 J (o_build (cs := [.I 0, .I 0, .I 0]) J Ty.p183 Ty.z183 J J J) <| y0 J (o_eqA (xs := hash_Place.Pc v11) (ys := [.I 0, .I 0, .I 0]) Ty.q183 J J J) <| yB J J <| y_if J (fun hg => oL J J J Ty.a183 Ty.s183 nl J) <| y_if J (fun hg => o_build (cs := [.I 2, .I 0, .I 0]) J Ty.p183 Ty.z183 J J J) <| y_if J (fun hg => o_eqA (xs := hash_Place.Pc v11) (ys := [.I 2, .I 0, .I 0]) Ty.q183 (ct hg) (ct hg) J) <| y0 J (pk_or J J J (fun q => eqF q)) <| yb J J <| yN <| sR <| yB J J <| y0 J (o_not J J) <| yB J J <| y_if J (fun hg => oF J Ty.f183_0 J) <| y_if J (fun hg => oS (ct hg) J J Ty.a3 J) <| y_if J (fun hg => o_cmp (ct hg) J J) <| y_if J (fun hg => om (d := .bool (v11.State != 1)) (ct hg)) <| y_if (want2 J J J) (fun hg => om (d := .L hash_Place.Pv a0) J) <| y_if (want2 J J J) (fun hg => oF J Ty.f183_1 J) <| y_if (want2 J J J) (fun hg => oS (ct hg) J J Ty.a3 J) <| bnE h fun v12 hv11 h => y_if (want2 J J J) (fun hg => o_call J Ty.k227 (consE (ct hg) (consE (ct hg) J)) (hash_Find_ok (onlyE hv11 hg))) <| y_if (want2 J J J) (fun hg => mI J) <| y_if (want2 J J J) (fun hg => o_cmp (ct hg) (ct hg) J) <| y_if J (fun hg => pk_or (ct hg) J J (fun q => andI hg (eqF q))) <| y0 J (pk_and J J J (fun q => eqT q)) <| yN ?_
    refine pw_cond ((!(((v11.State == 0) && ((v11.Key == 0) && ((v11.Val == 0) && true))) || ((v11.State == 2) && ((v11.Key == 0) && ((v11.Val == 0) && true))))) && ((v11.State != 1) || (v12 != s9))) J (fun hc => ?_) (fun hc => ?_)
    ·have h := ifT h hc
     refine sR <| yb J J <| yN <| pw_ret ?_
     have he := hx9 _ (oj h).symm
     have h := hk8
     rw [← he] at h
     obtain rfl := oj h
     exact ⟨J, [_], ⟨J, tr⟩, J, io⟩
    ·have h := ifF h hc
     refine pw_skip <| s1 <| y0 J (o_ari J J J) <| yI J J <| yN ?_
     exact ⟨J, w64 (s9 + 1), (oj h).symm, (wk_st _ _ ⟨J, J, J, J, J, J, J, J, J, J, J, J, tr⟩ tr)⟩
   ·have h := ifF h hc
    refine pw_exit <| thenQ_exit <| thenQ_exit <| blockQ_exit ?_
    have he := hx9 _ (oj h).symm
    have h := hk8
    rw [← he] at h
    exact ⟨J, (), h, (wk_st _ _ tr tr)⟩

theorem hold_shapesFit_ok {a0 : hold_Heap} {r : Bool} (h : hold_shapesFit a0 = some r) : PCalls Tryz.prog 146 [hold_Heap.Pv a0] (.bool r) := by
 unfold hold_shapesFit at h
 refine pc_intro (N := 41) Tryz.func146 J J nl fun w0 imm0 => sR <| y1 J (o_box (d := hold_Heap.Pv a0) J J J J J) J <| yb J J <| yN <| sR <| bnE h fun v1 hv1 h => yc J (o_callF J Ty.k137 J (task_New_ok hv1)) <| y0 J (.fieldS _ _ _ _ _ _ _ J Ty.f32_1 Ty.a3 J) <| yi J J <| yN <| sR <| yF J J Ty.f34_0 J <| yL J J J J Ty.a26 Ty.s26 nl J <| bnE h fun v2 hv2 h => y0 J (o_call J Ty.k200 J (store_Right_ok hv2)) <| yB J J <| y_if J (fun hg => oF J Ty.f34_3 J) <| y_if J (fun hg => oS (ct hg) J J Ty.a29 J) <| bnE h fun v3 hv3 h => y_if J (fun hg => o_call J Ty.k201 (consE (ct hg) J) (hash_Right_ok (onlyE hv3 hg))) <| y0 J (pk_and J J J (fun q => eqT q)) <| yB J J <| y_if J (fun hg => oF J Ty.f34_1 J) <| y_if J (fun hg => oS (ct hg) J J Ty.a27 J) <| y_if J (fun hg => o_lnL (f := iF) (ct hg) Ty.e27) <| y_if J (fun hg => o_cmp (ct hg) J J) <| y0 J (pk_and J J J (fun q => eqT q)) <| yB J J <| y_if J (fun hg => oF J Ty.f34_2 J) <| y_if J (fun hg => oS (ct hg) J J Ty.a28 J) <| y_if J (fun hg => o_lnL (f := weak_Cell.Pv) (ct hg) Ty.e28) <| y_if J (fun hg => o_cmp (ct hg) J J) <| y0 J (pk_and J J J (fun q => eqT q)) <| yB J J <| y_if J (fun hg => oF J Ty.f34_4 J) <| y_if J (fun hg => oF (ct hg) Ty.f32_1 J) <| y_if J (fun hg => oS (ct hg) J J Ty.a3 J) <| y_if J (fun hg => mI J) <| y_if J (fun hg => o_cmp (ct hg) (ct hg) J) <| y0 J (pk_and J J J (fun q => eqT q)) <| yB J J <| y_if J (fun hg => oF J Ty.f34_4 J) <| y_if J (fun hg => oF (ct hg) Ty.f32_0 J) <| y_if J (fun hg => oS (ct hg) J J Ty.a30 J) <| y_if J (fun hg => o_lnL (f := task_Task.Pv) (ct hg) Ty.e30) <| y_if J (fun hg => mI J) <| y_if J (fun hg => o_cmp (ct hg) (ct hg) J) <| y0 J (pk_and J J J (fun q => eqT q)) <| yb J J ?_
 refine yN <| pw_ret ?_
 obtain rfl := oj h
 exact ⟨J, [_], ⟨J, tr⟩, J, io⟩

theorem cmp_isNaN_int_ok {a0 : Int} {r : Bool} (h : cmp_isNaN_int a0 = some r) : PCalls Tryz.prog 199 [.I a0] (.bool r) := by
 unfold cmp_isNaN_int at h
 refine pc_intro (N := 6) Tryz.func199 J J nl fun w0 imm0 => sR <| yb J J <| yN <| sR <| yI J J <| yI J J <| y0 J (o_cmp J J J) <| yb J J <| yN <| pw_ret ?_
 obtain rfl := oj h
 exact ⟨J, [_], ⟨J, tr⟩, J, io⟩

theorem cmp_Compare_int_ok {a0 : Int} {a1 : Int} {r : Int} (h : cmp_Compare_int a0 a1 = some r) : PCalls Tryz.prog 144 [.I a0, .I a1] (.I r) := by
 unfold cmp_Compare_int at h
 refine pc_intro (N := 20) Tryz.func144 J J nl fun w0 imm0 => sR <| yi J J <| yN <| sR <| yI J J <| bnE h fun v1 hv1 h => y0 J (o_call J Ty.k199 J (cmp_isNaN_int_ok hv1)) <| yb J J <| yN <| sR <| yI J J <| bnE h fun v2 hv2 h => y0 J (o_call J Ty.k199 J (cmp_isNaN_int_ok hv2)) <| yb J J <| yN <| pw_seq <| sR <| yB J J <| yN ?_
 refine pw_cond v1 J (fun hc => ?_) (fun hc => ?_)
 ·have h := ifT h hc
  refine pw_seq <| sR <| yB J J <| yN ?_
  refine pw_cond v2 J (fun hc => ?_) (fun hc => ?_)
  ·have h := ifT h hc
   refine sR <| yi J J <| yN <| pw_ret ?_
   obtain rfl := oj h
   exact ⟨J, [_], ⟨J, tr⟩, J, io⟩
  ·have h := ifF h hc
   refine pw_skip <| sR <| yi J J <| yN <| pw_ret ?_
   obtain rfl := oj h
   exact ⟨J, [_], ⟨J, tr⟩, J, io⟩
 ·have h := ifF h hc
  refine pw_skip <| pw_seq <| sR <| yB J J <| yN ?_
  refine pw_cond v2 J (fun hc => ?_) (fun hc => ?_)
  ·have h := ifT h hc
   refine sR <| yi J J <| yN <| pw_ret ?_
   obtain rfl := oj h
   exact ⟨J, [_], ⟨J, tr⟩, J, io⟩
  ·have h := ifF h hc
   refine pw_skip <| pw_seq <| sR <| yI J J <| yI J J <| y0 J (o_cmp J J J) <| yN ?_
   refine pw_cond (decide (a0 < a1)) J (fun hc => ?_) (fun hc => ?_)
   ·have h := ifT h hc
    refine sR <| yi J J <| yN <| pw_ret ?_
    obtain rfl := oj h
    exact ⟨J, [_], ⟨J, tr⟩, J, io⟩
   ·have h := ifF h hc
    refine pw_skip <| pw_seq <| sR <| yI J J <| yI J J <| y0 J (o_cmp J J J) <| yN ?_
    refine pw_cond (decide (a0 > a1)) J (fun hc => ?_) (fun hc => ?_)
    ·have h := ifT h hc
     refine sR <| yi J J <| yN <| pw_ret ?_
     obtain rfl := oj h
     exact ⟨J, [_], ⟨J, tr⟩, J, io⟩
    ·have h := ifF h hc
     refine pw_skip <| sR <| yi J J <| yN <| pw_ret ?_
     obtain rfl := oj h
     exact ⟨J, [_], ⟨J, tr⟩, J, io⟩

theorem store_Live_1_ok {a0 : Int} {a1 : Int} {a2 : List (Int × Int)} {r : Int} (h : store_Live_1 a0 a1 a2 = some r) : PCalls Tryz.prog 143 [.I a0, .I a1, .rptr [.abs (ImMap (List.map (ent iF iF) a2))]] (.I r) := by
 unfold store_Live_1 at h
 refine pc_intro (N := 13) Tryz.func143 J J nl fun w0 imm0 => sR <| yi J J <| yN <| sR <| y0 J (o_loadRS J Ty.a175 J) <| yI J J <| y0 J (o_lkI (es := a2) (k := a0) (E := iF) (EK := iF) (d := .I ((mget a2 a0).getD (0 : Int))) J J Ty.mm175 (keyT_int Ty.u3) Ty.z3 J (lk1 _ _ _)) <| y0 J (o_loadRS J Ty.a175 J) <| yI J J <| y0 J (o_lkI (es := a2) (k := a1) (E := iF) (EK := iF) (d := .I ((mget a2 a1).getD (0 : Int))) J J Ty.mm175 (keyT_int Ty.u3) Ty.z3 J (lk1 _ _ _)) <| bnE h fun v1 hv1 h => y0 J (o_call J Ty.k144 J (cmp_Compare_int_ok hv1)) <| yi J J <| yN <| pw_ret ?_
 obtain rfl := oj h
 exact ⟨J, [_], ⟨J, tr⟩, J, io⟩

theorem store_Live_ok {a0 : store_Store} {r : List Int} (h : store_Live a0 = some r) : PCalls Tryz.prog 60 [store_Store.Pv a0] (.L iF r) := by
 unfold store_Live at h
 refine pc_intro (N := 39) Tryz.func60 J J nl fun w0 imm0 => sR <| y1 J (o_box (d := store_Store.Pv a0) J J J J J) J <| yA (d := .lst true (List.map iF [])) J J <| yN <| sR <| yA (d := .lst true (List.map iF [])) J J <| yN <| sR <| y_mkM (KT := Int) (VT := Int) (EK := iF) (E := iF) 5000008 J J <| y1 J (o_alloc J Ty.z175 J J J) J <| y_sto (x' := .mp 5000008) (cl' := false) J J (.inl J) Ty.s175 <| yN ?_
 obtain ⟨κ17, hκ11, h⟩ := jnE h
 refine pw_jn0 (κ := κ17) (r := r) (fun (q : (List (Int × Int)) × (List Int)) => St.of [(3, .sl 910003), (4, .ptr 4 0 0)] [(4, ⟨[.mp 5000008], 0, false, 1, false⟩), (5000008, ⟨[.mapc (List.map (ent iF iF) q.1)], 0, false, 0, false⟩), (910003, ⟨List.map iF q.2, 0, true, 1, true⟩)]) (fun q20 h => ?_) ?_
 ·subst hκ11
  obtain ⟨j18, j19⟩ := q20
  refine sR <| yM (d := .sl 910003) J J <| y0 J (o_mkFunc J) <| y_wk (Wk.trans (wk_mfz0 5000008 nl J) (wk_mvC 4 0 5000008 J J J J)) <| bnE h fun v21 hv12 h => y_sort hv12 J J Ty.k142 sortAt J J J Ty.k143 J J J J J (fun p q r h => store_Live_1_ok h) <| yN <| sR <| yM (d := .sl 910003) J J <| yA (d := .sl 910003) J J <| yN <| pw_ret ?_
  obtain rfl := oj h
  exact ⟨J, [_], ⟨J, tr⟩, J, io⟩
 ·skip
  refine sR <| yF J J Ty.f26_0 J <| yF J J Ty.f24_0 J <| yS J J J J Ty.a22 J <| y0 J (o_lnL (f := slab_Cell_store_Obj.Pv) J Ty.e22) <| yI J J <| yN <| pw_block ?_
  obtain ⟨e22, hl13, hk14⟩ := bindE h
  refine pw_lp0 (fun (q : Int × (List (Int × Int)) × (List Int)) => St.of [(3, .sl 910003), (4, .ptr 4 0 0), (11, .L slab_Cell_store_Obj.Pv a0.S.Cells), (12, .I (a0.S.Cells.length : Int)), (13, .I q.1)] [(4, ⟨[.mp 5000008], 0, false, 1, false⟩), (5000008, ⟨[.mapc (List.map (ent iF iF) q.2.1)], 0, false, 0, false⟩), (910003, ⟨List.map iF q.2.2, 0, true, 1, true⟩)]) hl13 (Wk.trans (wk_nil (t := 3) (l := 920003) (z := 1) J J) (wk_stP (fun l => if l = 910003 then 920003 else l) _ _ ⟨J, J, J, J, J, J, J, J, J, J, J, J, J, J, J, tr⟩ ⟨rowLe_open J J J (fun q => nomatch q) J J J J, rowLe_open J J J (fun q => nomatch q) J J J J, rN, tr⟩ J)) (fun q27 x26 h hx15 => ?_)
  obtain ⟨s23, s24, s25⟩ := q27
  refine sR <| y0 J (o_cmp J J J) <| yN <| pw_seq ?_
  refine pw_cond (decide (s23 < (a0.S.Cells.length : Int))) J (fun hc => ?_) (fun hc => ?_)
  ·have h := ifT h hc
   refine pw_skip ?_
   obtain ⟨κ31, hκ19, h⟩ := jnE h
   refine pw_jn0 (κ := κ31) (r := x26) (fun (q : (List (Int × Int)) × (List Int)) => St.of [(3, .sl 33), (4, .ptr 4 0 0), (11, .L slab_Cell_store_Obj.Pv a0.S.Cells), (12, .I (a0.S.Cells.length : Int)), (13, .I s23)] [(4, ⟨[.mp 5000008], 0, false, 1, false⟩), (5000008, ⟨[.mapc (List.map (ent iF iF) q.1)], 0, false, 0, false⟩), (33, ⟨List.map iF q.2, 0, true, 1, true⟩)]) (fun q34 h => ?_) ?_
   ·subst hκ19
    obtain ⟨j32, j33⟩ := q34
    refine s1 <| y0 J (o_ari J J J) <| yI J J <| yN ?_
    exact ⟨J, (w64 (s23 + 1), j32, j33), (oj h).symm, (wk_stP (fun l => if l = 910003 then 33 else l) _ _ ⟨J, J, J, J, J, J, J, J, J, J, J, J, J, J, J, tr⟩ ⟨rowLe_open J J J (fun q => nomatch q) J J J J, rowLe_open J J J (fun q => nomatch q) J J J J, rN, tr⟩ J)⟩
   ·skip
    refine pw_block <| sR <| yI J J <| bnE h fun v35 hv20 h => y0 J (o_ixL (f := slab_Cell_store_Obj.Pv) (cs := slab_Cell_store_Obj.Pc v35) hv20 J J Ty.e22 Ty.s141 J J) <| y0 J (o_loadRA J Ty.a141 Ty.s141 nl J) <| y1 J (o_alloc J Ty.z141 J J J) J <| yi J J <| y_sto (x' := slab_Cell_store_Obj.Pv v35) (cl' := true) J J (.inr J) Ty.s141 <| yN <| sR <| yF J J Ty.f141_0 J <| yS J J J J Ty.a3 J <| y0 J (o_cmp J J J) <| yN ?_
    refine pw_cond (v35.State == 1) J (fun hc => ?_) (fun hc => ?_)
    ·have h := ifT h hc
     refine sR <| yI J J <| yF J J Ty.f141_1 J <| yS J J J J Ty.a3 J <| bnE h fun v36 hv21 h => y0 J (o_call J Ty.k141 J (handle_Pack_ok hv21)) <| yi J J <| yN <| sR <| yS J J J J Ty.a175 J <| yI J J <| yF J J Ty.f141_2 J <| yF J J Ty.f91_0 J <| yS J J J J Ty.a3 J <| y_setM (es := s24) (k := v36) (v := v35.Val.Serial) (E := iF) (EK := iF) (.inl J) J J J J J J Ty.mm175 (keyT_int Ty.u3) <| yN <| s1 <| yM (d := .sl 910003) J J <| yI J J <| y0 J (o_bI (f := iF) (l := [v36]) J Ty.e27 Ty.s3 Ty.z3 J J nl J J) <| bnE h fun v37 hv22 h => y_apO (f := iF) (b := 8) [(4, .ptr 4 0 0), (11, .L slab_Cell_store_Obj.Pv a0.S.Cells), (12, .I (a0.S.Cells.length : Int)), (13, .I s23), (14, .bool (decide (s23 < (a0.S.Cells.length : Int)))), (15, .I s23), (16, .rptr (slab_Cell_store_Obj.Pc v35)), (17, slab_Cell_store_Obj.Pv v35), (6, .ptr 6 0 0), (5, .I s23), (18, .ptr 6 0 0), (19, .I v35.State), (20, .bool (v35.State == 1)), (21, .I s23), (22, .ptr 6 0 1), (23, .I v35.Gen), (24, .I v36), (7, .I v36), (25, .mp 5000008), (26, .I v36), (27, .ptr 6 0 2), (28, .ptr 6 0 2), (29, .I v35.Val.Serial), (31, .I v36), (32, .lst true (List.map iF [v36]))] [(6, ⟨[slab_Cell_store_Obj.Pv v35], 0, false, 8, true⟩), (5000008, ⟨[.mapc (List.map (ent iF iF) (mput s24 v36 v35.Val.Serial))], 0, false, 0, false⟩), (4, ⟨[.mp 5000008], 0, false, 1, false⟩)] J hv22 ⟨J, J, J, J, J, J, J, J, J, J, J, J, J, J, J, J, J, J, J, J, J, J, J, J, J, J, J, J, J, J, J, J, J, J, J, J, J, J, J, J, J, J, J, J, J, J, J, J, J, J, J, J, J, J, J, J, J, J, J, J, J, J, J, J, J, J, J, J, J, J, J, J, J, J, J, tr⟩ ⟨rS, rowLe_open J J J (fun q => nomatch q) J J J J, rowLe_open J J J (fun q => nomatch q) J J J J, tr⟩ J J J J (.inl ⟨_, J, J⟩) Ty.e27 Ty.s3 Ty.b3 Ty.z3 J (fun _ => J) <| yA (d := .sl 33) J J <| yN ?_
     exact ⟨J, ((mput s24 v36 v35.Val.Serial), v37), h, (wk_st _ _ ⟨J, J, J, J, J, J, J, J, J, J, J, J, J, J, J, tr⟩ ⟨rowLe_open J J J (fun q => nomatch q) J J J J, rowLe_open J J J (fun q => nomatch q) J J J J, rS, tr⟩)⟩
    ·have h := ifF h hc
     refine pw_skip ?_
     exact ⟨J, (s24, s25), h, (wk_stP (fun l => if l = 33 then 910003 else l) _ _ ⟨J, J, J, J, J, J, J, J, J, J, J, J, J, J, J, tr⟩ ⟨rowLe_open J J J (fun q => nomatch q) J J J J, rowLe_open J J J (fun q => nomatch q) J J J J, rN, tr⟩ J)⟩
  ·have h := ifF h hc
   refine pw_exit <| thenQ_exit <| thenQ_exit <| blockQ_exit ?_
   have he := hx15 _ (oj h).symm
   have h := hk14
   rw [← he] at h
   exact ⟨J, (s24, s25), h, (wk_st _ _ ⟨J, J, J, J, J, J, tr⟩ ⟨rowLe_open J J J (fun q => nomatch q) J J J J, rowLe_open J J J (fun q => nomatch q) J J J J, rS, tr⟩)⟩

theorem hold_namesLive_1_ok {a0 : Int} {a1 : hold_Heap} {r : Bool} (h : hold_namesLive_1 a0 a1 = some r) : PCalls Tryz.prog 203 [.I a0, .rptr (hold_Heap.Pc a1)] (.bool r) := by
 unfold hold_namesLive_1 at h
 refine pc_intro (N := 7) Tryz.func203 J J nl fun w0 imm0 => sR <| yb J J <| yN <| sR <| y0 J (o_loadRA J Ty.a34 Ty.s34 nl J) <| yI J J <| bnE h fun v1 hv1 h => y0 J (o_call J Ty.k64 J (hold_nameable_ok hv1)) <| yb J J <| yN <| pw_ret ?_
 obtain rfl := oj h
 exact ⟨J, [_], ⟨J, tr⟩, J, io⟩

theorem hold_all_int__hold_namesLive_1_ok {a0 : List Int} {a1 : hold_Heap} {r : Bool} (h : hold_all_int__hold_namesLive_1 a0 a1 = some r) : PCalls Tryz.prog 202 [.L iF a0, .fn (.func 203) [.rptr (hold_Heap.Pc a1)]] (.bool r) := by
 unfold hold_all_int__hold_namesLive_1 at h
 refine pc_intro (N := 18) Tryz.func202 J J nl fun w0 imm0 => sR <| yb J J <| yN ?_
 obtain ⟨κ6, hκ6, h⟩ := jnE h
 refine pw_jn0 (κ := κ6) (r := r) (fun (_ : Unit) => St.of [] []) (fun q7 h => ?_) ?_
 ·subst hκ6
  refine sR <| yb J J <| yN <| pw_ret ?_
  obtain rfl := oj h
  exact ⟨J, [_], ⟨J, tr⟩, J, io⟩
 ·skip
  refine sR <| yM (d := .L iF a0) J J <| y0 J (o_lnL (f := iF) J Ty.e27) <| yI J J <| yN <| pw_block ?_
  obtain ⟨e8, hl7, hk8⟩ := bindE h
  refine pw_lp0 (fun (s9 : Int) => St.of [(1, .fn (.func 203) [.rptr (hold_Heap.Pc a1)]), (7, .L iF a0), (8, .I (a0.length : Int)), (9, .I s9)] []) hl7 (wk_st _ _ ⟨J, J, J, J, J, J, J, J, J, J, J, J, tr⟩ tr) (fun s9 x10 h hx9 => ?_)
  refine sR <| y0 J (o_cmp J J J) <| yN <| pw_seq ?_
  refine pw_cond (decide (s9 < (a0.length : Int))) J (fun hc => ?_) (fun hc => ?_)
  ·have h := ifT h hc
   refine pw_skip <| pw_seq <| pw_block <| sR <| bnE h fun v11 hv10 h => y0 J (o_ixL (f := iF) (cs := [.I v11]) hv10 J J Ty.e27 Ty.s3 J J) <| y0 J (o_loadRS J Ty.a3 J) <| yi J J <| yN <| sR <| yM (d := .fn (.func 203) [.rptr (hold_Heap.Pc a1)]) J J <| yI J J <| bnE h fun v12 hv11 h => y0 J (o_call J Ty.k203 J (hold_namesLive_1_ok hv11)) <| y0 J (o_not J J) <| yN ?_
   refine pw_cond (!v12) J (fun hc => ?_) (fun hc => ?_)
   ·have h := ifT h hc
    refine sR <| yb J J <| yN <| pw_ret ?_
    have he := hx9 _ (oj h).symm
    have h := hk8
    rw [← he] at h
    obtain rfl := oj h
    exact ⟨J, [_], ⟨J, tr⟩, J, io⟩
   ·have h := ifF h hc
    refine pw_skip <| s1 <| y0 J (o_ari J J J) <| yI J J <| yN ?_
    exact ⟨J, w64 (s9 + 1), (oj h).symm, (wk_st _ _ ⟨J, J, J, J, J, J, J, J, J, J, J, J, tr⟩ tr)⟩
  ·have h := ifF h hc
   refine pw_exit <| thenQ_exit <| thenQ_exit <| blockQ_exit ?_
   have he := hx9 _ (oj h).symm
   have h := hk8
   rw [← he] at h
   exact ⟨J, (), h, (wk_st _ _ tr tr)⟩

theorem hold_namesLive_ok {a0 : hold_Heap} {r : Bool} (h : hold_namesLive a0 = some r) : PCalls Tryz.prog 147 [hold_Heap.Pv a0] (.bool r) := by
 unfold hold_namesLive at h
 refine pc_intro (N := 34) Tryz.func147 J J nl fun w0 imm0 => sR <| y1 J (o_box (d := hold_Heap.Pv a0) J J J J J) J <| yb J J <| yN <| sR <| yF J J Ty.f34_1 J <| yS J J J J Ty.a27 J <| bnE h fun v1 hv1 h => ycN J (o_callN J Ty.k155 J (slices_Clone_int_int_okN hv1)) J J <| yA (d := .sl 10) J J <| yN ?_
 obtain ⟨κ11, hκ9, h⟩ := jnE h
 refine pw_jn0 (κ := κ11) (r := r) (fun (j12 : List Int) => St.of [(1, .ptr 1 0 0), (3, .sl 10)] [(10, ⟨List.map iF j12, (List.map iF j12).length, true, 1, true⟩), (1, ⟨[hold_Heap.Pv a0], 0, false, 8, true⟩)]) (fun j12 h => ?_) ?_
 ·subst hκ9
  refine sR <| yM (d := .sl 10) J J <| y0 J (o_mkFunc J) <| bnE h fun v13 hv10 h => y0 J (o_call J Ty.k202 J (hold_all_int__hold_namesLive_1_ok hv10)) <| yb J J <| yN <| pw_ret ?_
  obtain rfl := oj h
  exact ⟨J, [_], ⟨J, tr⟩, J, io⟩
 ·skip
  refine sR <| yF J J Ty.f34_0 J <| yL J J J J Ty.a26 Ty.s26 nl J <| bnE h fun v14 hv11 h => yc J (o_callF J Ty.k60 J (store_Live_ok hv11)) <| y0 J (o_lnL (f := iF) J Ty.e27) <| yI J J <| yN <| pw_block ?_
  obtain ⟨e15, hl12, hk13⟩ := bindE h
  refine pw_lp0 (fun (q : Int × (List Int)) => St.of [(1, .ptr 1 0 0), (3, .sl 10), (13, .L iF v14), (14, .I (v14.length : Int)), (15, .I q.1)] [(10, ⟨List.map iF q.2, (List.map iF q.2).length, true, 1, true⟩), (1, ⟨[hold_Heap.Pv a0], 0, false, 8, true⟩)]) hl12 (Wk.trans (wk_frz _ [10]) (wk_st _ _ ⟨J, J, J, J, J, J, J, J, J, J, J, J, J, J, J, tr⟩ ⟨rS, rS, tr⟩)) (fun q19 x18 h hx14 => ?_)
  obtain ⟨s16, s17⟩ := q19
  refine sR <| y0 J (o_cmp J J J) <| yN <| pw_seq ?_
  refine pw_cond (decide (s16 < (v14.length : Int))) J (fun hc => ?_) (fun hc => ?_)
  ·have h := ifT h hc
   refine pw_skip <| pw_seq <| pw_block <| sR <| bnE h fun v20 hv15 h => y0 J (o_ixL (f := iF) (cs := [.I v20]) hv15 J J Ty.e27 Ty.s3 J J) <| y0 J (o_loadRS J Ty.a3 J) <| yi J J <| yN <| sR <| yF J J Ty.f34_0 J <| yL J J J J Ty.a26 Ty.s26 nl J <| yI J J <| bnE h fun v21 hv16 h => yc J (o_callF J Ty.k61 J (store_Get_ok hv16)) <| yM (d := .tup [store_Obj.Pv v21.1, .I v21.2]) J J <| yX J J J <| yX J J J <| y1 J (o_alloc J Ty.z91 J J J) J <| y_sto (x' := store_Obj.Pv v21.1) (cl' := true) J J (.inr J) Ty.s91 <| yi J J <| yN <| s1 <| yM (d := .sl 10) J J <| yF J J Ty.f91_5 J <| yS J J J J Ty.a27 J <| bnE h fun v22 hv17 h => y_app J (o_apR (f := iF) hv17 J J J J J J (.inl ⟨_, J, J⟩) Ty.e27 Ty.s3 Ty.b3 Ty.z3 J (fun _ => J)) J J J <| yA (d := .sl 29) J J <| yN <| s1 <| y0 J (o_ari J J J) <| yI J J <| yN ?_
   exact ⟨J, (w64 (s16 + 1), v22), (oj h).symm, (Wk.trans (wk_frz _ [29]) (wk_stP (fun l => if l = 10 then 29 else l) _ _ ⟨J, J, J, J, J, J, J, J, J, J, J, J, J, J, J, tr⟩ ⟨rN, rN, tr⟩ J))⟩
  ·have h := ifF h hc
   refine pw_exit <| thenQ_exit <| thenQ_exit <| blockQ_exit ?_
   have he := hx14 _ (oj h).symm
   have h := hk13
   rw [← he] at h
   exact ⟨J, s17, h, (Wk.trans (wk_frz _ [10]) (wk_st _ _ ⟨J, J, J, J, J, J, tr⟩ ⟨rS, rS, tr⟩))⟩

theorem ephem_pairs_ok {a0 : List hash_Place} {r : List hash_Place} (h : ephem_pairs a0 = some r) : PCalls Tryz.prog 256 [.L hash_Place.Pv a0] (.fn (.func 280) [.rptr [.L hash_Place.Pv r]]) := by
 unfold ephem_pairs at h
 refine pc_intro (N := 4) Tryz.func256 J J nl fun w0 imm0 => sR <| y1 J (o_box (d := .L hash_Place.Pv a0) J J J J J) J <| yA (d := .nilfn) J J <| yN <| sR <| y0 J (o_mkFunc J) <| yA (d := .fn (.func 280) [.ptr 1 0 0]) J J <| yN <| pw_ret ?_
 obtain rfl := oj h
 exact ⟨J, [_], ⟨J, tr⟩, J, io⟩

theorem hash_Keys_ok {a0 : List hash_Place} {r : List Int} (h : hash_Keys a0 = some r) : PCalls Tryz.prog 281 [.L hash_Place.Pv a0] (.L iF r) := by
 unfold hash_Keys at h
 refine pc_intro (N := 22) Tryz.func281 J J nl fun w0 imm0 => sR <| yA (d := .lst true (List.map iF [])) J J <| yN <| sR <| yA (d := .lst true (List.map iF [])) J J <| yN ?_
 obtain ⟨κ12, hκ9, h⟩ := jnE h
 refine pw_jn0 (κ := κ12) (r := r) (fun (j13 : List Int) => St.of [(3, .sl 910003)] [(910003, ⟨List.map iF j13, (List.map iF j13).length, true, 1, true⟩)]) (fun j13 h => ?_) ?_
 ·subst hκ9
  refine sR <| yM (d := .sl 910003) J J <| yA (d := .sl 910003) J J <| yN <| pw_ret ?_
  obtain rfl := oj h
  exact ⟨J, [_], ⟨J, tr⟩, J, io⟩
 ·skip
  refine sR <| yM (d := .L hash_Place.Pv a0) J J <| y0 J (o_lnL (f := hash_Place.Pv) J Ty.e29) <| yI J J <| yN <| pw_block ?_
  obtain ⟨e14, hl10, hk11⟩ := bindE h
  refine pw_lp0 (fun (q : Int × (List Int)) => St.of [(3, .sl 910003), (6, .L hash_Place.Pv a0), (7, .I (a0.length : Int)), (8, .I q.1)] [(910003, ⟨List.map iF q.2, (List.map iF q.2).length, true, 1, true⟩)]) hl10 (Wk.trans (wk_nil (t := 3) (l := 920003) (z := 1) J J) (wk_stP (fun l => if l = 910003 then 920003 else l) _ _ ⟨J, J, J, J, J, J, J, J, J, J, J, J, tr⟩ ⟨rN, tr⟩ J)) (fun q18 x17 h hx12 => ?_)
  obtain ⟨s15, s16⟩ := q18
  refine sR <| y0 J (o_cmp J J J) <| yN <| pw_seq ?_
  refine pw_cond (decide (s15 < (a0.length : Int))) J (fun hc => ?_) (fun hc => ?_)
  ·have h := ifT h hc
   refine pw_skip ?_
   obtain ⟨κ21, hκ15, h⟩ := jnE h
   refine pw_jn0 (κ := κ21) (r := x17) (fun (j22 : List Int) => St.of [(3, .sl 19), (6, .L hash_Place.Pv a0), (7, .I (a0.length : Int)), (8, .I s15)] [(19, ⟨List.map iF j22, (List.map iF j22).length, true, 1, true⟩)]) (fun j22 h => ?_) ?_
   ·subst hκ15
    refine s1 <| y0 J (o_ari J J J) <| yI J J <| yN ?_
    exact ⟨J, (w64 (s15 + 1), j22), (oj h).symm, (Wk.trans (wk_frz _ [19]) (wk_stP (fun l => if l = 910003 then 19 else l) _ _ ⟨J, J, J, J, J, J, J, J, J, J, J, J, tr⟩ ⟨rN, tr⟩ J))⟩
   ·skip
    refine pw_block <| sR <| bnE h fun v23 hv16 h => y0 J (o_ixL (f := hash_Place.Pv) (cs := hash_Place.Pc v23) hv16 J J Ty.e29 Ty.s183 J J) <| y0 J (o_loadRA J Ty.a183 Ty.s183 nl J) <| y1 J (o_alloc J Ty.z183 J J J) J <| y_sto (x' := hash_Place.Pv v23) (cl' := true) J J (.inl J) Ty.s183 <| yN <| sR <| yF J J Ty.f183_0 J <| yS J J J J Ty.a3 J <| y0 J (o_cmp J J J) <| yN ?_
    refine pw_cond (v23.State == 1) J (fun hc => ?_) (fun hc => ?_)
    ·have h := ifT h hc
     refine s1 <| yM (d := .sl 910003) J J <| yF J J Ty.f183_1 J <| yS J J J J Ty.a3 J <| y0 J (o_bI (f := iF) (l := [v23.Key]) J Ty.e27 Ty.s3 Ty.z3 J J nl J J) <| bnE h fun v24 hv17 h => y_app J (o_apR (f := iF) hv17 J J J J J J (.inl ⟨_, J, J⟩) Ty.e27 Ty.s3 Ty.b3 Ty.z3 J (fun _ => J)) J J J <| yA (d := .sl 19) J J <| yN ?_
     exact ⟨J, v24, h, (Wk.trans (wk_frz _ [19]) (wk_st _ _ ⟨J, J, J, J, J, J, J, J, J, J, J, J, tr⟩ ⟨rS, tr⟩))⟩
    ·have h := ifF h hc
     refine pw_skip ?_
     exact ⟨J, s16, h, (Wk.trans (wk_frz _ [910003]) (wk_stP (fun l => if l = 19 then 910003 else l) _ _ ⟨J, J, J, J, J, J, J, J, J, J, J, J, tr⟩ ⟨rN, tr⟩ J))⟩
  ·have h := ifF h hc
   refine pw_exit <| thenQ_exit <| thenQ_exit <| blockQ_exit ?_
   have he := hx12 _ (oj h).symm
   have h := hk11
   rw [← he] at h
   exact ⟨J, s16, h, (Wk.trans (wk_frz _ [910003]) (wk_st _ _ ⟨J, J, J, tr⟩ ⟨rS, tr⟩))⟩

theorem ephem_Pairs_1_ok {a0 : ephem_Pair} {r : Bool} (h : ephem_Pairs_1 a0 = some r) : PCalls Tryz.prog 257 [ephem_Pair.Pv a0] (.bool r) := by
 unfold ephem_Pairs_1 at h
 refine pc_intro (N := 3) Tryz.func257 J J nl fun w0 imm0 => sR <| y1 J (o_box (d := ephem_Pair.Pv a0) J J J J J) J <| yb J J <| yN <| sR <| yb J J <| yN <| pw_ret ?_
 obtain rfl := oj h
 exact ⟨J, [_], ⟨J, tr⟩, J, io⟩

theorem ephem_gathered_ephem_Pair__ephem_pairs_1__ephem_Pairs_1_ok {a0 : List hash_Place} {r : List ephem_Pair} (h : ephem_gathered_ephem_Pair__ephem_pairs_1__ephem_Pairs_1 a0 = some r) : PCalls Tryz.prog 255 [.fn (.func 280) [.rptr [.L hash_Place.Pv a0]], .fn (.func 257) []] (.L ephem_Pair.Pv r) := by
 unfold ephem_gathered_ephem_Pair__ephem_pairs_1__ephem_Pairs_1 at h
 refine pc_intro (N := 17) Tryz.func255 J J nl fun w0 imm0 => sR <| y1 J (o_box (d := .fn (.func 257) []) J J J J J) J <| yA (d := .lst true (List.map ephem_Pair.Pv [])) J J <| yN <| sR <| y1 J (o_alloc J Ty.z239 J J J) J <| yN ?_
 obtain ⟨κ15, hκ19, h⟩ := jnE h
 refine pw_jn0 (κ := κ15) (r := r) (fun (j16 : List ephem_Pair) => St.of [(5, .ptr 2001 0 0)] [(2001, ⟨[.sl 912501], 0, false, 1, false⟩), (912501, ⟨List.map ephem_Pair.Pv j16, (List.map ephem_Pair.Pv j16).length, true, 2, true⟩)]) (fun j16 h => ?_) ?_
 ·subst hκ19
  refine sR <| yS J J J J Ty.a239 J <| yA (d := .sl 912501) J J <| yN <| pw_ret ?_
  obtain rfl := oj h
  exact ⟨J, [_], ⟨J, tr⟩, J, io⟩
 ·skip
  refine sR <| yM (d := .fn (.func 280) [.rptr [.L hash_Place.Pv a0]]) J J <| yN <| pw_block <| pw_wk (wk_stP (fun l => if l = 2012 then 5 else if l = 2013 then 3 else l) [(3, .ptr 2013 0 0), (5, .ptr 2012 0 0), (7, .fn (.func 280) [.rptr [.L hash_Place.Pv a0]])] [(2012, ⟨[.lst true (List.map ephem_Pair.Pv [])], 0, false, 1, true⟩), (2013, ⟨[.fn (.func 257) []], 0, false, 1, true⟩)] ⟨J, J, J, J, J, J, J, J, J, tr⟩ ⟨rN, rN, tr⟩ J) ?_
  refine pw_range (fn := Tryz.f280) (N1 := 27) J Tryz.func280 J J nl J Ty.k280 J J (fun l20 e21 o22 hR23 => ?_)
  refine sR <| y0 J (o_loadRS J Ty.a29 J) <| bnE h fun v17 hv24 h => yc J (o_callF J Ty.k281 J (hash_Keys_ok hv24)) <| y0 J (o_lnL (f := iF) J Ty.e27) <| yI J J <| yN <| pw_block ?_
  obtain ⟨e18, hl25, hk26⟩ := bindE h
  refine pw_lp0 (fun (q : Int × (List ephem_Pair)) => St.of [(1000003, .ptr 2013 0 0), (1000005, .ptr 2012 0 0), (1000007, .fn (.func 280) [.rptr [.L hash_Place.Pv a0]]), (0, .fn (.yield l20) []), (1, .rptr [.L hash_Place.Pv a0]), (8, .L iF v17), (9, .I (v17.length : Int)), (10, .I q.1)] [(2012, ⟨[.sl 912512], 0, false, 1, false⟩), (2013, ⟨[.fn (.func 257) []], 0, false, 1, true⟩), (912512, ⟨List.map ephem_Pair.Pv q.2, (List.map ephem_Pair.Pv q.2).length, true, 2, true⟩)]) hl25 (Wk.trans (wk_nilC (l0 := 2012) (j := 0) (l := 922512) (z := 2) J J J J J) (wk_stP (fun l => if l = 912512 then 922512 else l) _ _ ⟨J, J, J, J, J, J, J, J, J, J, J, J, J, J, J, J, J, J, J, J, J, J, J, J, tr⟩ ⟨rowLe_open J J J (fun q => nomatch q) J J J J, rN, rN, tr⟩ J)) (fun q22 x21 h hx27 => ?_)
  obtain ⟨s19, s20⟩ := q22
  refine sR <| y0 J (o_cmp J J J) <| yN <| pw_seq ?_
  refine pw_cond (decide (s19 < (v17.length : Int))) J (fun hc => ?_) (fun hc => ?_)
  ·have h := ifT h hc
   refine pw_skip <| pw_seq <| pw_block <| sR <| bnE h fun v23 hv28 h => y0 J (o_ixL (f := iF) (cs := [.I v23]) hv28 J J Ty.e27 Ty.s3 J J) <| y0 J (o_loadRS J Ty.a3 J) <| yi J J <| yN <| sR <| y0 J (o_loadRS J Ty.a29 J) <| yI J J <| bnE h fun v24 hv29 h => y0 J (o_call J Ty.k169 J (hash_Get_ok hv29)) <| yM (d := .tup [.I v24.1, .I v24.2]) J J <| yX J J J <| yX J J J <| yi J J <| yi J J <| yN <| sR <| yM (d := .fn (.yield l20) []) J J <| yI J J <| yI J J <| y0 J (o_build (cs := [.I v23, .I v24.1]) J Ty.p238 Ty.z238 J J J) <| y_wk (wk_stP (fun l => if l = 2021 then 912512 else l) [(1000003, .ptr 2013 0 0), (1000005, .ptr 2012 0 0), (1000007, .fn (.func 280) [.rptr [.L hash_Place.Pv a0]]), (0, .fn (.yield l20) []), (1, .rptr [.L hash_Place.Pv a0]), (8, .L iF v17), (9, .I (v17.length : Int)), (10, .I s19), (20, .fn (.yield l20) []), (23, .agg [.I v23, .I v24.1])] [(2012, ⟨[.sl 2021], 0, false, 1, false⟩), (2021, ⟨List.map ephem_Pair.Pv s20, (List.map ephem_Pair.Pv s20).length, true, 2, true⟩), (2013, ⟨[.fn (.func 257) []], 0, false, 1, true⟩)] ⟨J, J, J, J, J, J, J, J, J, J, J, J, J, J, J, J, J, J, J, J, J, J, J, J, J, J, J, J, J, J, tr⟩ ⟨rowLe_open J J J (fun q => nomatch q) J J J J, rN, rN, tr⟩ J) ?_
   refine y_yield hR23 J J J J J J (fun e30 o31 o32 => ?_)
   refine s1 <| y1 J (o_alloc J Ty.z238 J J J) J <| y_sto (x' := .agg [.I v23, .I v24.1]) (cl' := true) J J (.inl J) Ty.s238 <| yN ?_
   refine ⟨J, ?_⟩
   obtain ⟨κ27, hκ35, h⟩ := jnE h
   refine pw_jnE (κ := κ27) (r := x21) (fun (j28 : List ephem_Pair) => St.of [(2000003, .ptr 2013 0 0), (2000005, .ptr 2012 0 0), (2000007, .fn (.func 280) [.rptr [.L hash_Place.Pv a0]]), (1000000, .fn (.yield l20) []), (1000001, .rptr [.L hash_Place.Pv a0]), (1000008, .L iF v17), (1000009, .I (v17.length : Int)), (1000010, .I s19), (1000020, .fn (.yield l20) []), (1000023, .agg [.I v23, .I v24.1])] [(2012, ⟨[.sl 15], 0, false, 1, false⟩), (15, ⟨List.map ephem_Pair.Pv j28, (List.map ephem_Pair.Pv j28).length, true, 2, true⟩), (2013, ⟨[.fn (.func 257) []], 0, false, 1, true⟩)]) (fun j28 h => ?_) ?_
   ·subst hκ35
    refine ⟨J, ?_⟩
    refine y_wk (wk_stP (fun l => if l = 2022 then 15 else l) [(1000003, .ptr 2013 0 0), (1000005, .ptr 2012 0 0), (1000007, .fn (.func 280) [.rptr [.L hash_Place.Pv a0]]), (0, .fn (.yield l20) []), (1, .rptr [.L hash_Place.Pv a0]), (8, .L iF v17), (9, .I (v17.length : Int)), (10, .I s19), (24, .bool true)] [(2012, ⟨[.sl 2022], 0, false, 1, false⟩), (2022, ⟨List.map ephem_Pair.Pv j28, (List.map ephem_Pair.Pv j28).length, true, 2, true⟩), (2013, ⟨[.fn (.func 257) []], 0, false, 1, true⟩)] ⟨J, J, J, J, J, J, J, J, J, J, J, J, J, J, J, J, J, J, J, J, J, J, J, J, J, J, J, tr⟩ ⟨rowLe_open J J J (fun q => nomatch q) J J J J, rN, rN, tr⟩ J) <| y0 J (o_not J J) <| yN ?_
    refine pw_cond false J (fun q => nomatch q) (fun _ => ?_)
    refine pw_skip <| s1 <| y0 J (o_ari J J J) <| yI J J <| yN ?_
    exact ⟨J, (w64 (s19 + 1), j28), (oj h).symm, (Wk.trans (wk_frz _ [2022]) (wk_stP (fun l => if l = 912512 then 2022 else l) _ _ ⟨J, J, J, J, J, J, J, J, J, J, J, J, J, J, J, J, J, J, J, J, J, J, J, J, tr⟩ ⟨rowLe_open J J J (fun q => nomatch q) J J J J, rN, rN, tr⟩ J))⟩
   ·skip
    refine pw_block <| sR <| yS J J J J Ty.a241 J <| yL J J J J Ty.a238 Ty.s238 nl J <| bnE h fun v29 hv36 h => y0 J (o_call J Ty.k257 J (ephem_Pairs_1_ok hv36)) <| yN ?_
    refine pw_cond v29 J (fun hc => ?_) (fun hc => ?_)
    ·have h := ifT h hc
     refine s1 <| yS J J J J Ty.a239 J <| yL J J J J Ty.a238 Ty.s238 nl J <| y0 J (o_bI (f := ephem_Pair.Pv) (l := [(⟨v23, v24.1⟩ : ephem_Pair)]) J Ty.e239 Ty.s238 Ty.z238 J J nl J J) <| bnE h fun v30 hv37 h => y_app J (o_apR (f := ephem_Pair.Pv) hv37 J J J J J J (.inl ⟨_, J, J⟩) Ty.e239 Ty.s238 Ty.b238 Ty.z238 J (fun _ => J)) J J J <| y_sto (x' := .sl 15) (cl' := false) J J (.inl J) Ty.s239 <| yN ?_
     exact ⟨J, v30, h, (Wk.trans (wk_frz _ [15]) (wk_st _ _ ⟨J, J, J, J, J, J, J, J, J, J, J, J, J, J, J, J, J, J, J, J, J, J, J, J, J, J, J, J, J, J, tr⟩ ⟨rowLe_open J J J (fun q => nomatch q) J J J J, rS, rS, tr⟩))⟩
    ·have h := ifF h hc
     refine pw_skip ?_
     exact ⟨J, s20, h, (Wk.trans (wk_frz _ [2021]) (wk_stP (fun l => if l = 15 then 2021 else l) _ _ ⟨J, J, J, J, J, J, J, J, J, J, J, J, J, J, J, J, J, J, J, J, J, J, J, J, J, J, J, J, J, J, tr⟩ ⟨rowLe_open J J J (fun q => nomatch q) J J J J, rN, rN, tr⟩ J))⟩
  ·have h := ifF h hc
   refine pw_exit <| thenQ_exit <| thenQ_exit <| blockQ_exit ?_
   refine .inl ⟨J, ?_⟩
   have he := hx27 _ (oj h).symm
   have h := hk26
   rw [← he] at h
   exact ⟨J, s20, h, (Wk.trans (wk_frz _ [912512]) (wk_stP (fun l => if l = 2001 then 2012 else if l = 912501 then 912512 else l) _ _ ⟨J, J, J, tr⟩ ⟨rowLe_open J J J (fun q => nomatch q) J J J J, rN, tr⟩ J))⟩

theorem ephem_Pairs_ok {a0 : List hash_Place} {r : List ephem_Pair} (h : ephem_Pairs a0 = some r) : PCalls Tryz.prog 205 [.L hash_Place.Pv a0] (.L ephem_Pair.Pv r) := by
 unfold ephem_Pairs at h
 refine pc_intro (N := 6) Tryz.func205 J J nl fun w0 imm0 => sR <| yA (d := .lst true (List.map ephem_Pair.Pv [])) J J <| yN <| sR <| yM (d := .L hash_Place.Pv a0) J J <| bnE h fun v1 hv1 h => yc J (o_callF J Ty.k256 J (ephem_pairs_ok hv1)) <| bnE h fun v2 hv2 h => yc J (o_callF J Ty.k255 J (ephem_gathered_ephem_Pair__ephem_pairs_1__ephem_Pairs_1_ok hv2)) <| yA (d := .L ephem_Pair.Pv v2) J J <| yN <| pw_ret ?_
 obtain rfl := oj h
 exact ⟨J, [_], ⟨J, tr⟩, J, io⟩

theorem hold_pairsLive_1_ok {a0 : ephem_Pair} {a1 : hold_Heap} {r : Bool} (h : hold_pairsLive_1 a0 a1 = some r) : PCalls Tryz.prog 206 [ephem_Pair.Pv a0, .rptr (hold_Heap.Pc a1)] (.bool r) := by
 unfold hold_pairsLive_1 at h
 refine pc_intro (N := 14) Tryz.func206 J J nl fun w0 imm0 => sR <| y1 J (o_box (d := ephem_Pair.Pv a0) J J J J J) J <| yb J J <| yN <| sR <| y0 J (o_loadRA J Ty.a34 Ty.s34 nl J) <| yF J J Ty.f238_0 J <| yS J J J J Ty.a3 J <| bnE h fun v1 hv1 h => y0 J (o_call J Ty.k154 J (hold_isLive_ok hv1)) <| yB J J <| y_if J (fun hg => o_loadRA J Ty.a34 Ty.s34 nl J) <| y_if J (fun hg => oF J Ty.f238_1 J) <| y_if J (fun hg => oS (ct hg) J J Ty.a3 J) <| bnE h fun v2 hv2 h => y_if J (fun hg => o_call J Ty.k154 (consE (ct hg) (consE (ct hg) J)) (hold_isLive_ok (onlyE hv2 hg))) <| y0 J (pk_and J J J (fun q => eqT q)) <| yb J J <| yN <| pw_ret ?_
 obtain rfl := oj h
 exact ⟨J, [_], ⟨J, tr⟩, J, io⟩

theorem hold_all_ephem_Pair__hold_pairsLive_1_ok {a0 : List ephem_Pair} {a1 : hold_Heap} {r : Bool} (h : hold_all_ephem_Pair__hold_pairsLive_1 a0 a1 = some r) : PCalls Tryz.prog 204 [.L ephem_Pair.Pv a0, .fn (.func 206) [.rptr (hold_Heap.Pc a1)]] (.bool r) := by
 unfold hold_all_ephem_Pair__hold_pairsLive_1 at h
 refine pc_intro (N := 18) Tryz.func204 J J nl fun w0 imm0 => sR <| yb J J <| yN ?_
 obtain ⟨κ6, hκ6, h⟩ := jnE h
 refine pw_jn0 (κ := κ6) (r := r) (fun (_ : Unit) => St.of [] []) (fun q7 h => ?_) ?_
 ·subst hκ6
  refine sR <| yb J J <| yN <| pw_ret ?_
  obtain rfl := oj h
  exact ⟨J, [_], ⟨J, tr⟩, J, io⟩
 ·skip
  refine sR <| yM (d := .L ephem_Pair.Pv a0) J J <| y0 J (o_lnL (f := ephem_Pair.Pv) J Ty.e239) <| yI J J <| yN <| pw_block ?_
  obtain ⟨e8, hl7, hk8⟩ := bindE h
  refine pw_lp0 (fun (s9 : Int) => St.of [(1, .fn (.func 206) [.rptr (hold_Heap.Pc a1)]), (7, .L ephem_Pair.Pv a0), (8, .I (a0.length : Int)), (9, .I s9)] []) hl7 (wk_st _ _ ⟨J, J, J, J, J, J, J, J, J, J, J, J, tr⟩ tr) (fun s9 x10 h hx9 => ?_)
  refine sR <| y0 J (o_cmp J J J) <| yN <| pw_seq ?_
  refine pw_cond (decide (s9 < (a0.length : Int))) J (fun hc => ?_) (fun hc => ?_)
  ·have h := ifT h hc
   refine pw_skip <| pw_seq <| pw_block <| sR <| bnE h fun v11 hv10 h => y0 J (o_ixL (f := ephem_Pair.Pv) (cs := ephem_Pair.Pc v11) hv10 J J Ty.e239 Ty.s238 J J) <| y0 J (o_loadRA J Ty.a238 Ty.s238 nl J) <| y1 J (o_alloc J Ty.z238 J J J) J <| y_sto (x' := ephem_Pair.Pv v11) (cl' := true) J J (.inl J) Ty.s238 <| yN <| sR <| yM (d := .fn (.func 206) [.rptr (hold_Heap.Pc a1)]) J J <| yL J J J J Ty.a238 Ty.s238 nl J <| bnE h fun v12 hv11 h => y0 J (o_call J Ty.k206 J (hold_pairsLive_1_ok hv11)) <| y0 J (o_not J J) <| yN ?_
   refine pw_cond (!v12) J (fun hc => ?_) (fun hc => ?_)
   ·have h := ifT h hc
    refine sR <| yb J J <| yN <| pw_ret ?_
    have he := hx9 _ (oj h).symm
    have h := hk8
    rw [← he] at h
    obtain rfl := oj h
    exact ⟨J, [_], ⟨J, tr⟩, J, io⟩
   ·have h := ifF h hc
    refine pw_skip <| s1 <| y0 J (o_ari J J J) <| yI J J <| yN ?_
    exact ⟨J, w64 (s9 + 1), (oj h).symm, (wk_st _ _ ⟨J, J, J, J, J, J, J, J, J, J, J, J, tr⟩ tr)⟩
  ·have h := ifF h hc
   refine pw_exit <| thenQ_exit <| thenQ_exit <| blockQ_exit ?_
   have he := hx9 _ (oj h).symm
   have h := hk8
   rw [← he] at h
   exact ⟨J, (), h, (wk_st _ _ tr tr)⟩

theorem hold_pairsLive_ok {a0 : hold_Heap} {r : Bool} (h : hold_pairsLive a0 = some r) : PCalls Tryz.prog 148 [hold_Heap.Pv a0] (.bool r) := by
 unfold hold_pairsLive at h
 refine pc_intro (N := 8) Tryz.func148 J J nl fun w0 imm0 => sR <| y1 J (o_box (d := hold_Heap.Pv a0) J J J J J) J <| yb J J <| yN <| sR <| yF J J Ty.f34_3 J <| yS J J J J Ty.a29 J <| bnE h fun v1 hv1 h => yc J (o_callF J Ty.k205 J (ephem_Pairs_ok hv1)) <| y0 J (o_mkFunc J) <| bnE h fun v2 hv2 h => y0 J (o_call J Ty.k204 J (hold_all_ephem_Pair__hold_pairsLive_1_ok hv2)) <| yb J J <| yN <| pw_ret ?_
 obtain rfl := oj h
 exact ⟨J, [_], ⟨J, tr⟩, J, io⟩

theorem hold_taskIsFor_ok {a0 : hold_Heap} {a1 : task_Task} {r : Bool} (h : hold_taskIsFor a0 a1 = some r) : PCalls Tryz.prog 209 [hold_Heap.Pv a0, task_Task.Pv a1] (.bool r) := by
 unfold hold_taskIsFor at h
 refine pc_intro (N := 48) Tryz.func209 J J nl fun w0 imm0 => sR <| y1 J (o_box (d := hold_Heap.Pv a0) J J J J J) J <| y1 J (o_box (d := task_Task.Pv a1) J J J J J) J <| yb J J <| yN <| pw_seq <| sR <| yF J J Ty.f82_0 J <| yS J J J J Ty.a3 J <| yN <| pw_block <| sR <| y0 J (o_cmp J J J) <| yb J J <| yN ?_
 refine pw_cond (a1.Kind == 1) J (fun hc => ?_) (fun hc => ?_)
 ·have h := ifT h hc
  refine sR <| yF J J Ty.f34_0 J <| yL J J J J Ty.a26 Ty.s26 nl J <| yF J J Ty.f82_1 J <| yS J J J J Ty.a3 J <| bnE h fun v1 hv1 h => yc J (o_callF J Ty.k61 J (store_Get_ok hv1)) <| yM (d := .tup [store_Obj.Pv v1.1, .I v1.2]) J J <| yX J J J <| yX J J J <| y1 J (o_alloc J Ty.z91 J J J) J <| y_sto (x' := store_Obj.Pv v1.1) (cl' := true) J J (.inr J) Ty.s91 <| yi J J <| yN <| sR <| yI J J <| y0 J (o_cmp J J J) <| yB J J <| y_if J (fun hg => oF J Ty.f91_4 J) <| y_if J (fun hg => oS (ct hg) J J Ty.a4 J) <| y0 J (pk_and J J J (fun q => eqT q)) <| yb J J <| yN <| pw_ret ?_
  obtain rfl := oj h
  exact ⟨J, [_], ⟨J, tr⟩, J, io⟩
 ·have h := ifF h hc
  refine sR <| y0 J (o_cmp J J J) <| yb J J <| yN ?_
  refine pw_cond (a1.Kind == 2) J (fun hc => ?_) (fun hc => ?_)
  ·have h := ifT h hc
   refine sR <| yF J J Ty.f82_1 J <| yS J J J J Ty.a3 J <| y0 J (o_cmp J J J) <| yB J J <| y_if J (fun hg => oF J Ty.f82_1 J) <| y_if J (fun hg => oS (ct hg) J J Ty.a3 J) <| y_if J (fun hg => oF J Ty.f34_2 J) <| y_if J (fun hg => oS (ct hg) J J Ty.a28 J) <| y_if J (fun hg => o_lnL (f := weak_Cell.Pv) (ct hg) Ty.e28) <| y_if J (fun hg => o_cmp (ct hg) (ct hg) J) <| y0 J (pk_and J J J (fun q => eqT q)) <| yB J J <| y_if J (fun hg => oF J Ty.f34_2 J) <| y_if J (fun hg => oS (ct hg) J J Ty.a28 J) <| y_if J (fun hg => oF J Ty.f82_1 J) <| y_if J (fun hg => oS (ct hg) J J Ty.a3 J) <| bnE h fun v2 hv2 h => y_if J (fun hg => o_ixL (f := weak_Cell.Pv) (cs := weak_Cell.Pc v2) (onlyE hv2 hg) (ct hg) (ct hg) Ty.e28 Ty.s84 J J) <| y_if J (fun hg => o_fieldAddrR (ct hg) Ty.f84_1 J) <| y_if J (fun hg => o_loadRS (ct hg) Ty.a4 J) <| y_if J (fun hg => o_not (ct hg) J) <| y0 J (pk_and J J J (fun q => eqT q)) <| yb J J <| yN <| pw_ret ?_
   obtain rfl := oj h
   exact ⟨J, [_], ⟨J, tr⟩, J, io⟩
  ·have h := ifF h hc
   refine pw_skip <| sR <| yb J J <| yN <| pw_ret ?_
   obtain rfl := oj h
   exact ⟨J, [_], ⟨J, tr⟩, J, io⟩

theorem hold_tasksFit_ok {a0 : hold_Heap} {r : Bool} (h : hold_tasksFit a0 = some r) : PCalls Tryz.prog 149 [hold_Heap.Pv a0] (.bool r) := by
 unfold hold_tasksFit at h
 refine pc_intro (N := 10) Tryz.func149 J J nl fun w0 imm0 => sR <| y1 J (o_box (d := hold_Heap.Pv a0) J J J J J) J <| yb J J <| yN <| sR <| y_mkM (KT := task_Task) (VT := Bool) (EK := task_Task.Pv) (E := PV.bool) 5000004 J J <| y1 J (o_alloc J Ty.z242 J J J) J <| y_sto (x' := .mp 5000004) (cl' := false) J J (.inl J) Ty.s242 <| yN <| sR <| yF J J Ty.f34_4 J <| yF J J Ty.f32_0 J <| yS J J J J Ty.a30 J <| y0 J (o_mkFunc J) <| y_wk (wk_stP (fun l => if l = 2001 then 1 else if l = 2002 then 3 else if l = 5002003 then 5000004 else l) [(7, .L task_Task.Pv a0.Q.L), (8, .fn (.func 208) [.ptr 2002 0 0, .ptr 2001 0 0])] [(2001, ⟨[hold_Heap.Pv a0], 0, false, 8, true⟩), (2002, ⟨[.mp 5002003], 0, false, 1, false⟩), (5002003, ⟨[.mapc (List.map (ent task_Task.Pv PV.bool) [])], 0, false, 0, false⟩)] ⟨J, J, J, J, J, J, tr⟩ ⟨rN, rowLe_open J J J (fun q => nomatch q) J J J J, rowLe_open J J J (fun q => nomatch q) J J J J, tr⟩ J) ?_
 refine y_inl (fn := Tryz.f207) (N1 := 18) J J Tryz.func207 J Ty.k207 J J nl (fun e1 o2 => ?_)
 obtain ⟨κ17, hκ18, h⟩ := jnE h
 refine pw_jnR (κ := κ17) (r := r) (fun (q : Bool × (List (task_Task × Bool))) => St.of [(1000007, .L task_Task.Pv a0.Q.L), (1000008, .fn (.func 208) [.ptr 2002 0 0, .ptr 2001 0 0]), (4, .bool q.1)] [(2001, ⟨[hold_Heap.Pv a0], 0, false, 8, true⟩), (2002, ⟨[.mp 5002003], 0, false, 1, false⟩), (5002003, ⟨[.mapc (List.map (ent task_Task.Pv PV.bool) q.2)], 0, false, 0, false⟩)]) (fun q20 h => dup ?_) ?_
 ·subst hκ18
  obtain ⟨j18, j19⟩ := q20
  refine ⟨J, [.bool j18], ⟨J, tr⟩, ?_⟩
  refine y_wk (wk_st [(9, .bool j18)] [] ⟨J, J, J, tr⟩ tr) <| yb J J <| yN <| pw_ret ?_
  obtain rfl := oj h
  exact ⟨J, [_], ⟨J, tr⟩, J, io⟩
 ·skip
  refine sR <| yb J J <| yN ?_
  obtain ⟨κ28, hκ26, h⟩ := jnE h
  refine pw_jn0 (κ := κ28) (r := r) (fun (j29 : List (task_Task × Bool)) => St.of [(1000007, .L task_Task.Pv a0.Q.L), (1000008, .fn (.func 208) [.ptr 2002 0 0, .ptr 2001 0 0])] [(2001, ⟨[hold_Heap.Pv a0], 0, false, 8, true⟩), (2002, ⟨[.mp 5002003], 0, false, 1, false⟩), (5002003, ⟨[.mapc (List.map (ent task_Task.Pv PV.bool) j29)], 0, false, 0, false⟩)]) (fun j29 h => ?_) ?_
  ·subst hκ26
   refine sR <| yb J J <| yN <| pw_ret ?_
   exact ⟨J, (true, j29), h, (wk_st _ _ ⟨J, J, J, J, J, J, J, J, J, tr⟩ ⟨rS, rowLe_open J J J (fun q => nomatch q) J J J J, rowLe_open J J J (fun q => nomatch q) J J J J, tr⟩)⟩
  ·skip
   refine sR <| yM (d := .L task_Task.Pv a0.Q.L) J J <| y0 J (o_lnL (f := task_Task.Pv) J Ty.e30) <| yI J J <| yN <| pw_block ?_
   obtain ⟨e30, hl27, hk28⟩ := bindE h
   refine pw_lp0 (fun (q : Int × (List (task_Task × Bool))) => St.of [(1000007, .L task_Task.Pv a0.Q.L), (1000008, .fn (.func 208) [.ptr 2002 0 0, .ptr 2001 0 0]), (1, .fn (.func 208) [.ptr 2002 0 0, .ptr 2001 0 0]), (7, .L task_Task.Pv a0.Q.L), (8, .I (a0.Q.L.length : Int)), (9, .I q.1)] [(2001, ⟨[hold_Heap.Pv a0], 0, false, 8, true⟩), (2002, ⟨[.mp 5002003], 0, false, 1, false⟩), (5002003, ⟨[.mapc (List.map (ent task_Task.Pv PV.bool) q.2)], 0, false, 0, false⟩)]) hl27 (wk_st _ _ ⟨J, J, J, J, J, J, J, J, J, J, J, J, J, J, J, J, J, J, tr⟩ ⟨rS, rowLe_open J J J (fun q => nomatch q) J J J J, rowLe_open J J J (fun q => nomatch q) J J J J, tr⟩) (fun q34 x33 h hx29 => ?_)
   obtain ⟨s31, s32⟩ := q34
   refine sR <| y0 J (o_cmp J J J) <| yN <| pw_seq ?_
   refine pw_cond (decide (s31 < (a0.Q.L.length : Int))) J (fun hc => ?_) (fun hc => ?_)
   ·have h := ifT h hc
    refine pw_skip <| pw_seq <| pw_block <| sR <| bnE h fun v35 hv30 h => y0 J (o_ixL (f := task_Task.Pv) (cs := task_Task.Pc v35) hv30 J J Ty.e30 Ty.s82 J J) <| y0 J (o_loadRA J Ty.a82 Ty.s82 nl J) <| y1 J (o_alloc J Ty.z82 J J J) J <| y_sto (x' := task_Task.Pv v35) (cl' := true) J J (.inl J) Ty.s82 <| yN <| sR <| yM (d := .fn (.func 208) [.ptr 2002 0 0, .ptr 2001 0 0]) J J <| yL J J J J Ty.a82 Ty.s82 nl J <| y_wk (wk_st [(1000007, .L task_Task.Pv a0.Q.L), (1000008, .fn (.func 208) [.ptr 2002 0 0, .ptr 2001 0 0]), (1, .fn (.func 208) [.ptr 2002 0 0, .ptr 2001 0 0]), (7, .L task_Task.Pv a0.Q.L), (8, .I (a0.Q.L.length : Int)), (9, .I s31), (13, .fn (.func 208) [.ptr 2002 0 0, .ptr 2001 0 0]), (14, task_Task.Pv v35)] [(2001, ⟨[hold_Heap.Pv a0], 0, false, 8, true⟩), (2002, ⟨[.mp 5002003], 0, false, 1, false⟩), (5002003, ⟨[.mapc (List.map (ent task_Task.Pv PV.bool) s32)], 0, false, 0, false⟩)] ⟨J, J, J, J, J, J, J, J, J, J, J, J, J, J, J, J, J, J, J, J, J, J, J, J, tr⟩ ⟨rS, rowLe_open J J J (fun q => nomatch q) J J J J, rowLe_open J J J (fun q => nomatch q) J J J J, tr⟩) ?_
    refine y_inl (fn := Tryz.f208) (N1 := 34) J J Tryz.func208 J Ty.k208 J J nl (fun e31 o32 => ?_)
    refine sR <| y1 J (o_box (d := task_Task.Pv v35) J J J J J) J <| yb J J <| yN <| sR <| yF J J Ty.f82_0 J <| yS J J J J Ty.a3 J <| yF J J Ty.f82_1 J <| yS J J J J Ty.a3 J <| y0 J (o_build (cs := [.I v35.Kind, .I v35.At, .I 0]) J Ty.p82 Ty.z82 J J J) <| y1 J (o_alloc J Ty.z82 J J J) J <| y_sto (x' := .agg [.I v35.Kind, .I v35.At, .I 0]) (cl' := true) J J (.inl J) Ty.s82 <| yN <| sR <| yS J J J J Ty.a242 J <| yL J J J J Ty.a82 Ty.s82 nl J <| y_lkM (es := s32) (k := (⟨v35.Kind, v35.At, 0⟩ : task_Task)) (E := PV.bool) (EK := task_Task.Pv) (d := .bool ((mget s32 (⟨v35.Kind, v35.At, 0⟩ : task_Task)).getD (false : Bool))) J J J J Ty.mm242 (keyT_agg task_Task.Pc (fun _ => J) Ty.q82 (by decide) (fun _ _ => J) task_Task.beq_eq (fun _ => J) (fun _ => ⟨J, J⟩)) Ty.z4 J (lk1 _ _ _) <| yb J J <| yN <| sR <| yS J J J J Ty.a242 J <| yL J J J J Ty.a82 Ty.s82 nl J <| y_setM (es := s32) (k := (⟨v35.Kind, v35.At, 0⟩ : task_Task)) (v := true) (E := PV.bool) (EK := task_Task.Pv) (.inl J) J J J J J J Ty.mm242 (keyT_agg task_Task.Pc (fun _ => J) Ty.q82 (by decide) (fun _ _ => J) task_Task.beq_eq (fun _ => J) (fun _ => ⟨J, J⟩)) <| yN <| sR <| yB J J <| y0 J (o_not J J) <| yB J J <| y_if J (fun hg => oF J Ty.f82_2 J) <| y_if J (fun hg => oS (ct hg) J J Ty.a3 J) ?_
    refine y_if J (fun hg => o_cmp (ct hg) J J) <| y0 J (pk_and J J J (fun q => eqT q)) <| yB J J <| y_if J (fun hg => oF J Ty.f82_2 J) <| y_if J (fun hg => oS (ct hg) J J Ty.a3 J) <| y_if J (fun hg => o_cmp (ct hg) J J) <| y0 J (pk_and J J J (fun q => eqT q)) <| yB J J <| y_if J (fun hg => oL J J J Ty.a34 Ty.s34 nl J) <| y_if J (fun hg => oL J J J Ty.a82 Ty.s82 nl J) <| bnE h fun v36 hv33 h => y_if J (fun hg => o_call J Ty.k209 (consE (ct hg) (consE (ct hg) J)) (hold_taskIsFor_ok (onlyE hv33 hg))) <| y0 J (pk_and J J J (fun q => eqT q)) <| yb J J <| yN <| pw_ret ?_
    refine ⟨J, [.bool ((((!((mget s32 (⟨v35.Kind, v35.At, 0⟩ : task_Task)).getD (false : Bool))) && (decide (v35.Prog ≥ 0))) && (decide (v35.Prog < 6))) && v36)], ⟨J, tr⟩, ?_⟩
    refine y_wk (wk_st [(1000007, .L task_Task.Pv a0.Q.L), (1000008, .fn (.func 208) [.ptr 2002 0 0, .ptr 2001 0 0]), (1, .fn (.func 208) [.ptr 2002 0 0, .ptr 2001 0 0]), (7, .L task_Task.Pv a0.Q.L), (8, .I (a0.Q.L.length : Int)), (9, .I s31), (15, .bool ((((!((mget s32 (⟨v35.Kind, v35.At, 0⟩ : task_Task)).getD (false : Bool))) && (decide (v35.Prog ≥ 0))) && (decide (v35.Prog < 6))) && v36))] [(2001, ⟨[hold_Heap.Pv a0], 0, false, 8, true⟩), (2002, ⟨[.mp 5002003], 0, false, 1, false⟩), (5002003, ⟨[.mapc (List.map (ent task_Task.Pv PV.bool) (mput s32 (⟨v35.Kind, v35.At, 0⟩ : task_Task) true))], 0, false, 0, false⟩)] ⟨J, J, J, J, J, J, J, J, J, J, J, J, J, J, J, J, J, J, J, J, J, tr⟩ ⟨rS, rowLe_open J J J (fun q => nomatch q) J J J J, rowLe_open J J J (fun q => nomatch q) J J J J, tr⟩) <| y0 J (o_not J J) <| yN ?_
    refine pw_cond (!((((!((mget s32 (⟨v35.Kind, v35.At, 0⟩ : task_Task)).getD (false : Bool))) && (decide (v35.Prog ≥ 0))) && (decide (v35.Prog < 6))) && v36)) J (fun hc => ?_) (fun hc => ?_)
    ·have h := ifT h hc
     refine sR <| yb J J <| yN <| pw_ret ?_
     have he := hx29 _ (oj h).symm
     have h := hk28
     rw [← he] at h
     exact ⟨J, (false, (mput s32 (⟨v35.Kind, v35.At, 0⟩ : task_Task) true)), h, (wk_st _ _ ⟨J, J, J, J, J, J, J, J, J, tr⟩ ⟨rS, rowLe_open J J J (fun q => nomatch q) J J J J, rowLe_open J J J (fun q => nomatch q) J J J J, tr⟩)⟩
    ·have h := ifF h hc
     refine pw_skip <| s1 <| y0 J (o_ari J J J) <| yI J J <| yN ?_
     exact ⟨J, (w64 (s31 + 1), (mput s32 (⟨v35.Kind, v35.At, 0⟩ : task_Task) true)), (oj h).symm, (wk_st _ _ ⟨J, J, J, J, J, J, J, J, J, J, J, J, J, J, J, J, J, J, tr⟩ ⟨rS, rowLe_open J J J (fun q => nomatch q) J J J J, rowLe_open J J J (fun q => nomatch q) J J J J, tr⟩)⟩
   ·have h := ifF h hc
    refine pw_exit <| thenQ_exit <| thenQ_exit <| blockQ_exit ?_
    have he := hx29 _ (oj h).symm
    have h := hk28
    rw [← he] at h
    exact ⟨J, s32, h, (wk_st _ _ ⟨J, J, J, J, J, J, tr⟩ ⟨rS, rowLe_open J J J (fun q => nomatch q) J J J J, rowLe_open J J J (fun q => nomatch q) J J J J, tr⟩)⟩

theorem hold_cellsFit_1_ok {a0 : weak_Cell} {a1 : hold_Heap} {r : Bool} (h : hold_cellsFit_1 a0 a1 = some r) : PCalls Tryz.prog 211 [weak_Cell.Pv a0, .rptr (hold_Heap.Pc a1)] (.bool r) := by
 unfold hold_cellsFit_1 at h
 refine pc_intro (N := 36) Tryz.func211 J J nl fun w0 imm0 => sR <| y1 J (o_box (d := weak_Cell.Pv a0) J J J J J) J <| yb J J <| yN <| pw_seq <| sR <| yF J J Ty.f84_2 J <| yS J J J J Ty.a3 J <| y0 J (o_cmp J J J) <| yB J J <| y_if J (fun hg => oF J Ty.f84_2 J) <| y_if J (fun hg => oS (ct hg) J J Ty.a3 J) <| y_if J (fun hg => o_cmp (ct hg) J J) <| y0 J (pk_or J J J (fun q => eqF q)) <| yN ?_
 refine pw_cond ((decide (a0.Call < (-1))) || (decide (a0.Call ≥ 6))) J (fun hc => ?_) (fun hc => ?_)
 ·have h := ifT h hc
  refine sR <| yb J J <| yN <| pw_ret ?_
  obtain rfl := oj h
  exact ⟨J, [_], ⟨J, tr⟩, J, io⟩
 ·have h := ifF h hc
  refine pw_skip <| pw_seq <| sR <| yF J J Ty.f84_1 J <| yS J J J J Ty.a4 J <| yN ?_
  refine pw_cond a0.Intact J (fun hc => ?_) (fun hc => ?_)
  ·have h := ifT h hc
   refine sR <| y0 J (o_loadRA J Ty.a34 Ty.s34 nl J) <| yF J J Ty.f84_0 J <| yS J J J J Ty.a3 J <| bnE h fun v1 hv1 h => y0 J (o_call J Ty.k154 J (hold_isLive_ok hv1)) <| yb J J <| yN <| pw_ret ?_
   obtain rfl := oj h
   exact ⟨J, [_], ⟨J, tr⟩, J, io⟩
  ·have h := ifF h hc
   refine pw_skip <| sR <| y0 J (o_fieldAddrR J Ty.f34_0 J) <| y0 J (o_fieldAddrR J Ty.f26_0 J) <| y0 J (o_loadRA J Ty.a24 Ty.s24 nl J) <| yF J J Ty.f84_0 J <| yS J J J J Ty.a3 J <| bnE h fun v2 hv2 h => y0 J (o_call J Ty.k164 J (slab_Find_store_Obj_ok hv2)) <| yM (d := .tup [.I v2.1, .I v2.2]) J J <| yX J J J <| yX J J J <| yi J J <| yi J J <| yN <| sR <| yF J J Ty.f84_0 J <| yS J J J J Ty.a3 J <| y0 J (o_cmp J J J) <| yB J J <| y_if J (fun hg => mI J) <| y_if J (fun hg => o_cmp (ct hg) J J) <| y0 J (pk_or J J J (fun q => eqF q)) <| yb J J <| yN <| pw_ret ?_
   obtain rfl := oj h
   exact ⟨J, [_], ⟨J, tr⟩, J, io⟩

theorem hold_all_weak_Cell__hold_cellsFit_1_ok {a0 : List weak_Cell} {a1 : hold_Heap} {r : Bool} (h : hold_all_weak_Cell__hold_cellsFit_1 a0 a1 = some r) : PCalls Tryz.prog 210 [.L weak_Cell.Pv a0, .fn (.func 211) [.rptr (hold_Heap.Pc a1)]] (.bool r) := by
 unfold hold_all_weak_Cell__hold_cellsFit_1 at h
 refine pc_intro (N := 18) Tryz.func210 J J nl fun w0 imm0 => sR <| yb J J <| yN ?_
 obtain ⟨κ6, hκ6, h⟩ := jnE h
 refine pw_jn0 (κ := κ6) (r := r) (fun (_ : Unit) => St.of [] []) (fun q7 h => ?_) ?_
 ·subst hκ6
  refine sR <| yb J J <| yN <| pw_ret ?_
  obtain rfl := oj h
  exact ⟨J, [_], ⟨J, tr⟩, J, io⟩
 ·skip
  refine sR <| yM (d := .L weak_Cell.Pv a0) J J <| y0 J (o_lnL (f := weak_Cell.Pv) J Ty.e28) <| yI J J <| yN <| pw_block ?_
  obtain ⟨e8, hl7, hk8⟩ := bindE h
  refine pw_lp0 (fun (s9 : Int) => St.of [(1, .fn (.func 211) [.rptr (hold_Heap.Pc a1)]), (7, .L weak_Cell.Pv a0), (8, .I (a0.length : Int)), (9, .I s9)] []) hl7 (wk_st _ _ ⟨J, J, J, J, J, J, J, J, J, J, J, J, tr⟩ tr) (fun s9 x10 h hx9 => ?_)
  refine sR <| y0 J (o_cmp J J J) <| yN <| pw_seq ?_
  refine pw_cond (decide (s9 < (a0.length : Int))) J (fun hc => ?_) (fun hc => ?_)
  ·have h := ifT h hc
   refine pw_skip <| pw_seq <| pw_block <| sR <| bnE h fun v11 hv10 h => y0 J (o_ixL (f := weak_Cell.Pv) (cs := weak_Cell.Pc v11) hv10 J J Ty.e28 Ty.s84 J J) <| y0 J (o_loadRA J Ty.a84 Ty.s84 nl J) <| y1 J (o_alloc J Ty.z84 J J J) J <| y_sto (x' := weak_Cell.Pv v11) (cl' := true) J J (.inl J) Ty.s84 <| yN <| sR <| yM (d := .fn (.func 211) [.rptr (hold_Heap.Pc a1)]) J J <| yL J J J J Ty.a84 Ty.s84 nl J <| bnE h fun v12 hv11 h => y0 J (o_call J Ty.k211 J (hold_cellsFit_1_ok hv11)) <| y0 J (o_not J J) <| yN ?_
   refine pw_cond (!v12) J (fun hc => ?_) (fun hc => ?_)
   ·have h := ifT h hc
    refine sR <| yb J J <| yN <| pw_ret ?_
    have he := hx9 _ (oj h).symm
    have h := hk8
    rw [← he] at h
    obtain rfl := oj h
    exact ⟨J, [_], ⟨J, tr⟩, J, io⟩
   ·have h := ifF h hc
    refine pw_skip <| s1 <| y0 J (o_ari J J J) <| yI J J <| yN ?_
    exact ⟨J, w64 (s9 + 1), (oj h).symm, (wk_st _ _ ⟨J, J, J, J, J, J, J, J, J, J, J, J, tr⟩ tr)⟩
  ·have h := ifF h hc
   refine pw_exit <| thenQ_exit <| thenQ_exit <| blockQ_exit ?_
   have he := hx9 _ (oj h).symm
   have h := hk8
   rw [← he] at h
   exact ⟨J, (), h, (wk_st _ _ tr tr)⟩

theorem hold_cellsFit_ok {a0 : hold_Heap} {r : Bool} (h : hold_cellsFit a0 = some r) : PCalls Tryz.prog 150 [hold_Heap.Pv a0] (.bool r) := by
 unfold hold_cellsFit at h
 refine pc_intro (N := 7) Tryz.func150 J J nl fun w0 imm0 => sR <| y1 J (o_box (d := hold_Heap.Pv a0) J J J J J) J <| yb J J <| yN <| sR <| yF J J Ty.f34_2 J <| yS J J J J Ty.a28 J <| y0 J (o_mkFunc J) <| bnE h fun v1 hv1 h => y0 J (o_call J Ty.k210 J (hold_all_weak_Cell__hold_cellsFit_1_ok hv1)) <| yb J J <| yN <| pw_ret ?_
 obtain rfl := oj h
 exact ⟨J, [_], ⟨J, tr⟩, J, io⟩

theorem weak_Naming_1_ok {a0 : weak_Cell} {a1 : Int} {r : Bool} (h : weak_Naming_1 a0 a1 = some r) : PCalls Tryz.prog 258 [weak_Cell.Pv a0, .rptr [.I a1]] (.bool r) := by
 unfold weak_Naming_1 at h
 refine pc_intro (N := 12) Tryz.func258 J J nl fun w0 imm0 => sR <| y1 J (o_box (d := weak_Cell.Pv a0) J J J J J) J <| yb J J <| yN <| sR <| y0 J (o_loadRS J Ty.a3 J) <| y0 J (o_cmp J J J) <| yB J J <| y_if J (fun hg => oF J Ty.f84_0 J) <| y_if J (fun hg => oS (ct hg) J J Ty.a3 J) <| y_if J (fun hg => o_loadRS J Ty.a3 J) <| y_if J (fun hg => o_cmp (ct hg) (ct hg) J) <| y0 J (pk_and J J J (fun q => eqT q)) <| yb J J <| yN <| pw_ret ?_
 obtain rfl := oj h
 exact ⟨J, [_], ⟨J, tr⟩, J, io⟩

theorem weak_picked__weak_Naming_1_ok {a0 : List weak_Cell} {a1 : Int} {r : List Int} (h : weak_picked__weak_Naming_1 a0 a1 = some r) : PCalls Tryz.prog 236 [.L weak_Cell.Pv a0, .fn (.func 258) [.rptr [.I a1]]] (.L iF r) := by
 unfold weak_picked__weak_Naming_1 at h
 refine pc_intro (N := 24) Tryz.func236 J J nl fun w0 imm0 => sR <| yA (d := .lst true (List.map iF [])) J J <| yN <| sR <| yA (d := .lst true (List.map iF [])) J J <| yN ?_
 obtain ⟨κ14, hκ11, h⟩ := jnE h
 refine pw_jn0 (κ := κ14) (r := r) (fun (j15 : List Int) => St.of [(5, .sl 910005)] [(910005, ⟨List.map iF j15, (List.map iF j15).length, true, 1, true⟩)]) (fun j15 h => ?_) ?_
 ·subst hκ11
  refine sR <| yM (d := .sl 910005) J J <| yA (d := .sl 910005) J J <| yN <| pw_ret ?_
  obtain rfl := oj h
  exact ⟨J, [_], ⟨J, tr⟩, J, io⟩
 ·skip
  refine sR <| yM (d := .L weak_Cell.Pv a0) J J <| y0 J (o_lnL (f := weak_Cell.Pv) J Ty.e28) <| yI J J <| yN <| pw_block ?_
  obtain ⟨e16, hl12, hk13⟩ := bindE h
  refine pw_lp0 (fun (q : Int × (List Int)) => St.of [(1, .fn (.func 258) [.rptr [.I a1]]), (5, .sl 910005), (8, .L weak_Cell.Pv a0), (9, .I (a0.length : Int)), (10, .I q.1)] [(910005, ⟨List.map iF q.2, (List.map iF q.2).length, true, 1, true⟩)]) hl12 (Wk.trans (wk_nil (t := 5) (l := 920005) (z := 1) J J) (wk_stP (fun l => if l = 910005 then 920005 else l) _ _ ⟨J, J, J, J, J, J, J, J, J, J, J, J, J, J, J, tr⟩ ⟨rN, tr⟩ J)) (fun q20 x19 h hx14 => ?_)
  obtain ⟨s17, s18⟩ := q20
  refine sR <| y0 J (o_cmp J J J) <| yN <| pw_seq ?_
  refine pw_cond (decide (s17 < (a0.length : Int))) J (fun hc => ?_) (fun hc => ?_)
  ·have h := ifT h hc
   refine pw_skip ?_
   obtain ⟨κ24, hκ18, h⟩ := jnE h
   refine pw_jn0 (κ := κ24) (r := x19) (fun (j25 : List Int) => St.of [(1, .fn (.func 258) [.rptr [.I a1]]), (5, .sl 21), (8, .L weak_Cell.Pv a0), (9, .I (a0.length : Int)), (10, .I s17)] [(21, ⟨List.map iF j25, (List.map iF j25).length, true, 1, true⟩)]) (fun j25 h => ?_) ?_
   ·subst hκ18
    refine s1 <| y0 J (o_ari J J J) <| yI J J <| yN ?_
    exact ⟨J, (w64 (s17 + 1), j25), (oj h).symm, (Wk.trans (wk_frz _ [21]) (wk_stP (fun l => if l = 910005 then 21 else l) _ _ ⟨J, J, J, J, J, J, J, J, J, J, J, J, J, J, J, tr⟩ ⟨rN, tr⟩ J))⟩
   ·skip
    refine pw_block <| sR <| yI J J <| bnE h fun v26 hv19 h => y0 J (o_ixL (f := weak_Cell.Pv) (cs := weak_Cell.Pc v26) hv19 J J Ty.e28 Ty.s84 J J) <| y0 J (o_loadRA J Ty.a84 Ty.s84 nl J) <| y1 J (o_alloc J Ty.z84 J J J) J <| yi J J <| y_sto (x' := weak_Cell.Pv v26) (cl' := true) J J (.inl J) Ty.s84 <| yN <| sR <| yM (d := .fn (.func 258) [.rptr [.I a1]]) J J <| yL J J J J Ty.a84 Ty.s84 nl J <| bnE h fun v27 hv20 h => y0 J (o_call J Ty.k258 J (weak_Naming_1_ok hv20)) <| yN ?_
    refine pw_cond v27 J (fun hc => ?_) (fun hc => ?_)
    ·have h := ifT h hc
     refine s1 <| yM (d := .sl 910005) J J <| yI J J <| y0 J (o_bI (f := iF) (l := [s17]) J Ty.e27 Ty.s3 Ty.z3 J J nl J J) <| bnE h fun v28 hv21 h => y_app J (o_apR (f := iF) hv21 J J J J J J (.inl ⟨_, J, J⟩) Ty.e27 Ty.s3 Ty.b3 Ty.z3 J (fun _ => J)) J J J <| yA (d := .sl 21) J J <| yN ?_
     exact ⟨J, v28, h, (Wk.trans (wk_frz _ [21]) (wk_st _ _ ⟨J, J, J, J, J, J, J, J, J, J, J, J, J, J, J, tr⟩ ⟨rS, tr⟩))⟩
    ·have h := ifF h hc
     refine pw_skip ?_
     exact ⟨J, s18, h, (Wk.trans (wk_frz _ [910005]) (wk_stP (fun l => if l = 21 then 910005 else l) _ _ ⟨J, J, J, J, J, J, J, J, J, J, J, J, J, J, J, tr⟩ ⟨rN, tr⟩ J))⟩
  ·have h := ifF h hc
   refine pw_exit <| thenQ_exit <| thenQ_exit <| blockQ_exit ?_
   have he := hx14 _ (oj h).symm
   have h := hk13
   rw [← he] at h
   exact ⟨J, s18, h, (Wk.trans (wk_frz _ [910005]) (wk_st _ _ ⟨J, J, J, tr⟩ ⟨rS, tr⟩))⟩

theorem weak_Naming_ok {a0 : List weak_Cell} {a1 : Int} {r : Int} (h : weak_Naming a0 a1 = some r) : PCalls Tryz.prog 212 [.L weak_Cell.Pv a0, .I a1] (.I r) := by
 unfold weak_Naming at h
 refine pc_intro (N := 9) Tryz.func212 J J nl fun w0 imm0 => sR <| y1 J (o_box (d := .I a1) J J J J J) J <| yi J J <| yN <| sR <| yM (d := .L weak_Cell.Pv a0) J J <| y0 J (o_mkFunc J) <| bnE h fun v1 hv1 h => ycL J (o_callF J Ty.k236 J (weak_picked__weak_Naming_1_ok hv1)) J <| y0 J (o_lnL (f := iF) J Ty.e27) <| yi J J <| yN <| pw_ret ?_
 obtain rfl := oj h
 exact ⟨J, [_], ⟨J, tr⟩, J, io⟩

theorem hold_foundFit_ok {a0 : hold_Heap} {r : Bool} (h : hold_foundFit a0 = some r) : PCalls Tryz.prog 151 [hold_Heap.Pv a0] (.bool r) := by
 unfold hold_foundFit at h
 refine pc_intro (N := 57) Tryz.func151 J J nl fun w0 imm0 => sR <| y1 J (o_box (d := hold_Heap.Pv a0) J J J J J) J <| yb J J <| yN ?_
 obtain ⟨κ12, hκ11, h⟩ := jnE h
 refine pw_jn0 (κ := κ12) (r := r) (fun (_ : Unit) => St.of [] []) (fun q13 h => ?_) ?_
 ·subst hκ11
  refine sR <| yb J J <| yN <| pw_ret ?_
  obtain rfl := oj h
  exact ⟨J, [_], ⟨J, tr⟩, J, io⟩
 ·skip
  refine sR <| yF J J Ty.f34_0 J <| yF J J Ty.f26_0 J <| yF J J Ty.f24_0 J <| yS J J J J Ty.a22 J <| y0 J (o_lnL (f := slab_Cell_store_Obj.Pv) J Ty.e22) <| yI J J <| yN <| pw_block ?_
  obtain ⟨e14, hl12, hk13⟩ := bindE h
  refine pw_lp0 (fun (s15 : Int) => St.of [(1, .ptr 1 0 0), (8, .L slab_Cell_store_Obj.Pv a0.S.S.Cells), (9, .I (a0.S.S.Cells.length : Int)), (10, .I s15)] [(1, ⟨[hold_Heap.Pv a0], 0, false, 8, true⟩)]) hl12 (wk_st _ _ ⟨J, J, J, J, J, J, J, J, J, J, J, J, tr⟩ ⟨rS, tr⟩) (fun s15 x16 h hx14 => ?_)
  refine sR <| y0 J (o_cmp J J J) <| yN <| pw_seq ?_
  refine pw_cond (decide (s15 < (a0.S.S.Cells.length : Int))) J (fun hc => ?_) (fun hc => ?_)
  ·have h := ifT h hc
   refine pw_skip ?_
   obtain ⟨κ20, hκ18, h⟩ := jnE h
   refine pw_jn0 (κ := κ20) (r := x16) (fun (_ : Unit) => St.of [(1, .ptr 1 0 0), (8, .L slab_Cell_store_Obj.Pv a0.S.S.Cells), (9, .I (a0.S.S.Cells.length : Int)), (10, .I s15)] [(1, ⟨[hold_Heap.Pv a0], 0, false, 8, true⟩)]) (fun q21 h => ?_) ?_
   ·subst hκ18
    refine s1 <| y0 J (o_ari J J J) <| yI J J <| yN ?_
    exact ⟨J, w64 (s15 + 1), (oj h).symm, (wk_st _ _ ⟨J, J, J, J, J, J, J, J, J, J, J, J, tr⟩ ⟨rS, tr⟩)⟩
   ·skip
    refine pw_block <| sR <| yI J J <| bnE h fun v22 hv19 h => y0 J (o_ixL (f := slab_Cell_store_Obj.Pv) (cs := slab_Cell_store_Obj.Pc v22) hv19 J J Ty.e22 Ty.s141 J J) <| y0 J (o_loadRA J Ty.a141 Ty.s141 nl J) <| y1 J (o_alloc J Ty.z141 J J J) J <| yi J J <| y_sto (x' := slab_Cell_store_Obj.Pv v22) (cl' := true) J J (.inr J) Ty.s141 <| yN <| pw_seq <| sR <| yF J J Ty.f141_0 J <| yS J J J J Ty.a3 J <| y0 J (o_cmp J J J) <| yB J J <| y_if J (fun hg => oF J Ty.f141_0 J) <| y_if J (fun hg => oS (ct hg) J J Ty.a3 J) <| y_if J (fun hg => o_cmp (ct hg) J J) <| y0 J (pk_and J J J (fun q => eqT q)) <| yN ?_
    refine pw_cond ((v22.State != 1) && (v22.State != 2)) J (fun hc => ?_) (fun hc => ?_)
    ·have h := ifT h hc
     refine pw_exit <| thenQ_exit <| blockQ_exit ?_
     exact ⟨J, (), h, (wk_st _ _ ⟨J, J, J, J, J, J, J, J, J, J, J, J, tr⟩ ⟨rS, tr⟩)⟩
    ·have h := ifF h hc
     refine pw_skip <| pw_seq <| dr [] Ty.mix (by kernel_rfl) (by kernel_rfl) <| d7 J (fun _ hN => oF J Ty.f141_2 J) J <| d7 J (fun _ hN => oF J Ty.f91_2 J) J <| d0 J (oS J J J Ty.a3 J) J <| d7 J (fun _ hN => oF J Ty.f34_2 J) J <| d0 J (oS J J J Ty.a28 J) J <| d7 J (fun _ hN => mI J) J <| d7 J (fun _ hN => oF J Ty.f141_1 J) J <| d0 J (oS J J J Ty.a3 J) J <| bnE h fun v23 hv20 h => d2 J (o_call J Ty.k141 J (handle_Pack_ok hv20)) J <| bnE h fun v24 hv21 h => d2 J (o_call J Ty.k212 J (weak_Naming_ok hv21)) J <| d7 J (fun _ hN => o_cmp J J J) J <| d_nil ?_
     refine pw_cond (v22.Val.Weak != v24) J (fun hc => ?_) (fun hc => ?_)
     ·have h := ifT h hc
      refine sR <| yb J J <| yN <| pw_ret ?_
      have he := hx14 _ (oj h).symm
      have h := hk13
      rw [← he] at h
      obtain rfl := oj h
      exact ⟨J, [_], ⟨J, tr⟩, J, io⟩
     ·have h := ifF h hc
      refine pw_skip <| sR <| yF J J Ty.f141_0 J <| yS J J J J Ty.a3 J <| y0 J (o_cmp J J J) <| yB J J <| y_if J (fun hg => oF J Ty.f141_2 J) <| y_if J (fun hg => oF (ct hg) Ty.f91_2 J) <| y_if J (fun hg => oS (ct hg) J J Ty.a3 J) <| y_if J (fun hg => o_cmp (ct hg) J J) <| y_if J (fun hg => om (d := .bool (decide (v22.Val.Weak < 1))) (ct hg)) <| y_if (want2 J J J) (fun hg => oF J Ty.f141_2 J) <| y_if (want2 J J J) (fun hg => oF (ct hg) Ty.f91_5 J) <| y_if (want2 J J J) (fun hg => oS (ct hg) J J Ty.a27 J) <| y_if (want2 J J J) (fun hg => o_lnL (f := iF) (ct hg) Ty.e27) <| y_if (want2 J J J) (fun hg => o_cmp (ct hg) J J) <| y_if J (fun hg => pk_or (ct hg) J J (fun q => andI hg (eqF q))) <| y_if J (fun hg => om (d := .bool ((decide (v22.Val.Weak < 1)) || (decide ((v22.Val.Fields.length : Int) > 0)))) (ct hg)) <| y_if (want2 J J J) (fun hg => oF J Ty.f141_2 J) <| y_if (want2 J J J) (fun hg => oF (ct hg) Ty.f91_1 J) <| y_if (want2 J J J) (fun hg => oS (ct hg) J J Ty.a3 J) <| y_if (want2 J J J) (fun hg => o_cmp (ct hg) J J) <| y_if J (fun hg => pk_or (ct hg) J J (fun q => andI hg (eqF q))) <| y0 J (pk_and J J J (fun q => eqT q)) <| yN ?_
      refine pw_cond ((v22.State == 2) && (((decide (v22.Val.Weak < 1)) || (decide ((v22.Val.Fields.length : Int) > 0))) || (v22.Val.Strong != 0))) J (fun hc => ?_) (fun hc => ?_)
      ·have h := ifT h hc
       refine sR <| yb J J <| yN <| pw_ret ?_
       have he := hx14 _ (oj h).symm
       have h := hk13
       rw [← he] at h
       obtain rfl := oj h
       exact ⟨J, [_], ⟨J, tr⟩, J, io⟩
      ·have h := ifF h hc
       refine pw_skip ?_
       exact ⟨J, (), h, (wk_st _ _ ⟨J, J, J, J, J, J, J, J, J, J, J, J, tr⟩ ⟨rS, tr⟩)⟩
  ·have h := ifF h hc
   refine pw_exit <| thenQ_exit <| thenQ_exit <| blockQ_exit ?_
   have he := hx14 _ (oj h).symm
   have h := hk13
   rw [← he] at h
   exact ⟨J, (), h, (wk_st _ _ tr tr)⟩

theorem fvcall1_ok {f : Fv} {a0 : hold_Heap} {r : Bool} (h : fvcall1 f a0 = some r) : ∃ n, f = some n ∧ Callable Tryz.prog n ∧ PCalls Tryz.prog n [hold_Heap.Pv a0] (.bool r) := by
 unfold fvcall1 at h
 by_cases e147 : f = some 147
 ·rw [if_pos e147] at h; exact ⟨147, e147, Ty.k147, hold_namesLive_ok h⟩
 rw [if_neg e147] at h
 by_cases e148 : f = some 148
 ·rw [if_pos e148] at h; exact ⟨148, e148, Ty.k148, hold_pairsLive_ok h⟩
 rw [if_neg e148] at h
 by_cases e149 : f = some 149
 ·rw [if_pos e149] at h; exact ⟨149, e149, Ty.k149, hold_tasksFit_ok h⟩
 rw [if_neg e149] at h
 by_cases e150 : f = some 150
 ·rw [if_pos e150] at h; exact ⟨150, e150, Ty.k150, hold_cellsFit_ok h⟩
 rw [if_neg e150] at h
 by_cases e151 : f = some 151
 ·rw [if_pos e151] at h; exact ⟨151, e151, Ty.k151, hold_foundFit_ok h⟩
 rw [if_neg e151] at h
 cases h

theorem task_Held_ok {a0 : queue_Queue_task_Task} {r : List Int} (h : task_Held a0 = some r) : PCalls Tryz.prog 153 [queue_Queue_task_Task.Pv a0] (.L iF r) := by
 unfold task_Held at h
 refine pc_intro (N := 14) Tryz.func153 J J nl fun w0 imm0 => sR <| y1 J (o_box (d := queue_Queue_task_Task.Pv a0) J J J J J) J <| yA (d := .lst true (List.map iF [])) J J <| yN <| sR <| y1 J (o_alloc J Ty.z27 J J J) J <| yN ?_
 obtain ⟨κ9, hκ15, h⟩ := jnE h
 refine pw_jn0 (κ := κ9) (r := r) (fun (j10 : List Int) => St.of [(3, .ptr 2001 0 0)] [(2001, ⟨[.sl 912501], 0, false, 1, false⟩), (912501, ⟨List.map iF j10, (List.map iF j10).length, true, 1, true⟩)]) (fun j10 h => ?_) ?_
 ·subst hκ15
  refine sR <| yS J J J J Ty.a27 J <| yA (d := .sl 912501) J J <| yN <| pw_ret ?_
  obtain rfl := oj h
  exact ⟨J, [_], ⟨J, tr⟩, J, io⟩
 ·skip
  refine sR <| yL J J J J Ty.a32 Ty.s32 nl J <| bnE h fun v11 hv16 h => yc J (o_callF J Ty.k161 J (task_of_ok hv16)) <| yN <| pw_block <| pw_wk (wk_stP (fun l => if l = 2011 then 3 else l) [(3, .ptr 2011 0 0), (6, .fn (.func 220) [.rptr (queue_Queue_task_Task.Pc v11.1), .rptr [.I v11.2]])] [(2011, ⟨[.lst true (List.map iF [])], 0, false, 1, true⟩)] ⟨J, J, J, J, J, J, tr⟩ ⟨rN, tr⟩ J) ?_
  refine pw_range (fn := Tryz.f220) (N1 := 24) J Tryz.func220 J J nl J Ty.k220 J J (fun l17 e18 o19 hR20 => ?_)
  refine sR <| y0 J (o_fieldAddrR J Ty.f32_0 J) <| y0 J (o_loadRS J Ty.a30 J) <| y0 J (o_lnL (f := task_Task.Pv) J Ty.e30) <| yI J J <| yN <| pw_block ?_
  obtain ⟨e12, hl21, hk22⟩ := bindE h
  refine pw_lp0 (fun (q : Int × (List Int)) => St.of [(1000003, .ptr 2011 0 0), (1000006, .fn (.func 220) [.rptr (queue_Queue_task_Task.Pc v11.1), .rptr [.I v11.2]]), (0, .fn (.yield l17) []), (2, .rptr [.I v11.2]), (7, .L task_Task.Pv v11.1.L), (8, .I (v11.1.L.length : Int)), (9, .I q.1)] [(2011, ⟨[.sl 912511], 0, false, 1, false⟩), (912511, ⟨List.map iF q.2, (List.map iF q.2).length, true, 1, true⟩)]) hl21 (Wk.trans (wk_nilC (l0 := 2011) (j := 0) (l := 922511) (z := 1) J J J J J) (wk_stP (fun l => if l = 912511 then 922511 else l) _ _ ⟨J, J, J, J, J, J, J, J, J, J, J, J, J, J, J, J, J, J, J, J, J, tr⟩ ⟨rowLe_open J J J (fun q => nomatch q) J J J J, rN, tr⟩ J)) (fun q16 x15 h hx23 => ?_)
  obtain ⟨s13, s14⟩ := q16
  refine sR <| y0 J (o_cmp J J J) <| yN <| pw_seq ?_
  refine pw_cond (decide (s13 < (v11.1.L.length : Int))) J (fun hc => ?_) (fun hc => ?_)
  ·have h := ifT h hc
   refine pw_skip <| pw_seq <| pw_block <| sR <| bnE h fun v17 hv24 h => y0 J (o_ixL (f := task_Task.Pv) (cs := task_Task.Pc v17) hv24 J J Ty.e30 Ty.s82 J J) <| y0 J (o_loadRA J Ty.a82 Ty.s82 nl J) <| y1 J (o_alloc J Ty.z82 J J J) J <| y_sto (x' := task_Task.Pv v17) (cl' := true) J J (.inl J) Ty.s82 <| yN <| sR <| yF J J Ty.f82_0 J <| yS J J J J Ty.a3 J <| y0 J (o_loadRS J Ty.a3 J) <| y0 J (o_cmp J J J) <| yB J J <| y_if J (fun hg => om (d := .fn (.yield l17) []) J) <| y_if J (fun hg => oL J J J Ty.a82 Ty.s82 nl J) ?_
   rcases Bool.eq_false_or_eq_true ((v17.Kind == v11.2) == true) with hg25 | hg25
   ·have h := ifT h hg25
    refine y_wk (wk_stP (fun l => if l = 2019 then 912511 else l) [(1000003, .ptr 2011 0 0), (1000006, .fn (.func 220) [.rptr (queue_Queue_task_Task.Pc v11.1), .rptr [.I v11.2]]), (0, .fn (.yield l17) []), (2, .rptr [.I v11.2]), (7, .L task_Task.Pv v11.1.L), (8, .I (v11.1.L.length : Int)), (9, .I s13), (17, .bool (v17.Kind == v11.2)), (18, .fn (.yield l17) []), (19, task_Task.Pv v17)] [(2011, ⟨[.sl 2019], 0, false, 1, false⟩), (2019, ⟨List.map iF s14, (List.map iF s14).length, true, 1, true⟩)] ⟨J, J, J, J, J, J, J, J, J, J, J, J, J, J, J, J, J, J, J, J, J, J, J, J, (ct hg25), J, J, (ct hg25), J, J, tr⟩ ⟨rowLe_open J J J (fun q => nomatch q) J J J J, rN, tr⟩ J) ?_
    refine y_yield hR20 (congrArg some hg25) J J J J J (fun e26 o27 o28 => ?_)
    refine s1 <| y1 J (o_alloc J Ty.z82 J J J) J <| y_sto (x' := task_Task.Pv v17) (cl' := true) J J (.inl J) Ty.s82 <| yN ?_
    refine ⟨J, ?_⟩
    refine pw_block <| s1 <| yS J J J J Ty.a27 J <| yF J J Ty.f82_1 J <| yS J J J J Ty.a3 J <| y0 J (o_bI (f := iF) (l := [v17.At]) J Ty.e27 Ty.s3 Ty.z3 J J nl J J) <| bnE h fun v18 hv29 h => y_app J (o_apR (f := iF) hv29 J J J J J J (.inl ⟨_, J, J⟩) Ty.e27 Ty.s3 Ty.b3 Ty.z3 J (fun _ => J)) J J J <| y_sto (x' := .sl 12) (cl' := false) J J (.inl J) Ty.s27 <| yN ?_
    refine ⟨J, ?_⟩
    refine y_wk (wk_stP (fun l => if l = 2020 then 12 else l) [(1000003, .ptr 2011 0 0), (1000006, .fn (.func 220) [.rptr (queue_Queue_task_Task.Pc v11.1), .rptr [.I v11.2]]), (0, .fn (.yield l17) []), (2, .rptr [.I v11.2]), (7, .L task_Task.Pv v11.1.L), (8, .I (v11.1.L.length : Int)), (9, .I s13), (17, .bool (v17.Kind == v11.2)), (20, .bool true)] [(2011, ⟨[.sl 2020], 0, false, 1, false⟩), (2020, ⟨List.map iF v18, s14.length, true, 1, true⟩)] ⟨J, J, J, J, J, J, J, J, J, J, J, J, J, J, J, J, J, J, J, J, J, J, J, J, J, J, J, tr⟩ ⟨rowLe_open J J J (fun q => nomatch q) J J J J, rN, tr⟩ J) <| y0 (congrArg some hg25) (o_not J J) <| y0 J (pk_andT J J hg25) <| yN ?_
    refine pw_cond false J (fun q => nomatch q) (fun _ => ?_)
    refine pw_skip <| s1 <| y0 J (o_ari J J J) <| yI J J <| yN ?_
    exact ⟨J, (w64 (s13 + 1), v18), (oj h).symm, (Wk.trans (wk_frz _ [2020]) (wk_stP (fun l => if l = 912511 then 2020 else l) _ _ ⟨J, J, J, J, J, J, J, J, J, J, J, J, J, J, J, J, J, J, J, J, J, tr⟩ ⟨rowLe_open J J J (fun q => nomatch q) J J J J, rN, tr⟩ J))⟩
   ·have h := ifF h hg25
    refine y_skip (congrArg some hg25) <| y_skip (congrArg some hg25) <| y0 J (pk_andF J J hg25) <| yN ?_
    refine pw_cond false J (fun q => nomatch q) (fun _ => ?_)
    refine pw_skip <| s1 <| y0 J (o_ari J J J) <| yI J J <| yN ?_
    exact ⟨J, (w64 (s13 + 1), s14), (oj h).symm, (Wk.trans (wk_frz _ [912511]) (wk_st _ _ ⟨J, J, J, J, J, J, J, J, J, J, J, J, J, J, J, J, J, J, J, J, J, tr⟩ ⟨rowLe_open J J J (fun q => nomatch q) J J J J, rS, tr⟩))⟩
  ·have h := ifF h hc
   refine pw_exit <| thenQ_exit <| thenQ_exit <| blockQ_exit ?_
   refine .inl ⟨J, ?_⟩
   have he := hx23 _ (oj h).symm
   have h := hk22
   rw [← he] at h
   exact ⟨J, s14, h, (Wk.trans (wk_frz _ [912511]) (wk_stP (fun l => if l = 2001 then 2011 else if l = 912501 then 912511 else l) _ _ ⟨J, J, J, tr⟩ ⟨rowLe_open J J J (fun q => nomatch q) J J J J, rN, tr⟩ J))⟩

theorem hold_Outer_ok {a0 : hold_Heap} {r : List Int} (h : hold_Outer a0 = some r) : PCalls Tryz.prog 63 [hold_Heap.Pv a0] (.L iF r) := by
 unfold hold_Outer at h
 refine pc_intro (N := 25) Tryz.func63 J J nl fun w0 imm0 => sR <| y1 J (o_box (d := hold_Heap.Pv a0) J J J J J) J <| yA (d := .lst true (List.map iF [])) J J <| yN <| sR <| yA (d := .lst true (List.map iF [])) J J <| yN ?_
 obtain ⟨κ12, hκ9, h⟩ := jnE h
 refine pw_jn0 (κ := κ12) (r := r) (fun (j13 : List Int) => St.of [(1, .ptr 1 0 0), (3, .sl 910003)] [(910003, ⟨List.map iF j13, (List.map iF j13).length, true, 1, true⟩), (1, ⟨[hold_Heap.Pv a0], 0, false, 8, true⟩)]) (fun j13 h => ?_) ?_
 ·subst hκ9
  refine sR <| yM (d := .sl 910003) J J <| yF J J Ty.f34_4 J <| yL J J J J Ty.a32 Ty.s32 nl J <| bnE h fun v14 hv10 h => yc J (o_callF J Ty.k153 J (task_Held_ok hv10)) <| bnE h fun v15 hv11 h => y_app J (o_apR (f := iF) hv11 J J J J J J (.inl ⟨_, J, J⟩) Ty.e27 Ty.s3 Ty.b3 Ty.z3 J (fun _ => J)) J J J <| yA (d := .sl 24) J J <| yN <| pw_ret ?_
  obtain rfl := oj h
  exact ⟨J, [_], ⟨J, tr⟩, J, io⟩
 ·skip
  refine sR <| yF J J Ty.f34_1 J <| yS J J J J Ty.a27 J <| y0 J (o_lnL (f := iF) J Ty.e27) <| yI J J <| yN <| pw_block ?_
  obtain ⟨e16, hl12, hk13⟩ := bindE h
  refine pw_lp0 (fun (q : Int × (List Int)) => St.of [(1, .ptr 1 0 0), (3, .sl 910003), (7, .L iF a0.Roots), (8, .I (a0.Roots.length : Int)), (9, .I q.1)] [(1, ⟨[hold_Heap.Pv a0], 0, false, 8, true⟩), (910003, ⟨List.map iF q.2, (List.map iF q.2).length, true, 1, true⟩)]) hl12 (Wk.trans (wk_nil (t := 3) (l := 920003) (z := 1) J J) (wk_stP (fun l => if l = 910003 then 920003 else l) _ _ ⟨J, J, J, J, J, J, J, J, J, J, J, J, J, J, J, tr⟩ ⟨rN, rN, tr⟩ J)) (fun q20 x19 h hx14 => ?_)
  obtain ⟨s17, s18⟩ := q20
  refine sR <| y0 J (o_cmp J J J) <| yN <| pw_seq ?_
  refine pw_cond (decide (s17 < (a0.Roots.length : Int))) J (fun hc => ?_) (fun hc => ?_)
  ·have h := ifT h hc
   refine pw_skip ?_
   obtain ⟨κ23, hκ17, h⟩ := jnE h
   refine pw_jn0 (κ := κ23) (r := x19) (fun (j24 : List Int) => St.of [(1, .ptr 1 0 0), (3, .sl 18), (7, .L iF a0.Roots), (8, .I (a0.Roots.length : Int)), (9, .I s17)] [(18, ⟨List.map iF j24, (List.map iF j24).length, true, 1, true⟩), (1, ⟨[hold_Heap.Pv a0], 0, false, 8, true⟩)]) (fun j24 h => ?_) ?_
   ·subst hκ17
    refine s1 <| y0 J (o_ari J J J) <| yI J J <| yN ?_
    exact ⟨J, (w64 (s17 + 1), j24), (oj h).symm, (Wk.trans (wk_frz _ [18]) (wk_stP (fun l => if l = 910003 then 18 else l) _ _ ⟨J, J, J, J, J, J, J, J, J, J, J, J, J, J, J, tr⟩ ⟨rN, rN, tr⟩ J))⟩
   ·skip
    refine pw_block <| sR <| bnE h fun v25 hv18 h => y0 J (o_ixL (f := iF) (cs := [.I v25]) hv18 J J Ty.e27 Ty.s3 J J) <| y0 J (o_loadRS J Ty.a3 J) <| yi J J <| yN <| sR <| yI J J <| y0 J (o_cmp J J J) <| yN ?_
    refine pw_cond (v25 != 0) J (fun hc => ?_) (fun hc => ?_)
    ·have h := ifT h hc
     refine s1 <| yM (d := .sl 910003) J J <| yI J J <| y0 J (o_bI (f := iF) (l := [v25]) J Ty.e27 Ty.s3 Ty.z3 J J nl J J) <| bnE h fun v26 hv19 h => y_app J (o_apR (f := iF) hv19 J J J J J J (.inl ⟨_, J, J⟩) Ty.e27 Ty.s3 Ty.b3 Ty.z3 J (fun _ => J)) J J J <| yA (d := .sl 18) J J <| yN ?_
     exact ⟨J, v26, h, (Wk.trans (wk_frz _ [18]) (wk_st _ _ ⟨J, J, J, J, J, J, J, J, J, J, J, J, J, J, J, tr⟩ ⟨rS, rS, tr⟩))⟩
    ·have h := ifF h hc
     refine pw_skip ?_
     exact ⟨J, s18, h, (Wk.trans (wk_frz _ [910003]) (wk_stP (fun l => if l = 18 then 910003 else l) _ _ ⟨J, J, J, J, J, J, J, J, J, J, J, J, J, J, J, tr⟩ ⟨rN, rN, tr⟩ J))⟩
  ·have h := ifF h hc
   refine pw_exit <| thenQ_exit <| thenQ_exit <| blockQ_exit ?_
   have he := hx14 _ (oj h).symm
   have h := hk13
   rw [← he] at h
   exact ⟨J, s18, h, (Wk.trans (wk_frz _ [910003]) (wk_st _ _ ⟨J, J, J, J, J, J, tr⟩ ⟨rS, rS, tr⟩))⟩

theorem count_Stuck_ok {a0 : Int} {r : Bool} (h : count_Stuck a0 = some r) : PCalls Tryz.prog 214 [.I a0] (.bool r) := by
 unfold count_Stuck at h
 refine pc_intro (N := 5) Tryz.func214 J J nl fun w0 imm0 => sR <| yb J J <| yN <| sR <| yI J J <| bnE h fun v1 hv1 h => y0 J (o_call J Ty.k231 J (count_tally_stuck_ok hv1)) <| yb J J <| yN <| pw_ret ?_
 obtain rfl := oj h
 exact ⟨J, [_], ⟨J, tr⟩, J, io⟩

theorem refs_edges_ok {a0 : store_Store} {r : store_Store} (h : refs_edges a0 = some r) : PCalls Tryz.prog 285 [store_Store.Pv a0] (.fn (.func 287) [.rptr (store_Store.Pc r)]) := by
 unfold refs_edges at h
 refine pc_intro (N := 4) Tryz.func285 J J nl fun w0 imm0 => sR <| y1 J (o_box (d := store_Store.Pv a0) J J J J J) J <| yA (d := .nilfn) J J <| yN <| sR <| y0 J (o_mkFunc J) <| yA (d := .fn (.func 287) [.ptr 1 0 0]) J J <| yN <| pw_ret ?_
 obtain rfl := oj h
 exact ⟨J, [_], ⟨J, tr⟩, J, io⟩

theorem vec_named_ok {a0 : List Int} {r : List Int} (h : vec_named a0 = some r) : PCalls Tryz.prog 190 [.L iF a0] (.fn (.func 239) [.rptr [.L iF r]]) := by
 unfold vec_named at h
 refine pc_intro (N := 4) Tryz.func190 J J nl fun w0 imm0 => sR <| y1 J (o_box (d := .L iF a0) J J J J J) J <| yA (d := .nilfn) J J <| yN <| sR <| y0 J (o_mkFunc J) <| yA (d := .fn (.func 239) [.ptr 1 0 0]) J J <| yN <| pw_ret ?_
 obtain rfl := oj h
 exact ⟨J, [_], ⟨J, tr⟩, J, io⟩

theorem vec_Names_ok {a0 : List Int} {r : List Int} (h : vec_Names a0 = some r) : PCalls Tryz.prog 121 [.L iF a0] (.L iF r) := by
 unfold vec_Names at h
 refine pc_intro (N := 13) Tryz.func121 J J nl fun w0 imm0 => sR <| yA (d := .lst true (List.map iF [])) J J <| yN <| sR <| y1 J (o_alloc J Ty.z27 J J J) J <| yN ?_
 obtain ⟨κ9, hκ15, h⟩ := jnE h
 refine pw_jn0 (κ := κ9) (r := r) (fun (j10 : List Int) => St.of [(3, .ptr 2001 0 0)] [(2001, ⟨[.sl 912501], 0, false, 1, false⟩), (912501, ⟨List.map iF j10, (List.map iF j10).length, true, 1, true⟩)]) (fun j10 h => ?_) ?_
 ·subst hκ15
  refine sR <| yS J J J J Ty.a27 J <| yA (d := .sl 912501) J J <| yN <| pw_ret ?_
  obtain rfl := oj h
  exact ⟨J, [_], ⟨J, tr⟩, J, io⟩
 ·skip
  refine sR <| yM (d := .L iF a0) J J <| bnE h fun v11 hv16 h => yc J (o_callF J Ty.k190 J (vec_named_ok hv16)) <| yN <| pw_block <| pw_wk (wk_stP (fun l => if l = 2011 then 3 else l) [(3, .ptr 2011 0 0), (6, .fn (.func 239) [.rptr [.L iF v11]])] [(2011, ⟨[.lst true (List.map iF [])], 0, false, 1, true⟩)] ⟨J, J, J, J, J, J, tr⟩ ⟨rN, tr⟩ J) ?_
  refine pw_range (fn := Tryz.f239) (N1 := 20) J Tryz.func239 J J nl J Ty.k239 J J (fun l17 e18 o19 hR20 => ?_)
  refine sR <| y0 J (o_loadRS J Ty.a27 J) <| y0 J (o_lnL (f := iF) J Ty.e27) <| yI J J <| yN <| pw_block ?_
  obtain ⟨e12, hl21, hk22⟩ := bindE h
  refine pw_lp0 (fun (q : Int × (List Int)) => St.of [(1000003, .ptr 2011 0 0), (1000006, .fn (.func 239) [.rptr [.L iF v11]]), (0, .fn (.yield l17) []), (5, .L iF v11), (6, .I (v11.length : Int)), (7, .I q.1)] [(2011, ⟨[.sl 912511], 0, false, 1, false⟩), (912511, ⟨List.map iF q.2, (List.map iF q.2).length, true, 1, true⟩)]) hl21 (Wk.trans (wk_nilC (l0 := 2011) (j := 0) (l := 922511) (z := 1) J J J J J) (wk_stP (fun l => if l = 912511 then 922511 else l) _ _ ⟨J, J, J, J, J, J, J, J, J, J, J, J, J, J, J, J, J, J, tr⟩ ⟨rowLe_open J J J (fun q => nomatch q) J J J J, rN, tr⟩ J)) (fun q16 x15 h hx23 => ?_)
  obtain ⟨s13, s14⟩ := q16
  refine sR <| y0 J (o_cmp J J J) <| yN <| pw_seq ?_
  refine pw_cond (decide (s13 < (v11.length : Int))) J (fun hc => ?_) (fun hc => ?_)
  ·have h := ifT h hc
   refine pw_skip <| pw_seq <| pw_block <| sR <| bnE h fun v17 hv24 h => y0 J (o_ixL (f := iF) (cs := [.I v17]) hv24 J J Ty.e27 Ty.s3 J J) <| y0 J (o_loadRS J Ty.a3 J) <| yi J J <| yN <| sR <| yI J J <| y0 J (o_cmp J J J) <| yB J J <| y_if J (fun hg => om (d := .fn (.yield l17) []) J) <| y_if J (fun hg => mI J) ?_
   rcases Bool.eq_false_or_eq_true ((v17 != 0) == true) with hg25 | hg25
   ·have h := ifT h hg25
    refine y_wk (wk_stP (fun l => if l = 2019 then 912511 else l) [(1000003, .ptr 2011 0 0), (1000006, .fn (.func 239) [.rptr [.L iF v11]]), (0, .fn (.yield l17) []), (5, .L iF v11), (6, .I (v11.length : Int)), (7, .I s13), (13, .bool (v17 != 0)), (14, .fn (.yield l17) []), (15, .I v17)] [(2011, ⟨[.sl 2019], 0, false, 1, false⟩), (2019, ⟨List.map iF s14, (List.map iF s14).length, true, 1, true⟩)] ⟨J, J, J, J, J, J, J, J, J, J, J, J, J, J, J, J, J, J, J, J, J, (ct hg25), J, J, (ct hg25), J, J, tr⟩ ⟨rowLe_open J J J (fun q => nomatch q) J J J J, rN, tr⟩ J) ?_
    refine y_yield hR20 (congrArg some hg25) J J J J J (fun e26 o27 o28 => ?_)
    refine s1 <| yi J J <| yN ?_
    refine ⟨J, ?_⟩
    refine pw_block <| s1 <| yS J J J J Ty.a27 J <| yI J J <| y0 J (o_bI (f := iF) (l := [v17]) J Ty.e27 Ty.s3 Ty.z3 J J nl J J) <| bnE h fun v18 hv29 h => y_app J (o_apR (f := iF) hv29 J J J J J J (.inl ⟨_, J, J⟩) Ty.e27 Ty.s3 Ty.b3 Ty.z3 J (fun _ => J)) J J J <| y_sto (x' := .sl 11) (cl' := false) J J (.inl J) Ty.s27 <| yN ?_
    refine ⟨J, ?_⟩
    refine y_wk (wk_stP (fun l => if l = 2020 then 11 else l) [(1000003, .ptr 2011 0 0), (1000006, .fn (.func 239) [.rptr [.L iF v11]]), (0, .fn (.yield l17) []), (5, .L iF v11), (6, .I (v11.length : Int)), (7, .I s13), (13, .bool (v17 != 0)), (16, .bool true)] [(2011, ⟨[.sl 2020], 0, false, 1, false⟩), (2020, ⟨List.map iF v18, s14.length, true, 1, true⟩)] ⟨J, J, J, J, J, J, J, J, J, J, J, J, J, J, J, J, J, J, J, J, J, J, J, J, tr⟩ ⟨rowLe_open J J J (fun q => nomatch q) J J J J, rN, tr⟩ J) <| y0 (congrArg some hg25) (o_not J J) <| y0 J (pk_andT J J hg25) <| yN ?_
    refine pw_cond false J (fun q => nomatch q) (fun _ => ?_)
    refine pw_skip <| s1 <| y0 J (o_ari J J J) <| yI J J <| yN ?_
    exact ⟨J, (w64 (s13 + 1), v18), (oj h).symm, (Wk.trans (wk_frz _ [2020]) (wk_stP (fun l => if l = 912511 then 2020 else l) _ _ ⟨J, J, J, J, J, J, J, J, J, J, J, J, J, J, J, J, J, J, tr⟩ ⟨rowLe_open J J J (fun q => nomatch q) J J J J, rN, tr⟩ J))⟩
   ·have h := ifF h hg25
    refine y_skip (congrArg some hg25) <| y_skip (congrArg some hg25) <| y0 J (pk_andF J J hg25) <| yN ?_
    refine pw_cond false J (fun q => nomatch q) (fun _ => ?_)
    refine pw_skip <| s1 <| y0 J (o_ari J J J) <| yI J J <| yN ?_
    exact ⟨J, (w64 (s13 + 1), s14), (oj h).symm, (Wk.trans (wk_frz _ [912511]) (wk_st _ _ ⟨J, J, J, J, J, J, J, J, J, J, J, J, J, J, J, J, J, J, tr⟩ ⟨rowLe_open J J J (fun q => nomatch q) J J J J, rS, tr⟩))⟩
  ·have h := ifF h hc
   refine pw_exit <| thenQ_exit <| thenQ_exit <| blockQ_exit ?_
   refine .inl ⟨J, ?_⟩
   have he := hx23 _ (oj h).symm
   have h := hk22
   rw [← he] at h
   exact ⟨J, s14, h, (Wk.trans (wk_frz _ [912511]) (wk_stP (fun l => if l = 2001 then 2011 else if l = 912501 then 912511 else l) _ _ ⟨J, J, J, tr⟩ ⟨rowLe_open J J J (fun q => nomatch q) J J J J, rN, tr⟩ J))⟩

theorem refs_Out_ok {a0 : store_Store} {a1 : Int} {r : List Int} (h : refs_Out a0 a1 = some r) : PCalls Tryz.prog 288 [store_Store.Pv a0, .I a1] (.L iF r) := by
 unfold refs_Out at h
 refine pc_intro (N := 16) Tryz.func288 J J nl fun w0 imm0 => sR <| y1 J (o_box (d := store_Store.Pv a0) J J J J J) J <| yA (d := .lst true (List.map iF [])) J J <| yN <| sR <| yL J J J J Ty.a26 Ty.s26 nl J <| yI J J <| bnE h fun v1 hv1 h => yc J (o_callF J Ty.k61 J (store_Get_ok hv1)) <| yM (d := .tup [store_Obj.Pv v1.1, .I v1.2]) J J <| yX J J J <| yX J J J <| y1 J (o_alloc J Ty.z91 J J J) J <| y_sto (x' := store_Obj.Pv v1.1) (cl' := true) J J (.inr J) Ty.s91 <| yi J J <| yN <| sR <| yF J J Ty.f91_5 J <| yS J J J J Ty.a27 J <| bnE h fun v2 hv2 h => yc J (o_callF J Ty.k121 J (vec_Names_ok hv2)) <| yA (d := .L iF v2) J J <| yN <| pw_ret ?_
 obtain rfl := oj h
 exact ⟨J, [_], ⟨J, tr⟩, J, io⟩

theorem refs_In_ok {a0 : store_Store} {a1 : Int} {r : Int} (h : refs_In a0 a1 = some r) : PCalls Tryz.prog 282 [store_Store.Pv a0, .I a1] (.I r) := by
 unfold refs_In at h
 refine pc_intro (N := 18) Tryz.func282 J J nl fun w0 imm0 => sR <| y1 J (o_box (d := store_Store.Pv a0) J J J J J) J <| y1 J (o_box (d := .I a1) J J J J J) J <| yi J J <| yN <| sR <| y1 J (o_alloc J Ty.z3 J J J) J <| y_sto (x' := .I 0) (cl' := true) J J (.inl J) Ty.s3 <| yN ?_
 obtain ⟨κ30, hκ31, h⟩ := jnE h
 refine pw_jn0 (κ := κ30) (r := r) (fun (j31 : Int) => St.of [(5, .ptr 2001 0 0)] [(2001, ⟨[.I j31], 0, false, 1, true⟩)]) (fun j31 h => ?_) ?_
 ·subst hκ31
  refine sR <| yS J J J J Ty.a3 J <| yi J J <| yN <| pw_ret ?_
  obtain rfl := oj h
  exact ⟨J, [_], ⟨J, tr⟩, J, io⟩
 ·skip
  refine sR <| yL J J J J Ty.a26 Ty.s26 nl J <| bnE h fun v32 hv32 h => yc J (o_callF J Ty.k285 J (refs_edges_ok hv32)) <| yN <| pw_block <| pw_wk (wk_stP (fun l => if l = 2003 then 5 else if l = 2004 then 3 else l) [(3, .ptr 2004 0 0), (5, .ptr 2003 0 0), (9, .fn (.func 287) [.rptr (store_Store.Pc v32)])] [(2003, ⟨[.I 0], 0, false, 1, true⟩), (2004, ⟨[.I a1], 0, false, 1, true⟩)] ⟨J, J, J, J, J, J, J, J, J, tr⟩ ⟨rN, rN, tr⟩ J) ?_
  refine pw_range (fn := Tryz.f287) (N1 := 29) J Tryz.func287 J J nl J Ty.k287 J J (fun l33 e34 o35 hR36 => ?_)
  refine pw_scope <| pw_seq <| pw_label <| sR <| y0 J (o_loadRA J Ty.a26 Ty.s26 nl J) <| bnE h fun v33 hv37 h => yc J (o_callF J Ty.k60 J (store_Live_ok hv37)) <| y0 J (o_lnL (f := iF) J Ty.e27) <| yI J J <| yN <| pw_block ?_
  obtain ⟨e34, hl38, hk39⟩ := bindE h
  refine pw_lp0 (fun (q : Int × Int) => St.of [(1000003, .ptr 2004 0 0), (1000005, .ptr 2003 0 0), (1000009, .fn (.func 287) [.rptr (store_Store.Pc v32)]), (0, .fn (.yield l33) []), (1, .rptr (store_Store.Pc v32)), (8, .L iF v33), (9, .I (v33.length : Int)), (10, .I q.1)] [(2003, ⟨[.I q.2], 0, false, 1, true⟩), (2004, ⟨[.I a1], 0, false, 1, true⟩)]) hl38 (wk_st _ _ ⟨J, J, J, J, J, J, J, J, J, J, J, J, J, J, J, J, J, J, J, J, J, J, J, J, tr⟩ ⟨rS, rS, tr⟩) (fun q38 x37 h hx40 => ?_)
  obtain ⟨s35, s36⟩ := q38
  refine sR <| y0 J (o_cmp J J J) <| yN <| pw_seq ?_
  refine pw_cond (decide (s35 < (v33.length : Int))) J (fun hc => ?_) (fun hc => ?_)
  ·have h := ifT h hc
   refine pw_skip ?_
   obtain ⟨κ49, hκ51, h⟩ := jnE h
   refine pw_jn0 (κ := κ49) (r := x37) (fun (j50 : Int) => St.of [(1000003, .ptr 2004 0 0), (1000005, .ptr 2003 0 0), (1000009, .fn (.func 287) [.rptr (store_Store.Pc v32)]), (0, .fn (.yield l33) []), (1, .rptr (store_Store.Pc v32)), (8, .L iF v33), (9, .I (v33.length : Int)), (10, .I s35)] [(2003, ⟨[.I j50], 0, false, 1, true⟩), (2004, ⟨[.I a1], 0, false, 1, true⟩)]) (fun j50 h => ?_) ?_
   ·subst hκ51
    refine s1 <| y0 J (o_ari J J J) <| yI J J <| yN ?_
    exact ⟨J, (w64 (s35 + 1), j50), (oj h).symm, (wk_st _ _ ⟨J, J, J, J, J, J, J, J, J, J, J, J, J, J, J, J, J, J, J, J, J, J, J, J, tr⟩ ⟨rS, rS, tr⟩)⟩
   ·skip
    refine pw_block <| sR <| bnE h fun v51 hv52 h => y0 J (o_ixL (f := iF) (cs := [.I v51]) hv52 J J Ty.e27 Ty.s3 J J) <| y0 J (o_loadRS J Ty.a3 J) <| yi J J <| yN <| sR <| y0 J (o_loadRA J Ty.a26 Ty.s26 nl J) <| yI J J <| bnE h fun v52 hv53 h => yc J (o_callF J Ty.k288 J (refs_Out_ok hv53)) <| y0 J (o_lnL (f := iF) J Ty.e27) <| yI J J <| yN <| pw_block ?_
    obtain ⟨e53, hl54, hk55⟩ := bindE h
    refine pw_lp0 (fun (q : Int × Int) => St.of [(1000003, .ptr 2004 0 0), (1000005, .ptr 2003 0 0), (1000009, .fn (.func 287) [.rptr (store_Store.Pc v32)]), (0, .fn (.yield l33) []), (1, .rptr (store_Store.Pc v32)), (4, .I v51), (8, .L iF v33), (9, .I (v33.length : Int)), (10, .I s35), (16, .L iF v52), (17, .I (v52.length : Int)), (18, .I q.1)] [(2003, ⟨[.I q.2], 0, false, 1, true⟩), (2004, ⟨[.I a1], 0, false, 1, true⟩)]) hl54 (wk_st _ _ ⟨J, J, J, J, J, J, J, J, J, J, J, J, J, J, J, J, J, J, J, J, J, J, J, J, J, J, J, J, J, J, J, J, J, J, J, J, tr⟩ ⟨rS, rS, tr⟩) (fun q57 x56 h hx56 => ?_)
    obtain ⟨s54, s55⟩ := q57
    refine sR <| y0 J (o_cmp J J J) <| yN <| pw_seq ?_
    refine pw_cond (decide (s54 < (v52.length : Int))) J (fun hc => ?_) (fun hc => ?_)
    ·have h := ifT h hc
     refine pw_skip <| pw_seq <| pw_block <| sR <| bnE h fun v58 hv57 h => y0 J (o_ixL (f := iF) (cs := [.I v58]) hv57 J J Ty.e27 Ty.s3 J J) <| y0 J (o_loadRS J Ty.a3 J) <| yi J J <| yN <| sR <| yM (d := .fn (.yield l33) []) J J <| yI J J <| yI J J <| y_wk (wk_st [(1000003, .ptr 2004 0 0), (1000005, .ptr 2003 0 0), (1000009, .fn (.func 287) [.rptr (store_Store.Pc v32)]), (0, .fn (.yield l33) []), (1, .rptr (store_Store.Pc v32)), (4, .I v51), (8, .L iF v33), (9, .I (v33.length : Int)), (10, .I s35), (16, .L iF v52), (17, .I (v52.length : Int)), (18, .I s54), (22, .fn (.yield l33) []), (23, .I v51), (24, .I v58)] [(2003, ⟨[.I s55], 0, false, 1, true⟩), (2004, ⟨[.I a1], 0, false, 1, true⟩)] ⟨J, J, J, J, J, J, J, J, J, J, J, J, J, J, J, J, J, J, J, J, J, J, J, J, J, J, J, J, J, J, J, J, J, J, J, J, J, J, J, J, J, J, J, J, J, tr⟩ ⟨rS, rS, tr⟩) ?_
     refine y_yield hR36 J J J J J J (fun e58 o59 o60 => ?_)
     refine s1 <| yi J J <| yN ?_
     refine ⟨J, ?_⟩
     obtain ⟨κ59, hκ61, h⟩ := jnE h
     refine pw_jnE (κ := κ59) (r := x56) (fun (j60 : Int) => St.of [(2000003, .ptr 2004 0 0), (2000005, .ptr 2003 0 0), (2000009, .fn (.func 287) [.rptr (store_Store.Pc v32)]), (1000000, .fn (.yield l33) []), (1000001, .rptr (store_Store.Pc v32)), (1000004, .I v51), (1000008, .L iF v33), (1000009, .I (v33.length : Int)), (1000010, .I s35), (1000016, .L iF v52), (1000017, .I (v52.length : Int)), (1000018, .I s54), (1000022, .fn (.yield l33) []), (1000023, .I v51), (1000024, .I v58)] [(2003, ⟨[.I j60], 0, false, 1, true⟩), (2004, ⟨[.I a1], 0, false, 1, true⟩)]) (fun j60 h => ?_) ?_
     ·subst hκ61
      refine ⟨J, ?_⟩
      refine y_wk (wk_st [(1000003, .ptr 2004 0 0), (1000005, .ptr 2003 0 0), (1000009, .fn (.func 287) [.rptr (store_Store.Pc v32)]), (0, .fn (.yield l33) []), (1, .rptr (store_Store.Pc v32)), (4, .I v51), (8, .L iF v33), (9, .I (v33.length : Int)), (10, .I s35), (16, .L iF v52), (17, .I (v52.length : Int)), (18, .I s54), (25, .bool true)] [(2003, ⟨[.I j60], 0, false, 1, true⟩), (2004, ⟨[.I a1], 0, false, 1, true⟩)] ⟨J, J, J, J, J, J, J, J, J, J, J, J, J, J, J, J, J, J, J, J, J, J, J, J, J, J, J, J, J, J, J, J, J, J, J, J, J, J, J, tr⟩ ⟨rS, rS, tr⟩) <| y0 J (o_not J J) <| yN ?_
      refine pw_cond false J (fun q => nomatch q) (fun _ => ?_)
      refine pw_skip <| s1 <| y0 J (o_ari J J J) <| yI J J <| yN ?_
      exact ⟨J, (w64 (s54 + 1), j60), (oj h).symm, (wk_st _ _ ⟨J, J, J, J, J, J, J, J, J, J, J, J, J, J, J, J, J, J, J, J, J, J, J, J, J, J, J, J, J, J, J, J, J, J, J, J, tr⟩ ⟨rS, rS, tr⟩)⟩
     ·skip
      refine pw_block <| sR <| yI J J <| yS J J J J Ty.a3 J <| y0 J (o_cmp J J J) <| yN ?_
      refine pw_cond (v58 == a1) J (fun hc => ?_) (fun hc => ?_)
      ·have h := ifT h hc
       refine s1 <| yS J J J J Ty.a3 J <| y0 J (o_ari J J J) <| y_sto (x' := .I (w64 (s55 + 1))) (cl' := true) J J (.inl J) Ty.s3 <| yN ?_
       exact ⟨J, w64 (s55 + 1), h, (wk_st _ _ ⟨J, J, J, J, J, J, J, J, J, J, J, J, J, J, J, J, J, J, J, J, J, J, J, J, J, J, J, J, J, J, J, J, J, J, J, J, J, J, J, J, J, J, J, J, J, tr⟩ ⟨rS, rS, tr⟩)⟩
      ·have h := ifF h hc
       refine pw_skip ?_
       exact ⟨J, s55, h, (wk_st _ _ ⟨J, J, J, J, J, J, J, J, J, J, J, J, J, J, J, J, J, J, J, J, J, J, J, J, J, J, J, J, J, J, J, J, J, J, J, J, J, J, J, J, J, J, J, J, J, tr⟩ ⟨rS, rS, tr⟩)⟩
    ·have h := ifF h hc
     refine pw_exit <| thenQ_exit <| thenQ_exit <| blockQ_exit ?_
     have he := hx56 _ (oj h).symm
     have h := hk55
     rw [← he] at h
     exact ⟨J, s55, h, (wk_st _ _ ⟨J, J, J, J, J, J, J, J, J, J, J, J, J, J, J, J, J, J, J, J, J, J, J, J, tr⟩ ⟨rS, rS, tr⟩)⟩
  ·have h := ifF h hc
   refine pw_exit <| thenQ_exit <| thenQ_exit <| blockQ_exit <| scopeQ_normal ?_
   refine .inl ⟨J, ?_⟩
   have he := hx40 _ (oj h).symm
   have h := hk39
   rw [← he] at h
   exact ⟨J, s36, h, (wk_stP (fun l => if l = 2001 then 2003 else l) _ _ ⟨J, J, J, tr⟩ ⟨rN, tr⟩ J)⟩

theorem ephem_Owned_1_ok {a0 : ephem_Pair} {a1 : Int} {r : Bool} (h : ephem_Owned_1 a0 a1 = some r) : PCalls Tryz.prog 286 [ephem_Pair.Pv a0, .rptr [.I a1]] (.bool r) := by
 unfold ephem_Owned_1 at h
 refine pc_intro (N := 12) Tryz.func286 J J nl fun w0 imm0 => sR <| y1 J (o_box (d := ephem_Pair.Pv a0) J J J J J) J <| yb J J <| yN <| sR <| y0 J (o_loadRS J Ty.a3 J) <| y0 J (o_cmp J J J) <| yB J J <| y_if J (fun hg => oF J Ty.f238_1 J) <| y_if J (fun hg => oS (ct hg) J J Ty.a3 J) <| y_if J (fun hg => o_loadRS J Ty.a3 J) <| y_if J (fun hg => o_cmp (ct hg) (ct hg) J) <| y0 J (pk_and J J J (fun q => eqT q)) <| yb J J <| yN <| pw_ret ?_
 obtain rfl := oj h
 exact ⟨J, [_], ⟨J, tr⟩, J, io⟩

theorem ephem_gathered_ephem_Pair__ephem_pairs_1__ephem_Owned_1_ok {a0 : List hash_Place} {a1 : Int} {r : List ephem_Pair} (h : ephem_gathered_ephem_Pair__ephem_pairs_1__ephem_Owned_1 a0 a1 = some r) : PCalls Tryz.prog 255 [.fn (.func 280) [.rptr [.L hash_Place.Pv a0]], .fn (.func 286) [.rptr [.I a1]]] (.L ephem_Pair.Pv r) := by
 unfold ephem_gathered_ephem_Pair__ephem_pairs_1__ephem_Owned_1 at h
 refine pc_intro (N := 17) Tryz.func255 J J nl fun w0 imm0 => sR <| y1 J (o_box (d := .fn (.func 286) [.rptr [.I a1]]) J J J J J) J <| yA (d := .lst true (List.map ephem_Pair.Pv [])) J J <| yN <| sR <| y1 J (o_alloc J Ty.z239 J J J) J <| yN ?_
 obtain ⟨κ15, hκ19, h⟩ := jnE h
 refine pw_jn0 (κ := κ15) (r := r) (fun (j16 : List ephem_Pair) => St.of [(5, .ptr 2001 0 0)] [(2001, ⟨[.sl 912501], 0, false, 1, false⟩), (912501, ⟨List.map ephem_Pair.Pv j16, (List.map ephem_Pair.Pv j16).length, true, 2, true⟩)]) (fun j16 h => ?_) ?_
 ·subst hκ19
  refine sR <| yS J J J J Ty.a239 J <| yA (d := .sl 912501) J J <| yN <| pw_ret ?_
  obtain rfl := oj h
  exact ⟨J, [_], ⟨J, tr⟩, J, io⟩
 ·skip
  refine sR <| yM (d := .fn (.func 280) [.rptr [.L hash_Place.Pv a0]]) J J <| yN <| pw_block <| pw_wk (wk_stP (fun l => if l = 2012 then 5 else if l = 2013 then 3 else l) [(3, .ptr 2013 0 0), (5, .ptr 2012 0 0), (7, .fn (.func 280) [.rptr [.L hash_Place.Pv a0]])] [(2012, ⟨[.lst true (List.map ephem_Pair.Pv [])], 0, false, 1, true⟩), (2013, ⟨[.fn (.func 286) [.rptr [.I a1]]], 0, false, 1, true⟩)] ⟨J, J, J, J, J, J, J, J, J, tr⟩ ⟨rN, rN, tr⟩ J) ?_
  refine pw_range (fn := Tryz.f280) (N1 := 27) J Tryz.func280 J J nl J Ty.k280 J J (fun l20 e21 o22 hR23 => ?_)
  refine sR <| y0 J (o_loadRS J Ty.a29 J) <| bnE h fun v17 hv24 h => yc J (o_callF J Ty.k281 J (hash_Keys_ok hv24)) <| y0 J (o_lnL (f := iF) J Ty.e27) <| yI J J <| yN <| pw_block ?_
  obtain ⟨e18, hl25, hk26⟩ := bindE h
  refine pw_lp0 (fun (q : Int × (List ephem_Pair)) => St.of [(1000003, .ptr 2013 0 0), (1000005, .ptr 2012 0 0), (1000007, .fn (.func 280) [.rptr [.L hash_Place.Pv a0]]), (0, .fn (.yield l20) []), (1, .rptr [.L hash_Place.Pv a0]), (8, .L iF v17), (9, .I (v17.length : Int)), (10, .I q.1)] [(2012, ⟨[.sl 912512], 0, false, 1, false⟩), (2013, ⟨[.fn (.func 286) [.rptr [.I a1]]], 0, false, 1, true⟩), (912512, ⟨List.map ephem_Pair.Pv q.2, (List.map ephem_Pair.Pv q.2).length, true, 2, true⟩)]) hl25 (Wk.trans (wk_nilC (l0 := 2012) (j := 0) (l := 922512) (z := 2) J J J J J) (wk_stP (fun l => if l = 912512 then 922512 else l) _ _ ⟨J, J, J, J, J, J, J, J, J, J, J, J, J, J, J, J, J, J, J, J, J, J, J, J, tr⟩ ⟨rowLe_open J J J (fun q => nomatch q) J J J J, rN, rN, tr⟩ J)) (fun q22 x21 h hx27 => ?_)
  obtain ⟨s19, s20⟩ := q22
  refine sR <| y0 J (o_cmp J J J) <| yN <| pw_seq ?_
  refine pw_cond (decide (s19 < (v17.length : Int))) J (fun hc => ?_) (fun hc => ?_)
  ·have h := ifT h hc
   refine pw_skip <| pw_seq <| pw_block <| sR <| bnE h fun v23 hv28 h => y0 J (o_ixL (f := iF) (cs := [.I v23]) hv28 J J Ty.e27 Ty.s3 J J) <| y0 J (o_loadRS J Ty.a3 J) <| yi J J <| yN <| sR <| y0 J (o_loadRS J Ty.a29 J) <| yI J J <| bnE h fun v24 hv29 h => y0 J (o_call J Ty.k169 J (hash_Get_ok hv29)) <| yM (d := .tup [.I v24.1, .I v24.2]) J J <| yX J J J <| yX J J J <| yi J J <| yi J J <| yN <| sR <| yM (d := .fn (.yield l20) []) J J <| yI J J <| yI J J <| y0 J (o_build (cs := [.I v23, .I v24.1]) J Ty.p238 Ty.z238 J J J) <| y_wk (wk_stP (fun l => if l = 2021 then 912512 else l) [(1000003, .ptr 2013 0 0), (1000005, .ptr 2012 0 0), (1000007, .fn (.func 280) [.rptr [.L hash_Place.Pv a0]]), (0, .fn (.yield l20) []), (1, .rptr [.L hash_Place.Pv a0]), (8, .L iF v17), (9, .I (v17.length : Int)), (10, .I s19), (20, .fn (.yield l20) []), (23, .agg [.I v23, .I v24.1])] [(2012, ⟨[.sl 2021], 0, false, 1, false⟩), (2021, ⟨List.map ephem_Pair.Pv s20, (List.map ephem_Pair.Pv s20).length, true, 2, true⟩), (2013, ⟨[.fn (.func 286) [.rptr [.I a1]]], 0, false, 1, true⟩)] ⟨J, J, J, J, J, J, J, J, J, J, J, J, J, J, J, J, J, J, J, J, J, J, J, J, J, J, J, J, J, J, tr⟩ ⟨rowLe_open J J J (fun q => nomatch q) J J J J, rN, rN, tr⟩ J) ?_
   refine y_yield hR23 J J J J J J (fun e30 o31 o32 => ?_)
   refine s1 <| y1 J (o_alloc J Ty.z238 J J J) J <| y_sto (x' := .agg [.I v23, .I v24.1]) (cl' := true) J J (.inl J) Ty.s238 <| yN ?_
   refine ⟨J, ?_⟩
   obtain ⟨κ27, hκ35, h⟩ := jnE h
   refine pw_jnE (κ := κ27) (r := x21) (fun (j28 : List ephem_Pair) => St.of [(2000003, .ptr 2013 0 0), (2000005, .ptr 2012 0 0), (2000007, .fn (.func 280) [.rptr [.L hash_Place.Pv a0]]), (1000000, .fn (.yield l20) []), (1000001, .rptr [.L hash_Place.Pv a0]), (1000008, .L iF v17), (1000009, .I (v17.length : Int)), (1000010, .I s19), (1000020, .fn (.yield l20) []), (1000023, .agg [.I v23, .I v24.1])] [(2012, ⟨[.sl 15], 0, false, 1, false⟩), (15, ⟨List.map ephem_Pair.Pv j28, (List.map ephem_Pair.Pv j28).length, true, 2, true⟩), (2013, ⟨[.fn (.func 286) [.rptr [.I a1]]], 0, false, 1, true⟩)]) (fun j28 h => ?_) ?_
   ·subst hκ35
    refine ⟨J, ?_⟩
    refine y_wk (wk_stP (fun l => if l = 2022 then 15 else l) [(1000003, .ptr 2013 0 0), (1000005, .ptr 2012 0 0), (1000007, .fn (.func 280) [.rptr [.L hash_Place.Pv a0]]), (0, .fn (.yield l20) []), (1, .rptr [.L hash_Place.Pv a0]), (8, .L iF v17), (9, .I (v17.length : Int)), (10, .I s19), (24, .bool true)] [(2012, ⟨[.sl 2022], 0, false, 1, false⟩), (2022, ⟨List.map ephem_Pair.Pv j28, (List.map ephem_Pair.Pv j28).length, true, 2, true⟩), (2013, ⟨[.fn (.func 286) [.rptr [.I a1]]], 0, false, 1, true⟩)] ⟨J, J, J, J, J, J, J, J, J, J, J, J, J, J, J, J, J, J, J, J, J, J, J, J, J, J, J, tr⟩ ⟨rowLe_open J J J (fun q => nomatch q) J J J J, rN, rN, tr⟩ J) <| y0 J (o_not J J) <| yN ?_
    refine pw_cond false J (fun q => nomatch q) (fun _ => ?_)
    refine pw_skip <| s1 <| y0 J (o_ari J J J) <| yI J J <| yN ?_
    exact ⟨J, (w64 (s19 + 1), j28), (oj h).symm, (Wk.trans (wk_frz _ [2022]) (wk_stP (fun l => if l = 912512 then 2022 else l) _ _ ⟨J, J, J, J, J, J, J, J, J, J, J, J, J, J, J, J, J, J, J, J, J, J, J, J, tr⟩ ⟨rowLe_open J J J (fun q => nomatch q) J J J J, rN, rN, tr⟩ J))⟩
   ·skip
    refine pw_block <| sR <| yS J J J J Ty.a241 J <| yL J J J J Ty.a238 Ty.s238 nl J <| bnE h fun v29 hv36 h => y0 J (o_call J Ty.k286 J (ephem_Owned_1_ok hv36)) <| yN ?_
    refine pw_cond v29 J (fun hc => ?_) (fun hc => ?_)
    ·have h := ifT h hc
     refine s1 <| yS J J J J Ty.a239 J <| yL J J J J Ty.a238 Ty.s238 nl J <| y0 J (o_bI (f := ephem_Pair.Pv) (l := [(⟨v23, v24.1⟩ : ephem_Pair)]) J Ty.e239 Ty.s238 Ty.z238 J J nl J J) <| bnE h fun v30 hv37 h => y_app J (o_apR (f := ephem_Pair.Pv) hv37 J J J J J J (.inl ⟨_, J, J⟩) Ty.e239 Ty.s238 Ty.b238 Ty.z238 J (fun _ => J)) J J J <| y_sto (x' := .sl 15) (cl' := false) J J (.inl J) Ty.s239 <| yN ?_
     exact ⟨J, v30, h, (Wk.trans (wk_frz _ [15]) (wk_st _ _ ⟨J, J, J, J, J, J, J, J, J, J, J, J, J, J, J, J, J, J, J, J, J, J, J, J, J, J, J, J, J, J, tr⟩ ⟨rowLe_open J J J (fun q => nomatch q) J J J J, rS, rS, tr⟩))⟩
    ·have h := ifF h hc
     refine pw_skip ?_
     exact ⟨J, s20, h, (Wk.trans (wk_frz _ [2021]) (wk_stP (fun l => if l = 15 then 2021 else l) _ _ ⟨J, J, J, J, J, J, J, J, J, J, J, J, J, J, J, J, J, J, J, J, J, J, J, J, J, J, J, J, J, J, tr⟩ ⟨rowLe_open J J J (fun q => nomatch q) J J J J, rN, rN, tr⟩ J))⟩
  ·have h := ifF h hc
   refine pw_exit <| thenQ_exit <| thenQ_exit <| blockQ_exit ?_
   refine .inl ⟨J, ?_⟩
   have he := hx27 _ (oj h).symm
   have h := hk26
   rw [← he] at h
   exact ⟨J, s20, h, (Wk.trans (wk_frz _ [912512]) (wk_stP (fun l => if l = 2001 then 2012 else if l = 912501 then 912512 else l) _ _ ⟨J, J, J, tr⟩ ⟨rowLe_open J J J (fun q => nomatch q) J J J J, rN, tr⟩ J))⟩

theorem ephem_Owned_ok {a0 : List hash_Place} {a1 : Int} {r : Int} (h : ephem_Owned a0 a1 = some r) : PCalls Tryz.prog 283 [.L hash_Place.Pv a0, .I a1] (.I r) := by
 unfold ephem_Owned at h
 refine pc_intro (N := 10) Tryz.func283 J J nl fun w0 imm0 => sR <| y1 J (o_box (d := .I a1) J J J J J) J <| yi J J <| yN <| sR <| yM (d := .L hash_Place.Pv a0) J J <| bnE h fun v1 hv1 h => yc J (o_callF J Ty.k256 J (ephem_pairs_ok hv1)) <| y0 J (o_mkFunc J) <| bnE h fun v2 hv2 h => ycL J (o_callF J Ty.k255 J (ephem_gathered_ephem_Pair__ephem_pairs_1__ephem_Owned_1_ok hv2)) J <| y0 J (o_lnL (f := ephem_Pair.Pv) J Ty.e239) <| yi J J <| yN <| pw_ret ?_
 obtain rfl := oj h
 exact ⟨J, [_], ⟨J, tr⟩, J, io⟩

theorem trial_Inner_ok {a0 : store_Store} {a1 : List hash_Place} {a2 : Int} {r : Int} (h : trial_Inner a0 a1 a2 = some r) : PCalls Tryz.prog 259 [store_Store.Pv a0, .L hash_Place.Pv a1, .I a2] (.I r) := by
 unfold trial_Inner at h
 refine pc_intro (N := 14) Tryz.func259 J J nl fun w0 imm0 => sR <| y1 J (o_box (d := store_Store.Pv a0) J J J J J) J <| yi J J <| yN <| sR <| yL J J J J Ty.a26 Ty.s26 nl J <| yI J J <| bnE h fun v1 hv1 h => y0 J (o_call J Ty.k282 J (refs_In_ok hv1)) <| yM (d := .L hash_Place.Pv a1) J J <| yI J J <| bnE h fun v2 hv2 h => y0 J (o_call J Ty.k283 J (ephem_Owned_ok hv2)) <| y0 J (o_ari J J J) <| yi J J <| yN <| pw_ret ?_
 obtain rfl := oj h
 exact ⟨J, [_], ⟨J, tr⟩, J, io⟩

theorem trial_Rest_ok {a0 : store_Store} {a1 : List hash_Place} {a2 : Int} {r : Int} (h : trial_Rest a0 a1 a2 = some r) : PCalls Tryz.prog 215 [store_Store.Pv a0, .L hash_Place.Pv a1, .I a2] (.I r) := by
 unfold trial_Rest at h
 refine pc_intro (N := 24) Tryz.func215 J J nl fun w0 imm0 => sR <| y1 J (o_box (d := store_Store.Pv a0) J J J J J) J <| yi J J <| yN <| sR <| yL J J J J Ty.a26 Ty.s26 nl J <| yI J J <| bnE h fun v1 hv1 h => yc J (o_callF J Ty.k61 J (store_Get_ok hv1)) <| yM (d := .tup [store_Obj.Pv v1.1, .I v1.2]) J J <| yX J J J <| yX J J J <| y1 J (o_alloc J Ty.z91 J J J) J <| y_sto (x' := store_Obj.Pv v1.1) (cl' := true) J J (.inr J) Ty.s91 <| yi J J <| yN <| pw_seq <| sR <| yI J J <| y0 J (o_cmp J J J) <| yN ?_
 refine pw_cond (v1.2 != 0) J (fun hc => ?_) (fun hc => ?_)
 ·have h := ifT h hc
  refine sR <| yi J J <| yN <| pw_ret ?_
  obtain rfl := oj h
  exact ⟨J, [_], ⟨J, tr⟩, J, io⟩
 ·have h := ifF h hc
  refine pw_skip <| dr [] Ty.mix (by kernel_rfl) (by kernel_rfl) <| d7 J (fun _ hN => oF J Ty.f91_1 J) J <| d0 J (oS J J J Ty.a3 J) J <| d0 J (oL J J J Ty.a26 Ty.s26 nl J) J <| d7 J (fun _ hN => om (d := .L hash_Place.Pv a1) J) J <| d7 J (fun _ hN => mI J) J <| bnE h fun v2 hv2 h => d2 J (o_call J Ty.k259 J (trial_Inner_ok hv2)) J <| d7 J (fun _ hN => o_ari J J J) J <| d7 J (fun _ hN => aI J) J <| d_nil <| pw_ret ?_
  obtain rfl := oj h
  exact ⟨J, [_], ⟨J, tr⟩, J, io⟩

theorem vec_Count_ok {a0 : List Int} {a1 : Int} {r : Int} (h : vec_Count a0 a1 = some r) : PCalls Tryz.prog 260 [.L iF a0, .I a1] (.I r) := by
 unfold vec_Count at h
 refine pc_intro (N := 16) Tryz.func260 J J nl fun w0 imm0 => sR <| y1 J (o_box (d := .I a1) J J J J J) J <| yi J J <| yN <| sR <| y1 J (o_alloc J Ty.z3 J J J) J <| y_sto (x' := .I 0) (cl' := true) J J (.inl J) Ty.s3 <| yN ?_
 obtain ⟨κ10, hκ15, h⟩ := jnE h
 refine pw_jn0 (κ := κ10) (r := r) (fun (j11 : Int) => St.of [(5, .ptr 2001 0 0)] [(2001, ⟨[.I j11], 0, false, 1, true⟩)]) (fun j11 h => ?_) ?_
 ·subst hκ15
  refine sR <| yS J J J J Ty.a3 J <| yi J J <| yN <| pw_ret ?_
  obtain rfl := oj h
  exact ⟨J, [_], ⟨J, tr⟩, J, io⟩
 ·skip
  refine sR <| yM (d := .L iF a0) J J <| bnE h fun v12 hv16 h => yc J (o_callF J Ty.k190 J (vec_named_ok hv16)) <| yN <| pw_block <| pw_wk (wk_stP (fun l => if l = 2003 then 5 else if l = 2004 then 3 else l) [(3, .ptr 2004 0 0), (5, .ptr 2003 0 0), (8, .fn (.func 239) [.rptr [.L iF v12]])] [(2003, ⟨[.I 0], 0, false, 1, true⟩), (2004, ⟨[.I a1], 0, false, 1, true⟩)] ⟨J, J, J, J, J, J, J, J, J, tr⟩ ⟨rN, rN, tr⟩ J) ?_
  refine pw_range (fn := Tryz.f239) (N1 := 20) J Tryz.func239 J J nl J Ty.k239 J J (fun l17 e18 o19 hR20 => ?_)
  refine sR <| y0 J (o_loadRS J Ty.a27 J) <| y0 J (o_lnL (f := iF) J Ty.e27) <| yI J J <| yN <| pw_block ?_
  obtain ⟨e13, hl21, hk22⟩ := bindE h
  refine pw_lp0 (fun (q : Int × Int) => St.of [(1000003, .ptr 2004 0 0), (1000005, .ptr 2003 0 0), (1000008, .fn (.func 239) [.rptr [.L iF v12]]), (0, .fn (.yield l17) []), (5, .L iF v12), (6, .I (v12.length : Int)), (7, .I q.1)] [(2003, ⟨[.I q.2], 0, false, 1, true⟩), (2004, ⟨[.I a1], 0, false, 1, true⟩)]) hl21 (wk_st _ _ ⟨J, J, J, J, J, J, J, J, J, J, J, J, J, J, J, J, J, J, J, J, J, tr⟩ ⟨rS, rS, tr⟩) (fun q17 x16 h hx23 => ?_)
  obtain ⟨s14, s15⟩ := q17
  refine sR <| y0 J (o_cmp J J J) <| yN <| pw_seq ?_
  refine pw_cond (decide (s14 < (v12.length : Int))) J (fun hc => ?_) (fun hc => ?_)
  ·have h := ifT h hc
   refine pw_skip <| pw_seq <| pw_block <| sR <| bnE h fun v18 hv24 h => y0 J (o_ixL (f := iF) (cs := [.I v18]) hv24 J J Ty.e27 Ty.s3 J J) <| y0 J (o_loadRS J Ty.a3 J) <| yi J J <| yN <| sR <| yI J J <| y0 J (o_cmp J J J) <| yB J J <| y_if J (fun hg => om (d := .fn (.yield l17) []) J) <| y_if J (fun hg => mI J) ?_
   rcases Bool.eq_false_or_eq_true ((v18 != 0) == true) with hg25 | hg25
   ·have h := ifT h hg25
    refine y_wk (wk_st [(1000003, .ptr 2004 0 0), (1000005, .ptr 2003 0 0), (1000008, .fn (.func 239) [.rptr [.L iF v12]]), (0, .fn (.yield l17) []), (5, .L iF v12), (6, .I (v12.length : Int)), (7, .I s14), (13, .bool (v18 != 0)), (14, .fn (.yield l17) []), (15, .I v18)] [(2003, ⟨[.I s15], 0, false, 1, true⟩), (2004, ⟨[.I a1], 0, false, 1, true⟩)] ⟨J, J, J, J, J, J, J, J, J, J, J, J, J, J, J, J, J, J, J, J, J, J, J, J, (ct hg25), J, J, (ct hg25), J, J, tr⟩ ⟨rS, rS, tr⟩) ?_
    refine y_yield hR20 (congrArg some hg25) J J J J J (fun e26 o27 o28 => ?_)
    refine s1 <| yi J J <| yN ?_
    refine ⟨J, ?_⟩
    obtain ⟨κ19, hκ29, h⟩ := jnE h
    refine pw_jnE (κ := κ19) (r := x16) (fun (j20 : Int) => St.of [(2000003, .ptr 2004 0 0), (2000005, .ptr 2003 0 0), (2000008, .fn (.func 239) [.rptr [.L iF v12]]), (1000000, .fn (.yield l17) []), (1000005, .L iF v12), (1000006, .I (v12.length : Int)), (1000007, .I s14), (1000013, .bool (v18 != 0)), (1000014, .fn (.yield l17) []), (1000015, .I v18)] [(2003, ⟨[.I j20], 0, false, 1, true⟩), (2004, ⟨[.I a1], 0, false, 1, true⟩)]) (fun j20 h => ?_) ?_
    ·subst hκ29
     refine ⟨J, ?_⟩
     refine y_wk (wk_st [(1000003, .ptr 2004 0 0), (1000005, .ptr 2003 0 0), (1000008, .fn (.func 239) [.rptr [.L iF v12]]), (0, .fn (.yield l17) []), (5, .L iF v12), (6, .I (v12.length : Int)), (7, .I s14), (13, .bool (v18 != 0)), (16, .bool true)] [(2003, ⟨[.I j20], 0, false, 1, true⟩), (2004, ⟨[.I a1], 0, false, 1, true⟩)] ⟨J, J, J, J, J, J, J, J, J, J, J, J, J, J, J, J, J, J, J, J, J, J, J, J, J, J, J, tr⟩ ⟨rS, rS, tr⟩) <| y_if J (fun hg => o_not J J) <| y0 J (pk_and J J J (fun q => eqT q)) <| yN ?_
     refine pw_cond ((v18 != 0) && false) J (fun hc => ?_) (fun hc => ?_)
     ·have h := ifT h hc
      refine pw_ret ?_
      refine .inl ⟨J, ?_⟩
      have he := hx23 _ (oj h).symm
      have h := hk22
      rw [← he] at h
      exact ⟨J, j20, h, (wk_stP (fun l => if l = 2001 then 2003 else l) _ _ ⟨J, J, J, tr⟩ ⟨rN, tr⟩ J)⟩
     ·have h := ifF h hc
      refine pw_skip <| s1 <| y0 J (o_ari J J J) <| yI J J <| yN ?_
      exact ⟨J, (w64 (s14 + 1), j20), (oj h).symm, (wk_st _ _ ⟨J, J, J, J, J, J, J, J, J, J, J, J, J, J, J, J, J, J, J, J, J, tr⟩ ⟨rS, rS, tr⟩)⟩
    ·skip
     refine pw_block <| sR <| yI J J <| yS J J J J Ty.a3 J <| y0 J (o_cmp J J J) <| yN ?_
     refine pw_cond (v18 == a1) J (fun hc => ?_) (fun hc => ?_)
     ·have h := ifT h hc
      refine s1 <| yS J J J J Ty.a3 J <| y0 J (o_ari J J J) <| y_sto (x' := .I (w64 (s15 + 1))) (cl' := true) J J (.inl J) Ty.s3 <| yN ?_
      exact ⟨J, w64 (s15 + 1), h, (wk_st _ _ ⟨J, J, J, J, J, J, J, J, J, J, J, J, J, J, J, J, J, J, J, J, J, J, J, J, J, J, J, J, J, J, tr⟩ ⟨rS, rS, tr⟩)⟩
     ·have h := ifF h hc
      refine pw_skip ?_
      exact ⟨J, s15, h, (wk_st _ _ ⟨J, J, J, J, J, J, J, J, J, J, J, J, J, J, J, J, J, J, J, J, J, J, J, J, J, J, J, J, J, J, tr⟩ ⟨rS, rS, tr⟩)⟩
   ·have h := ifF h hg25
    refine y_skip (congrArg some hg25) <| y_skip (congrArg some hg25) <| y0 J (pk_andF J J hg25) <| yN ?_
    refine pw_cond false J (fun q => nomatch q) (fun _ => ?_)
    refine pw_skip <| s1 <| y0 J (o_ari J J J) <| yI J J <| yN ?_
    exact ⟨J, (w64 (s14 + 1), s15), (oj h).symm, (wk_st _ _ ⟨J, J, J, J, J, J, J, J, J, J, J, J, J, J, J, J, J, J, J, J, J, tr⟩ ⟨rS, rS, tr⟩)⟩
  ·have h := ifF h hc
   refine pw_exit <| thenQ_exit <| thenQ_exit <| blockQ_exit ?_
   refine .inl ⟨J, ?_⟩
   have he := hx23 _ (oj h).symm
   have h := hk22
   rw [← he] at h
   exact ⟨J, s15, h, (wk_stP (fun l => if l = 2001 then 2003 else l) _ _ ⟨J, J, J, tr⟩ ⟨rN, tr⟩ J)⟩

theorem refs_Times_ok {a0 : List Int} {a1 : Int} {r : Int} (h : refs_Times a0 a1 = some r) : PCalls Tryz.prog 216 [.L iF a0, .I a1] (.I r) := by
 unfold refs_Times at h
 refine pc_intro (N := 8) Tryz.func216 J J nl fun w0 imm0 => sR <| yi J J <| yN <| sR <| yM (d := .L iF a0) J J <| yI J J <| bnE h fun v1 hv1 h => y0 J (o_call J Ty.k260 J (vec_Count_ok hv1)) <| yi J J <| yN <| pw_ret ?_
 obtain rfl := oj h
 exact ⟨J, [_], ⟨J, tr⟩, J, io⟩

theorem trial_Fair_1_ok {a0 : Int} {a1 : store_Obj} {a2 : store_Store} {a3 : List hash_Place} {a4 : List Int} {r : Bool} (h : trial_Fair_1 a0 a1 a2 a3 a4 = some r) : PCalls Tryz.prog 213 [.I a0, store_Obj.Pv a1, .rptr (store_Store.Pc a2), .rptr [.L hash_Place.Pv a3], .rptr [.L iF a4]] (.bool r) := by
 unfold trial_Fair_1 at h
 refine pc_intro (N := 22) Tryz.func213 J J nl fun w0 imm0 => sR <| y1 J (o_box (d := store_Obj.Pv a1) J J J J J) J <| yb J J <| yN <| dr [] Ty.mix (by kernel_rfl) (by kernel_rfl) <| d7 J (fun _ hN => oF J Ty.f91_1 J) J <| d0 J (oS J J J Ty.a3 J) J <| bnE h fun v1 hv1 h => d2 J (o_call J Ty.k214 J (count_Stuck_ok hv1)) J <| d7 J (fun _ hN => o_not J J) J <| d7 J (fun _ hN => mB J) J <| d_if0 J (fun hg => o_loadRA J Ty.a26 Ty.s26 nl J) J <| d_if0 J (fun hg => o_loadRS J Ty.a29 J) J <| d_if7 J (fun hg _ hN => mI J) J <| bnE h fun v2 hv2 h => d_if2 J (fun hg => o_call J Ty.k215 (consE (ct hg) (consE (ct hg) (consE (ct hg) J))) (trial_Rest_ok (onlyE hv2 hg))) J <| d_if0 J (fun hg => o_loadRS J Ty.a27 J) J <| d_if7 J (fun hg _ hN => mI J) J <| bnE h fun v3 hv3 h => d_if2 J (fun hg => o_call J Ty.k216 (consE (ct hg) (consE (ct hg) J)) (refs_Times_ok (onlyE hv3 hg))) J <| d_if7 J (fun hg _ hN => o_cmp (ct hg) (ct hg) J) J <| d7 J (fun _ hN => pk_and J J J (fun q => eqT q)) J <| d7 J (fun _ hN => aB J) J <| d_nil <| pw_ret ?_
 obtain rfl := oj h
 exact ⟨J, [_], ⟨J, tr⟩, J, io⟩

theorem trial_Fair_ok {a0 : store_Store} {a1 : List hash_Place} {a2 : List Int} {r : Bool} (h : trial_Fair a0 a1 a2 = some r) : PCalls Tryz.prog 152 [store_Store.Pv a0, .L hash_Place.Pv a1, .L iF a2] (.bool r) := by
 unfold trial_Fair at h
 refine pc_intro (N := 15) Tryz.func152 J J nl fun w0 imm0 => sR <| y1 J (o_box (d := store_Store.Pv a0) J J J J J) J <| y1 J (o_box (d := .L hash_Place.Pv a1) J J J J J) J <| y1 J (o_box (d := .L iF a2) J J J J J) J <| yb J J <| yN <| sR <| y0 J (o_mkFunc J) <| y0 J (o_build (cs := [.fn (.func 213) [.ptr 3 0 0, .ptr 4 0 0, .ptr 5 0 0]]) J Ty.p252 Ty.z252 J J J) <| y_wk (wk_fv 9 (d' := .agg [.fn (.func 213) [.ptr 3 0 0, .ptr 4 0 0, .ptr 5 0 0]]) J) <| y1 J (o_alloc J Ty.z252 J J J) J <| y_sto (x' := .agg [.fn (.func 213) [.ptr 3 0 0, .ptr 4 0 0, .ptr 5 0 0]]) (cl' := false) J J (.inl J) Ty.s252 <| yN <| sR <| yL J J J J Ty.a252 Ty.s252 nl J <| yL J J J J Ty.a26 Ty.s26 nl J <| y_wk (wk_stP (fun l => if l = 2001 then 5 else if l = 2002 then 4 else if l = 2003 then 3 else l) [(10, .agg [.fn (.func 213) [.ptr 2003 0 0, .ptr 2002 0 0, .ptr 2001 0 0]]), (11, store_Store.Pv a0)] [(2001, ⟨[.L iF a2], 0, false, 1, true⟩), (2002, ⟨[.L hash_Place.Pv a1], 0, false, 1, true⟩), (2003, ⟨[store_Store.Pv a0], 0, false, 3, true⟩)] ⟨J, J, J, J, J, J, tr⟩ ⟨rN, rN, rN, tr⟩ J) ?_
 refine y_inl (fn := Tryz.f217) (N1 := 34) J J Tryz.func217 J Ty.k217 J J nl (fun e1 o2 => ?_)
 obtain ⟨κ35, hκ30, h⟩ := jnE h
 refine pw_jnR (κ := κ35) (r := r) (fun (j36 : List Int) => St.of [(1000010, .agg [.fn (.func 213) [.ptr 2003 0 0, .ptr 2002 0 0, .ptr 2001 0 0]]), (1000011, store_Store.Pv a0), (4, .sl 910005)] [(910005, ⟨List.map iF j36, (List.map iF j36).length, true, 1, true⟩), (2001, ⟨[.L iF a2], 0, false, 1, true⟩), (2002, ⟨[.L hash_Place.Pv a1], 0, false, 1, true⟩), (2003, ⟨[store_Store.Pv a0], 0, false, 3, true⟩)]) (fun j36 h => dup ?_) ?_
 ·subst hκ30
  refine ⟨J, [.sl 910005], ⟨J, tr⟩, ?_⟩
  refine y_wk (wk_stP (fun l => if l = 2004 then 910005 else l) [(12, .sl 2004)] [(2004, ⟨List.map iF j36, (List.map iF j36).length, true, 1, true⟩)] ⟨J, J, J, tr⟩ ⟨rN, tr⟩ J) <| y0 J (o_lnR (f := iF) J J J Ty.e27) <| y0 J (o_cmp J J J) <| yb J J <| yN <| pw_ret ?_
  obtain rfl := oj h
  exact ⟨J, [_], ⟨J, tr⟩, J, io⟩
 ·skip
  refine sR <| y1 J (o_box (d := .agg [.fn (.func 213) [.ptr 2003 0 0, .ptr 2002 0 0, .ptr 2001 0 0]]) J J J J J) J <| y1 J (o_box (d := store_Store.Pv a0) J J J J J) J <| yA (d := .lst true (List.map iF [])) J J <| yN <| sR <| yA (d := .lst true (List.map iF [])) J J <| yN ?_
  obtain ⟨κ53, hκ44, h⟩ := jnE h
  refine pw_jn0 (κ := κ53) (r := r) (fun (j54 : List Int) => St.of [(1000010, .agg [.fn (.func 213) [.ptr 2003 0 0, .ptr 2002 0 0, .ptr 2001 0 0]]), (1000011, store_Store.Pv a0), (5, .sl 910005)] [(910005, ⟨List.map iF j54, (List.map iF j54).length, true, 1, true⟩), (2001, ⟨[.L iF a2], 0, false, 1, true⟩), (2002, ⟨[.L hash_Place.Pv a1], 0, false, 1, true⟩), (2003, ⟨[store_Store.Pv a0], 0, false, 3, true⟩)]) (fun j54 h => ?_) ?_
  ·subst hκ44
   refine sR <| yM (d := .sl 910005) J J <| yA (d := .sl 910005) J J <| yN <| pw_ret ?_
   exact ⟨J, j54, h, (Wk.trans (wk_frz _ [910005]) (wk_st _ _ ⟨J, J, J, J, J, J, J, J, J, tr⟩ ⟨rS, rS, rS, rS, tr⟩))⟩
  ·skip
   refine sR <| yL J J J J Ty.a26 Ty.s26 nl J <| bnE h fun v55 hv45 h => yc J (o_callF J Ty.k60 J (store_Live_ok hv45)) <| y0 J (o_lnL (f := iF) J Ty.e27) <| yI J J <| yN <| pw_block ?_
   obtain ⟨e56, hl46, hk47⟩ := bindE h
   refine pw_lp0 (fun (q : Int × (List Int)) => St.of [(1000010, .agg [.fn (.func 213) [.ptr 2003 0 0, .ptr 2002 0 0, .ptr 2001 0 0]]), (1000011, store_Store.Pv a0), (2, .ptr 2 0 0), (3, .ptr 3 0 0), (5, .sl 910005), (11, .L iF v55), (12, .I (v55.length : Int)), (13, .I q.1)] [(3, ⟨[store_Store.Pv a0], 0, false, 3, true⟩), (2, ⟨[.agg [.fn (.func 213) [.ptr 2003 0 0, .ptr 2002 0 0, .ptr 2001 0 0]]], 0, false, 1, false⟩), (2001, ⟨[.L iF a2], 0, false, 1, true⟩), (2002, ⟨[.L hash_Place.Pv a1], 0, false, 1, true⟩), (2003, ⟨[store_Store.Pv a0], 0, false, 3, true⟩), (910005, ⟨List.map iF q.2, (List.map iF q.2).length, true, 1, true⟩)]) hl46 (Wk.trans (wk_nil (t := 5) (l := 920005) (z := 1) J J) (wk_stP (fun l => if l = 910005 then 920005 else l) _ _ ⟨J, J, J, J, J, J, J, J, J, J, J, J, J, J, J, J, J, J, J, J, J, J, J, J, tr⟩ ⟨rN, rowLe_open J J J (fun q => nomatch q) J J J J, rN, rN, rN, rN, tr⟩ J)) (fun q60 x59 h hx48 => ?_)
   obtain ⟨s57, s58⟩ := q60
   refine sR <| y0 J (o_cmp J J J) <| yN <| pw_seq ?_
   refine pw_cond (decide (s57 < (v55.length : Int))) J (fun hc => ?_) (fun hc => ?_)
   ·have h := ifT h hc
    refine pw_skip ?_
    obtain ⟨κ65, hκ53, h⟩ := jnE h
    refine pw_jn0 (κ := κ65) (r := x59) (fun (j66 : List Int) => St.of [(1000010, .agg [.fn (.func 213) [.ptr 2003 0 0, .ptr 2002 0 0, .ptr 2001 0 0]]), (1000011, store_Store.Pv a0), (2, .ptr 2 0 0), (3, .ptr 3 0 0), (5, .sl 31), (11, .L iF v55), (12, .I (v55.length : Int)), (13, .I s57)] [(31, ⟨List.map iF j66, (List.map iF j66).length, true, 1, true⟩), (3, ⟨[store_Store.Pv a0], 0, false, 3, true⟩), (2, ⟨[.agg [.fn (.func 213) [.ptr 2003 0 0, .ptr 2002 0 0, .ptr 2001 0 0]]], 0, false, 1, false⟩), (2001, ⟨[.L iF a2], 0, false, 1, true⟩), (2002, ⟨[.L hash_Place.Pv a1], 0, false, 1, true⟩), (2003, ⟨[store_Store.Pv a0], 0, false, 3, true⟩)]) (fun j66 h => ?_) ?_
    ·subst hκ53
     refine s1 <| y0 J (o_ari J J J) <| yI J J <| yN ?_
     exact ⟨J, (w64 (s57 + 1), j66), (oj h).symm, (Wk.trans (wk_frz _ [31]) (wk_stP (fun l => if l = 910005 then 31 else l) _ _ ⟨J, J, J, J, J, J, J, J, J, J, J, J, J, J, J, J, J, J, J, J, J, J, J, J, tr⟩ ⟨rN, rowLe_open J J J (fun q => nomatch q) J J J J, rN, rN, rN, rN, tr⟩ J))⟩
    ·skip
     refine pw_block <| sR <| bnE h fun v67 hv54 h => y0 J (o_ixL (f := iF) (cs := [.I v67]) hv54 J J Ty.e27 Ty.s3 J J) <| y0 J (o_loadRS J Ty.a3 J) <| yi J J <| yN <| sR <| yL J J J J Ty.a26 Ty.s26 nl J <| yI J J <| bnE h fun v68 hv55 h => yc J (o_callF J Ty.k61 J (store_Get_ok hv55)) <| yM (d := .tup [store_Obj.Pv v68.1, .I v68.2]) J J <| yX J J J <| yX J J J <| y1 J (o_alloc J Ty.z91 J J J) J <| y_sto (x' := store_Obj.Pv v68.1) (cl' := true) J J (.inr J) Ty.s91 <| yi J J <| yN <| sR <| yF J J Ty.f252_0 J <| yS J J J J Ty.a250 J <| yI J J <| yL J J J J Ty.a91 Ty.s91 nl J <| bnE h fun v69 hv56 h => y0 J (o_call J Ty.k213 J (trial_Fair_1_ok hv56)) <| yN ?_
     refine pw_cond v69 J (fun hc => ?_) (fun hc => ?_)
     ·have h := ifT h hc
      refine s1 <| yM (d := .sl 910005) J J <| yI J J <| y0 J (o_bI (f := iF) (l := [v67]) J Ty.e27 Ty.s3 Ty.z3 J J nl J J) <| bnE h fun v70 hv57 h => y_app J (o_apR (f := iF) hv57 J J J J J J (.inl ⟨_, J, J⟩) Ty.e27 Ty.s3 Ty.b3 Ty.z3 J (fun _ => J)) J J J <| yA (d := .sl 31) J J <| yN ?_
      exact ⟨J, v70, h, (Wk.trans (wk_frz _ [31]) (wk_st _ _ ⟨J, J, J, J, J, J, J, J, J, J, J, J, J, J, J, J, J, J, J, J, J, J, J, J, tr⟩ ⟨rS, rS, rowLe_open J J J (fun q => nomatch q) J J J J, rS, rS, rS, tr⟩))⟩
     ·have h := ifF h hc
      refine pw_skip ?_
      exact ⟨J, s58, h, (Wk.trans (wk_frz _ [910005]) (wk_stP (fun l => if l = 31 then 910005 else l) _ _ ⟨J, J, J, J, J, J, J, J, J, J, J, J, J, J, J, J, J, J, J, J, J, J, J, J, tr⟩ ⟨rN, rN, rowLe_open J J J (fun q => nomatch q) J J J J, rN, rN, rN, tr⟩ J))⟩
   ·have h := ifF h hc
    refine pw_exit <| thenQ_exit <| thenQ_exit <| blockQ_exit ?_
    have he := hx48 _ (oj h).symm
    have h := hk47
    rw [← he] at h
    exact ⟨J, s58, h, (Wk.trans (wk_frz _ [910005]) (wk_st _ _ ⟨J, J, J, J, J, J, J, J, J, tr⟩ ⟨rS, rS, rS, rS, tr⟩))⟩

theorem hold_Right_ok {a0 : hold_Heap} {r : Bool} (h : hold_Right a0 = some r) : PCalls Tryz.prog 62 [hold_Heap.Pv a0] (.bool r) := by
 unfold hold_Right at h
 refine pc_intro (N := 26) Tryz.func62 J J nl fun w0 imm0 => sR <| y1 J (o_box (d := hold_Heap.Pv a0) J J J J J) J <| yb J J <| yN <| pw_seq <| sR <| yL J J J J Ty.a34 Ty.s34 nl J <| bnE h fun v1 hv1 h => y0 J (o_call J Ty.k146 J (hold_shapesFit_ok hv1)) <| y0 J (o_not J J) <| yN ?_
 refine pw_cond (!v1) J (fun hc => ?_) (fun hc => ?_)
 ·have h := ifT h hc
  refine sR <| yb J J <| yN <| pw_ret ?_
  obtain rfl := oj h
  exact ⟨J, [_], ⟨J, tr⟩, J, io⟩
 ·have h := ifF h hc
  refine pw_skip ?_
  obtain ⟨κ8, hκ10, h⟩ := jnE h
  refine pw_jn0 (κ := κ8) (r := r) (fun (_ : Unit) => St.of [(1, .ptr 1 0 0)] [(1, ⟨[hold_Heap.Pv a0], 0, false, 8, true⟩)]) (fun q9 h => ?_) ?_
  ·subst hκ10
   refine dr [] Ty.mix (by kernel_rfl) (by kernel_rfl) <| d7 J (fun _ hN => oF J Ty.f34_0 J) J <| d0 J (oL J J J Ty.a26 Ty.s26 nl J) J <| d7 J (fun _ hN => oF J Ty.f34_3 J) J <| d0 J (oS J J J Ty.a29 J) J <| d0 J (oL J J J Ty.a34 Ty.s34 nl J) J <| bnE h fun v10 hv11 h => d2f J (o_callF J Ty.k63 J (hold_Outer_ok hv11)) J <| bnE h fun v11 hv12 h => d2 J (o_call J Ty.k152 J (trial_Fair_ok hv12)) J <| d7 J (fun _ hN => aB J) J <| d_nil <| pw_ret ?_
   obtain rfl := oj h
   exact ⟨J, [_], ⟨J, tr⟩, J, io⟩
  ·skip
   refine sR <| y0 J (o_bI (f := fun n : Nat => PV.fn (.func n) []) (l := [147, 148, 149, 150, 151]) J Ty.e178 Ty.s35 Ty.z35 J J nl J J) <| y_wk (wk_fvL 8 (d' := .lst true (List.map fvE [(some 147), (some 148), (some 149), (some 150), (some 151)])) J J J) <| y0 J (o_lnL (f := fvE) J Ty.e178) <| yI J J <| yN <| pw_block ?_
   obtain ⟨e12, hl13, hk14⟩ := bindE h
   refine pw_lp0 (fun (s13 : Int) => St.of [(1, .ptr 1 0 0), (8, .lst true (List.map fvE [(some 147), (some 148), (some 149), (some 150), (some 151)])), (9, .I ([(some 147), (some 148), (some 149), (some 150), (some 151)].length : Int)), (10, .I s13)] [(1, ⟨[hold_Heap.Pv a0], 0, false, 8, true⟩)]) hl13 (wk_st _ _ ⟨J, J, J, J, J, J, J, J, J, J, J, J, tr⟩ ⟨rS, tr⟩) (fun s13 x14 h hx15 => ?_)
   refine sR <| y0 J (o_cmp J J J) <| yN <| pw_seq ?_
   refine pw_cond (decide (s13 < ([(some 147), (some 148), (some 149), (some 150), (some 151)].length : Int))) J (fun hc => ?_) (fun hc => ?_)
   ·have h := ifT h hc
    refine pw_skip <| pw_seq <| pw_block <| sR <| bnE h fun v15 hv16 h => y0 J (o_ixL (f := fvE) (cs := [fvE v15]) hv16 J J Ty.e178 Ty.s35 J J) <| y0 J (o_loadRS J Ty.a35 J) <| yA (d := fvE v15) J J <| yN <| sR <| yM (d := fvE v15) J J <| yL J J J J Ty.a34 Ty.s34 nl J ?_
    obtain ⟨v16, hv17, h⟩ := bindE h
    obtain ⟨n17, he18, hk19, hp20⟩ := fvcall1_ok hv17
    refine y_wk (wk_fn 14 J he18) <| y0 J (o_call J hk19 J hp20) <| y0 J (o_not J J) <| yN ?_
    refine pw_cond (!v16) J (fun hc => ?_) (fun hc => ?_)
    ·have h := ifT h hc
     refine sR <| yb J J <| yN <| pw_ret ?_
     have he := hx15 _ (oj h).symm
     have h := hk14
     rw [← he] at h
     obtain rfl := oj h
     exact ⟨J, [_], ⟨J, tr⟩, J, io⟩
    ·have h := ifF h hc
     refine pw_skip <| s1 <| y0 J (o_ari J J J) <| yI J J <| yN ?_
     exact ⟨J, w64 (s13 + 1), (oj h).symm, (wk_st _ _ ⟨J, J, J, J, J, J, J, J, J, J, J, J, tr⟩ ⟨rS, tr⟩)⟩
   ·have h := ifF h hc
    refine pw_exit <| thenQ_exit <| thenQ_exit <| blockQ_exit ?_
    have he := hx15 _ (oj h).symm
    have h := hk14
    rw [← he] at h
    exact ⟨J, (), h, (wk_st _ _ ⟨J, J, J, tr⟩ ⟨rS, tr⟩)⟩

theorem w15_shown_ok  {r : Bool} (h : w15_shown = some r) : PCalls Tryz.prog 16 [] (.bool r) := by
 unfold w15_shown at h
 refine pc_intro (N := 152) Tryz.func16 J J nl fun w0 imm0 => sR <| yb J J <| yN <| sR <| bnE h fun v1 hv1 h => yc J (o_callF J Ty.k58 J (hold_New_ok hv1)) <| y1 J (o_alloc J Ty.z34 J J J) J <| y_sto (x' := hold_Heap.Pv v1) (cl' := true) J J (.inr J) Ty.s34 <| yN <| sR <| yF J J Ty.f34_0 J <| yL J J J J Ty.a26 Ty.s26 nl J <| bnE h fun v2 hv2 h => yc J (o_callF J Ty.k59 J (store_Make_ok hv2)) <| yM (d := .tup [store_Store.Pv v2.1, .I v2.2.1, .I v2.2.2]) J J <| yX J J J <| yX J J J <| yX J J J <| y1 J (o_alloc J Ty.z26 J J J) J <| y_sto (x' := store_Store.Pv v2.1) (cl' := true) J J (.inr J) Ty.s26 <| yi J J <| yi J J <| yN <| sR <| yL J J J J Ty.a26 Ty.s26 nl J <| bnE h fun v3 hv3 h => yc J (o_callF J Ty.k59 J (store_Make_ok hv3)) <| yM (d := .tup [store_Store.Pv v3.1, .I v3.2.1, .I v3.2.2]) J J <| yX J J J <| yX J J J <| yX J J J <| y1 J (o_alloc J Ty.z26 J J J) J <| y_sto (x' := store_Store.Pv v3.1) (cl' := true) J J (.inr J) Ty.s26 <| yi J J <| yi J J <| yN <| sR <| yL J J J J Ty.a26 Ty.s26 nl J <| yF J J Ty.f34_0 J <| y_sto (x' := .agg [.L slab_Cell_store_Obj.Pv v3.1.S.Cells, .I v3.1.S.Last, .I v3.1.Serial, .L iF v1.Roots, .L weak_Cell.Pv v1.Cells, .L hash_Place.Pv v1.T, .L task_Task.Pv v1.Q.L, .I v1.Q.Cap]) (cl' := true) J J (.inr J) Ty.s26 <| yN <| sR <| yL J J J J Ty.a34 Ty.s34 nl J <| yI J J <| bnE h fun v4 hv4 h => yc J (o_callF J Ty.k17 J (hold_Root_ok hv4)) <| yM (d := .tup [hold_Heap.Pv v4.1, .I v4.2]) J J <| yX J J J <| yX J J J <| y_sto (x' := hold_Heap.Pv v4.1) (cl' := true) J J (.inr J) Ty.s34 <| yi J J <| yN <| sR <| yL J J J J Ty.a34 Ty.s34 nl J <| yI J J <| yI J J <| bnE h fun v5 hv5 h => yc J (o_callF J Ty.k20 J (hold_Field_ok hv5)) <| yM (d := .tup [hold_Heap.Pv v5.1, .I v5.2]) J J <| yX J J J <| yX J J J <| y_sto (x' := hold_Heap.Pv v5.1) (cl' := true) J J (.inr J) Ty.s34 <| yi J J <| yN <| sR <| yL J J J J Ty.a34 Ty.s34 nl J <| yI J J <| bnE h fun v6 hv6 h => yc J (o_callF J Ty.k24 J (hold_Weak_ok hv6)) <| yM (d := .tup [hold_Heap.Pv v6.1, .I v6.2]) J J <| yX J J J <| yX J J J <| y_sto (x' := hold_Heap.Pv v6.1) (cl' := true) J J (.inr J) Ty.s34 <| yi J J <| yN <| sR <| yL J J J J Ty.a34 Ty.s34 nl J <| yI J J <| yI J J <| bnE h fun v7 hv7 h => yc J (o_callF J Ty.k26 J (hold_Pair_ok hv7)) <| yM (d := .tup [hold_Heap.Pv v7.1, .I v7.2]) J J <| yX J J J <| yX J J J <| y_sto (x' := hold_Heap.Pv v7.1) (cl' := true) J J (.inr J) Ty.s34 <| yi J J <| yN <| sR <| yL J J J J Ty.a34 Ty.s34 nl J <| yI J J <| bnE h fun v8 hv8 h => yc J (o_callF J Ty.k17 J (hold_Root_ok hv8)) <| yM (d := .tup [hold_Heap.Pv v8.1, .I v8.2]) J J <| yX J J J <| yX J J J <| y1 J (o_alloc J Ty.z34 J J J) J <| y_sto (x' := hold_Heap.Pv v8.1) (cl' := true) J J (.inr J) Ty.s34 <| yi J J <| yN <| sR <| yL J J J J Ty.a34 Ty.s34 nl J <| bnE h fun v9 hv9 h => yc J (o_callF J Ty.k24 J (hold_Weak_ok hv9)) <| yM (d := .tup [hold_Heap.Pv v9.1, .I v9.2]) J J <| yX J J J <| yX J J J <| y1 J (o_alloc J Ty.z34 J J J) J <| y_sto (x' := hold_Heap.Pv v9.1) (cl' := true) J J (.inr J) Ty.s34 <| yi J J <| yN <| sR <| yL J J J J Ty.a34 Ty.s34 nl J <| yI J J <| bnE h fun v10 hv10 h => yc J (o_callF J Ty.k26 J (hold_Pair_ok hv10)) <| yM (d := .tup [hold_Heap.Pv v10.1, .I v10.2]) J J <| yX J J J <| yX J J J <| y1 J (o_alloc J Ty.z34 J J J) J <| y_sto (x' := hold_Heap.Pv v10.1) (cl' := true) J J (.inr J) Ty.s34 <| yi J J <| yN <| sR <| yF J J Ty.f34_0 J <| yL J J J J Ty.a26 Ty.s26 nl J <| yI J J <| bnE h fun v11 hv11 h => yc J (o_callF J Ty.k61 J (store_Get_ok hv11)) <| yM (d := .tup [store_Obj.Pv v11.1, .I v11.2]) J J <| yX J J J <| yX J J J <| y1 J (o_alloc J Ty.z91 J J J) J <| y_sto (x' := store_Obj.Pv v11.1) (cl' := true) J J (.inr J) Ty.s91 <| yi J J <| yN <| sR <| yF J J Ty.f34_0 J <| yL J J J J Ty.a26 Ty.s26 nl J <| yI J J <| bnE h fun v12 hv12 h => yc J (o_callF J Ty.k61 J (store_Get_ok hv12)) <| yM (d := .tup [store_Obj.Pv v12.1, .I v12.2]) J J <| yX J J J <| yX J J J <| y1 J (o_alloc J Ty.z91 J J J) J <| y_sto (x' := store_Obj.Pv v12.1) (cl' := true) J J (.inr J) Ty.s91 <| yi J J <| yN <| sR <| yI J J <| y0 J (o_cmp J J J) <| yB J J <| y_if J (fun hg => mI J) <| y_if J (fun hg => o_cmp (ct hg) J J) <| y0 J (pk_and J J J (fun q => eqT q)) <| yB J J <| y_if J (fun hg => mI J) <| y_if J (fun hg => o_cmp (ct hg) J J) <| y0 J (pk_and J J J (fun q => eqT q)) <| yB J J <| y_if J (fun hg => mI J) <| y_if J (fun hg => o_cmp (ct hg) J J) <| y0 J (pk_and J J J (fun q => eqT q)) <| yB J J <| y_if J (fun hg => mI J) <| y_if J (fun hg => o_cmp (ct hg) J J) <| y0 J (pk_and J J J (fun q => eqT q)) <| yB J J <| y_if J (fun hg => mI J) <| y_if J (fun hg => o_cmp (ct hg) J J) ?_
 refine y0 J (pk_and J J J (fun q => eqT q)) <| yB J J <| y_if J (fun hg => mI J) <| y_if J (fun hg => o_cmp (ct hg) J J) <| y0 J (pk_and J J J (fun q => eqT q)) <| yB J J <| y_if J (fun hg => oF J Ty.f91_1 J) <| y_if J (fun hg => oS (ct hg) J J Ty.a3 J) <| y_if J (fun hg => o_cmp (ct hg) J J) <| y0 J (pk_and J J J (fun q => eqT q)) <| yB J J <| y_if J (fun hg => oF J Ty.f91_2 J) <| y_if J (fun hg => oS (ct hg) J J Ty.a3 J) <| y_if J (fun hg => o_cmp (ct hg) J J) <| y0 J (pk_and J J J (fun q => eqT q)) <| yB J J <| y_if J (fun hg => oF J Ty.f91_1 J) <| y_if J (fun hg => oS (ct hg) J J Ty.a3 J) <| y_if J (fun hg => o_cmp (ct hg) J J) <| y0 J (pk_and J J J (fun q => eqT q)) <| yB J J <| y_if J (fun hg => oL J J J Ty.a34 Ty.s34 nl J) <| bnE h fun v13 hv13 h => y_if J (fun hg => o_call J Ty.k62 (consE (ct hg) J) (hold_Right_ok (onlyE hv13 hg))) <| y0 J (pk_and J J J (fun q => eqT q)) <| yB J J <| y_if J (fun hg => oL J J J Ty.a34 Ty.s34 nl J) <| bnE h fun v14 hv14 h => y_ifc J (fun hg => o_callF J Ty.k63 (consE (ct hg) J) (hold_Outer_ok (onlyE hv14 hg))) <| y_if J (fun hg => o_lnL (f := iF) (ct hg) Ty.e27) <| y_if J (fun hg => o_cmp (ct hg) J J) <| y0 J (pk_and J J J (fun q => eqT q)) <| yB J J <| bnE h fun v15 hv15 h => y_ifc J (fun hg => o_callF J Ty.k58 J (hold_New_ok (onlyE hv15 hg))) <| y_if J (fun hg => .fieldS _ _ _ _ _ _ _ (ct hg) Ty.f34_1 Ty.a27 J) <| y_if J (fun hg => o_lnL (f := iF) (ct hg) Ty.e27) <| y_if J (fun hg => o_cmp (ct hg) J J) <| y0 J (pk_and J J J (fun q => eqT q)) <| yb J J <| yN <| pw_ret ?_
 obtain rfl := oj h
 exact ⟨J, [_], ⟨J, tr⟩, J, io⟩

theorem w15_HoldStays_ok {a0 : hold_Heap} {a1 : Int} {a2 : Int} {a3 : Int} {a4 : Int} {r : Bool} (h : w15_HoldStays a0 a1 a2 a3 a4 = some r) : PCalls Tryz.prog 6 [hold_Heap.Pv a0, .I a1, .I a2, .I a3, .I a4] (.bool r) := by
 unfold w15_HoldStays at h
 refine pc_intro (N := 99) Tryz.func6 J J nl fun w0 imm0 => sR <| y1 J (o_box (d := hold_Heap.Pv a0) J J J J J) J <| yb J J <| yN <| pw_seq <| sR <| yL J J J J Ty.a34 Ty.s34 nl J <| bnE h fun v1 hv1 h => y0 J (o_call J Ty.k15 J (w15_sound_ok hv1)) <| y0 J (o_not J J) <| yB J J <| y_if J (fun hg => mI J) <| y_if J (fun hg => o_cmp (ct hg) J J) <| y0 J (pk_or J J J (fun q => eqF q)) <| yB J J <| y_if J (fun hg => mI J) <| y_if J (fun hg => o_cmp (ct hg) J J) <| y0 J (pk_or J J J (fun q => eqF q)) <| yB J J <| bnE h fun v2 hv2 h => y_if J (fun hg => o_call J Ty.k16 J (w15_shown_ok (onlyE hv2 hg))) <| y_if J (fun hg => o_not (ct hg) J) <| y0 J (pk_or J J J (fun q => eqF q)) <| yN ?_
 refine pw_cond ((((!v1) || (decide (a4 < (-1)))) || (decide (a4 > 5))) || (!v2)) J (fun hc => ?_) (fun hc => ?_)
 ·have h := ifT h hc
  refine sR <| bnE h fun v3 hv3 h => y0 J (o_call J Ty.k16 J (w15_shown_ok hv3)) <| yb J J <| yN <| pw_ret ?_
  obtain rfl := oj h
  exact ⟨J, [_], ⟨J, tr⟩, J, io⟩
 ·have h := ifF h hc
  refine pw_skip <| sR <| yL J J J J Ty.a34 Ty.s34 nl J <| yI J J <| yI J J <| bnE h fun v4 hv4 h => yc J (o_callF J Ty.k17 J (hold_Root_ok hv4)) <| yM (d := .tup [hold_Heap.Pv v4.1, .I v4.2]) J J <| yX J J J <| yX J J J <| y1 J (o_alloc J Ty.z34 J J J) J <| y_sto (x' := hold_Heap.Pv v4.1) (cl' := true) J J (.inr J) Ty.s34 <| yi J J <| yN <| sR <| yL J J J J Ty.a34 Ty.s34 nl J <| yI J J <| yI J J <| yI J J <| bnE h fun v5 hv5 h => yc J (o_callF J Ty.k20 J (hold_Field_ok hv5)) <| yM (d := .tup [hold_Heap.Pv v5.1, .I v5.2]) J J <| yX J J J <| yX J J J <| y1 J (o_alloc J Ty.z34 J J J) J <| y_sto (x' := hold_Heap.Pv v5.1) (cl' := true) J J (.inr J) Ty.s34 <| yi J J <| yN <| sR <| yL J J J J Ty.a34 Ty.s34 nl J <| yI J J <| yI J J <| yI J J <| bnE h fun v6 hv6 h => yc J (o_callF J Ty.k24 J (hold_Weak_ok hv6)) <| yM (d := .tup [hold_Heap.Pv v6.1, .I v6.2]) J J <| yX J J J <| yX J J J <| y1 J (o_alloc J Ty.z34 J J J) J <| y_sto (x' := hold_Heap.Pv v6.1) (cl' := true) J J (.inr J) Ty.s34 <| yi J J <| yN <| sR <| yL J J J J Ty.a34 Ty.s34 nl J <| yI J J <| yI J J <| bnE h fun v7 hv7 h => yc J (o_callF J Ty.k26 J (hold_Pair_ok hv7)) <| yM (d := .tup [hold_Heap.Pv v7.1, .I v7.2]) J J <| yX J J J <| yX J J J <| y1 J (o_alloc J Ty.z34 J J J) J <| y_sto (x' := hold_Heap.Pv v7.1) (cl' := true) J J (.inr J) Ty.s34 <| yi J J <| yN <| sR <| yL J J J J Ty.a34 Ty.s34 nl J <| bnE h fun v8 hv8 h => y0 J (o_call J Ty.k22 J (w15_few_ok hv8)) <| yB J J <| y_if J (fun hg => oL J J J Ty.a34 Ty.s34 nl J) <| bnE h fun v9 hv9 h => y_if J (fun hg => o_call J Ty.k22 (consE (ct hg) J) (w15_few_ok (onlyE hv9 hg))) <| y0 J (pk_and J J J (fun q => eqT q)) <| yB J J <| y_if J (fun hg => oL J J J Ty.a34 Ty.s34 nl J) <| bnE h fun v10 hv10 h => y_if J (fun hg => o_call J Ty.k22 (consE (ct hg) J) (w15_few_ok (onlyE hv10 hg))) <| y0 J (pk_and J J J (fun q => eqT q)) <| yB J J <| y_if J (fun hg => oL J J J Ty.a34 Ty.s34 nl J) <| bnE h fun v11 hv11 h => y_if J (fun hg => o_call J Ty.k22 (consE (ct hg) J) (w15_few_ok (onlyE hv11 hg))) <| y0 J (pk_and J J J (fun q => eqT q)) <| yB J J <| y_if J (fun hg => oL J J J Ty.a34 Ty.s34 nl J) <| bnE h fun v12 hv12 h => y_ifc J (fun hg => o_callF J Ty.k19 (consE (ct hg) J) (w15_heap_ok (onlyE hv12 hg))) <| bnE h fun v13 hv13 h => y_if J (fun hg => o_call J Ty.k32 (consE (ct hg) J) (r15_Right_ok (onlyE hv13 hg))) <| y0 J (pk_and J J J (fun q => eqT q)) <| yB J J <| y_if J (fun hg => oL J J J Ty.a34 Ty.s34 nl J) <| bnE h fun v14 hv14 h => y_ifc J (fun hg => o_callF J Ty.k19 (consE (ct hg) J) (w15_heap_ok (onlyE hv14 hg))) <| bnE h fun v15 hv15 h => y_if J (fun hg => o_call J Ty.k32 (consE (ct hg) J) (r15_Right_ok (onlyE hv15 hg))) <| y0 J (pk_and J J J (fun q => eqT q)) <| yB J J <| y_if J (fun hg => oL J J J Ty.a34 Ty.s34 nl J) <| bnE h fun v16 hv16 h => y_ifc J (fun hg => o_callF J Ty.k19 (consE (ct hg) J) (w15_heap_ok (onlyE hv16 hg))) <| bnE h fun v17 hv17 h => y_if J (fun hg => o_call J Ty.k32 (consE (ct hg) J) (r15_Right_ok (onlyE hv17 hg))) <| y0 J (pk_and J J J (fun q => eqT q)) <| yB J J <| y_if J (fun hg => oL J J J Ty.a34 Ty.s34 nl J) <| bnE h fun v18 hv18 h => y_ifc J (fun hg => o_callF J Ty.k19 (consE (ct hg) J) (w15_heap_ok (onlyE hv18 hg))) <| bnE h fun v19 hv19 h => y_if J (fun hg => o_call J Ty.k32 (consE (ct hg) J) (r15_Right_ok (onlyE hv19 hg))) <| y0 J (pk_and J J J (fun q => eqT q)) <| yb J J <| yN <| pw_ret ?_
  obtain rfl := oj h
  exact ⟨J, [_], ⟨J, tr⟩, J, io⟩

end Go.Proofs.YtnfmdpblilpcbaaGreat.Ok
