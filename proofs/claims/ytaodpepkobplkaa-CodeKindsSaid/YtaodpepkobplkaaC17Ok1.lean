/-
 The functions of the program do as the plain functions do.
-/
import Derived.Test.YtaodpepkobplkaaC17PwC
import Derived.Test.YtaodpepkobplkaaC17Sh
import Derived.Test.YtaodpepkobplkaaProg
namespace Go.Proofs.Ytaodpepkobplkaa.Ok
open Go Go.Pw Go.Sh Go.Proofs
set_option linter.unusedVariables false
set_option maxRecDepth 100000
set_option maxHeartbeats 4000000
abbrev _root_.Go.Sh.code_Op.Pc (x : code_Op) : List PV := [.I x.Kind, .I x.A, .I x.B, .I x.C]
abbrev _root_.Go.Sh.code_Op.Pv (x : code_Op) : PV := .agg x.Pc
abbrev _root_.Go.Sh.code_demand.Pc (x : code_demand) : List PV := [fvE x.part, .I x.least, .I x.most, .I x.e]
abbrev _root_.Go.Sh.code_demand.Pv (x : code_demand) : PV := .agg x.Pc
abbrev _root_.Go.Sh.r17_Op.Pc (x : r17_Op) : List PV := [.I x.Kind, .I x.A, .I x.B, .I x.C]
abbrev _root_.Go.Sh.r17_Op.Pv (x : r17_Op) : PV := .agg x.Pc
namespace Ty
theorem a3 : tagg Try.prog 3 = some false := by kernel_rfl
theorem a23 : tagg Try.prog 23 = some true := by kernel_rfl
theorem a29 : tagg Try.prog 29 = some true := by kernel_rfl
theorem a55 : tagg Try.prog 55 = some true := by kernel_rfl
theorem a58 : tagg Try.prog 58 = some false := by kernel_rfl
theorem b29 : tbytes Try.prog 29 = some 32 := by kernel_rfl
theorem b58 : tbytes Try.prog 58 = some 24 := by kernel_rfl
theorem e24 : telem Try.prog 24 = some 3 := by kernel_rfl
theorem e41 : telem Try.prog 41 = some 42 := by kernel_rfl
theorem e42 : telem Try.prog 42 = some 23 := by kernel_rfl
theorem e45 : telem Try.prog 45 = some 58 := by kernel_rfl
theorem e49 : telem Try.prog 49 = some 55 := by kernel_rfl
theorem e58 : telem Try.prog 58 = some 29 := by kernel_rfl
theorem f23_0 : foff Try.prog 23 0 = some (0, 3) := by kernel_rfl
theorem f29_0 : foff Try.prog 29 0 = some (0, 3) := by kernel_rfl
theorem f55_2 : foff Try.prog 55 2 = some (2, 3) := by kernel_rfl
theorem i3 : tint Try.prog 3 = some .i64 := by kernel_rfl
theorem mm51 : tmap Try.prog 51 = some (3, 49) := by kernel_rfl
theorem p23 : bplaces Try.prog 23 = some (fun i => (#[(0, 1), (1, 1), (2, 1), (3, 1)] : Array (Nat × Nat))[i]?) := by kernel_rfl
theorem p29 : bplaces Try.prog 29 = some (fun i => (#[(0, 1), (1, 1), (2, 1), (3, 1)] : Array (Nat × Nat))[i]?) := by kernel_rfl
theorem p55 : bplaces Try.prog 55 = some (fun i => (#[(0, 1), (1, 1), (2, 1), (3, 1)] : Array (Nat × Nat))[i]?) := by kernel_rfl
theorem q23 : fkinds Try.prog 23 = some [1, 1, 1, 1] := by kernel_rfl
theorem q29 : fkinds Try.prog 29 = some [1, 1, 1, 1] := by kernel_rfl
theorem s3 : tsize Try.prog 3 = some 1 := by kernel_rfl
theorem s23 : tsize Try.prog 23 = some 4 := by kernel_rfl
theorem s29 : tsize Try.prog 29 = some 4 := by kernel_rfl
theorem s42 : tsize Try.prog 42 = some 1 := by kernel_rfl
theorem s55 : tsize Try.prog 55 = some 4 := by kernel_rfl
theorem s58 : tsize Try.prog 58 = some 1 := by kernel_rfl
theorem u3 : Try.prog.underlying 3 = some (.int .i64) := by kernel_rfl
theorem u4 : Try.prog.underlying 4 = some (.bool) := by kernel_rfl
theorem u5 : Try.prog.underlying 5 = some (.int .u8) := by kernel_rfl
theorem z3 : tzero Try.prog 3 = some ((.I 0)) := by kernel_rfl
theorem z23 : tzero Try.prog 23 = some ((.agg #[(.I 0), (.I 0), (.I 0), (.I 0)])) := by kernel_rfl
theorem z29 : tzero Try.prog 29 = some ((.agg #[(.I 0), (.I 0), (.I 0), (.I 0)])) := by kernel_rfl
theorem z42 : tzero Try.prog 42 = some ((.slice none 0 0)) := by kernel_rfl
theorem z49 : tzero Try.prog 49 = some ((.slice none 0 0)) := by kernel_rfl
theorem z55 : tzero Try.prog 55 = some ((.agg #[.nilFunc, (.I 0), (.I 0), (.I 0)])) := by kernel_rfl
theorem z58 : tzero Try.prog 58 = some ((.slice none 0 0)) := by kernel_rfl
theorem mix : Try.prog.follows .mixedOrders = true := by kernel_rfl
end Ty
def tb : TB := ⟨[((23, 0), (0, 3)), ((23, 1), (1, 3)), ((23, 2), (2, 3)), ((23, 3), (3, 3)), ((29, 0), (0, 3)), ((29, 1), (1, 3)), ((29, 2), (2, 3)), ((29, 3), (3, 3)), ((55, 0), (0, 53)), ((55, 1), (1, 3)), ((55, 3), (3, 26))], [(3, false), (23, true), (26, false), (29, true), (42, false), (53, false), (55, true), (58, false)], [(3, 1), (23, 4), (29, 4), (55, 4)], [(23, .agg [.I 0, .I 0, .I 0, .I 0]), (29, .agg [.I 0, .I 0, .I 0, .I 0]), (55, .agg [.nilfn, .I 0, .I 0, .I 0])]⟩
theorem Tb : TB.Ok Try.prog tb := ⟨by kernel_rfl, by kernel_rfl, by kernel_rfl, by kernel_rfl⟩
section
variable {X : Ctx} {ops : Array Oper} {K : Ctx → St → Prop} {i n : Nat} {l l' : List Oper} {env env' : Nat → PV} {σ σ' : Nat → Option Row} {Q : PX → Ctx → St → Prop} {y : Code} {KD : St → Prop} {bar : List Nat}
theorem S1 (n : Nat) (h : run tb n l env σ = some (l', env', σ')) (k : Sq X ops (i + n) l' K ⟨env', σ'⟩) (hb : TB.Ok X.P tb := by exact Tb) : Sq X ops i l K ⟨env, σ⟩ := seg hb n h k
theorem S2 (n : Nat) (h : run tb n l env σ = some ([], env', σ')) (k : K X ⟨env', σ'⟩) (hb : TB.Ok X.P tb := by exact Tb) : Sq X ops i l K ⟨env, σ⟩ := seg hb n h (yN k)
theorem S3 {id : Nat} (n : Nat) (h : run tb n l env σ = some (l', env', σ')) (k : Sq X l.toArray (0 + n) l' (fun X' s => Pwp X' y Q s) ⟨env', σ'⟩) (hd : dstOK X.N l.toArray = true := by kernel_rfl) (hb : TB.Ok X.P tb := by exact Tb) : Pwp X (.seq (.region id l.toArray false) y) Q ⟨env, σ⟩ := sr hd (seg hb n h k)
theorem S4 {id : Nat} (n : Nat) (h : run tb n l env σ = some ([], env', σ')) (k : Pwp X y Q ⟨env', σ'⟩) (hd : dstOK X.N l.toArray = true := by kernel_rfl) (hb : TB.Ok X.P tb := by exact Tb) : Pwp X (.seq (.region id l.toArray false) y) Q ⟨env, σ⟩ := sr hd (seg hb n h (yN k))
theorem S5 {id : Nat} (n : Nat) (h : run tb n l env σ = some (l', env', σ')) (k : Sq X l.toArray (0 + n) l' (Q .normal) ⟨env', σ'⟩) (hd : dstOK X.N l.toArray = true := by kernel_rfl) (hb : TB.Ok X.P tb := by exact Tb) : Pwp X (.region id l.toArray false) Q ⟨env, σ⟩ := sr1 hd (seg hb n h k)
theorem S6 {id : Nat} (n : Nat) (h : run tb n l env σ = some ([], env', σ')) (k : Q .normal X ⟨env', σ'⟩) (hd : dstOK X.N l.toArray = true := by kernel_rfl) (hb : TB.Ok X.P tb := by exact Tb) : Pwp X (.region id l.toArray false) Q ⟨env, σ⟩ := sr1 hd (seg hb n h (yN k))
theorem S7 (n : Nat) (h : runD tb bar n i l env σ = some (l', env', σ')) (k : Ex X.P ops bar true (i + n) l' ⟨env', σ'⟩ KD) (hb : TB.Ok X.P tb := by exact Tb) : Ex X.P ops bar true i l ⟨env, σ⟩ KD := dG hb n h k
theorem S8 (n : Nat) (h : runD tb bar n i l env σ = some ([], env', σ')) (k : KD ⟨env', σ'⟩) (hb : TB.Ok X.P tb := by exact Tb) : Ex X.P ops bar true i l ⟨env, σ⟩ KD := dG hb n h k
end
theorem code_root__code_partA_ok : PO Try.prog 26 [.fn (.func 27) []] (code_root__code_partA) fun r => code_demand.Pv r := by
 refine pO Try.func26 fun r h _ _ => ?_
 unfold code_root__code_partA at h
 refine S4 1 J <| S3 1 J <| y0 J (o_build (cs := [.fn (.func 27) [], .I 0, .I 5, .I 6]) J Ty.p55 Ty.z55 J J J) <| y_wk (wk_fv 4 (d' := .agg [fvE (some 27), .I 0, .I 5, .I 6]) J) <| S2 1 J <| pw_ret ?_
 cases h
 exact ⟨J, [_], ⟨oL J J J Ty.a55 Ty.s55 nl J, tr⟩, J, io⟩

theorem code_program__code_partC_ok : PO Try.prog 29 [.fn (.func 30) []] (code_program__code_partC) fun r => code_demand.Pv r := by
 refine pO Try.func29 fun r h _ _ => ?_
 unfold code_program__code_partC at h
 refine S4 1 J <| S3 1 J <| y0 J (o_build (cs := [.fn (.func 30) [], .I (-1), .I 5, .I 13]) J Ty.p55 Ty.z55 J J J) <| y_wk (wk_fv 4 (d' := .agg [fvE (some 30), .I (-1), .I 5, .I 13]) J) <| S2 1 J <| pw_ret ?_
 cases h
 exact ⟨J, [_], ⟨oL J J J Ty.a55 Ty.s55 nl J, tr⟩, J, io⟩

theorem code_asking_ok {a0} : PO Try.prog 25 [.L code_demand.Pv a0] (code_asking a0) fun r => .L code_demand.Pv r := by
 refine pO Try.func25 fun r h _ _ => ?_
 unfold code_asking at h
 refine S4 1 J <| S4 2 J <| pw_ret ?_
 cases h
 exact f1

theorem code_root__code_partB_ok : PO Try.prog 26 [.fn (.func 28) []] (code_root__code_partB) fun r => code_demand.Pv r := by
 refine pO Try.func26 fun r h _ _ => ?_
 unfold code_root__code_partB at h
 refine S4 1 J <| S3 1 J <| y0 J (o_build (cs := [.fn (.func 28) [], .I 0, .I 5, .I 6]) J Ty.p55 Ty.z55 J J J) <| y_wk (wk_fv 4 (d' := .agg [fvE (some 28), .I 0, .I 5, .I 6]) J) <| S2 1 J <| pw_ret ?_
 cases h
 exact ⟨J, [_], ⟨oL J J J Ty.a55 Ty.s55 nl J, tr⟩, J, io⟩

theorem code_field__code_partC_ok : PO Try.prog 31 [.fn (.func 30) []] (code_field__code_partC) fun r => code_demand.Pv r := by
 refine pO Try.func31 fun r h _ _ => ?_
 unfold code_field__code_partC at h
 refine S4 1 J <| S3 1 J <| y0 J (o_build (cs := [.fn (.func 30) [], .I 0, .I 3, .I 5]) J Ty.p55 Ty.z55 J J J) <| y_wk (wk_fv 4 (d' := .agg [fvE (some 30), .I 0, .I 3, .I 5]) J) <| S2 1 J <| pw_ret ?_
 cases h
 exact ⟨J, [_], ⟨oL J J J Ty.a55 Ty.s55 nl J, tr⟩, J, io⟩

theorem code_field__code_partB_ok : PO Try.prog 31 [.fn (.func 28) []] (code_field__code_partB) fun r => code_demand.Pv r := by
 refine pO Try.func31 fun r h _ _ => ?_
 unfold code_field__code_partB at h
 refine S4 1 J <| S3 1 J <| y0 J (o_build (cs := [.fn (.func 28) [], .I 0, .I 3, .I 5]) J Ty.p55 Ty.z55 J J J) <| y_wk (wk_fv 4 (d' := .agg [fvE (some 28), .I 0, .I 3, .I 5]) J) <| S2 1 J <| pw_ret ?_
 cases h
 exact ⟨J, [_], ⟨oL J J J Ty.a55 Ty.s55 nl J, tr⟩, J, io⟩

theorem code_rootOrNone__code_partC_ok : PO Try.prog 32 [.fn (.func 30) []] (code_rootOrNone__code_partC) fun r => code_demand.Pv r := by
 refine pO Try.func32 fun r h _ _ => ?_
 unfold code_rootOrNone__code_partC at h
 refine S4 1 J <| S3 1 J <| y0 J (o_build (cs := [.fn (.func 30) [], .I (-1), .I 5, .I 6]) J Ty.p55 Ty.z55 J J J) <| y_wk (wk_fv 4 (d' := .agg [fvE (some 30), .I (-1), .I 5, .I 6]) J) <| S2 1 J <| pw_ret ?_
 cases h
 exact ⟨J, [_], ⟨oL J J J Ty.a55 Ty.s55 nl J, tr⟩, J, io⟩

theorem code_cell__code_partA_ok : PO Try.prog 33 [.fn (.func 27) []] (code_cell__code_partA) fun r => code_demand.Pv r := by
 refine pO Try.func33 fun r h _ _ => ?_
 unfold code_cell__code_partA at h
 refine S4 1 J <| S3 1 J <| y0 J (o_build (cs := [.fn (.func 27) [], .I 0, .I 5, .I 7]) J Ty.p55 Ty.z55 J J J) <| y_wk (wk_fv 4 (d' := .agg [fvE (some 27), .I 0, .I 5, .I 7]) J) <| S2 1 J <| pw_ret ?_
 cases h
 exact ⟨J, [_], ⟨oL J J J Ty.a55 Ty.s55 nl J, tr⟩, J, io⟩

theorem code_rootOrNone__code_partB_ok : PO Try.prog 32 [.fn (.func 28) []] (code_rootOrNone__code_partB) fun r => code_demand.Pv r := by
 refine pO Try.func32 fun r h _ _ => ?_
 unfold code_rootOrNone__code_partB at h
 refine S4 1 J <| S3 1 J <| y0 J (o_build (cs := [.fn (.func 28) [], .I (-1), .I 5, .I 6]) J Ty.p55 Ty.z55 J J J) <| y_wk (wk_fv 4 (d' := .agg [fvE (some 28), .I (-1), .I 5, .I 6]) J) <| S2 1 J <| pw_ret ?_
 cases h
 exact ⟨J, [_], ⟨oL J J J Ty.a55 Ty.s55 nl J, tr⟩, J, io⟩

theorem code_cell__code_partB_ok : PO Try.prog 33 [.fn (.func 28) []] (code_cell__code_partB) fun r => code_demand.Pv r := by
 refine pO Try.func33 fun r h _ _ => ?_
 unfold code_cell__code_partB at h
 refine S4 1 J <| S3 1 J <| y0 J (o_build (cs := [.fn (.func 28) [], .I 0, .I 5, .I 7]) J Ty.p55 Ty.z55 J J J) <| y_wk (wk_fv 4 (d' := .agg [fvE (some 28), .I 0, .I 5, .I 7]) J) <| S2 1 J <| pw_ret ?_
 cases h
 exact ⟨J, [_], ⟨oL J J J Ty.a55 Ty.s55 nl J, tr⟩, J, io⟩

theorem code_demands_ok : PO Try.prog 22 [] (code_demands) fun r => .abs (ImMap (List.map (ent iF (Ls code_demand.Pv)) r)) := by
 refine pO Try.func22 fun r h _ _ => ?_
 refine S4 1 J <| sR <| y_mkM (KT := Int) (VT := List code_demand) (EK := iF) (E := (Ls code_demand.Pv)) 5000001 J J <| cF h code_root__code_partA_ok J J fun v1 hv1 h => y0 J (o_build (cs := [.fn (.func 28) [], .I 0, .I 4, .I 1]) J Ty.p55 Ty.z55 J J J) <| y_wk (wk_fv 3 (d' := .agg [fvE (some 28), .I 0, .I 4, .I 1]) J) <| cF h code_program__code_partC_ok J J fun v2 hv2 h => y0 J (o_bI (f := code_demand.Pv) (l := [v1, (⟨(some 28), 0, 4, 1⟩ : code_demand), v2]) J Ty.e49 Ty.s55 Ty.z55 J J nl J J) <| cF h code_asking_ok J J fun v3 _ h => y_setM (es := []) (k := 1) (v := v3) (E := (Ls code_demand.Pv)) (EK := iF) (.inr J) J J J J J J Ty.mm51 (keyT_int Ty.u3) <| yc J (o_clF J code_root__code_partA_ok J hv1) <| cF h code_root__code_partB_ok J J fun v4 hv4 h => y0 J (o_bI (f := code_demand.Pv) (l := [v1, v4]) J Ty.e49 Ty.s55 Ty.z55 J J nl J J) <| cF h code_asking_ok J J fun v5 hv5 h => y_setM (es := (mput [] 1 v3)) (k := 2) (v := v5) (E := (Ls code_demand.Pv)) (EK := iF) (.inr J) J J J J J J Ty.mm51 (keyT_int Ty.u3) <| yc J (o_clF J code_root__code_partA_ok J hv1) <| y0 J (o_bI (f := code_demand.Pv) (l := [v1]) J Ty.e49 Ty.s55 Ty.z55 J J nl J J) <| cF h code_asking_ok J J fun v6 _ h => y_setM (es := (mput (mput [] 1 v3) 2 v5)) (k := 3) (v := v6) (E := (Ls code_demand.Pv)) (EK := iF) (.inr J) J J J J J J Ty.mm51 (keyT_int Ty.u3) <| yc J (o_clF J code_root__code_partA_ok J hv1) <| yc J (o_clF J code_root__code_partB_ok J hv4) <| cF h code_field__code_partC_ok J J fun v7 _ h => y0 J (o_bI (f := code_demand.Pv) (l := [v1, v4, v7]) J Ty.e49 Ty.s55 Ty.z55 J J nl J J) <| cF h code_asking_ok J J fun v8 _ h => y_setM (es := (mput (mput (mput [] 1 v3) 2 v5) 3 v6)) (k := 4) (v := v8) (E := (Ls code_demand.Pv)) (EK := iF) (.inr J) J J J J J J Ty.mm51 (keyT_int Ty.u3) <| yc J (o_clF J code_root__code_partA_ok J hv1) <| cF h code_field__code_partB_ok J J fun v9 _ h => cF h code_rootOrNone__code_partC_ok J J fun v10 _ h => y0 J (o_bI (f := code_demand.Pv) (l := [v1, v9, v10]) J Ty.e49 Ty.s55 Ty.z55 J J nl J J) <| cF h code_asking_ok J J fun v11 _ h => ?_
 refine y_setM (es := (mput (mput (mput (mput [] 1 v3) 2 v5) 3 v6) 4 v8)) (k := 5) (v := v11) (E := (Ls code_demand.Pv)) (EK := iF) (.inr J) J J J J J J Ty.mm51 (keyT_int Ty.u3) <| cF h code_cell__code_partA_ok J J fun v12 _ h => cF h code_rootOrNone__code_partB_ok J J fun v13 hv13 h => yc J (o_clF J code_program__code_partC_ok J hv2) <| y0 J (o_bI (f := code_demand.Pv) (l := [v12, v13, v2]) J Ty.e49 Ty.s55 Ty.z55 J J nl J J) <| cF h code_asking_ok J J fun v14 _ h => y_setM (es := (mput (mput (mput (mput (mput [] 1 v3) 2 v5) 3 v6) 4 v8) 5 v11)) (k := 6) (v := v14) (E := (Ls code_demand.Pv)) (EK := iF) (.inr J) J J J J J J Ty.mm51 (keyT_int Ty.u3) <| yc J (o_clF J code_root__code_partA_ok J hv1) <| cF h code_cell__code_partB_ok J J fun v15 _ h => y0 J (o_bI (f := code_demand.Pv) (l := [v1, v15]) J Ty.e49 Ty.s55 Ty.z55 J J nl J J) <| cF h code_asking_ok J J fun v16 _ h => y_setM (es := (mput (mput (mput (mput (mput (mput [] 1 v3) 2 v5) 3 v6) 4 v8) 5 v11) 6 v14)) (k := 7) (v := v16) (E := (Ls code_demand.Pv)) (EK := iF) (.inr J) J J J J J J Ty.mm51 (keyT_int Ty.u3) <| yc J (o_clF J code_root__code_partA_ok J hv1) <| yc J (o_clF J code_rootOrNone__code_partB_ok J hv13) <| y0 J (o_bI (f := code_demand.Pv) (l := [v1, v13]) J Ty.e49 Ty.s55 Ty.z55 J J nl J J) <| cF h code_asking_ok J J fun v17 _ h => y_setM (es := (mput (mput (mput (mput (mput (mput (mput [] 1 v3) 2 v5) 3 v6) 4 v8) 5 v11) 6 v14) 7 v16)) (k := 8) (v := v17) (E := (Ls code_demand.Pv)) (EK := iF) (.inr J) J J J J J J Ty.mm51 (keyT_int Ty.u3) <| yc J (o_clF J code_root__code_partA_ok J hv1) <| yc J (o_clF J code_root__code_partB_ok J hv4) <| y0 J (o_bI (f := code_demand.Pv) (l := [v1, v4]) J Ty.e49 Ty.s55 Ty.z55 J J nl J J) <| yc J (o_clF J code_asking_ok J hv5) <| y_setM (es := (mput (mput (mput (mput (mput (mput (mput (mput [] 1 v3) 2 v5) 3 v6) 4 v8) 5 v11) 6 v14) 7 v16) 8 v17)) (k := 9) (v := v5) (E := (Ls code_demand.Pv)) (EK := iF) (.inr J) J J J J J J Ty.mm51 (keyT_int Ty.u3) <| yc J (o_clF J code_root__code_partA_ok J hv1) <| yc J (o_clF J code_root__code_partB_ok J hv4) <| y0 J (o_bI (f := code_demand.Pv) (l := [v1, v4]) J Ty.e49 Ty.s55 Ty.z55 J J nl J J) <| yc J (o_clF J code_asking_ok J hv5) <| y_setM (es := (mput (mput (mput (mput (mput (mput (mput (mput (mput [] 1 v3) 2 v5) 3 v6) 4 v8) 5 v11) 6 v14) 7 v16) 8 v17) 9 v5)) (k := 10) (v := v5) (E := (Ls code_demand.Pv)) (EK := iF) (.inr J) J J J J J J Ty.mm51 (keyT_int Ty.u3) <| cF h code_asking_ok J J fun v18 _ h => y_setM (es := (mput (mput (mput (mput (mput (mput (mput (mput (mput (mput [] 1 v3) 2 v5) 3 v6) 4 v8) 5 v11) 6 v14) 7 v16) 8 v17) 9 v5) 10 v5)) (k := 11) (v := v18) (E := (Ls code_demand.Pv)) (EK := iF) (.inr J) J J J J J J Ty.mm51 (keyT_int Ty.u3) <| y0 J (o_build (cs := [.fn (.func 27) [], .I 0, .I 200, .I 12]) J Ty.p55 Ty.z55 J J J) ?_
 refine y_wk (wk_fv 46 (d' := .agg [fvE (some 27), .I 0, .I 200, .I 12]) J) <| y0 J (o_bI (f := code_demand.Pv) (l := [(⟨(some 27), 0, 200, 12⟩ : code_demand)]) J Ty.e49 Ty.s55 Ty.z55 J J nl J J) <| cF h code_asking_ok J J fun v19 _ h => y_setM (es := (mput (mput (mput (mput (mput (mput (mput (mput (mput (mput (mput [] 1 v3) 2 v5) 3 v6) 4 v8) 5 v11) 6 v14) 7 v16) 8 v17) 9 v5) 10 v5) 11 v18)) (k := 12) (v := v19) (E := (Ls code_demand.Pv)) (EK := iF) (.inr J) J J J J J J Ty.mm51 (keyT_int Ty.u3) <| S2 2 J <| pw_wk (wk_mfz 0 5000001 J J) <| pw_ret ?_
 cases h
 exact f1

theorem code_partA_ok {a0} : PO Try.prog 27 [code_Op.Pv a0] (code_partA a0) fun r => .I r := by
 refine pO Try.func27 fun r h _ _ => ?_
 unfold code_partA at h
 refine S4 2 J <| S4 3 J <| pw_ret ?_
 cases h
 exact f1

theorem code_partB_ok {a0} : PO Try.prog 28 [code_Op.Pv a0] (code_partB a0) fun r => .I r := by
 refine pO Try.func28 fun r h _ _ => ?_
 unfold code_partB at h
 refine S4 2 J <| S4 3 J <| pw_ret ?_
 cases h
 exact f1

theorem code_partC_ok {a0} : PO Try.prog 30 [code_Op.Pv a0] (code_partC a0) fun r => .I r := by
 refine pO Try.func30 fun r h _ _ => ?_
 unfold code_partC at h
 refine S4 2 J <| S4 3 J <| pw_ret ?_
 cases h
 exact f1

theorem fvcall0_ok {f : Fv} {a0 : code_Op} {r : Int} (h : fvcall0 f a0 = some r) : ∃ n, f = some n ∧ Callable Try.prog n ∧ PCalls Try.prog n [code_Op.Pv a0] (.I r) := by
 unfold fvcall0 at h
 by_cases e27 : f = some 27
 ·rw [if_pos e27] at h; exact ⟨27, e27, (@code_partA_ok a0).1, (@code_partA_ok a0).2 _ h⟩
 rw [if_neg e27] at h
 by_cases e28 : f = some 28
 ·rw [if_pos e28] at h; exact ⟨28, e28, (@code_partB_ok a0).1, (@code_partB_ok a0).2 _ h⟩
 rw [if_neg e28] at h
 by_cases e30 : f = some 30
 ·rw [if_pos e30] at h; exact ⟨30, e30, (@code_partC_ok a0).1, (@code_partC_ok a0).2 _ h⟩
 rw [if_neg e30] at h
 cases h

theorem code_Check_ok {a0} : PO Try.prog 11 [code_Op.Pv a0] (code_Check a0) fun r => .I r := by
 refine pO Try.func11 fun r h _ _ => ?_
 unfold code_Check at h
 refine S4 2 J <| dr [] Ty.mix (by kernel_rfl) (by kernel_rfl) <| bnE h fun v1 hv1 h => d2f J (o_clF J code_demands_ok J hv1) J <| S7 2 J <| d4 J (o_lkI (es := v1) (k := a0.Kind) (E := (Ls code_demand.Pv)) (EK := iF) (d := .tup [.L code_demand.Pv ((mget v1 a0.Kind).getD ([] : List code_demand)), .bool ((mget v1 a0.Kind).isSome)]) J J Ty.mm51 (keyT_int Ty.u3) Ty.z49 J (lk2 _ _ ([] : List code_demand))) J <| S8 5 J <| pw_seq <| S4 2 J ?_
 refine cN h (fun hc h => ?_) fun hc h => ?_
 ·refine S4 1 J ?_
  refine pw_ret ?_
  cases h
  exact f1
 ·refine pw_skip ?_
  refine jq h (fun _ => St.of [] []) (fun q9 h => ?_) fun κ8 h => ?_
  ·refine S4 1 J ?_
   refine pw_ret ?_
   cases h
   exact f1
  ·refine S3 1 J ?_
   refine nL J Ty.e49 <| S2 1 J <| pw_block <| lq h (fun s11 => St.of [(1, .ptr 1 0 0), (17, .L code_demand.Pv ((mget v1 a0.Kind).getD ([] : List code_demand))), (18, .I (((mget v1 a0.Kind).getD ([] : List code_demand)).length : Int)), (19, .I s11)] [(1, vR (code_Op.Pv a0) 4)]) W fun s11 x12 h hx13 => S4 1 J <| pw_seq ?_
   refine cN h (fun hc h => ?_) fun hc h => ?_
   ·refine pw_skip ?_
    refine pw_seq <| pw_block <| sR <| iL h J J Ty.e49 Ty.s55 fun v13 _ h => S2 3 J <| S3 3 J ?_
    obtain ⟨v14, hv15, h⟩ := bindE h
    obtain ⟨n15, he16, hk17, hp18⟩ := fvcall0_ok hv15
    refine y_wk (wk_fn 24 J he16) <| y0 J (o_call J hk17 J hp18) <| S2 1 J <| S3 5 J <| y_if J (fun hg => mI J) <| y_if J (fun hg => oF J Ty.f55_2 J) <| y_if J (fun hg => oS (ct hg) J J Ty.a3 J) <| y_if J (fun hg => o_cmp (ct hg) (ct hg) J) <| y0 J (pk_or J J J (fun q => eqF q)) <| yN ?_
    refine cN h (fun hc h => ?_) fun hc h => ?_
    ·refine S4 3 J ?_
     refine pw_ret ?_
     have h := xL hx13 h
     cases h
     exact f1
    ·refine pw_skip ?_
     refine S6 2 J ?_
     exact eL h W
   ·refine pw_exit ?_
    refine thenQ_exit <| thenQ_exit <| blockQ_exit ?_
    have h := xL hx13 h
    exact eJ h W

theorem code_Decode_ok {a0} : PO Try.prog 9 [.L iF a0] (code_Decode a0) fun r => .tup [code_Op.Pv r.1, .I r.2] := by
 refine pO Try.func9 fun r h _ _ => ?_
 refine S4 2 J <| pw_seq <| S3 1 J <| nL J Ty.e24 <| S2 1 J ?_
 refine cN h (fun hc h => ?_) fun hc h => ?_
 ·refine sR ?_
  refine y0 J (o_build (cs := [.I 0, .I 0, .I 0, .I 0]) J Ty.p23 Ty.z23 J J J) <| S2 2 J <| pw_ret ?_
  cases h
  exact ⟨J, [_, _], ⟨oL J J J Ty.a23 Ty.s23 nl J, ⟨J, tr⟩⟩, J, io⟩
 ·refine pw_skip ?_
  refine dr [] Ty.mix (by kernel_rfl) (by kernel_rfl) <| S7 1 J <| bnE h fun v1 hv1 h => d0 J (o_ixL (f := iF) (cs := [.I v1]) hv1 J J Ty.e24 Ty.s3 J J) J <| S7 2 J <| bnE h fun v2 hv2 h => d0 J (o_ixL (f := iF) (cs := [.I v2]) hv2 J J Ty.e24 Ty.s3 J J) J <| S7 2 J <| bnE h fun v3 hv3 h => d0 J (o_ixL (f := iF) (cs := [.I v3]) hv3 J J Ty.e24 Ty.s3 J J) J <| S7 2 J <| bnE h fun v4 hv4 h => d0 J (o_ixL (f := iF) (cs := [.I v4]) hv4 J J Ty.e24 Ty.s3 J J) J <| S7 1 J <| d7 J (fun _ hN => o_build (cs := [.I v1, .I v2, .I v3, .I v4]) J Ty.p23 Ty.z23 J J J) J <| S7 1 J <| d_sto (x' := .agg [.I v1, .I v2, .I v3, .I v4]) (cl' := true) J J (.inl J) Ty.s23 <| d_nil <| pw_seq <| S3 1 J <| cA h code_Check_ok J J fun v5 _ h => S2 1 J <| S4 2 J ?_
  refine cN h (fun hc h => ?_) fun hc h => ?_
  ·refine sR ?_
   refine y0 J (o_build (cs := [.I 0, .I 0, .I 0, .I 0]) J Ty.p23 Ty.z23 J J J) <| S2 3 J <| pw_ret ?_
   cases h
   exact ⟨J, [_, _], ⟨oL J J J Ty.a23 Ty.s23 nl J, ⟨J, tr⟩⟩, J, io⟩
  ·refine pw_skip ?_
   refine S4 3 J <| pw_ret ?_
   cases h
   exact ⟨J, [_, _], ⟨oL J J J Ty.a23 Ty.s23 nl J, ⟨J, tr⟩⟩, J, io⟩

theorem code_Plain_ok {a0} : PO Try.prog 17 [code_Op.Pv a0] (code_Plain a0) fun r => .bool r := by
 refine pO Try.func17 fun r h _ _ => ?_
 unfold code_Plain at h
 refine S4 2 J <| S3 4 J <| y_if J (fun hg => oF J Ty.f23_0 J) <| y_if J (fun hg => oS (ct hg) J J Ty.a3 J) <| y_if J (fun hg => o_cmp (ct hg) J J) <| y0 J (pk_and J J J (fun q => eqT q)) <| S2 1 J <| pw_ret ?_
 cases h
 exact f1

theorem code_Progs_ok {a0} : PO Try.prog 19 [.L (Ls code_Op.Pv) a0] (code_Progs a0) fun r => .bool r := by
 refine pO Try.func19 fun r h _ _ => ?_
 refine S4 1 J <| pw_seq <| S3 1 J <| nL J Ty.e41 <| S2 1 J ?_
 refine cN h (fun hc h => ?_) fun hc h => ?_
 ·refine S4 1 J ?_
  refine pw_ret ?_
  cases h
  exact f1
 ·refine pw_skip ?_
  refine jq h (fun _ => St.of [] []) (fun q21 h => ?_) fun κ20 h => ?_
  ·refine S4 1 J ?_
   refine pw_ret ?_
   cases h
   exact f1
  ·refine S3 1 J ?_
   refine nL J Ty.e41 <| S2 1 J <| pw_block <| lq h (fun s23 => St.of [(10, .L (Ls code_Op.Pv) a0), (11, .I (a0.length : Int)), (12, .I s23)] []) W fun s23 x24 h hx22 => S4 1 J <| pw_seq ?_
   refine cN h (fun hc h => ?_) fun hc h => ?_
   ·refine pw_skip ?_
    refine jq h (fun _ => St.of [(10, .L (Ls code_Op.Pv) a0), (11, .I (a0.length : Int)), (12, .I s23)] []) (fun q33 h => ?_) fun κ32 h => ?_
    ·refine S6 2 J ?_
     exact eL h W
    ·refine pw_block ?_
     refine sR <| iL h J J Ty.e41 Ty.s42 fun v34 _ h => S2 2 J <| pw_seq <| S3 1 J <| nL J Ty.e42 <| S2 1 J ?_
     refine cN h (fun hc h => ?_) fun hc h => ?_
     ·refine S4 1 J ?_
      refine pw_ret ?_
      have h := xL hx22 h
      cases h
      exact f1
     ·refine pw_skip ?_
      refine S3 1 J <| nL J Ty.e42 <| S2 1 J <| pw_block <| lq h (fun s36 => St.of [(10, .L (Ls code_Op.Pv) a0), (11, .I (a0.length : Int)), (12, .I s23), (19, .L code_Op.Pv v34), (20, .I (v34.length : Int)), (21, .I s36)] []) W fun s36 x37 h hx34 => S4 1 J <| pw_seq ?_
      refine cN h (fun hc h => ?_) fun hc h => ?_
      ·refine pw_skip ?_
       refine pw_seq <| pw_block <| sR <| iL h J J Ty.e42 Ty.s23 fun v38 _ h => S2 3 J <| S3 1 J <| cA h code_Plain_ok J J fun v39 _ h => S1 2 J <| y_if J (fun hg => oL J J J Ty.a23 Ty.s23 nl J) <| bnE h fun v40 hv37 h => y_if J (fun hg => o_cl J code_Check_ok (consE (ct hg) J) (onlyE hv37 hg)) <| y_if J (fun hg => o_cmp (ct hg) J J) <| y0 J (pk_or J J J (fun q => eqF q)) <| yN ?_
       refine cN h (fun hc h => ?_) fun hc h => ?_
       ·refine S4 1 J ?_
        refine pw_ret ?_
        have h := xL hx34 h
        have h := xL hx22 h
        cases h
        exact f1
       ·refine pw_skip ?_
        refine S6 2 J ?_
        exact eL h W
      ·refine pw_exit ?_
       refine thenQ_exit <| thenQ_exit <| blockQ_exit ?_
       have h := xL hx34 h
       exact eJ h W
   ·refine pw_exit ?_
    refine thenQ_exit <| thenQ_exit <| blockQ_exit ?_
    have h := xL hx22 h
    exact eJ h W

theorem code_Encode_ok {a0} : PO Try.prog 15 [code_Op.Pv a0] (code_Encode a0) fun r => .lst true (List.map iF r) := by
 refine pO Try.func15 fun r h _ _ => ?_
 unfold code_Encode at h
 refine S4 2 J <| S3 8 J <| y0 J (o_bI (f := iF) (l := [a0.Kind, a0.A, a0.B, a0.C]) J Ty.e24 Ty.s3 Ty.z3 J J nl J J) <| S2 1 J <| pw_ret ?_
 cases h
 exact f1

theorem w17_shown_ok : PO Try.prog 8 [] (w17_shown) fun r => .bool r := by
 refine pO Try.func8 fun r h _ _ => ?_
 refine S4 1 J <| sR <| y0 J (o_bI (f := iF) (l := [1, 5, 4, (-1)]) J Ty.e24 Ty.s3 Ty.z3 J J nl J J) <| cA h code_Decode_ok J J fun v1 _ h => S2 6 J <| sR <| y0 J (o_bI (f := iF) (l := [2, 0, 6, 9]) J Ty.e24 Ty.s3 Ty.z3 J J nl J J) <| cA h code_Decode_ok J J fun v2 _ h => S2 6 J <| sR <| y0 J (o_bI (f := iF) (l := [2, 0, 1]) J Ty.e24 Ty.s3 Ty.z3 J J nl J J) <| cA h code_Decode_ok J J fun v3 _ h => S2 6 J <| sR <| y0 J (o_bI (f := iF) (l := [13, 0, 0, 0]) J Ty.e24 Ty.s3 Ty.z3 J J nl J J) <| cA h code_Decode_ok J J fun v4 _ h => S2 6 J <| S3 1 J <| y0 J (o_build (cs := [.I 1, .I 5, .I 4, .I (-1)]) J Ty.p23 Ty.z23 J J J) <| y0 J (o_eqA (xs := code_Op.Pc v1.1) (ys := [.I 1, .I 5, .I 4, .I (-1)]) Ty.q23 J J J) <| S1 1 J <| y_if J (fun hg => mI J) <| y_if J (fun hg => o_cmp (ct hg) J J) <| y0 J (pk_and J J J (fun q => eqT q)) <| S1 1 J <| y_if J (fun hg => mI J) <| y_if J (fun hg => o_cmp (ct hg) J J) <| y0 J (pk_and J J J (fun q => eqT q)) <| S1 1 J <| y_if J (fun hg => mI J) ?_
 refine y_if J (fun hg => o_cmp (ct hg) J J) <| y0 J (pk_and J J J (fun q => eqT q)) <| S1 1 J <| y_if J (fun hg => mI J) <| y_if J (fun hg => o_cmp (ct hg) J J) <| y0 J (pk_and J J J (fun q => eqT q)) <| S1 1 J <| y_if J (fun hg => o_build (cs := [.I 12, .I 201, .I 0, .I 0]) J Ty.p23 Ty.z23 J J J) <| bnE h fun v5 hv5 h => y_if J (fun hg => o_cl J code_Check_ok (consE (ct hg) J) (onlyE hv5 hg)) <| y_if J (fun hg => o_cmp (ct hg) J J) <| y0 J (pk_and J J J (fun q => eqT q)) <| S1 1 J <| y_if J (fun hg => oL J J J Ty.a23 Ty.s23 nl J) <| bnE h fun v6 hv6 h => y_if J (fun hg => o_cl J code_Plain_ok (consE (ct hg) J) (onlyE hv6 hg)) <| y0 J (pk_and J J J (fun q => eqT q)) <| S1 1 J <| y_if J (fun hg => o_build (cs := [.I 11, .I 0, .I 0, .I 0]) J Ty.p23 Ty.z23 J J J) <| bnE h fun v7 hv7 h => y_if J (fun hg => o_cl J code_Plain_ok (consE (ct hg) J) (onlyE hv7 hg)) <| y_if J (fun hg => o_not (ct hg) J) <| y0 J (pk_and J J J (fun q => eqT q)) <| S1 1 J <| y_if J (fun hg => oL J J J Ty.a23 Ty.s23 nl J) <| y_if J (fun hg => o_bI (f := code_Op.Pv) (l := [v1.1]) (consE (partE (ct hg)) J) Ty.e42 Ty.s23 Ty.z23 J J nl J J) <| y_if J (fun hg => o_bI (f := (Ls code_Op.Pv)) (l := [[v1.1]]) (consE (partE (ct hg)) J) Ty.e41 Ty.s42 Ty.z42 J J nl J J) <| bnE h fun v8 hv8 h => y_if J (fun hg => o_cl J code_Progs_ok (consE (ct hg) J) (onlyE hv8 hg)) <| y0 J (pk_and J J J (fun q => eqT q)) <| S1 1 J <| y_if J (fun hg => o_build (cs := [.I 12, .I 0, .I 0, .I 0]) J Ty.p23 Ty.z23 J J J) <| y_if J (fun hg => o_bI (f := code_Op.Pv) (l := [(⟨12, 0, 0, 0⟩ : code_Op)]) (consE (partE (ct hg)) J) Ty.e42 Ty.s23 Ty.z23 J J nl J J) <| y_if J (fun hg => o_bI (f := (Ls code_Op.Pv)) (l := [[(⟨12, 0, 0, 0⟩ : code_Op)]]) (consE (partE (ct hg)) J) Ty.e41 Ty.s42 Ty.z42 J J nl J J) <| bnE h fun v9 hv9 h => y_if J (fun hg => o_cl J code_Progs_ok (consE (ct hg) J) (onlyE hv9 hg)) <| y_if J (fun hg => o_not (ct hg) J) <| y0 J (pk_and J J J (fun q => eqT q)) <| S1 1 J <| y_if J (fun hg => oL J J J Ty.a23 Ty.s23 nl J) <| bnE h fun v10 hv10 h => y_ifc J (fun hg => o_clF J code_Encode_ok (consE (ct hg) J) (onlyE hv10 hg)) <| y_if J (fun hg => o_lnL (f := iF) (ct hg) Ty.e24) <| y_if J (fun hg => o_cmp (ct hg) J J) <| y0 J (pk_and J J J (fun q => eqT q)) <| S2 1 J <| pw_ret ?_
 cases h
 exact f1

theorem r17_in_ok {a0 a1 a2 a3} : PO Try.prog 23 [.I a0, .I a1, .I a2, .I a3] (r17_in a0 a1 a2 a3) fun r => .I r := by
 refine pO Try.func23 fun r h _ _ => ?_
 refine S4 1 J <| pw_seq <| S3 4 J <| y_if J (fun hg => mI J) <| y_if J (fun hg => mI J) <| y_if J (fun hg => o_cmp (ct hg) (ct hg) J) <| y0 J (pk_or J J J (fun q => eqF q)) <| yN ?_
 refine cN h (fun hc h => ?_) fun hc h => ?_
 ·refine S4 2 J ?_
  refine pw_ret ?_
  cases h
  exact f1
 ·refine pw_skip ?_
  refine S4 1 J <| pw_ret ?_
  cases h
  exact f1

theorem r17_first_ok {a0 a1 a2} : PO Try.prog 24 [.I a0, .I a1, .I a2] (r17_first a0 a1 a2) fun r => .I r := by
 refine pO Try.func24 fun r h _ _ => ?_
 refine S4 1 J <| pw_seq <| S4 2 J ?_
 refine cN h (fun hc h => ?_) fun hc h => ?_
 ·refine S4 2 J ?_
  refine pw_ret ?_
  cases h
  exact f1
 ·refine pw_skip ?_
  refine pw_seq <| S4 2 J ?_
  refine cN h (fun hc h => ?_) fun hc h => ?_
  ·refine S4 2 J ?_
   refine pw_ret ?_
   cases h
   exact f1
  ·refine pw_skip ?_
   refine S4 2 J <| pw_ret ?_
   cases h
   exact f1

theorem r17_Check_ok {a0} : PO Try.prog 12 [r17_Op.Pv a0] (r17_Check a0) fun r => .I r := by
 refine pO Try.func12 fun r h _ _ => ?_
 refine S4 2 J <| S3 2 J <| cA h r17_in_ok J J fun v1 _ h => S2 1 J <| S3 2 J <| cA h r17_in_ok J J fun v2 _ h => S2 1 J <| pw_seq <| S4 2 J <| pw_block <| S4 2 J ?_
 refine cN h (fun hc h => ?_) fun hc h => ?_
 ·refine dr [] Ty.mix (by kernel_rfl) (by kernel_rfl) ?_
  refine S7 3 J <| bnE h fun v3 hv3 h => d2 J (o_cl J r17_in_ok J hv3) J <| S7 2 J <| bnE h fun v4 hv4 h => d2 J (o_cl J r17_in_ok J hv4) J <| bnE h fun v5 hv5 h => d2 J (o_cl J r17_first_ok J hv5) J <| S8 1 J <| pw_ret ?_
  cases h
  exact f1
 ·refine jq h (fun j7 => St.of [(1, .ptr 1 0 0), (3, .I v1), (4, .I v2), (12, .I a0.Kind), (23, .bool j7)] [(1, vR (r17_Op.Pv a0) 4)]) (fun j7 h => ?_) fun κ6 h => ?_
  ·refine cN h (fun hc h => ?_) fun hc h => ?_
   ·refine S3 2 J ?_
    refine cA h r17_first_ok J J fun v8 _ h => S2 1 J <| pw_ret ?_
    cases h
    exact f1
   ·refine S4 2 J ?_
    refine cN h (fun hc h => ?_) fun hc h => ?_
    ·refine S4 2 J ?_
     refine pw_ret ?_
     cases h
     exact f1
    ·refine S4 2 J ?_
     refine cN h (fun hc h => ?_) fun hc h => ?_
     ·refine S3 4 J ?_
      refine cA h r17_in_ok J J fun v9 _ h => cA h r17_first_ok J J fun v10 _ h => S2 1 J <| pw_ret ?_
      cases h
      exact f1
     ·refine S4 2 J ?_
      refine cN h (fun hc h => ?_) fun hc h => ?_
      ·refine dr [] Ty.mix (by kernel_rfl) (by kernel_rfl) ?_
       refine S7 3 J <| bnE h fun v11 hv10 h => d2 J (o_cl J r17_in_ok J hv10) J <| S7 2 J <| bnE h fun v12 hv11 h => d2 J (o_cl J r17_in_ok J hv11) J <| bnE h fun v13 hv12 h => d2 J (o_cl J r17_first_ok J hv12) J <| S8 1 J <| pw_ret ?_
       cases h
       exact f1
      ·refine S4 2 J ?_
       refine cN h (fun hc h => ?_) fun hc h => ?_
       ·refine dr [] Ty.mix (by kernel_rfl) (by kernel_rfl) ?_
        refine S7 2 J <| bnE h fun v14 hv13 h => d2 J (o_cl J r17_in_ok J hv13) J <| S7 2 J <| bnE h fun v15 hv14 h => d2 J (o_cl J r17_in_ok J hv14) J <| S7 2 J <| bnE h fun v16 hv15 h => d2 J (o_cl J r17_in_ok J hv15) J <| bnE h fun v17 hv16 h => d2 J (o_cl J r17_first_ok J hv16) J <| S8 1 J <| pw_ret ?_
        cases h
        exact f1
       ·refine S4 2 J ?_
        refine cN h (fun hc h => ?_) fun hc h => ?_
        ·refine S3 3 J ?_
         refine cA h r17_in_ok J J fun v18 _ h => cA h r17_first_ok J J fun v19 _ h => S2 1 J <| pw_ret ?_
         cases h
         exact f1
        ·refine S4 2 J ?_
         refine cN h (fun hc h => ?_) fun hc h => ?_
         ·refine S3 3 J ?_
          refine cA h r17_in_ok J J fun v20 _ h => cA h r17_first_ok J J fun v21 _ h => S2 1 J <| pw_ret ?_
          cases h
          exact f1
         ·refine S4 2 J ?_
          refine cN h (fun hc h => ?_) fun hc h => ?_
          ·refine S4 1 J ?_
           refine pw_ret ?_
           cases h
           exact f1
          ·refine S4 2 J ?_
           refine cN h (fun hc h => ?_) fun hc h => ?_
           ·refine S3 2 J ?_
            refine cA h r17_in_ok J J fun v22 _ h => S2 1 J <| pw_ret ?_
            cases h
            exact f1
           ·refine pw_skip ?_
            refine S4 1 J <| pw_ret ?_
            cases h
            exact f1
  ·refine S4 2 J ?_
   refine cN h (fun hc h => ?_) fun hc h => ?_
   ·refine pw_skip ?_
    exact eJ h W
   ·refine S4 2 J ?_
    refine cN h (fun hc h => ?_) fun hc h => ?_
    ·refine pw_skip ?_
     exact eJ h W
    ·refine S6 2 J ?_
     exact eJ h W

theorem r17_Decode_ok {a0} : PO Try.prog 10 [.L iF a0] (r17_Decode a0) fun r => .tup [r17_Op.Pv r.1, .I r.2] := by
 refine pO Try.func10 fun r h _ _ => ?_
 refine S4 2 J <| pw_seq <| S3 1 J <| nL J Ty.e24 <| S2 1 J ?_
 refine cN h (fun hc h => ?_) fun hc h => ?_
 ·refine sR ?_
  refine y0 J (o_build (cs := [.I 0, .I 0, .I 0, .I 0]) J Ty.p29 Ty.z29 J J J) <| S2 2 J <| pw_ret ?_
  cases h
  exact ⟨J, [_, _], ⟨oL J J J Ty.a29 Ty.s29 nl J, ⟨J, tr⟩⟩, J, io⟩
 ·refine pw_skip ?_
  refine dr [] Ty.mix (by kernel_rfl) (by kernel_rfl) <| S7 1 J <| bnE h fun v1 hv1 h => d0 J (o_ixL (f := iF) (cs := [.I v1]) hv1 J J Ty.e24 Ty.s3 J J) J <| S7 2 J <| bnE h fun v2 hv2 h => d0 J (o_ixL (f := iF) (cs := [.I v2]) hv2 J J Ty.e24 Ty.s3 J J) J <| S7 2 J <| bnE h fun v3 hv3 h => d0 J (o_ixL (f := iF) (cs := [.I v3]) hv3 J J Ty.e24 Ty.s3 J J) J <| S7 2 J <| bnE h fun v4 hv4 h => d0 J (o_ixL (f := iF) (cs := [.I v4]) hv4 J J Ty.e24 Ty.s3 J J) J <| S7 1 J <| d7 J (fun _ hN => o_build (cs := [.I v1, .I v2, .I v3, .I v4]) J Ty.p29 Ty.z29 J J J) J <| S7 1 J <| d_sto (x' := .agg [.I v1, .I v2, .I v3, .I v4]) (cl' := true) J J (.inl J) Ty.s29 <| d_nil <| S3 1 J <| cA h r17_Check_ok J J fun v5 _ h => S2 1 J <| pw_seq <| S4 2 J ?_
  refine cN h (fun hc h => ?_) fun hc h => ?_
  ·refine sR ?_
   refine y0 J (o_build (cs := [.I 0, .I 0, .I 0, .I 0]) J Ty.p29 Ty.z29 J J J) <| S2 3 J <| pw_ret ?_
   cases h
   exact ⟨J, [_, _], ⟨oL J J J Ty.a29 Ty.s29 nl J, ⟨J, tr⟩⟩, J, io⟩
  ·refine pw_skip ?_
   refine S4 3 J <| pw_ret ?_
   cases h
   exact ⟨J, [_, _], ⟨oL J J J Ty.a29 Ty.s29 nl J, ⟨J, tr⟩⟩, J, io⟩

theorem w17_op_ok {a0} : PO Try.prog 13 [code_Op.Pv a0] (w17_op a0) fun r => r17_Op.Pv r := by
 refine pO Try.func13 fun r h _ _ => ?_
 unfold w17_op at h
 refine S4 2 J <| S4 2 J <| pw_ret ?_
 cases h
 exact ⟨J, [_], ⟨oL J J J Ty.a29 Ty.s29 nl J, tr⟩, J, io⟩

theorem r17_Encode_ok {a0} : PO Try.prog 16 [r17_Op.Pv a0] (r17_Encode a0) fun r => .lst true (List.map iF r) := by
 refine pO Try.func16 fun r h _ _ => ?_
 unfold r17_Encode at h
 refine S4 2 J <| S3 8 J <| y0 J (o_bI (f := iF) (l := [a0.Kind, a0.A, a0.B, a0.C]) J Ty.e24 Ty.s3 Ty.z3 J J nl J J) <| S2 1 J <| pw_ret ?_
 cases h
 exact f1

theorem r02_Ints_ok {a0 a1} : PO Try.prog 14 [.L iF a0, .L iF a1] (r02_Ints a0 a1) fun r => .bool r := by
 refine pO Try.func14 fun r h _ _ => ?_
 refine S4 1 J <| pw_seq <| S3 1 J <| nL J Ty.e24 <| S1 1 J <| nL J Ty.e24 <| S2 1 J ?_
 refine cN h (fun hc h => ?_) fun hc h => ?_
 ·refine S4 1 J ?_
  refine pw_ret ?_
  cases h
  exact f1
 ·refine pw_skip ?_
  refine jq h (fun _ => St.of [] []) (fun q7 h => ?_) fun κ6 h => ?_
  ·refine S4 1 J ?_
   refine pw_ret ?_
   cases h
   exact f1
  ·refine S4 1 J ?_
   refine pw_block <| lq h (fun s9 => St.of [(0, .L iF a0), (1, .L iF a1), (5, .I s9)] []) W fun s9 x10 h hx9 => pw_seq <| S3 2 J <| nL J Ty.e24 <| S2 1 J ?_
   refine cN h (fun hc h => ?_) fun hc h => ?_
   ·refine pw_skip ?_
    refine pw_seq <| pw_block <| dr [] Ty.mix (by kernel_rfl) (by kernel_rfl) <| S7 2 J <| bnE h fun v11 hv10 h => d0 J (o_ixL (f := iF) (cs := [.I v11]) hv10 J J Ty.e24 Ty.s3 J J) J <| S7 3 J <| bnE h fun v12 hv11 h => d0 J (o_ixL (f := iF) (cs := [.I v12]) hv11 J J Ty.e24 Ty.s3 J J) J <| S8 2 J ?_
    refine cN h (fun hc h => ?_) fun hc h => ?_
    ·refine S4 1 J ?_
     refine pw_ret ?_
     have h := xL hx9 h
     cases h
     exact f1
    ·refine pw_skip ?_
     refine S6 3 J ?_
     exact eL h W
   ·refine pw_exit ?_
    refine thenQ_exit <| thenQ_exit <| blockQ_exit ?_
    have h := xL hx9 h
    exact eJ h W

theorem r17_Plain_ok {a0} : PO Try.prog 18 [r17_Op.Pv a0] (r17_Plain a0) fun r => .bool r := by
 refine pO Try.func18 fun r h _ _ => ?_
 unfold r17_Plain at h
 refine S4 2 J <| S3 4 J <| y_if J (fun hg => oF J Ty.f29_0 J) <| y_if J (fun hg => oS (ct hg) J J Ty.a3 J) <| y_if J (fun hg => o_cmp (ct hg) J J) <| y0 J (pk_and J J J (fun q => eqT q)) <| S2 1 J <| pw_ret ?_
 cases h
 exact f1

theorem w17_CodeTells_ok {a0 a1} : PO Try.prog 3 [code_Op.Pv a0, .L iF a1] (w17_CodeTells a0 a1) fun r => .bool r := by
 refine pO Try.func3 fun r h _ _ => ?_
 unfold w17_CodeTells at h
 refine S4 2 J <| pw_seq <| S3 1 J <| nL J Ty.e24 <| S1 2 J <| bnE h fun v1 hv1 h => y_if J (fun hg => o_cl J w17_shown_ok J (onlyE hv1 hg)) <| y_if J (fun hg => o_not (ct hg) J) <| y0 J (pk_or J J J (fun q => eqF q)) <| yN ?_
 refine cN h (fun hc h => ?_) fun hc h => ?_
 ·refine sR ?_
  refine cA h w17_shown_ok J J fun v2 _ h => S2 1 J <| pw_ret ?_
  cases h
  exact f1
 ·refine pw_skip ?_
  refine S3 1 J <| cA h code_Decode_ok J J fun v3 _ h => S2 6 J <| S3 1 J <| cA h r17_Decode_ok J J fun v4 _ h => S2 6 J <| dr [] Ty.mix (by kernel_rfl) (by kernel_rfl) <| S7 1 J <| bnE h fun v5 hv5 h => d2 J (o_cl J code_Check_ok J hv5) J <| S7 1 J <| bnE h fun v6 hv6 h => d2 J (o_cl J w17_op_ok J hv6) J <| bnE h fun v7 hv7 h => d2 J (o_cl J r17_Check_ok J hv7) J <| S7 2 J <| d_if0 J (fun hg => oL J J J Ty.a23 Ty.s23 nl J) J <| bnE h fun v8 hv8 h => d_if2 J (fun hg => o_cl J w17_op_ok (consE (ct hg) J) (onlyE hv8 hg)) J <| d_if0 J (fun hg => oL J J J Ty.a29 Ty.s29 nl J) J <| d_if7 J (fun hg _ hN => o_eqA (xs := r17_Op.Pc v8) (ys := r17_Op.Pc v4.1) Ty.q29 (ct hg) (ct hg) J) J <| d7 J (fun _ hN => pk_and J J J (fun q => eqT q)) J <| S7 1 J <| d_if7 J (fun hg _ hN => mI J) J <| d_if7 J (fun hg _ hN => mI J) J <| d_if7 J (fun hg _ hN => o_cmp (ct hg) (ct hg) J) J <| d7 J (fun _ hN => pk_and J J J (fun q => eqT q)) J <| S7 1 J <| d_if0 J (fun hg => oL J J J Ty.a23 Ty.s23 nl J) J <| bnE h fun v9 hv9 h => d_if2f J (fun hg => o_clF J code_Encode_ok (consE (ct hg) J) (onlyE hv9 hg)) J <| d_if0 J (fun hg => oL J J J Ty.a23 Ty.s23 nl J) J <| d_if2 J (fun hg => o_cl J w17_op_ok (consE (ct hg) J) hv6) J <| bnE h fun v10 hv10 h => d_if2f J (fun hg => o_clF J r17_Encode_ok (consE (ct hg) J) (onlyE hv10 hg)) J <| bnE h fun v11 hv11 h => d_if2 J (fun hg => o_cl J r02_Ints_ok (consE (ct hg) (consE (ct hg) J)) (onlyE hv11 hg)) J <| d7 J (fun _ hN => pk_and J J J (fun q => eqT q)) J <| S7 1 J <| d_if0 J (fun hg => oL J J J Ty.a23 Ty.s23 nl J) J <| bnE h fun v12 hv12 h => d_if2 J (fun hg => o_cl J code_Plain_ok (consE (ct hg) J) (onlyE hv12 hg)) J <| d_if0 J (fun hg => oL J J J Ty.a23 Ty.s23 nl J) J <| d_if2 J (fun hg => o_cl J w17_op_ok (consE (ct hg) J) hv6) J <| bnE h fun v13 hv13 h => d_if2 J (fun hg => o_cl J r17_Plain_ok (consE (ct hg) J) (onlyE hv13 hg)) J <| d_if7 J (fun hg _ hN => o_eqB (ct hg) (ct hg) Ty.u4 J) J <| d7 J (fun _ hN => pk_and J J J (fun q => eqT q)) J <| S8 1 J <| pw_ret ?_
  cases h
  exact f1

theorem w17_progs_ok {a0} : PO Try.prog 21 [.L (Ls code_Op.Pv) a0] (w17_progs a0) fun r => .L (Ls r17_Op.Pv) r := by
 refine pO Try.func21 fun r h _ _ => ?_
 refine S4 1 J <| sR <| y0 J (o_nslice J Ty.e45 Ty.s58) <| S2 1 J ?_
 refine jq h (fun j51 => St.of [(3, .sl 910003)] [(910003, ⟨List.map (Ls r17_Op.Pv) j51, (List.map (Ls r17_Op.Pv) j51).length, true, 1, true⟩)]) (fun j51 h => ?_) fun κ50 h => ?_
 ·refine S4 2 J ?_
  refine pw_ret ?_
  cases h
  exact f1
 ·refine S4 1 J ?_
  refine pw_block <| lq h (fun q => St.of [(0, .L (Ls code_Op.Pv) a0), (3, .sl 910003), (4, .I q.1)] [(910003, ⟨List.map (Ls r17_Op.Pv) q.2, (List.map (Ls r17_Op.Pv) q.2).length, true, 1, true⟩)]) (Wk.trans (wk_nil (t := 3) (l := 920003) (z := 1) J J) (WP (fun l => if l = 910003 then 920003 else l))) fun q56 x55 h hx40 => ?_
  obtain ⟨s53, s54⟩ := q56
  refine pw_seq <| S3 2 J <| nL J Ty.e41 <| S2 1 J ?_
  refine cN h (fun hc h => ?_) fun hc h => ?_
  ·refine pw_skip ?_
   refine jq h (fun j79 => St.of [(0, .L (Ls code_Op.Pv) a0), (3, .sl 38), (4, .I s53)] [(38, ⟨List.map (Ls r17_Op.Pv) j79, s54.length, true, 1, true⟩)]) (fun j79 h => ?_) fun κ78 h => ?_
   ·refine S6 3 J ?_
    exact eL h (Wk.trans (wk_frz _ [38]) (WP (fun l => if l = 910003 then 38 else l)))
   ·refine pw_block ?_
    refine sR <| y0 J (o_nslice J Ty.e58 Ty.s29) <| S2 1 J ?_
    refine jq h (fun j90 => St.of [(0, .L (Ls code_Op.Pv) a0), (3, .sl 910003), (4, .I s53), (5, .sl 910005)] [(910005, ⟨List.map r17_Op.Pv j90, (List.map r17_Op.Pv j90).length, true, 4, true⟩), (910003, ⟨List.map (Ls r17_Op.Pv) s54, (List.map (Ls r17_Op.Pv) s54).length, true, 1, true⟩)]) (fun j90 h => ?_) fun κ89 h => ?_
    ·refine S5 2 J ?_
     refine y_wk (wk_vw 36 J) <| y0 J (o_bI (f := (Ls r17_Op.Pv)) (l := [j90]) J Ty.e45 Ty.s58 Ty.z58 J J nl J J) <| bnE h fun v91 hv66 h => y_app J (o_apR (f := (Ls r17_Op.Pv)) hv66 J J J J J J (.inl ⟨_, J, J⟩) Ty.e45 Ty.s58 Ty.b58 Ty.z58 J (fun _ => J)) J J J <| S2 1 J ?_
     exact eJ h W
    ·refine S4 1 J ?_
     refine pw_block <| lq h (fun q => St.of [(0, .L (Ls code_Op.Pv) a0), (3, .sl 910003), (4, .I s53), (5, .sl 910005), (6, .I q.1)] [(910003, ⟨List.map (Ls r17_Op.Pv) s54, (List.map (Ls r17_Op.Pv) s54).length, true, 1, true⟩), (910005, ⟨List.map r17_Op.Pv q.2, (List.map r17_Op.Pv q.2).length, true, 4, true⟩)]) (Wk.trans (wk_nil (t := 5) (l := 920005) (z := 4) J J) (Wk.trans (wk_frz _ [910003]) (WP (fun l => if l = 910005 then 920005 else l)))) fun q96 x95 h hx69 => ?_
     obtain ⟨s93, s94⟩ := q96
     refine pw_seq <| S3 3 J <| iL h J J Ty.e41 Ty.s42 fun v97 hv70 h => S1 1 J <| nL J Ty.e42 <| S2 1 J ?_
     refine cN h (fun hc h => ?_) fun hc h => ?_
     ·refine pw_skip ?_
      refine pw_seq <| pw_block <| S5 3 J <| y0 J (o_ixL (f := (Ls code_Op.Pv)) (cs := [.L code_Op.Pv v97]) hv70 J J Ty.e41 Ty.s42 J J) <| S1 2 J <| iL h J J Ty.e42 Ty.s23 fun v98 _ h => S1 1 J <| cA h w17_op_ok J J fun v99 _ h => y0 J (o_bI (f := r17_Op.Pv) (l := [v99]) J Ty.e58 Ty.s29 Ty.z29 J J nl J J) <| bnE h fun v100 hv73 h => y_app J (o_apR (f := r17_Op.Pv) hv73 J J J J J J (.inl ⟨_, J, J⟩) Ty.e58 Ty.s29 Ty.b29 Ty.z29 J (fun _ => J)) J J J <| S2 1 J <| S6 3 J ?_
      exact eL h (Wk.trans (wk_frz _ [910003, 34]) (WP (fun l => if l = 910005 then 34 else l)))
     ·refine pw_exit ?_
      refine thenQ_exit <| thenQ_exit <| blockQ_exit ?_
      have h := xL hx69 h
      exact eJ h (Wk.trans (wk_frz _ [910003, 910005]) W)
  ·refine pw_exit ?_
   refine thenQ_exit <| thenQ_exit <| blockQ_exit ?_
   have h := xL hx40 h
   exact eJ h (Wk.trans (wk_frz _ [910003]) W)

theorem r17_Progs_ok {a0} : PO Try.prog 20 [.L (Ls r17_Op.Pv) a0] (r17_Progs a0) fun r => .bool r := by
 refine pO Try.func20 fun r h _ _ => ?_
 refine S4 1 J <| pw_seq <| S3 1 J <| nL J Ty.e45 <| S2 1 J ?_
 refine cN h (fun hc h => ?_) fun hc h => ?_
 ·refine S4 1 J ?_
  refine pw_ret ?_
  cases h
  exact f1
 ·refine pw_skip ?_
  refine jq h (fun _ => St.of [] []) (fun q21 h => ?_) fun κ20 h => ?_
  ·refine S4 1 J ?_
   refine pw_ret ?_
   cases h
   exact f1
  ·refine S4 1 J ?_
   refine pw_block <| lq h (fun s23 => St.of [(0, .L (Ls r17_Op.Pv) a0), (3, .I s23)] []) W fun s23 x24 h hx22 => pw_seq <| S3 2 J <| nL J Ty.e45 <| S2 1 J ?_
   refine cN h (fun hc h => ?_) fun hc h => ?_
   ·refine pw_skip ?_
    refine jq h (fun _ => St.of [(0, .L (Ls r17_Op.Pv) a0), (3, .I s23)] []) (fun q33 h => ?_) fun κ32 h => ?_
    ·refine S6 3 J ?_
     exact eL h W
    ·refine pw_block ?_
     refine pw_seq <| S3 2 J <| iL h J J Ty.e45 Ty.s58 fun v34 hv31 h => S1 1 J <| nL J Ty.e58 <| S2 1 J ?_
     refine cN h (fun hc h => ?_) fun hc h => ?_
     ·refine S4 1 J ?_
      refine pw_ret ?_
      have h := xL hx22 h
      cases h
      exact f1
     ·refine pw_skip ?_
      refine S4 1 J <| pw_block <| lq h (fun s36 => St.of [(0, .L (Ls r17_Op.Pv) a0), (3, .I s23), (4, .I s36)] []) W fun s36 x37 h hx34 => pw_seq <| S3 3 J <| y0 J (o_ixL (f := (Ls r17_Op.Pv)) (cs := [.L r17_Op.Pv v34]) hv31 J J Ty.e45 Ty.s58 J J) <| S1 1 J <| nL J Ty.e58 <| S2 1 J ?_
      refine cN h (fun hc h => ?_) fun hc h => ?_
      ·refine pw_skip ?_
       refine pw_seq <| pw_block <| S3 2 J <| y0 J (o_ixL (f := (Ls r17_Op.Pv)) (cs := [.L r17_Op.Pv v34]) hv31 J J Ty.e45 Ty.s58 J J) <| S1 2 J <| iL h J J Ty.e58 Ty.s29 fun v38 hv35 h => S1 1 J <| cA h r17_Plain_ok J J fun v39 _ h => S1 2 J <| y_if J (fun hg => om (d := .L (Ls r17_Op.Pv) a0) J) <| y_if J (fun hg => mI J) <| y_if J (fun hg => o_ixL (f := (Ls r17_Op.Pv)) (cs := [.L r17_Op.Pv v34]) hv31 (ct hg) (ct hg) Ty.e45 Ty.s58 J J) <| y_if J (fun hg => o_loadRS (ct hg) Ty.a58 J) <| y_if J (fun hg => mI J) <| y_if J (fun hg => o_ixL (f := r17_Op.Pv) (cs := r17_Op.Pc v38) hv35 (ct hg) (ct hg) Ty.e58 Ty.s29 J J) <| y_if J (fun hg => o_loadRA (ct hg) Ty.a29 Ty.s29 nl J) <| bnE h fun v40 hv37 h => y_if J (fun hg => o_cl J r17_Check_ok (consE (ct hg) J) (onlyE hv37 hg)) <| y_if J (fun hg => o_cmp (ct hg) J J) <| y0 J (pk_or J J J (fun q => eqF q)) <| yN ?_
       refine cN h (fun hc h => ?_) fun hc h => ?_
       ·refine S4 1 J ?_
        refine pw_ret ?_
        have h := xL hx34 h
        have h := xL hx22 h
        cases h
        exact f1
       ·refine pw_skip ?_
        refine S6 3 J ?_
        exact eL h W
      ·refine pw_exit ?_
       refine thenQ_exit <| thenQ_exit <| blockQ_exit ?_
       have h := xL hx34 h
       exact eJ h W
   ·refine pw_exit ?_
    refine thenQ_exit <| thenQ_exit <| blockQ_exit ?_
    have h := xL hx22 h
    exact eJ h W

theorem w17_CodeProgs_ok {a0} : PO Try.prog 4 [.L (Ls code_Op.Pv) a0] (w17_CodeProgs a0) fun r => .bool r := by
 refine pO Try.func4 fun r h _ _ => ?_
 unfold w17_CodeProgs at h
 refine S4 1 J <| pw_seq <| S3 1 J <| nL J Ty.e41 <| S1 2 J <| bnE h fun v1 hv1 h => y_if J (fun hg => o_cl J w17_shown_ok J (onlyE hv1 hg)) <| y_if J (fun hg => o_not (ct hg) J) <| y0 J (pk_or J J J (fun q => eqF q)) <| yN ?_
 refine cN h (fun hc h => ?_) fun hc h => ?_
 ·refine sR ?_
  refine cA h w17_shown_ok J J fun v2 _ h => S2 1 J <| pw_ret ?_
  cases h
  exact f1
 ·refine pw_skip ?_
  refine jq h (fun _ => St.of [(0, .L (Ls code_Op.Pv) a0)] []) (fun q8 h => ?_) fun κ7 h => ?_
  ·refine S3 1 J ?_
   refine cA h code_Progs_ok J J fun v9 _ h => S1 1 J <| cF h w17_progs_ok J J fun v10 _ h => cA h r17_Progs_ok J J fun v11 _ h => y0 J (o_eqB J J Ty.u4 J) <| S2 1 J <| pw_ret ?_
   cases h
   exact f1
  ·refine S4 1 J ?_
   refine pw_block <| lq h (fun s13 => St.of [(0, .L (Ls code_Op.Pv) a0), (3, .I s13)] []) W fun s13 x14 h hx13 => pw_seq <| S3 2 J <| nL J Ty.e41 <| S2 1 J ?_
   refine cN h (fun hc h => ?_) fun hc h => ?_
   ·refine pw_skip ?_
    refine pw_seq <| pw_block <| S3 2 J <| iL h J J Ty.e41 Ty.s42 fun v15 _ h => S1 1 J <| nL J Ty.e42 <| S2 1 J ?_
    refine cN h (fun hc h => ?_) fun hc h => ?_
    ·refine S4 1 J ?_
     refine pw_ret ?_
     have h := xL hx13 h
     cases h
     exact f1
    ·refine pw_skip ?_
     refine S6 3 J ?_
     exact eL h W
   ·refine pw_exit ?_
    refine thenQ_exit <| thenQ_exit <| blockQ_exit ?_
    have h := xL hx13 h
    exact eJ h W

theorem w17_CodeBack_ok {a0 a1} : PO Try.prog 5 [code_Op.Pv a0, .L iF a1] (w17_CodeBack a0 a1) fun r => .bool r := by
 refine pO Try.func5 fun r h _ _ => ?_
 unfold w17_CodeBack at h
 refine S4 2 J <| pw_seq <| S3 1 J <| nL J Ty.e24 <| S1 2 J <| bnE h fun v1 hv1 h => y_if J (fun hg => o_cl J w17_shown_ok J (onlyE hv1 hg)) <| y_if J (fun hg => o_not (ct hg) J) <| y0 J (pk_or J J J (fun q => eqF q)) <| yN ?_
 refine cN h (fun hc h => ?_) fun hc h => ?_
 ·refine sR ?_
  refine cA h w17_shown_ok J J fun v2 _ h => S2 1 J <| pw_ret ?_
  cases h
  exact f1
 ·refine pw_skip ?_
  refine S3 1 J <| cF h code_Encode_ok J J fun v3 _ h => cA h code_Decode_ok J J fun v4 _ h => S2 6 J <| S3 1 J <| cA h code_Decode_ok J J fun v5 _ h => S2 6 J <| pw_seq <| S3 2 J <| cA h code_Check_ok J J fun v6 _ h => S1 2 J <| y_if J (fun hg => mI J) <| y_if J (fun hg => o_cmp (ct hg) J J) <| y_if J (fun hg => om (d := .bool (v4.2 == 0)) (ct hg)) <| y_if (want2 J J J) (fun hg => oL J J J Ty.a23 Ty.s23 nl J) <| y_if (want2 J J J) (fun hg => oL J J J Ty.a23 Ty.s23 nl J) <| y_if (want2 J J J) (fun hg => o_neA (xs := code_Op.Pc v4.1) (ys := code_Op.Pc a0) Ty.q23 (ct hg) (ct hg) J J) <| y_if J (fun hg => pk_and (ct hg) J J (fun q => andI hg (eqT q))) <| y0 J (pk_or J J J (fun q => eqF q)) <| S1 1 J <| y_if J (fun hg => mI J) <| y_if J (fun hg => o_cmp (ct hg) J J) <| y_if J (fun hg => om (d := .bool (v4.2 != 0)) (ct hg)) <| y_if (want2 J J J) (fun hg => oL J J J Ty.a23 Ty.s23 nl J) <| y_if (want2 J J J) (fun hg => o_build (cs := [.I 0, .I 0, .I 0, .I 0]) J Ty.p23 Ty.z23 J J J) <| y_if (want2 J J J) (fun hg => o_neA (xs := code_Op.Pc v4.1) (ys := [.I 0, .I 0, .I 0, .I 0]) Ty.q23 (ct hg) (ct hg) J J) <| y_if J (fun hg => pk_and (ct hg) J J (fun q => andI hg (eqT q))) <| y0 J (pk_or J J J (fun q => eqF q)) <| yN ?_
  refine cN h (fun hc h => ?_) fun hc h => ?_
  ·refine S4 1 J ?_
   refine pw_ret ?_
   cases h
   exact f1
  ·refine pw_skip ?_
   refine S3 3 J <| y_if J (fun hg => oL J J J Ty.a23 Ty.s23 nl J) <| bnE h fun v7 hv7 h => y_ifc J (fun hg => o_clF J code_Encode_ok (consE (ct hg) J) (onlyE hv7 hg)) <| y_if J (fun hg => om (d := .L iF a1) J) <| bnE h fun v8 hv8 h => y_if J (fun hg => o_cl J r02_Ints_ok (consE (ct hg) (consE (ct hg) J)) (onlyE hv8 hg)) <| y0 J (pk_or J J J (fun q => eqF q)) <| S2 1 J <| pw_ret ?_
   cases h
   exact f1

theorem w17_CodeLoose_ok {a0 a1} : PO Try.prog 6 [code_Op.Pv a0, .I a1] (w17_CodeLoose a0 a1) fun r => .bool r := by
 refine pO Try.func6 fun r h _ _ => ?_
 refine S4 2 J <| S4 3 J <| S4 3 J <| S4 3 J <| S4 3 J <| S3 4 J <| y_if J (fun hg => oF J Ty.f23_0 J) <| y_if J (fun hg => oS (ct hg) J J Ty.a3 J) <| y_if J (fun hg => o_cmp (ct hg) J J) <| y0 J (pk_or J J J (fun q => eqF q)) <| S1 1 J <| y_if J (fun hg => oF J Ty.f23_0 J) <| y_if J (fun hg => oS (ct hg) J J Ty.a3 J) <| y_if J (fun hg => o_cmp (ct hg) J J) <| y0 J (pk_or J J J (fun q => eqF q)) <| S1 1 J <| y_if J (fun hg => oF J Ty.f23_0 J) <| y_if J (fun hg => oS (ct hg) J J Ty.a3 J) <| y_if J (fun hg => o_cmp (ct hg) J J) <| y0 J (pk_or J J J (fun q => eqF q)) <| S1 1 J <| y_if J (fun hg => oF J Ty.f23_0 J) <| y_if J (fun hg => oS (ct hg) J J Ty.a3 J) <| y_if J (fun hg => o_cmp (ct hg) J J) <| y0 J (pk_or J J J (fun q => eqF q)) <| S2 1 J <| S3 4 J <| y_if J (fun hg => oF J Ty.f23_0 J) <| y_if J (fun hg => oS (ct hg) J J Ty.a3 J) <| y_if J (fun hg => o_cmp (ct hg) J J) ?_
 refine y0 J (pk_or J J J (fun q => eqF q)) <| S2 1 J <| S4 4 J ?_
 refine jq h (fun _ => St.of [(2, .ptr 2 0 0), (6, .ptr 6 0 0), (8, .bool ((a0.Kind == 3) || (a0.Kind == 12))), (9, .bool (a0.Kind == 11))] [(6, vR (.agg [.I a0.Kind, .I a0.A, .I a1, .I a0.C]) 4), (2, vR (code_Op.Pv a0) 4)]) (fun q4 h => ?_) fun κ3 h => ?_
 ·refine dr [] Ty.mix (by kernel_rfl) (by kernel_rfl) ?_
  refine S7 3 J <| d_if7 J (fun hg _ hN => mB J) J <| d_if7 J (fun hg _ hN => o_not (ct hg) J) J <| d7 J (fun _ hN => pk_and J J J (fun q => eqT q)) J <| S7 1 J <| d_if0 J (fun hg => oL J J J Ty.a23 Ty.s23 nl J) J <| bnE h fun v5 hv4 h => d_if2 J (fun hg => o_cl J code_Check_ok (consE (ct hg) J) (onlyE hv4 hg)) J <| d_if0 J (fun hg => oL J J J Ty.a23 Ty.s23 nl J) J <| bnE h fun v6 hv5 h => d_if2 J (fun hg => o_cl J code_Check_ok (consE (ct hg) J) (onlyE hv5 hg)) J <| d_if7 J (fun hg _ hN => o_cmp (ct hg) (ct hg) J) J <| d7 J (fun _ hN => pk_or J J J (fun q => eqF q)) J <| S7 1 J <| d_if7 J (fun hg _ hN => mB J) J <| d_if7 J (fun hg _ hN => o_not (ct hg) J) J <| d_if7 J (fun hg _ hN => om (d := .bool (!(a0.Kind == 11))) (ct hg)) J <| d_if0 (want2 J J J) (fun hg => oL J J J Ty.a23 Ty.s23 nl J) J <| bnE h fun v7 hv6 h => d_if2 (want2 J J J) (fun hg => o_cl J code_Check_ok (consE (ct hg) J) (onlyE hv6 hg)) J <| d_if7 (want2 J J J) (fun hg _ hN => o_cmp (ct hg) J J) J <| d_if7 J (fun hg _ hN => pk_or (ct hg) J J (fun q => andI hg (eqF q))) J <| d7 J (fun _ hN => pk_and J J J (fun q => eqT q)) J <| S7 1 J <| bnE h fun v8 hv7 h => d_if2 J (fun hg => o_cl J w17_shown_ok J (onlyE hv7 hg)) J <| d7 J (fun _ hN => pk_and J J J (fun q => eqT q)) J <| S8 1 J <| pw_ret ?_
  cases h
  exact f1
 ·refine S3 2 J ?_
  refine y_if J (fun hg => mB J) <| y0 J (pk_or J J J (fun q => eqF q)) <| S1 1 J <| y_if J (fun hg => mB J) <| y0 J (pk_or J J J (fun q => eqF q)) <| yN ?_
  refine cN h (fun hc h => ?_) fun hc h => ?_
  ·refine dr [] Ty.mix (by kernel_rfl) (by kernel_rfl) ?_
   refine S7 1 J <| bnE h fun v9 hv8 h => d2 J (o_cl J code_Check_ok J hv8) J <| S7 1 J <| bnE h fun v10 hv9 h => d2 J (o_cl J code_Check_ok J hv9) J <| S8 1 J ?_
   refine cN h (fun hc h => ?_) fun hc h => ?_
   ·refine S4 1 J ?_
    refine pw_ret ?_
    cases h
    exact f1
   ·refine pw_skip ?_
    exact eJ h W
  ·refine pw_skip ?_
   exact eJ h W

theorem w17_CodeKinds_ok {a0 a1 a2 a3} : PO Try.prog 7 [.int .u8 a0, .I a1, .I a2, .I a3] (w17_CodeKinds a0 a1 a2 a3) fun r => .bool r := by
 refine pO Try.func7 fun r h _ _ => ?_
 unfold w17_CodeKinds at h
 refine S4 1 J <| S3 1 J <| y0 J (o_conv J Ty.u5 Ty.i3 J) <| bnE h fun v1 hv1 h => y0 J (o_ari J J hv1) <| S2 2 J <| S3 4 J <| y0 J (o_build (cs := [.I (w64 (1 + v1)), .I a1, .I a2, .I a3]) J Ty.p23 Ty.z23 J J J) <| cA h code_Check_ok J J fun v2 _ h => S2 1 J <| S3 3 J <| y_if J (fun hg => mI J) <| y_if J (fun hg => o_cmp (ct hg) J J) <| y0 J (pk_or J J J (fun q => eqF q)) <| S2 1 J <| pw_seq <| S4 1 J <| pw_block <| S4 2 J ?_
 refine cN h (fun hc h => ?_) fun hc h => ?_
 ·refine S3 3 J ?_
  obtain ⟨v3, hv3, h⟩ := bindE h
  refine y_if J (fun hg => o_cl J w17_shown_ok J (onlyE hv3 hg)) <| y0 J (pk_and J J J (fun q => eqT q)) <| S2 1 J <| pw_ret ?_
  cases h
  exact f1
 ·refine S4 2 J ?_
  refine cN h (fun hc h => ?_) fun hc h => ?_
  ·refine S3 5 J ?_
   refine y_if J (fun hg => mI J) <| y_if J (fun hg => o_cmp (ct hg) J J) <| y0 J (pk_or J J J (fun q => eqF q)) <| y0 J (o_eqB J J Ty.u4 J) <| S1 1 J <| bnE h fun v4 hv4 h => y_if J (fun hg => o_cl J w17_shown_ok J (onlyE hv4 hg)) <| y0 J (pk_and J J J (fun q => eqT q)) <| S2 1 J <| pw_ret ?_
   cases h
   exact f1
  ·refine S4 2 J ?_
   refine cN h (fun hc h => ?_) fun hc h => ?_
   ·refine S3 3 J ?_
    refine y_if J (fun hg => mI J) <| y_if J (fun hg => o_cmp (ct hg) J J) <| y0 J (pk_or J J J (fun q => eqF q)) <| S1 1 J <| bnE h fun v5 hv5 h => y_if J (fun hg => o_cl J w17_shown_ok J (onlyE hv5 hg)) <| y0 J (pk_and J J J (fun q => eqT q)) <| S2 1 J <| pw_ret ?_
    cases h
    exact f1
   ·refine pw_skip ?_
    refine S3 3 J <| y_if J (fun hg => mI J) <| y_if J (fun hg => o_cmp (ct hg) J J) <| y0 J (pk_or J J J (fun q => eqF q)) <| S1 1 J <| y_if J (fun hg => mB J) <| y_if J (fun hg => om (d := .bool ((decide (a1 < 0)) || (decide (a1 > 5)))) (ct hg)) <| y_if (want2 J J J) (fun hg => mI J) <| y_if (want2 J J J) (fun hg => mI J) <| y_if (want2 J J J) (fun hg => mI J) <| y_if (want2 J J J) (fun hg => mI J) <| y_if (want2 J J J) (fun hg => o_build (cs := [.I (w64 (1 + v1)), .I 0, .I a2, .I a3]) (consE (partE (ct hg)) (consE (partE (ct hg)) (consE (partE (ct hg)) J))) Ty.p23 Ty.z23 J J J) <| bnE h fun v6 hv6 h => y_if (want2 J J J) (fun hg => o_cl J code_Check_ok (consE (ct hg) J) (onlyE hv6 hg)) <| y_if (want2 J J J) (fun hg => o_cmp (ct hg) (ct hg) J) <| y_if J (fun hg => pk_or (ct hg) J J (fun q => andI hg (eqF q))) <| y0 J (pk_and J J J (fun q => eqT q)) <| S1 1 J <| bnE h fun v7 hv7 h => y_if J (fun hg => o_cl J w17_shown_ok J (onlyE hv7 hg)) <| y0 J (pk_and J J J (fun q => eqT q)) <| S2 1 J <| pw_ret ?_
    cases h
    exact f1

end Go.Proofs.Ytaodpepkobplkaa.Ok
