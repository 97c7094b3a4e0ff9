/-
 The functions of the program do as the plain functions do.
-/
import Derived.Test.YtnfmdpblilpcbaaGreatI152Ok2
namespace Go.Proofs.YtnfmdpblilpcbaaGreat.Ok
open Go Go.Pw Go.Sh Go.Proofs
set_option linter.unusedVariables false
set_option maxRecDepth 100000
set_option maxHeartbeats 4000000
theorem r10_Put_ok {a0 a1 a2} : PO Tryz.prog 174 [.L r10_Place.Pv a0, .I a1, .I a2] (r10_Put a0 a1 a2) fun r => .tup [.L r10_Place.Pv r.1, .I r.2] := by
 refine pO Tryz.func174 fun r h _ _ => ?_
 refine S4 2 J <| S3 2 J <| cA h r10_Find_ok J J fun v1 _ h => S2 1 J <| pw_seq <| S4 2 J ?_
 refine cN h (fun hc h => ?_) fun hc h => ?_
 ·refine S3 4 J ?_
  refine y0 J (o_build (cs := [.I 1, .I a1, .I a2]) J Ty.p182 Ty.z182 J J J) <| cF h r10_with_ok J J fun v2 _ h => S2 2 J <| pw_ret ?_
  cases h
  exact f2
 ·refine pw_skip ?_
  refine S3 1 J <| nL J Ty.e44 <| S2 1 J <| S3 2 J <| cA h r10_Home_ok J J fun v3 _ h => S2 1 J ?_
  refine jq h (fun _ => St.of [(0, .L r10_Place.Pv a0)] []) (fun q13 h => ?_) fun κ12 h => ?_
  ·refine S4 3 J ?_
   refine pw_ret ?_
   cases h
   exact f2
  ·refine S4 1 J ?_
   refine pw_block <| lq h (fun q => St.of [(0, .L r10_Place.Pv a0), (1, .I a1), (2, .I a2), (9, .I (a0.length : Int)), (10, .I q.1), (11, .I q.2)] []) W fun q18 x17 h hx13 => ?_
   obtain ⟨s15, s16⟩ := q18
   refine pw_seq <| S4 3 J ?_
   refine cN h (fun hc h => ?_) fun hc h => ?_
   ·refine pw_skip ?_
    refine pw_seq <| pw_block <| pw_seq <| S3 2 J <| iL h J J Ty.e44 Ty.s182 fun v19 _ h => S2 3 J ?_
    refine cN h (fun hc h => ?_) fun hc h => ?_
    ·refine S3 4 J ?_
     refine y0 J (o_build (cs := [.I 1, .I a1, .I a2]) J Ty.p182 Ty.z182 J J J) <| cF h r10_with_ok J J fun v20 _ h => S2 2 J <| pw_ret ?_
     have h := xL hx13 h
     cases h
     exact f2
    ·refine pw_skip ?_
     refine S5 3 J <| bnE h fun v21 hv16 h => y0 J (o_ari J J hv16) <| S2 1 J <| S6 3 J ?_
     exact eL h W
   ·refine pw_exit ?_
    refine thenQ_exit <| thenQ_exit <| blockQ_exit ?_
    have h := xL hx13 h
    exact eJ h W

theorem r11_Set_ok {a0 a1 a2} : PO Tryz.prog 91 [.L r10_Place.Pv a0, .I a1, .I a2] (r11_Set a0 a1 a2) fun r => .tup [.L r10_Place.Pv r.1, .I r.2.1, .I r.2.2] := by
 refine pO Tryz.func91 fun r h _ _ => ?_
 refine S4 3 J <| pw_seq <| S4 2 J ?_
 refine cN h (fun hc h => ?_) fun hc h => ?_
 ·refine S4 4 J ?_
  refine pw_ret ?_
  cases h
  exact f3
 ·refine pw_skip ?_
  refine S3 2 J <| cA h r10_Get_ok J J fun v1 _ h => S2 5 J <| pw_seq <| S4 2 J ?_
  refine cN h (fun hc h => ?_) fun hc h => ?_
  ·refine S3 2 J ?_
   refine cF h r10_Drop_ok J J fun v2 _ h => S2 7 J <| S4 5 J <| pw_ret ?_
   cases h
   exact f3
  ·refine pw_skip ?_
   refine S3 3 J <| cF h r10_Put_ok J J fun v3 _ h => S2 5 J <| pw_seq <| S4 2 J ?_
   refine cN h (fun hc h => ?_) fun hc h => ?_
   ·refine S4 5 J ?_
    refine pw_ret ?_
    cases h
    exact f3
   ·refine pw_skip ?_
    refine S4 5 J <| pw_ret ?_
    cases h
    exact f3

theorem r04_Inc_ok {a0} : PO Tryz.prog 97 [.I a0] (r04_Inc a0) fun r => .I r := by
 refine pO Tryz.func97 fun r h _ _ => ?_
 refine S4 1 J <| pw_seq <| S3 1 J <| cA h r04_Stuck_ok J J fun v1 _ h => yN ?_
 refine cN h (fun hc h => ?_) fun hc h => ?_
 ·refine S4 1 J ?_
  refine pw_ret ?_
  cases h
  exact f1
 ·refine pw_skip ?_
  refine pw_seq <| S4 2 J ?_
  refine cN h (fun hc h => ?_) fun hc h => ?_
  ·refine S4 1 J ?_
   refine pw_ret ?_
   cases h
   exact f1
  ·refine pw_skip ?_
   refine S4 3 J <| pw_ret ?_
   cases h
   exact f1

theorem r15_Strong_ok {a0 a1 a2} : PO Tryz.prog 96 [r15_Heap.Pv a0, .I a1, .I a2] (r15_Strong a0 a1 a2) fun r => r15_Heap.Pv r := by
 refine pO Tryz.func96 fun r h _ _ => ?_
 refine S4 2 J <| S3 3 J <| cF h r06_Get_ok J J fun v1 _ h => S2 6 J <| pw_seq <| S4 2 J ?_
 refine cN h (fun hc h => ?_) fun hc h => ?_
 ·refine S4 2 J ?_
  refine pw_ret ?_
  cases h
  exact ⟨J, [_], ⟨oL J J J Ty.a49 Ty.s49 nl J, tr⟩, J, io⟩
 ·refine pw_skip ?_
  refine S4 3 J <| S3 4 J <| cF h r06_Set_ok J J fun v2 _ h => S2 5 J <| S4 2 J <| pw_ret ?_
  cases h
  exact ⟨J, [_], ⟨oL J J J Ty.a49 Ty.s49 nl J, tr⟩, J, io⟩

theorem r15_Retain_ok {a0 a1} : PO Tryz.prog 30 [r15_Heap.Pv a0, .I a1] (r15_Retain a0 a1) fun r => r15_Heap.Pv r := by
 refine pO Tryz.func30 fun r h _ _ => ?_
 refine S4 2 J <| S3 3 J <| cF h r06_Get_ok J J fun v1 _ h => S2 6 J <| dr [] Ty.mix (by kernel_rfl) (by kernel_rfl) <| S7 4 J <| bnE h fun v2 hv2 h => d2 J (o_cl J r04_Inc_ok J hv2) J <| bnE h fun v3 hv3 h => d2f J (o_clF J r15_Strong_ok J hv3) J <| d_sto (x' := r15_Heap.Pv v3) (cl' := true) J J (.inr J) Ty.s49 <| d_nil <| pw_ret ?_
 cases h
 exact ⟨J, [_], ⟨oL J J J Ty.a49 Ty.s49 nl J, tr⟩, J, io⟩

theorem r04_Dec_ok {a0} : PO Tryz.prog 98 [.I a0] (r04_Dec a0) fun r => .tup [.I r.1, .I r.2] := by
 refine pO Tryz.func98 fun r h _ _ => ?_
 refine S4 2 J <| pw_seq <| S3 1 J <| cA h r04_Stuck_ok J J fun v1 _ h => yN ?_
 refine cN h (fun hc h => ?_) fun hc h => ?_
 ·refine S4 2 J ?_
  refine pw_ret ?_
  cases h
  exact f2
 ·refine pw_skip ?_
  refine pw_seq <| S4 2 J ?_
  refine cN h (fun hc h => ?_) fun hc h => ?_
  ·refine S4 2 J ?_
   refine pw_ret ?_
   cases h
   exact f2
  ·refine pw_skip ?_
   refine S4 4 J <| pw_ret ?_
   cases h
   exact f2

theorem r15_Release_ok {a0 a1} : PO Tryz.prog 31 [r15_Heap.Pv a0, .I a1] (r15_Release a0 a1) fun r => r15_Heap.Pv r := by
 refine pO Tryz.func31 fun r h _ _ => ?_
 refine S4 2 J <| S3 3 J <| cF h r06_Get_ok J J fun v1 _ h => S2 6 J <| S3 2 J <| cA h r04_Dec_ok J J fun v2 _ h => S2 5 J <| pw_seq <| S4 2 J ?_
 refine cN h (fun hc h => ?_) fun hc h => ?_
 ·refine S4 2 J ?_
  refine pw_ret ?_
  cases h
  exact ⟨J, [_], ⟨oL J J J Ty.a49 Ty.s49 nl J, tr⟩, J, io⟩
 ·refine pw_skip ?_
  refine S3 3 J <| cF h r15_Strong_ok J J fun v3 _ h => S2 1 J <| pw_ret ?_
  cases h
  exact ⟨J, [_], ⟨oL J J J Ty.a49 Ty.s49 nl J, tr⟩, J, io⟩

theorem r15_Pair_ok {a0 a1 a2} : PO Tryz.prog 27 [r15_Heap.Pv a0, .I a1, .I a2] (r15_Pair a0 a1 a2) fun r => .tup [r15_Heap.Pv r.1, .I r.2] := by
 refine pO Tryz.func27 fun r h _ _ => ?_
 refine S4 3 J <| pw_seq <| S4 2 J ?_
 refine cN h (fun hc h => ?_) fun hc h => ?_
 ·refine S4 3 J ?_
  refine pw_ret ?_
  cases h
  exact ⟨J, [_, _], ⟨oL J J J Ty.a49 Ty.s49 nl J, ⟨J, tr⟩⟩, J, io⟩
 ·refine pw_skip ?_
  refine pw_seq <| S3 2 J <| cA h r15_Lives_ok J J fun v1 _ h => S1 2 J <| y_if J (fun hg => oL J J J Ty.a49 Ty.s49 nl J) <| y_if J (fun hg => mI J) <| bnE h fun v2 hv2 h => y_if J (fun hg => o_cl J r15_maybe_ok (consE (ct hg) (consE (ct hg) J)) (onlyE hv2 hg)) <| y_if J (fun hg => o_not (ct hg) J) <| y0 J (pk_or J J J (fun q => eqF q)) <| yN ?_
  refine cN h (fun hc h => ?_) fun hc h => ?_
  ·refine S4 3 J ?_
   refine pw_ret ?_
   cases h
   exact ⟨J, [_, _], ⟨oL J J J Ty.a49 Ty.s49 nl J, ⟨J, tr⟩⟩, J, io⟩
  ·refine pw_skip ?_
   refine S3 4 J <| cF h r11_Set_ok J J fun v3 _ h => S2 7 J <| pw_seq <| S4 2 J ?_
   refine cN h (fun hc h => ?_) fun hc h => ?_
   ·refine S4 4 J ?_
    refine pw_ret ?_
    cases h
    exact ⟨J, [_, _], ⟨oL J J J Ty.a49 Ty.s49 nl J, ⟨J, tr⟩⟩, J, io⟩
   ·refine pw_skip ?_
    refine S3 2 J <| cF h r15_Retain_ok J J fun v4 _ h => S2 2 J <| S4 3 J <| S3 2 J <| cF h r15_Release_ok J J fun v5 _ h => S2 2 J <| pw_ret ?_
    cases h
    exact ⟨J, [_, _], ⟨oL J J J Ty.a49 Ty.s49 nl J, ⟨J, tr⟩⟩, J, io⟩

theorem r02_Ints_ok {a0 a1} : PO Tryz.prog 41 [.L iF a0, .L iF a1] (r02_Ints a0 a1) fun r => .bool r := by
 refine pO Tryz.func41 fun r h _ _ => ?_
 refine S4 1 J <| pw_seq <| S3 1 J <| nL J Ty.e27 <| S1 1 J <| nL J Ty.e27 <| S2 1 J ?_
 refine cN h (fun hc h => ?_) fun hc h => ?_
 ·refine S4 1 J ?_
  refine pw_ret ?_
  cases h
  exact f1
 ·refine pw_skip ?_
  refine jq h (fun _ => St.of [] []) (fun q7 h => ?_) fun κ6 h => ?_
  ·refine S4 1 J ?_
   refine pw_ret ?_
   cases h
   exact f1
  ·refine S4 1 J ?_
   refine pw_block <| lq h (fun s9 => St.of [(0, .L iF a0), (1, .L iF a1), (5, .I s9)] []) W fun s9 x10 h hx9 => pw_seq <| S3 2 J <| nL J Ty.e27 <| S2 1 J ?_
   refine cN h (fun hc h => ?_) fun hc h => ?_
   ·refine pw_skip ?_
    refine pw_seq <| pw_block <| dr [] Ty.mix (by kernel_rfl) (by kernel_rfl) <| S7 2 J <| bnE h fun v11 hv10 h => d0 J (o_ixL (f := iF) (cs := [.I v11]) hv10 J J Ty.e27 Ty.s3 J J) J <| S7 3 J <| bnE h fun v12 hv11 h => d0 J (o_ixL (f := iF) (cs := [.I v12]) hv11 J J Ty.e27 Ty.s3 J J) J <| S8 2 J ?_
    refine cN h (fun hc h => ?_) fun hc h => ?_
    ·refine S4 1 J ?_
     refine pw_ret ?_
     have h := xL hx9 h
     cases h
     exact f1
    ·refine pw_skip ?_
     refine S6 3 J ?_
     exact eL h W
   ·refine pw_exit ?_
    refine thenQ_exit <| thenQ_exit <| blockQ_exit ?_
    have h := xL hx9 h
    exact eJ h W

theorem r06_Alike_ok {a0 a1} : PO Tryz.prog 160 [r06_Obj.Pv a0, r06_Obj.Pv a1] (r06_Alike a0 a1) fun r => .bool r := by
 refine pO Tryz.func160 fun r h _ _ => ?_
 unfold r06_Alike at h
 refine S4 3 J <| S3 6 J <| y_if J (fun hg => oF J Ty.f63_1 J) <| y_if J (fun hg => oS (ct hg) J J Ty.a3 J) <| y_if J (fun hg => oF J Ty.f63_1 J) <| y_if J (fun hg => oS (ct hg) J J Ty.a3 J) <| y_if J (fun hg => o_cmp (ct hg) (ct hg) J) <| y0 J (pk_and J J J (fun q => eqT q)) <| S1 1 J <| y_if J (fun hg => oF J Ty.f63_2 J) <| y_if J (fun hg => oS (ct hg) J J Ty.a3 J) <| y_if J (fun hg => oF J Ty.f63_2 J) <| y_if J (fun hg => oS (ct hg) J J Ty.a3 J) <| y_if J (fun hg => o_cmp (ct hg) (ct hg) J) <| y0 J (pk_and J J J (fun q => eqT q)) <| S1 1 J <| y_if J (fun hg => oF J Ty.f63_3 J) <| y_if J (fun hg => oS (ct hg) J J Ty.a3 J) <| y_if J (fun hg => oF J Ty.f63_3 J) <| y_if J (fun hg => oS (ct hg) J J Ty.a3 J) <| y_if J (fun hg => o_cmp (ct hg) (ct hg) J) <| y0 J (pk_and J J J (fun q => eqT q)) <| S1 1 J <| y_if J (fun hg => oF J Ty.f63_4 J) <| y_if J (fun hg => oS (ct hg) J J Ty.a4 J) <| y_if J (fun hg => oF J Ty.f63_4 J) <| y_if J (fun hg => oS (ct hg) J J Ty.a4 J) <| y_if J (fun hg => o_eqB (ct hg) (ct hg) Ty.u4 J) <| y0 J (pk_and J J J (fun q => eqT q)) <| S1 1 J ?_
 refine y_if J (fun hg => oF J Ty.f63_5 J) <| y_if J (fun hg => oS (ct hg) J J Ty.a27 J) <| y_if J (fun hg => oF J Ty.f63_5 J) <| y_if J (fun hg => oS (ct hg) J J Ty.a27 J) <| bnE h fun v1 hv1 h => y_if J (fun hg => o_cl J r02_Ints_ok (consE (ct hg) (consE (ct hg) J)) (onlyE hv1 hg)) <| y0 J (pk_and J J J (fun q => eqT q)) <| S2 1 J <| pw_ret ?_
 cases h
 exact f1

theorem r06_Same_ok {a0 a1} : PO Tryz.prog 76 [r06_Store.Pv a0, r06_Store.Pv a1] (r06_Same a0 a1) fun r => .bool r := by
 refine pO Tryz.func76 fun r h _ _ => ?_
 refine S4 3 J <| pw_seq <| S3 6 J <| y_if J (fun hg => oF J Ty.f42_2 J) <| y_if J (fun hg => oS (ct hg) J J Ty.a3 J) <| y_if J (fun hg => oF J Ty.f42_2 J) <| y_if J (fun hg => oS (ct hg) J J Ty.a3 J) <| y_if J (fun hg => o_cmp (ct hg) (ct hg) J) <| y0 J (pk_or J J J (fun q => eqF q)) <| S1 1 J <| y_if J (fun hg => oF J Ty.f42_0 J) <| y_if J (fun hg => oS (ct hg) J J Ty.a40 J) <| y_if J (fun hg => o_lnL (f := r06_Cell.Pv) (ct hg) Ty.e40) <| y_if J (fun hg => oF J Ty.f42_0 J) <| y_if J (fun hg => oS (ct hg) J J Ty.a40 J) <| y_if J (fun hg => o_lnL (f := r06_Cell.Pv) (ct hg) Ty.e40) <| y_if J (fun hg => o_cmp (ct hg) (ct hg) J) <| y0 J (pk_or J J J (fun q => eqF q)) <| yN ?_
 refine cN h (fun hc h => ?_) fun hc h => ?_
 ·refine S4 1 J ?_
  refine pw_ret ?_
  cases h
  exact f1
 ·refine pw_skip ?_
  refine jq h (fun _ => St.of [] []) (fun q8 h => ?_) fun κ7 h => ?_
  ·refine S4 1 J ?_
   refine pw_ret ?_
   cases h
   exact f1
  ·refine S4 1 J ?_
   refine pw_block <| lq h (fun s10 => St.of [(2, .ptr 2 0 0), (3, .ptr 3 0 0), (5, .I s10)] [(3, vR (r06_Store.Pv a1) 3), (2, vR (r06_Store.Pv a0) 3)]) W fun s10 x11 h hx10 => pw_seq <| S3 3 J <| nL J Ty.e40 <| S2 1 J ?_
   refine cN h (fun hc h => ?_) fun hc h => ?_
   ·refine pw_skip ?_
    refine pw_seq <| pw_block <| dr [] Ty.mix (by kernel_rfl) (by kernel_rfl) <| S7 3 J <| bnE h fun v12 hv11 h => d0 J (o_ixL (f := r06_Cell.Pv) (cs := r06_Cell.Pc v12) hv11 J J Ty.e40 Ty.s139 J J) J <| S7 5 J <| bnE h fun v13 hv12 h => d0 J (o_ixL (f := r06_Cell.Pv) (cs := r06_Cell.Pc v13) hv12 J J Ty.e40 Ty.s139 J J) J <| S7 4 J <| d_if7 J (fun hg _ hN => oF J Ty.f42_0 J) J <| d_if0 J (fun hg => oS (ct hg) J J Ty.a40 J) J <| d_if7 J (fun hg _ hN => mI J) J <| d_if0 J (fun hg => o_ixL (f := r06_Cell.Pv) (cs := r06_Cell.Pc v12) hv11 (ct hg) (ct hg) Ty.e40 Ty.s139 J J) J <| d_if7 J (fun hg _ hN => o_fieldAddrR (ct hg) Ty.f139_1 J) J <| d_if0 J (fun hg => o_loadRS (ct hg) Ty.a3 J) J <| d_if7 J (fun hg _ hN => oF J Ty.f42_0 J) J <| d_if0 J (fun hg => oS (ct hg) J J Ty.a40 J) J <| d_if7 J (fun hg _ hN => mI J) J <| d_if0 J (fun hg => o_ixL (f := r06_Cell.Pv) (cs := r06_Cell.Pc v13) hv12 (ct hg) (ct hg) Ty.e40 Ty.s139 J J) J <| d_if7 J (fun hg _ hN => o_fieldAddrR (ct hg) Ty.f139_1 J) J <| d_if0 J (fun hg => o_loadRS (ct hg) Ty.a3 J) J <| d_if7 J (fun hg _ hN => o_cmp (ct hg) (ct hg) J) J <| d7 J (fun _ hN => pk_or J J J (fun q => eqF q)) J <| S7 1 J <| d_if7 J (fun hg _ hN => oF J Ty.f42_0 J) J <| d_if0 J (fun hg => oS (ct hg) J J Ty.a40 J) J <| d_if7 J (fun hg _ hN => mI J) J <| d_if0 J (fun hg => o_ixL (f := r06_Cell.Pv) (cs := r06_Cell.Pc v12) hv11 (ct hg) (ct hg) Ty.e40 Ty.s139 J J) J <| d_if7 J (fun hg _ hN => o_fieldAddrR (ct hg) Ty.f139_2 J) J <| d_if0 J (fun hg => o_loadRA (ct hg) Ty.a63 Ty.s63 nl J) J <| d_if7 J (fun hg _ hN => oF J Ty.f42_0 J) J <| d_if0 J (fun hg => oS (ct hg) J J Ty.a40 J) J <| d_if7 J (fun hg _ hN => mI J) J <| d_if0 J (fun hg => o_ixL (f := r06_Cell.Pv) (cs := r06_Cell.Pc v13) hv12 (ct hg) (ct hg) Ty.e40 Ty.s139 J J) J <| d_if7 J (fun hg _ hN => o_fieldAddrR (ct hg) Ty.f139_2 J) J <| d_if0 J (fun hg => o_loadRA (ct hg) Ty.a63 Ty.s63 nl J) J <| bnE h fun v14 hv13 h => d_if2 J (fun hg => o_cl J r06_Alike_ok (consE (ct hg) (consE (ct hg) J)) (onlyE hv13 hg)) J <| d_if7 J (fun hg _ hN => o_not (ct hg) J) J <| d7 J (fun _ hN => pk_or J J J (fun q => eqF q)) J <| d_nil ?_
    refine cN h (fun hc h => ?_) fun hc h => ?_
    ·refine S4 1 J ?_
     refine pw_ret ?_
     have h := xL hx10 h
     cases h
     exact f1
    ·refine pw_skip ?_
     refine S6 3 J ?_
     exact eL h W
   ·refine pw_exit ?_
    refine thenQ_exit <| thenQ_exit <| blockQ_exit ?_
    have h := xL hx10 h
    exact eJ h W

theorem r09_Same_ok {a0 a1} : PO Tryz.prog 77 [.L r09_Cell.Pv a0, .L r09_Cell.Pv a1] (r09_Same a0 a1) fun r => .bool r := by
 refine pO Tryz.func77 fun r h _ _ => ?_
 refine S4 1 J <| pw_seq <| S3 1 J <| nL J Ty.e43 <| S1 1 J <| nL J Ty.e43 <| S2 1 J ?_
 refine cN h (fun hc h => ?_) fun hc h => ?_
 ·refine S4 1 J ?_
  refine pw_ret ?_
  cases h
  exact f1
 ·refine pw_skip ?_
  refine jq h (fun _ => St.of [] []) (fun q7 h => ?_) fun κ6 h => ?_
  ·refine S4 1 J ?_
   refine pw_ret ?_
   cases h
   exact f1
  ·refine S4 1 J ?_
   refine pw_block <| lq h (fun s9 => St.of [(0, .L r09_Cell.Pv a0), (1, .L r09_Cell.Pv a1), (5, .I s9)] []) W fun s9 x10 h hx9 => pw_seq <| S3 2 J <| nL J Ty.e43 <| S2 1 J ?_
   refine cN h (fun hc h => ?_) fun hc h => ?_
   ·refine pw_skip ?_
    refine pw_seq <| pw_block <| dr [] Ty.mix (by kernel_rfl) (by kernel_rfl) <| S7 2 J <| bnE h fun v11 hv10 h => d0 J (o_ixL (f := r09_Cell.Pv) (cs := r09_Cell.Pc v11) hv10 J J Ty.e43 Ty.s160 J J) J <| S7 3 J <| bnE h fun v12 hv11 h => d0 J (o_ixL (f := r09_Cell.Pv) (cs := r09_Cell.Pc v12) hv11 J J Ty.e43 Ty.s160 J J) J <| S7 1 J <| d7 J (fun _ hN => o_neA (xs := r09_Cell.Pc v11) (ys := r09_Cell.Pc v12) Ty.q160 J J J J) J <| d_nil ?_
    refine cN h (fun hc h => ?_) fun hc h => ?_
    ·refine S4 1 J ?_
     refine pw_ret ?_
     have h := xL hx9 h
     cases h
     exact f1
    ·refine pw_skip ?_
     refine S6 3 J ?_
     exact eL h W
   ·refine pw_exit ?_
    refine thenQ_exit <| thenQ_exit <| blockQ_exit ?_
    have h := xL hx9 h
    exact eJ h W

theorem r10_Same_ok {a0 a1} : PO Tryz.prog 78 [.L r10_Place.Pv a0, .L r10_Place.Pv a1] (r10_Same a0 a1) fun r => .bool r := by
 refine pO Tryz.func78 fun r h _ _ => ?_
 refine S4 1 J <| pw_seq <| S3 1 J <| nL J Ty.e44 <| S1 1 J <| nL J Ty.e44 <| S2 1 J ?_
 refine cN h (fun hc h => ?_) fun hc h => ?_
 ·refine S4 1 J ?_
  refine pw_ret ?_
  cases h
  exact f1
 ·refine pw_skip ?_
  refine jq h (fun _ => St.of [] []) (fun q7 h => ?_) fun κ6 h => ?_
  ·refine S4 1 J ?_
   refine pw_ret ?_
   cases h
   exact f1
  ·refine S4 1 J ?_
   refine pw_block <| lq h (fun s9 => St.of [(0, .L r10_Place.Pv a0), (1, .L r10_Place.Pv a1), (5, .I s9)] []) W fun s9 x10 h hx9 => pw_seq <| S3 2 J <| nL J Ty.e44 <| S2 1 J ?_
   refine cN h (fun hc h => ?_) fun hc h => ?_
   ·refine pw_skip ?_
    refine pw_seq <| pw_block <| dr [] Ty.mix (by kernel_rfl) (by kernel_rfl) <| S7 2 J <| bnE h fun v11 hv10 h => d0 J (o_ixL (f := r10_Place.Pv) (cs := r10_Place.Pc v11) hv10 J J Ty.e44 Ty.s182 J J) J <| S7 3 J <| bnE h fun v12 hv11 h => d0 J (o_ixL (f := r10_Place.Pv) (cs := r10_Place.Pc v12) hv11 J J Ty.e44 Ty.s182 J J) J <| S7 1 J <| d7 J (fun _ hN => o_neA (xs := r10_Place.Pc v11) (ys := r10_Place.Pc v12) Ty.q182 J J J J) J <| d_nil ?_
    refine cN h (fun hc h => ?_) fun hc h => ?_
    ·refine S4 1 J ?_
     refine pw_ret ?_
     have h := xL hx9 h
     cases h
     exact f1
    ·refine pw_skip ?_
     refine S6 3 J ?_
     exact eL h W
   ·refine pw_exit ?_
    refine thenQ_exit <| thenQ_exit <| blockQ_exit ?_
    have h := xL hx9 h
    exact eJ h W

theorem r14_Same_ok {a0 a1} : PO Tryz.prog 79 [r14_Queue.Pv a0, r14_Queue.Pv a1] (r14_Same a0 a1) fun r => .bool r := by
 refine pO Tryz.func79 fun r h _ _ => ?_
 refine S4 3 J <| pw_seq <| S3 6 J <| y_if J (fun hg => oF J Ty.f47_0 J) <| y_if J (fun hg => oS (ct hg) J J Ty.a45 J) <| y_if J (fun hg => o_lnL (f := r14_Task.Pv) (ct hg) Ty.e45) <| y_if J (fun hg => oF J Ty.f47_0 J) <| y_if J (fun hg => oS (ct hg) J J Ty.a45 J) <| y_if J (fun hg => o_lnL (f := r14_Task.Pv) (ct hg) Ty.e45) <| y_if J (fun hg => o_cmp (ct hg) (ct hg) J) <| y0 J (pk_or J J J (fun q => eqF q)) <| yN ?_
 refine cN h (fun hc h => ?_) fun hc h => ?_
 ·refine S4 1 J ?_
  refine pw_ret ?_
  cases h
  exact f1
 ·refine pw_skip ?_
  refine jq h (fun _ => St.of [] []) (fun q7 h => ?_) fun κ6 h => ?_
  ·refine S4 1 J ?_
   refine pw_ret ?_
   cases h
   exact f1
  ·refine S4 1 J ?_
   refine pw_block <| lq h (fun s9 => St.of [(2, .ptr 2 0 0), (3, .ptr 3 0 0), (5, .I s9)] [(3, vR (r14_Queue.Pv a1) 2), (2, vR (r14_Queue.Pv a0) 2)]) W fun s9 x10 h hx9 => pw_seq <| S3 3 J <| nL J Ty.e45 <| S2 1 J ?_
   refine cN h (fun hc h => ?_) fun hc h => ?_
   ·refine pw_skip ?_
    refine pw_seq <| pw_block <| dr [] Ty.mix (by kernel_rfl) (by kernel_rfl) <| S7 3 J <| bnE h fun v11 hv10 h => d0 J (o_ixL (f := r14_Task.Pv) (cs := r14_Task.Pc v11) hv10 J J Ty.e45 Ty.s151 J J) J <| S7 4 J <| bnE h fun v12 hv11 h => d0 J (o_ixL (f := r14_Task.Pv) (cs := r14_Task.Pc v12) hv11 J J Ty.e45 Ty.s151 J J) J <| S7 1 J <| d7 J (fun _ hN => o_neA (xs := r14_Task.Pc v11) (ys := r14_Task.Pc v12) Ty.q151 J J J J) J <| d_nil ?_
    refine cN h (fun hc h => ?_) fun hc h => ?_
    ·refine S4 1 J ?_
     refine pw_ret ?_
     have h := xL hx9 h
     cases h
     exact f1
    ·refine pw_skip ?_
     refine S6 3 J ?_
     exact eL h W
   ·refine pw_exit ?_
    refine thenQ_exit <| thenQ_exit <| blockQ_exit ?_
    have h := xL hx9 h
    exact eJ h W

theorem r15_Same_ok {a0 a1} : PO Tryz.prog 23 [r15_Heap.Pv a0, r15_Heap.Pv a1] (r15_Same a0 a1) fun r => .bool r := by
 refine pO Tryz.func23 fun r h _ _ => ?_
 refine S4 3 J <| S3 4 J <| cA h r06_Same_ok J J fun v1 _ h => S1 1 J <| y_if J (fun hg => oF J Ty.f49_1 J) <| y_if J (fun hg => oS (ct hg) J J Ty.a27 J) <| y_if J (fun hg => oF J Ty.f49_1 J) <| y_if J (fun hg => oS (ct hg) J J Ty.a27 J) <| bnE h fun v2 hv2 h => y_if J (fun hg => o_cl J r02_Ints_ok (consE (ct hg) (consE (ct hg) J)) (onlyE hv2 hg)) <| y0 J (pk_and J J J (fun q => eqT q)) <| S1 1 J <| y_if J (fun hg => oF J Ty.f49_2 J) <| y_if J (fun hg => oS (ct hg) J J Ty.a43 J) <| y_if J (fun hg => oF J Ty.f49_2 J) <| y_if J (fun hg => oS (ct hg) J J Ty.a43 J) <| bnE h fun v3 hv3 h => y_if J (fun hg => o_cl J r09_Same_ok (consE (ct hg) (consE (ct hg) J)) (onlyE hv3 hg)) <| y0 J (pk_and J J J (fun q => eqT q)) <| S1 1 J <| y_if J (fun hg => oF J Ty.f49_3 J) <| y_if J (fun hg => oS (ct hg) J J Ty.a44 J) <| y_if J (fun hg => oF J Ty.f49_3 J) <| y_if J (fun hg => oS (ct hg) J J Ty.a44 J) <| bnE h fun v4 hv4 h => y_if J (fun hg => o_cl J r10_Same_ok (consE (ct hg) (consE (ct hg) J)) (onlyE hv4 hg)) <| y0 J (pk_and J J J (fun q => eqT q)) <| S1 1 J <| y_if J (fun hg => oF J Ty.f49_4 J) <| y_if J (fun hg => oL (ct hg) J J Ty.a47 Ty.s47 nl J) <| y_if J (fun hg => oF J Ty.f49_4 J) <| y_if J (fun hg => oL (ct hg) J J Ty.a47 Ty.s47 nl J) <| bnE h fun v5 hv5 h => y_if J (fun hg => o_cl J r14_Same_ok (consE (ct hg) (consE (ct hg) J)) (onlyE hv5 hg)) <| y0 J (pk_and J J J (fun q => eqT q)) <| S2 1 J <| pw_ret ?_
 cases h
 exact f1

theorem w15_HoldCells_ok {a0 a1 a2 a3 a4} : PO Tryz.prog 4 [hold_Heap.Pv a0, .I a1, .I a2, .I a3, .I a4] (w15_HoldCells a0 a1 a2 a3 a4) fun r => .bool r := by
 refine pO Tryz.func4 fun r h _ _ => ?_
 refine S4 2 J <| pw_seq <| S3 1 J <| cA h w15_sound_ok J J fun v1 _ h => S1 2 J <| y_if J (fun hg => mI J) <| y_if J (fun hg => o_cmp (ct hg) J J) <| y0 J (pk_or J J J (fun q => eqF q)) <| S1 1 J <| y_if J (fun hg => mI J) <| y_if J (fun hg => o_cmp (ct hg) J J) <| y0 J (pk_or J J J (fun q => eqF q)) <| S1 1 J <| bnE h fun v2 hv2 h => y_if J (fun hg => o_cl J w15_shown_ok J (onlyE hv2 hg)) <| y_if J (fun hg => o_not (ct hg) J) <| y0 J (pk_or J J J (fun q => eqF q)) <| yN ?_
 refine cN h (fun hc h => ?_) fun hc h => ?_
 ·refine sR ?_
  refine cA h w15_shown_ok J J fun v3 _ h => S2 1 J <| pw_ret ?_
  cases h
  exact f1
 ·refine pw_skip ?_
  refine S3 4 J <| cF h hold_Weak_ok J J fun v4 _ h => S2 6 J <| S3 1 J <| cF h w15_heap_ok J J fun v5 hv5 h => S1 3 J <| cF h r15_Weak_ok J J fun v6 _ h => S2 6 J <| S3 3 J <| cF h hold_Pair_ok J J fun v7 _ h => S2 6 J <| S3 1 J <| yc J (o_clF J w15_heap_ok J hv5) <| S1 2 J <| cF h r15_Pair_ok J J fun v8 _ h => S2 6 J <| dr [] Ty.mix (by kernel_rfl) (by kernel_rfl) <| S7 1 J <| bnE h fun v9 hv9 h => d2 J (o_cl J w15_few_ok J hv9) J <| S7 1 J <| d_if0 J (fun hg => oL J J J Ty.a34 Ty.s34 nl J) J <| bnE h fun v10 hv10 h => d_if2 J (fun hg => o_cl J w15_few_ok (consE (ct hg) J) (onlyE hv10 hg)) J <| d7 J (fun _ hN => pk_and J J J (fun q => eqT q)) J <| S7 1 J <| d_if0 J (fun hg => oL J J J Ty.a34 Ty.s34 nl J) J <| bnE h fun v11 hv11 h => d_if2f J (fun hg => o_clF J w15_heap_ok (consE (ct hg) J) (onlyE hv11 hg)) J <| d_if0 J (fun hg => oL J J J Ty.a49 Ty.s49 nl J) J <| bnE h fun v12 hv12 h => d_if2 J (fun hg => o_cl J r15_Same_ok (consE (ct hg) (consE (ct hg) J)) (onlyE hv12 hg)) J <| d7 J (fun _ hN => pk_and J J J (fun q => eqT q)) J <| S7 1 J <| d_if7 J (fun hg _ hN => mI J) J <| d_if7 J (fun hg _ hN => mI J) J <| d_if7 J (fun hg _ hN => o_cmp (ct hg) (ct hg) J) J <| d7 J (fun _ hN => pk_and J J J (fun q => eqT q)) J <| S7 1 J <| d_if0 J (fun hg => oL J J J Ty.a34 Ty.s34 nl J) J <| bnE h fun v13 hv13 h => d_if2f J (fun hg => o_clF J w15_heap_ok (consE (ct hg) J) (onlyE hv13 hg)) J <| d_if0 J (fun hg => oL J J J Ty.a49 Ty.s49 nl J) J <| bnE h fun v14 hv14 h => d_if2 J (fun hg => o_cl J r15_Same_ok (consE (ct hg) (consE (ct hg) J)) (onlyE hv14 hg)) J <| d7 J (fun _ hN => pk_and J J J (fun q => eqT q)) J <| S7 1 J <| d_if7 J (fun hg _ hN => mI J) J <| d_if7 J (fun hg _ hN => mI J) J <| d_if7 J (fun hg _ hN => o_cmp (ct hg) (ct hg) J) J <| d7 J (fun _ hN => pk_and J J J (fun q => eqT q)) J <| S8 1 J <| pw_ret ?_
  cases h
  exact f1

end Go.Proofs.YtnfmdpblilpcbaaGreat.Ok
