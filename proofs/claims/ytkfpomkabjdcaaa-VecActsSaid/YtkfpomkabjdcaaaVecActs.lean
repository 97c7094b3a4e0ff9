/-
  For every number, fields, place and handle: package vec answers what the document answers (New, At, With, Names, Count), and the law returns true and leaves the fields as they were.
  Conditions: none beyond that the arguments are values of their Go types.
-/
import Derived.Test.YtkfpomkabjdcaaaRows
import Derived.Test.YtkfpomkabjdcaaaBs
import Derived.Test.YtkfpomkabjdcaaaVs
namespace Go.Proofs.Ytkfpomkabjdcaaa.vecActs
open Go.ChangeShapes Go.WideShapes Go.ChangeAt Go.RowKit
open Bs Vc Vi Vs
set_option linter.unusedVariables false
theorem own : ownKnob Try.prog.godebug = none := by kernel_rfl
theorem laidOut : laidOutB Try.prog = true := by kernel_rfl
theorem walk (a0 : Int) (v1 : Value) (l1 : List Int) (a2 : Int) (a3 : Int) (w : World) (w0 : (Lit.int .i64 a0).wf = true) (s1 : Bs.Sl w (Value.int .i64) v1 l1) (g1 : Bs.Wf l1) (w2 : (Lit.int .i64 a2).wf = true) (w3 : (Lit.int .i64 a3).wf = true) :
    Calls Try.prog 14 #[.int .i64 a0, v1, .int .i64 a2, .int .i64 a3] w fun e w' => e = .returned (.bool true) ∧ Below w.heap.size w w' := by
  have hlen := s1.len_le
  unfold maxLen at hlen
  have s1' := s1
  obtain ⟨A, c, hv, q1, q2, q3⟩ := s1'
  clear q1 q2 q3
  by_cases h1 : 100 < l1.length
  · have h1' : (100 : Int) < (l1.length : Int) := by omega
    subst hv
    clear s1
    go_enter Try.func14, Try.ntmps14
    go_wp2_with fail
    refine (Vs.shown_any w).mono ?_
    rintro e w1 ⟨rfl, b1⟩
    go_wp2_with fail
    go_ret
    exact ⟨rfl, b1⟩
  · have h1' : ¬ (100 : Int) < (l1.length : Int) := by omega
    have hle : l1.length ≤ 1000 := by omega
    subst hv
    have S := Lib.hid s1
    clear s1
    go_enter Try.func14, Try.ntmps14
    go_wp2_with fail
    refine (Vs.shown_any w).mono ?_
    rintro e w0 ⟨rfl, b0⟩
    have S0 := Lib.hid (S.out.below b0)
    have BB := Lib.hid b0
    clear b0 S
    have B0 := Lib.hid BB.out
    go_wp2_with fail
    refine (new_any a0 w0).mono ?_
    rintro e w1 ⟨va, rfl, sa, b⟩
    have B1 := Lib.hid (B0.out.trans (b.mono B0.out.size))
    have S_1 := Lib.hid (S0.out.below b)
    clear S0
    clear b
    have Sa_1 := Lib.hid sa
    clear sa
    go_wp2_with fail
    refine (rnew_any a0 w1).mono ?_
    rintro e w2 ⟨vb, rfl, sb, b⟩
    have B2 := Lib.hid (B1.out.trans (b.mono B1.out.size))
    have S_2 := Lib.hid (S_1.out.below b)
    have Sa_2 := Lib.hid (Sa_1.out.below b)
    clear S_1
    clear Sa_1
    clear b
    have Sb_2 := Lib.hid sb
    clear sb
    go_wp2_with fail
    refine (at_any (.slice A l1.length c) l1 a2 w2 S_2.out).mono ?_
    rintro e wq ⟨rfl, rfl⟩
    go_wp2_with fail
    refine (rat_any (.slice A l1.length c) l1 a2 w2 S_2.out).mono ?_
    rintro e wq ⟨rfl, rfl⟩
    go_wp2_with fail
    refine (with_any (.slice A l1.length c) l1 a2 a3 w2 S_2.out hle).mono ?_
    rintro e w3 ⟨vx, rfl, sx, b⟩
    have B3 := Lib.hid (B2.out.trans (b.mono B2.out.size))
    have S_3 := Lib.hid (S_2.out.below b)
    have Sa_3 := Lib.hid (Sa_2.out.below b)
    have Sb_3 := Lib.hid (Sb_2.out.below b)
    clear S_2
    clear Sa_2
    clear Sb_2
    clear b
    have Sx_3 := Lib.hid sx
    clear sx
    go_wp2_with fail
    refine (rwith_any (.slice A l1.length c) l1 a2 a3 w3 S_3.out hle).mono ?_
    rintro e w4 ⟨vy, rfl, sy, b⟩
    have B4 := Lib.hid (B3.out.trans (b.mono B3.out.size))
    have S_4 := Lib.hid (S_3.out.below b)
    have Sa_4 := Lib.hid (Sa_3.out.below b)
    have Sb_4 := Lib.hid (Sb_3.out.below b)
    have Sx_4 := Lib.hid (Sx_3.out.below b)
    clear S_3
    clear Sa_3
    clear Sb_3
    clear Sx_3
    clear b
    have Sy_4 := Lib.hid sy
    clear sy
    go_wp2_with fail
    refine (ints_b va vb _ _ w4 Sa_4.out Sb_4.out).mono ?_
    rintro e w5 ⟨rfl, b⟩
    rw [decide_eq_true rfl] at *
    have B5 := Lib.hid (B4.out.trans (b.mono B4.out.size))
    have S_5 := Lib.hid (S_4.out.below b)
    have Sa_5 := Lib.hid (Sa_4.out.below b)
    have Sb_5 := Lib.hid (Sb_4.out.below b)
    have Sx_5 := Lib.hid (Sx_4.out.below b)
    have Sy_5 := Lib.hid (Sy_4.out.below b)
    clear S_4
    clear Sa_4
    clear Sb_4
    clear Sx_4
    clear Sy_4
    clear b
    go_wp2_with fail
    refine (ints_b vx vy _ _ w5 Sx_5.out Sy_5.out).mono ?_
    rintro e w6 ⟨rfl, b⟩
    rw [decide_eq_true rfl] at *
    have B6 := Lib.hid (B5.out.trans (b.mono B5.out.size))
    have S_6 := Lib.hid (S_5.out.below b)
    have Sa_6 := Lib.hid (Sa_5.out.below b)
    have Sb_6 := Lib.hid (Sb_5.out.below b)
    have Sx_6 := Lib.hid (Sx_5.out.below b)
    have Sy_6 := Lib.hid (Sy_5.out.below b)
    clear S_5
    clear Sa_5
    clear Sb_5
    clear Sx_5
    clear Sy_5
    clear b
    go_wp2_with fail
    refine (names_any (.slice A l1.length c) l1 hle w6 S_6.out).mono ?_
    rintro e w7 ⟨vn, rfl, sn, b⟩
    have B7 := Lib.hid (B6.out.trans (b.mono B6.out.size))
    have S_7 := Lib.hid (S_6.out.below b)
    have Sa_7 := Lib.hid (Sa_6.out.below b)
    have Sb_7 := Lib.hid (Sb_6.out.below b)
    have Sx_7 := Lib.hid (Sx_6.out.below b)
    have Sy_7 := Lib.hid (Sy_6.out.below b)
    clear S_6
    clear Sa_6
    clear Sb_6
    clear Sx_6
    clear Sy_6
    clear b
    have Sn_7 := Lib.hid sn
    clear sn
    go_wp2_with fail
    refine (rnames_any (.slice A l1.length c) l1 w7 S_7.out hle).mono ?_
    rintro e w8 ⟨vm, rfl, sm, b⟩
    have B8 := Lib.hid (B7.out.trans (b.mono B7.out.size))
    have S_8 := Lib.hid (S_7.out.below b)
    have Sa_8 := Lib.hid (Sa_7.out.below b)
    have Sb_8 := Lib.hid (Sb_7.out.below b)
    have Sx_8 := Lib.hid (Sx_7.out.below b)
    have Sy_8 := Lib.hid (Sy_7.out.below b)
    have Sn_8 := Lib.hid (Sn_7.out.below b)
    clear S_7
    clear Sa_7
    clear Sb_7
    clear Sx_7
    clear Sy_7
    clear Sn_7
    clear b
    have Sm_8 := Lib.hid sm
    clear sm
    go_wp2_with fail
    refine (ints_b vn vm _ _ w8 Sn_8.out Sm_8.out).mono ?_
    rintro e w9 ⟨rfl, b⟩
    rw [decide_eq_true rfl] at *
    have B9 := Lib.hid (B8.out.trans (b.mono B8.out.size))
    have S_9 := Lib.hid (S_8.out.below b)
    have Sa_9 := Lib.hid (Sa_8.out.below b)
    have Sb_9 := Lib.hid (Sb_8.out.below b)
    have Sx_9 := Lib.hid (Sx_8.out.below b)
    have Sy_9 := Lib.hid (Sy_8.out.below b)
    have Sn_9 := Lib.hid (Sn_8.out.below b)
    have Sm_9 := Lib.hid (Sm_8.out.below b)
    clear S_8
    clear Sa_8
    clear Sb_8
    clear Sx_8
    clear Sy_8
    clear Sn_8
    clear Sm_8
    clear b
    go_wp2_with fail
    refine (count_any (.slice A l1.length c) l1 hle a3 w9 S_9.out).mono ?_
    rintro e w10 ⟨rfl, b⟩
    have B10 := Lib.hid (B9.out.trans (b.mono B9.out.size))
    have S_10 := Lib.hid (S_9.out.below b)
    have Sa_10 := Lib.hid (Sa_9.out.below b)
    have Sb_10 := Lib.hid (Sb_9.out.below b)
    have Sx_10 := Lib.hid (Sx_9.out.below b)
    have Sy_10 := Lib.hid (Sy_9.out.below b)
    have Sn_10 := Lib.hid (Sn_9.out.below b)
    have Sm_10 := Lib.hid (Sm_9.out.below b)
    clear S_9
    clear Sa_9
    clear Sb_9
    clear Sx_9
    clear Sy_9
    clear Sn_9
    clear Sm_9
    clear b
    go_wp2_with fail
    refine (rcount_any (.slice A l1.length c) l1 a3 w10 S_10.out).mono ?_
    rintro e wq ⟨rfl, rfl⟩
    go_wp2_with fail
    go_ret
    exact ⟨rfl, B10.out⟩

set_option maxRecDepth 100000 in
theorem lifted (os : Os) (started : os.Started) (H : Type) (enc : TypeId × Value → H) :
    ReturnsInHanded {} Try.checked os 14 .any (Rows.vecActsSpec.pre6 enc Try.prog Try.f14 Rows.vecActsRow.domain false) (Rows.vecActsSpec.post enc Try.prog Try.f14 false true false false) := by
  refine returnsInHanded_of_change (C := Try.checked) own started (by kernel_rfl) Try.func14
    (ChangeSpec.witness6 (enc := enc) (C := Try.checked) false ⟨#[], #[.int .i64 0, .slice none 0 0, .int .i64 0, .int .i64 0], []⟩ 12 (by kernel_rfl) (by kernel_rfl) (by kernel_rfl) (by kernel_rfl)) ?_
  intro W base args ds gs before hval0 hW hcnd _
  have hval : ∀ (j : Nat) t v, Try.f14.params[j]? = some t → args[j]? = some v → Value.okWide Try.prog W .any base t v := hval0
  have hW' := hW
  obtain ⟨p, q, hA0, hV, rfl, hfz, hnd⟩ := hW
  have hA : DataW.TrodAll enc Try.prog W 0 (fun _ => true) true Try.f14.params.toList args.toList ds p := hA0
  rw [Try.params14] at hA hval
  obtain ⟨v0, vs0, d0, ds0, p0, q0, hargs, rfl, rfl, k0, r0⟩ := trodAll_cons hA
  obtain ⟨v1, vs1, d1, ds1, p1, q1, rfl, rfl, rfl, k1, r1⟩ := trodAll_cons r0
  obtain ⟨v2, vs2, d2, ds2, p2, q2, rfl, rfl, rfl, k2, r2⟩ := trodAll_cons r1
  obtain ⟨v3, vs3, d3, ds3, p3, q3, rfl, rfl, rfl, k3, r3⟩ := trodAll_cons r2
  obtain ⟨rfl, rfl, rfl⟩ := trodAll_nil r3
  obtain rfl : args = #[v0, v1, v2, v3] := by cases args; simp_all
  obtain ⟨rfl, rfl⟩ := trodVars_none hV
  have lt0 : ∀ x ∈ p0, x.block < W.heap.size := by obtain ⟨m, hm⟩ := k0; exact DataW.trod_lt m _ _ _ hm
  have lt1 : ∀ x ∈ p1, x.block < W.heap.size := by obtain ⟨m, hm⟩ := k1; exact DataW.trod_lt m _ _ _ hm
  have lt2 : ∀ x ∈ p2, x.block < W.heap.size := by obtain ⟨m, hm⟩ := k2; exact DataW.trod_lt m _ _ _ hm
  have lt3 : ∀ x ∈ p3, x.block < W.heap.size := by obtain ⟨m, hm⟩ := k3; exact DataW.trod_lt m _ _ _ hm
  obtain ⟨a0, rfl, _, _, w0⟩ := open_int Try.underlying3 (hval 0 3 v0 rfl rfl) k0
  obtain ⟨l1, s1, g1⟩ := Bs.ints_of_trod Try.underlying34 (by kernel_rfl) Try.underlying3 (hval 1 34 v1 rfl rfl) k1
  obtain ⟨a2, rfl, _, _, w2⟩ := open_int Try.underlying3 (hval 2 3 v2 rfl rfl) k2
  obtain ⟨a3, rfl, _, _, w3⟩ := open_int Try.underlying3 (hval 3 3 v3 rfl rfl) k3
  clear hA0 hval0
  refine (walk a0 v1 l1 a2 a3 W w0 s1 g1 w2 w3).mono fun e W' ⟨he, bel⟩ => ?_
  subst he
  exact ⟨_, rfl, _, _, _, [], _, [], hW', trodAll_mk1 (shut_bool Try.underlying4 _), (trodAll_cons_mk (Below.trod laidOut (by kernel_rfl) (of_decide_eq_true (by kernel_rfl)) k0 bel lt0) (trodAll_cons_mk (Below.trod laidOut (by kernel_rfl) (of_decide_eq_true (by kernel_rfl)) k1 bel lt1) (trodAll_cons_mk (Below.trod laidOut (by kernel_rfl) (of_decide_eq_true (by kernel_rfl)) k2 bel lt2) (trodAll_cons_mk (Below.trod laidOut (by kernel_rfl) (of_decide_eq_true (by kernel_rfl)) k3 bel lt3) trodAll_mk0)))), rfl, bel.frame _, fun h => by cases h⟩

theorem over : Rows.vecActsRow.holds Try.pinned (OpenSpec.ofChange Rows.vecActsSpec) :=
  OpenClaim.holds_of_wide 14 Try.f14 rfl rfl rfl rfl rfl rfl rfl ⟨rfl, rfl, rfl, rfl, rfl⟩ rfl rfl rfl rfl rfl (by kernel_rfl) Try.func14 (by kernel_rfl)
    (of_decide_eq_true (by kernel_rfl)) (by unfold Func.isWrapper; first | (rw [if_pos (by decide +kernel)]; kernel_rfl) | (rw [if_neg (by decide +kernel)]; exact ⟨rfl, rfl⟩))
    (fun os started H enc _ => lifted os started H enc)

theorem proved : Rows.VecActsSaid := over
#print axioms proved
end Go.Proofs.Ytkfpomkabjdcaaa.vecActs
