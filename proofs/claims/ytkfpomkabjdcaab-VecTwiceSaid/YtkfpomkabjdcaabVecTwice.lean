/-
  For every fields, places and handles: a field that is set twice holds the last one; two fields that are set stand in either order: the law returns true and leaves the fields as they were.
  Conditions: none beyond that the arguments are values of their Go types.
-/
import Derived.Test.YtkfpomkabjdcaabRows
import Derived.Test.YtkfpomkabjdcaabBs
import Derived.Test.YtkfpomkabjdcaabVs
namespace Go.Proofs.Ytkfpomkabjdcaab.vecTwice
open Go.ChangeShapes Go.WideShapes Go.ChangeAt Go.RowKit
open Bs Vc Vi Vs
set_option linter.unusedVariables false
theorem own : ownKnob Try.prog.godebug = none := by kernel_rfl
theorem laidOut : laidOutB Try.prog = true := by kernel_rfl
theorem inB_with (l : List Int) (k h j : Int) : inB (withV l k h) j = inB l j := by unfold inB; rw [withV_len]
theorem atE_with (l : List Int) (k h j : Int) : atE (withV l k h) j = atE l j := by unfold atE; rw [inB_with]
theorem with_with (l : List Int) (k a b : Int) : withV (withV l k a) k b = withV l k b := by
  unfold withV
  cases e : inB l k
  · simp [e]
  · have e' : inB (l.set k.toNat a) k = true := by unfold inB at *; simpa using e
    simp [e', List.set_set]
theorem with_other (l : List Int) (k j a b : Int) (h : ¬ j = k) : withV (withV l k a) j b = withV (withV l j b) k a := by
  unfold withV
  cases e : inB l k <;> cases e' : inB l j
  · simp [e, e']
  · have q : inB (l.set j.toNat b) k = false := by unfold inB at *; simpa using e
    simp [e', q]
  · have q : inB (l.set k.toNat a) j = false := by unfold inB at *; simpa using e'
    simp [e, q]
  · have q1 : inB (l.set k.toNat a) j = true := by unfold inB at *; simpa using e'
    have q2 : inB (l.set j.toNat b) k = true := by unfold inB at *; simpa using e
    have k1 := in_yes e
    have k2 := in_yes e'
    simp only [q1, q2, if_true]
    exact List.set_comm _ _ (by omega)
theorem at_with (l : List Int) (k h : Int) (e : inB l k = true) : atV (withV l k h) k = h := by
  have k1 := in_yes e
  unfold atV
  rw [inB_with, if_pos e]
  unfold withV
  rw [if_pos e, List.getD_eq_getElem?_getD, List.getElem?_set_self (by omega)]
  rfl
theorem at_other (l : List Int) (k h j : Int) (e : ¬ (j = k ∧ inB l k = true)) : atV (withV l k h) j = atV l j := by
  unfold atV
  rw [inB_with]
  cases e' : inB l j
  · rfl
  · have k2 := in_yes e'
    unfold withV
    cases e1 : inB l k
    · rfl
    · have k1 := in_yes e1
      have hn : ¬ j = k := fun q => e ⟨q, e1⟩
      simp only [if_true]
      rw [List.getD_eq_getElem?_getD, List.getElem?_set_ne (by omega), List.getD_eq_getElem?_getD]
theorem atE_yes {l : List Int} {k : Int} (e : inB l k = true) : atE l k = 0 := if_pos e
theorem atE_no {l : List Int} {k : Int} (e : inB l k = false) : atE l k = 5 := if_neg (by simp [e])

theorem walk (v0 : Value) (l0 : List Int) (a1 : Int) (a2 : Int) (a3 : Int) (a4 : Int) (w : World) (s0 : Bs.Sl w (Value.int .i64) v0 l0) (g0 : Bs.Wf l0) (w1 : (Lit.int .i64 a1).wf = true) (w2 : (Lit.int .i64 a2).wf = true) (w3 : (Lit.int .i64 a3).wf = true) (w4 : (Lit.int .i64 a4).wf = true) :
    Calls Try.prog 6 #[v0, .int .i64 a1, .int .i64 a2, .int .i64 a3, .int .i64 a4] w fun e w' => e = .returned (.bool true) ∧ Below w.heap.size w w' := by
  have hlen := s0.len_le
  unfold maxLen at hlen
  have s0' := s0
  obtain ⟨A, c, hv, q1, q2, q0, q3⟩ := s0'
  clear q1 q2 q3 q0
  by_cases h1 : 100 < l0.length
  · have h1' : (100 : Int) < (l0.length : Int) := by omega
    subst hv
    clear s0
    go_enter Try.func6, Try.ntmps6
    go_wp2_with fail
    refine (Vs.shown_any w).mono ?_
    rintro e w1 ⟨rfl, b1⟩
    go_wp2_with fail
    go_ret
    exact ⟨rfl, b1⟩
  · have h1' : ¬ (100 : Int) < (l0.length : Int) := by omega
    have hle : l0.length ≤ 1000 := by omega
    subst hv
    have S := Lib.hid s0
    clear s0
    go_enter Try.func6, Try.ntmps6
    go_wp2_with fail
    refine (Vs.shown_any w).mono ?_
    rintro e w0 ⟨rfl, b0⟩
    have S0 := Lib.hid (S.out.below b0)
    have BB := Lib.hid b0
    clear b0 S
    have B0 := Lib.hid BB.out
    go_wp2_with fail
    refine (with_any (.slice A l0.length c) l0 a1 a3 w0 S0.out hle).mono ?_
    rintro e w1 ⟨vx, rfl, sx, b⟩
    have B1 := Lib.hid (B0.out.trans (b.mono B0.out.size))
    have S_1 := Lib.hid (S0.out.below b)
    clear S0
    clear b
    have X_1 := Lib.hid sx
    clear sx
    go_wp2_with fail
    refine (with_any vx _ a1 a4 w1 X_1.out (by rw [withV_len]; exact hle)).mono ?_
    rintro e w2 ⟨vy, rfl, sy, b⟩
    rw [with_with, atE_with] at *
    have B2 := Lib.hid (B1.out.trans (b.mono B1.out.size))
    have S_2 := Lib.hid (S_1.out.below b)
    have X_2 := Lib.hid (X_1.out.below b)
    clear S_1
    clear X_1
    clear b
    have Y_2 := Lib.hid sy
    clear sy
    go_wp2_with fail
    refine (with_any (.slice A l0.length c) l0 a1 a4 w2 S_2.out hle).mono ?_
    rintro e w3 ⟨vz, rfl, sz, b⟩
    have B3 := Lib.hid (B2.out.trans (b.mono B2.out.size))
    have S_3 := Lib.hid (S_2.out.below b)
    have X_3 := Lib.hid (X_2.out.below b)
    have Y_3 := Lib.hid (Y_2.out.below b)
    clear S_2
    clear X_2
    clear Y_2
    clear b
    have Z_3 := Lib.hid sz
    clear sz
    go_wp2_with fail
    refine (with_any vx _ a2 a4 w3 X_3.out (by rw [withV_len]; exact hle)).mono ?_
    rintro e w4 ⟨vp, rfl, sp, b⟩
    have B4 := Lib.hid (B3.out.trans (b.mono B3.out.size))
    have S_4 := Lib.hid (S_3.out.below b)
    have X_4 := Lib.hid (X_3.out.below b)
    have Y_4 := Lib.hid (Y_3.out.below b)
    have Z_4 := Lib.hid (Z_3.out.below b)
    clear S_3
    clear X_3
    clear Y_3
    clear Z_3
    clear b
    have P_4 := Lib.hid sp
    clear sp
    go_wp2_with fail
    refine (with_any (.slice A l0.length c) l0 a2 a4 w4 S_4.out hle).mono ?_
    rintro e w5 ⟨vq, rfl, sq, b⟩
    have B5 := Lib.hid (B4.out.trans (b.mono B4.out.size))
    have S_5 := Lib.hid (S_4.out.below b)
    have X_5 := Lib.hid (X_4.out.below b)
    have Y_5 := Lib.hid (Y_4.out.below b)
    have Z_5 := Lib.hid (Z_4.out.below b)
    have P_5 := Lib.hid (P_4.out.below b)
    clear S_4
    clear X_4
    clear Y_4
    clear Z_4
    clear P_4
    clear b
    have Q_5 := Lib.hid sq
    clear sq
    go_wp2_with fail
    refine (with_any vq _ a1 a3 w5 Q_5.out (by rw [withV_len]; exact hle)).mono ?_
    rintro e w6 ⟨vr, rfl, sr, b⟩
    have B6 := Lib.hid (B5.out.trans (b.mono B5.out.size))
    have S_6 := Lib.hid (S_5.out.below b)
    have X_6 := Lib.hid (X_5.out.below b)
    have Y_6 := Lib.hid (Y_5.out.below b)
    have Z_6 := Lib.hid (Z_5.out.below b)
    have P_6 := Lib.hid (P_5.out.below b)
    have Q_6 := Lib.hid (Q_5.out.below b)
    clear S_5
    clear X_5
    clear Y_5
    clear Z_5
    clear P_5
    clear Q_5
    clear b
    have R_6 := Lib.hid sr
    clear sr
    go_wp2_with fail
    refine (ints_b vy vz _ _ w6 Y_6.out Z_6.out).mono ?_
    rintro e w7 ⟨rfl, b⟩
    rw [decide_eq_true rfl] at *
    have B7 := Lib.hid (B6.out.trans (b.mono B6.out.size))
    have S_7 := Lib.hid (S_6.out.below b)
    have X_7 := Lib.hid (X_6.out.below b)
    have Y_7 := Lib.hid (Y_6.out.below b)
    have Z_7 := Lib.hid (Z_6.out.below b)
    have P_7 := Lib.hid (P_6.out.below b)
    have Q_7 := Lib.hid (Q_6.out.below b)
    have R_7 := Lib.hid (R_6.out.below b)
    clear S_6
    clear X_6
    clear Y_6
    clear Z_6
    clear P_6
    clear Q_6
    clear R_6
    clear b
    by_cases hjk : a2 = a1
    · have hjk1 : (a2 == a1) = true := by simpa using hjk
      clear hjk
      go_wp2_with fail
      go_ret
      exact ⟨rfl, B7.out⟩
    · have hjk1 : (a2 == a1) = false := by simpa using hjk
      have HE := Lib.hid (with_other l0 a1 a2 a3 a4 hjk)
      clear hjk
      go_wp2_with fail
      refine (ints_b vp vr _ _ w7 P_7.out R_7.out).mono ?_
      rintro e wz ⟨rfl, b⟩
      rw [HE.out, decide_eq_true rfl]
      have BZ := Lib.hid (B7.out.trans (b.mono B7.out.size))
      clear b
      go_wp2_with fail
      go_ret
      exact ⟨rfl, BZ.out⟩

set_option maxRecDepth 100000 in
theorem lifted (os : Os) (started : os.Started) (H : Type) (enc : TypeId × Value → H) :
    ReturnsInHanded {} Try.checked os 6 .any (Rows.vecTwiceSpec.pre6 enc Try.prog Try.f6 Rows.vecTwiceRow.domain false) (Rows.vecTwiceSpec.post enc Try.prog Try.f6 false true false false) := by
  refine returnsInHanded_of_change (C := Try.checked) own started (by kernel_rfl) Try.func6
    (ChangeSpec.witness6 (enc := enc) (C := Try.checked) false ⟨#[], #[.slice none 0 0, .int .i64 0, .int .i64 0, .int .i64 0, .int .i64 0], []⟩ 12 (by kernel_rfl) (by kernel_rfl) (by kernel_rfl) (by kernel_rfl)) ?_
  intro W base args ds gs before hval0 hW hcnd _
  have hval : ∀ (j : Nat) t v, Try.f6.params[j]? = some t → args[j]? = some v → Value.okWide Try.prog W .any base t v := hval0
  have hW' := hW
  obtain ⟨p, q, hA0, hV, rfl, hfz, hnd⟩ := hW
  have hA : DataW.TrodAll enc Try.prog W 0 (fun _ => true) true Try.f6.params.toList args.toList ds p := hA0
  rw [Try.params6] at hA hval
  obtain ⟨v0, vs0, d0, ds0, p0, q0, hargs, rfl, rfl, k0, r0⟩ := trodAll_cons hA
  obtain ⟨v1, vs1, d1, ds1, p1, q1, rfl, rfl, rfl, k1, r1⟩ := trodAll_cons r0
  obtain ⟨v2, vs2, d2, ds2, p2, q2, rfl, rfl, rfl, k2, r2⟩ := trodAll_cons r1
  obtain ⟨v3, vs3, d3, ds3, p3, q3, rfl, rfl, rfl, k3, r3⟩ := trodAll_cons r2
  obtain ⟨v4, vs4, d4, ds4, p4, q4, rfl, rfl, rfl, k4, r4⟩ := trodAll_cons r3
  obtain ⟨rfl, rfl, rfl⟩ := trodAll_nil r4
  obtain rfl : args = #[v0, v1, v2, v3, v4] := by cases args; simp_all
  obtain ⟨rfl, rfl⟩ := trodVars_none hV
  have lt0 : ∀ x ∈ p0, x.block < W.heap.size := by obtain ⟨m, hm⟩ := k0; exact DataW.trod_lt m _ _ _ hm
  have lt1 : ∀ x ∈ p1, x.block < W.heap.size := by obtain ⟨m, hm⟩ := k1; exact DataW.trod_lt m _ _ _ hm
  have lt2 : ∀ x ∈ p2, x.block < W.heap.size := by obtain ⟨m, hm⟩ := k2; exact DataW.trod_lt m _ _ _ hm
  have lt3 : ∀ x ∈ p3, x.block < W.heap.size := by obtain ⟨m, hm⟩ := k3; exact DataW.trod_lt m _ _ _ hm
  have lt4 : ∀ x ∈ p4, x.block < W.heap.size := by obtain ⟨m, hm⟩ := k4; exact DataW.trod_lt m _ _ _ hm
  obtain ⟨l0, s0, g0⟩ := Bs.ints_of_trod Try.underlying22 (by kernel_rfl) Try.underlying3 (hval 0 22 v0 rfl rfl) k0
  obtain ⟨a1, rfl, _, _, w1⟩ := open_int Try.underlying3 (hval 1 3 v1 rfl rfl) k1
  obtain ⟨a2, rfl, _, _, w2⟩ := open_int Try.underlying3 (hval 2 3 v2 rfl rfl) k2
  obtain ⟨a3, rfl, _, _, w3⟩ := open_int Try.underlying3 (hval 3 3 v3 rfl rfl) k3
  obtain ⟨a4, rfl, _, _, w4⟩ := open_int Try.underlying3 (hval 4 3 v4 rfl rfl) k4
  clear hA0 hval0
  refine (walk v0 l0 a1 a2 a3 a4 W s0 g0 w1 w2 w3 w4).mono fun e W' ⟨he, bel⟩ => ?_
  subst he
  exact ⟨_, rfl, _, _, _, [], _, [], hW', trodAll_mk1 (shut_bool Try.underlying4 _), (trodAll_cons_mk (Below.trod laidOut (by kernel_rfl) (of_decide_eq_true (by kernel_rfl)) k0 bel lt0) (trodAll_cons_mk (Below.trod laidOut (by kernel_rfl) (of_decide_eq_true (by kernel_rfl)) k1 bel lt1) (trodAll_cons_mk (Below.trod laidOut (by kernel_rfl) (of_decide_eq_true (by kernel_rfl)) k2 bel lt2) (trodAll_cons_mk (Below.trod laidOut (by kernel_rfl) (of_decide_eq_true (by kernel_rfl)) k3 bel lt3) (trodAll_cons_mk (Below.trod laidOut (by kernel_rfl) (of_decide_eq_true (by kernel_rfl)) k4 bel lt4) trodAll_mk0))))), rfl, bel.frame _, fun h => by cases h⟩

theorem over : Rows.vecTwiceRow.holds Try.pinned (OpenSpec.ofChange Rows.vecTwiceSpec) :=
  OpenClaim.holds_of_wide 6 Try.f6 rfl rfl rfl rfl rfl rfl rfl ⟨rfl, rfl, rfl, rfl, rfl⟩ rfl rfl rfl rfl rfl (by kernel_rfl) Try.func6 (by kernel_rfl)
    (of_decide_eq_true (by kernel_rfl)) (by unfold Func.isWrapper; first | (rw [if_pos (by decide +kernel)]; kernel_rfl) | (rw [if_neg (by decide +kernel)]; exact ⟨rfl, rfl⟩))
    (fun os started H enc _ => lifted os started H enc)

theorem proved : Rows.VecTwiceSaid := over
#print axioms proved
end Go.Proofs.Ytkfpomkabjdcaab.vecTwice
