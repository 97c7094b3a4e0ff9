/-
  For every fields, place and handle: a field that is set changes how often two handles are named, by one each, at most: the law returns true and leaves the fields as they were.
  Conditions: none beyond that the arguments are values of their Go types.
-/
import Derived.Test.YtkfpomkabjdcaabRows
import Derived.Test.YtkfpomkabjdcaabBs
import Derived.Test.YtkfpomkabjdcaabVs
namespace Go.Proofs.Ytkfpomkabjdcaab.vecCounts
open Go.ChangeShapes Go.WideShapes Go.ChangeAt Go.RowKit
open Bs Vc Vi Vs
set_option linter.unusedVariables false
theorem own : ownKnob Try.prog.godebug = none := by kernel_rfl
theorem laidOut : laidOutB Try.prog = true := by kernel_rfl
theorem inB_with (l : List Int) (k h j : Int) : inB (withV l k h) j = inB l j := by unfold inB; rw [withV_len]
theorem atE_with (l : List Int) (k h j : Int) : atE (withV l k h) j = atE l j := by unfold atE; rw [inB_with]
theorem with_with (l : List Int) (k a b : Int) : withV (withV l k a) k b = withV l k b := by
  unfold withV
  cases e : inB l k
  · simp [e]
  · have e' : inB (l.set k.toNat a) k = true := by unfold inB at *; simpa using e
    simp [e', List.set_set]
theorem with_other (l : List Int) (k j a b : Int) (h : ¬ j = k) : withV (withV l k a) j b = withV (withV l j b) k a := by
  unfold withV
  cases e : inB l k <;> cases e' : inB l j
  · simp [e, e']
  · have q : inB (l.set j.toNat b) k = false := by unfold inB at *; simpa using e
    simp [e', q]
  · have q : inB (l.set k.toNat a) j = false := by unfold inB at *; simpa using e'
    simp [e, q]
  · have q1 : inB (l.set k.toNat a) j = true := by unfold inB at *; simpa using e'
    have q2 : inB (l.set j.toNat b) k = true := by unfold inB at *; simpa using e
    have k1 := in_yes e
    have k2 := in_yes e'
    simp only [q1, q2, if_true]
    exact List.set_comm _ _ (by omega)
theorem at_with (l : List Int) (k h : Int) (e : inB l k = true) : atV (withV l k h) k = h := by
  have k1 := in_yes e
  unfold atV
  rw [inB_with, if_pos e]
  unfold withV
  rw [if_pos e, List.getD_eq_getElem?_getD, List.getElem?_set_self (by omega)]
  rfl
theorem at_other (l : List Int) (k h j : Int) (e : ¬ (j = k ∧ inB l k = true)) : atV (withV l k h) j = atV l j := by
  unfold atV
  rw [inB_with]
  cases e' : inB l j
  · rfl
  · have k2 := in_yes e'
    unfold withV
    cases e1 : inB l k
    · rfl
    · have k1 := in_yes e1
      have hn : ¬ j = k := fun q => e ⟨q, e1⟩
      simp only [if_true]
      rw [List.getD_eq_getElem?_getD, List.getElem?_set_ne (by omega), List.getD_eq_getElem?_getD]
theorem atE_yes {l : List Int} {k : Int} (e : inB l k = true) : atE l k = 0 := if_pos e
theorem atE_no {l : List Int} {k : Int} (e : inB l k = false) : atE l k = 5 := if_neg (by simp [e])

theorem count_set' (l : List Int) (n : Nat) (hn : n < l.length) (x y : Int) : ((l.set n x).count y : Int) = l.count y - (if l[n] = y then 1 else 0) + (if x = y then 1 else 0) := by
  have e1 : l = l.take n ++ l[n] :: l.drop (n + 1) := by rw [List.getElem_cons_drop, List.take_append_drop]
  have e2 : l.set n x = l.take n ++ x :: l.drop (n + 1) := by rw [List.set_eq_take_append_cons_drop, if_pos hn]
  have c1 : l.count y = (l.take n).count y + ((l.drop (n + 1)).count y + (if l[n] = y then 1 else 0)) := by
    conv => lhs; rw [e1]
    rw [List.count_append, List.count_cons]
    congr 2
    by_cases q : l[n] = y <;> simp [q]
  have c2 : (l.set n x).count y = (l.take n).count y + ((l.drop (n + 1)).count y + (if x = y then 1 else 0)) := by
    rw [e2, List.count_append, List.count_cons]
    congr 2
    by_cases q : x = y <;> simp [q]
  rw [c1, c2]
  split <;> split <;> omega
theorem cnt_with_no (l : List Int) (k h : Int) (e : inB l k = false) : cnt (withV l k h) h = cnt l h := by unfold withV; rw [if_neg (by simp [e])]
theorem cnt_with (l : List Int) (k h y : Int) (e : inB l k = true) (hy : y ≠ 0) : (cnt (withV l k h) y : Int) = cnt l y - (if atV l k = y then 1 else 0) + (if h = y then 1 else 0) := by
  have k1 := in_yes e
  have hn : k.toNat < l.length := by omega
  have ea : atV l k = l[k.toNat] := by unfold atV; rw [if_pos e, List.getD_eq_getElem?_getD, List.getElem?_eq_getElem hn]; rfl
  unfold cnt
  rw [if_neg hy, if_neg hy, ea]
  unfold withV
  rw [if_pos e]
  exact count_set' l k.toNat hn h y
theorem cnt_le_len (l : List Int) (y : Int) : cnt l y ≤ l.length := by unfold cnt; split; omega; exact List.count_le_length

theorem walk (v0 : Value) (l0 : List Int) (a1 : Int) (a2 : Int) (w : World) (s0 : Bs.Sl w (Value.int .i64) v0 l0) (g0 : Bs.Wf l0) (w1 : (Lit.int .i64 a1).wf = true) (w2 : (Lit.int .i64 a2).wf = true) :
    Calls Try.prog 4 #[v0, .int .i64 a1, .int .i64 a2] w fun e w' => e = .returned (.bool true) ∧ Below w.heap.size w w' := by
  have hlen := s0.len_le
  unfold maxLen at hlen
  have s0' := s0
  obtain ⟨A, c, hv, q1, q2, q0, q3⟩ := s0'
  clear q1 q2 q3 q0
  by_cases hz0 : a2 = 0
  · have hz1 : (a2 == 0) = true := by simpa using hz0
    clear hz0
    by_cases h1 : 100 < l0.length
    · have h1' : (100 : Int) < (l0.length : Int) := by omega
      subst hv
      clear s0
      go_enter Try.func4, Try.ntmps4
      go_wp2_with fail
      refine (Vs.shown_any w).mono ?_
      rintro e w1 ⟨rfl, b1⟩
      go_wp2_with fail
      go_ret
      exact ⟨rfl, b1⟩
    · have h1' : ¬ (100 : Int) < (l0.length : Int) := by omega
      subst hv
      clear s0
      go_enter Try.func4, Try.ntmps4
      go_wp2_with fail
      refine (Vs.shown_any w).mono ?_
      rintro e w1 ⟨rfl, b1⟩
      go_wp2_with fail
      go_ret
      exact ⟨rfl, b1⟩
  have hne : a2 ≠ 0 := hz0
  have hz1 : (a2 == 0) = false := by simpa using hz0
  clear hz0
  by_cases h1 : 100 < l0.length
  · have h1' : (100 : Int) < (l0.length : Int) := by omega
    subst hv
    clear s0
    go_enter Try.func4, Try.ntmps4
    go_wp2_with fail
    refine (Vs.shown_any w).mono ?_
    rintro e w1 ⟨rfl, b1⟩
    go_wp2_with fail
    go_ret
    exact ⟨rfl, b1⟩
  · have h1' : ¬ (100 : Int) < (l0.length : Int) := by omega
    have hle : l0.length ≤ 1000 := by omega
    subst hv
    have S := Lib.hid s0
    clear s0
    go_enter Try.func4, Try.ntmps4
    go_wp2_with fail
    refine (Vs.shown_any w).mono ?_
    rintro e w0 ⟨rfl, b0⟩
    have S0 := Lib.hid (S.out.below b0)
    have BB := Lib.hid b0
    clear b0 S
    have B0 := Lib.hid BB.out
    go_wp2_with fail
    refine (at_any (.slice A l0.length c) _ a1 w0 S0.out).mono ?_
    rintro e wq ⟨rfl, rfl⟩
    go_wp2_with fail
    refine (with_any (.slice A l0.length c) l0 a1 a2 w0 S0.out hle).mono ?_
    rintro e w1 ⟨vx, rfl, sx, b⟩
    have B1 := Lib.hid (B0.out.trans (b.mono B0.out.size))
    have S_1 := Lib.hid (S0.out.below b)
    clear S0
    clear b
    have X_1 := Lib.hid sx
    clear sx
    have n1 := cnt_le_len l0 a2
    have n2 := cnt_le_len (withV l0 a1 a2) a2
    rw [withV_len] at n2
    have n3 := cnt_le_len l0 (atV l0 a1)
    have n4 := cnt_le_len (withV l0 a1 a2) (atV l0 a1)
    rw [withV_len] at n4
    cases hk : inB l0 a1
    · have E2 := Lib.hid (atE_no hk)
      have E3 : (atE l0 a1 != 0) = true := by rw [E2.out]; rfl
      have E4 : ((cnt (withV l0 a1 a2) a2 : Int) == (cnt l0 a2 : Int)) = true := by rw [cnt_with_no l0 a1 a2 hk]; simp
      go_wp2_with fail
      refine (count_any vx (withV l0 a1 a2) (by rw [withV_len]; exact hle) a2 w1 X_1.out).mono ?_
      rintro e w1a ⟨rfl, b⟩
      have B1a := Lib.hid (B1.out.trans (b.mono B1.out.size))
      have X1a := Lib.hid (X_1.out.below b)
      have S1a := Lib.hid (S_1.out.below b)
      clear b
      go_wp2_with fail
      refine (count_any (.slice A l0.length c) l0 hle a2 w1a S1a.out).mono ?_
      rintro e w1b ⟨rfl, b⟩
      have B1b := Lib.hid (B1a.out.trans (b.mono B1a.out.size))
      have X1b := Lib.hid (X1a.out.below b)
      have S1b := Lib.hid (S1a.out.below b)
      clear b
      go_wp2_with fail
      go_ret
      exact ⟨rfl, B1b.out⟩
    · have E2 := Lib.hid (atE_yes hk)
      have E3 : (atE l0 a1 != 0) = false := by rw [E2.out]; rfl
      have C1 := Lib.hid (cnt_with l0 a1 a2 a2 hk (by assumption))
      by_cases ho : atV l0 a1 = a2
      · have ho1 : (atV l0 a1 == a2) = true := by simpa using ho
        have E4 : ((cnt (withV l0 a1 a2) a2 : Int) == (cnt l0 a2 : Int)) = true := by rw [C1.out, if_pos ho, if_pos rfl]; simp
        have hz1 : (atV l0 a1 == 0) = false := by rw [ho]; simpa using (by assumption : a2 ≠ 0)
        have E0 : ¬ atV l0 a1 = 0 := by rw [ho]; assumption
        clear ho
        go_wp2_with fail
        refine (count_any vx (withV l0 a1 a2) (by rw [withV_len]; exact hle) a2 w1 X_1.out).mono ?_
        rintro e w1a ⟨rfl, b⟩
        have B1a := Lib.hid (B1.out.trans (b.mono B1.out.size))
        have X1a := Lib.hid (X_1.out.below b)
        have S1a := Lib.hid (S_1.out.below b)
        clear b
        go_wp2_with fail
        refine (count_any (.slice A l0.length c) l0 hle a2 w1a S1a.out).mono ?_
        rintro e w1b ⟨rfl, b⟩
        have B1b := Lib.hid (B1a.out.trans (b.mono B1a.out.size))
        have X1b := Lib.hid (X1a.out.below b)
        have S1b := Lib.hid (S1a.out.below b)
        clear b
        go_wp2_with fail
        go_ret
        exact ⟨rfl, B1b.out⟩
      · have ho1 : (atV l0 a1 == a2) = false := by simpa using ho
        have E4 : ((cnt (withV l0 a1 a2) a2 : Int) == (cnt l0 a2 : Int) + 1) = true := by rw [C1.out, if_neg ho, if_pos rfl]; simp
        by_cases hz : atV l0 a1 = 0
        · have hz1 : (atV l0 a1 == 0) = true := by simpa using hz
          clear hz ho
          go_wp2_with fail
          refine (count_any vx (withV l0 a1 a2) (by rw [withV_len]; exact hle) a2 w1 X_1.out).mono ?_
          rintro e w1a ⟨rfl, b⟩
          have B1a := Lib.hid (B1.out.trans (b.mono B1.out.size))
          have X1a := Lib.hid (X_1.out.below b)
          have S1a := Lib.hid (S_1.out.below b)
          clear b
          go_wp2_with fail
          refine (count_any (.slice A l0.length c) l0 hle a2 w1a S1a.out).mono ?_
          rintro e w1b ⟨rfl, b⟩
          have B1b := Lib.hid (B1a.out.trans (b.mono B1a.out.size))
          have X1b := Lib.hid (X1a.out.below b)
          have S1b := Lib.hid (S1a.out.below b)
          clear b
          go_wp2_with fail
          go_ret
          exact ⟨rfl, B1b.out⟩
        · have hz1 : (atV l0 a1 == 0) = false := by simpa using hz
          have C2 := Lib.hid (cnt_with l0 a1 a2 (atV l0 a1) hk hz)
          have E5 : ((cnt (withV l0 a1 a2) (atV l0 a1) : Int) == (cnt l0 (atV l0 a1) : Int) - 1) = true := by rw [C2.out, if_pos rfl, if_neg (fun q => ho q.symm)]; simp
          clear hz ho
          go_wp2_with fail
          refine (count_any vx (withV l0 a1 a2) (by rw [withV_len]; exact hle) a2 w1 X_1.out).mono ?_
          rintro e w1a ⟨rfl, b⟩
          have B1a := Lib.hid (B1.out.trans (b.mono B1.out.size))
          have X1a := Lib.hid (X_1.out.below b)
          have S1a := Lib.hid (S_1.out.below b)
          clear b
          go_wp2_with fail
          refine (count_any (.slice A l0.length c) l0 hle a2 w1a S1a.out).mono ?_
          rintro e w1b ⟨rfl, b⟩
          have B1b := Lib.hid (B1a.out.trans (b.mono B1a.out.size))
          have X1b := Lib.hid (X1a.out.below b)
          have S1b := Lib.hid (S1a.out.below b)
          clear b
          go_wp2_with fail
          refine (count_any vx (withV l0 a1 a2) (by rw [withV_len]; exact hle) (atV l0 a1) w1b X1b.out).mono ?_
          rintro e w1c ⟨rfl, b⟩
          have B1c := Lib.hid (B1b.out.trans (b.mono B1b.out.size))
          have X1c := Lib.hid (X1b.out.below b)
          have S1c := Lib.hid (S1b.out.below b)
          clear b
          go_wp2_with fail
          refine (count_any (.slice A l0.length c) l0 hle (atV l0 a1) w1c S1c.out).mono ?_
          rintro e w1d ⟨rfl, b⟩
          have B1d := Lib.hid (B1c.out.trans (b.mono B1c.out.size))
          have X1d := Lib.hid (X1c.out.below b)
          have S1d := Lib.hid (S1c.out.below b)
          clear b
          go_wp2_with fail
          go_ret
          exact ⟨rfl, B1d.out⟩

set_option maxRecDepth 100000 in
theorem lifted (os : Os) (started : os.Started) (H : Type) (enc : TypeId × Value → H) :
    ReturnsInHanded {} Try.checked os 4 .any (Rows.vecCountsSpec.pre6 enc Try.prog Try.f4 Rows.vecCountsRow.domain false) (Rows.vecCountsSpec.post enc Try.prog Try.f4 false true false false) := by
  refine returnsInHanded_of_change (C := Try.checked) own started (by kernel_rfl) Try.func4
    (ChangeSpec.witness6 (enc := enc) (C := Try.checked) false ⟨#[], #[.slice none 0 0, .int .i64 0, .int .i64 0], []⟩ 12 (by kernel_rfl) (by kernel_rfl) (by kernel_rfl) (by kernel_rfl)) ?_
  intro W base args ds gs before hval0 hW hcnd _
  have hval : ∀ (j : Nat) t v, Try.f4.params[j]? = some t → args[j]? = some v → Value.okWide Try.prog W .any base t v := hval0
  have hW' := hW
  obtain ⟨p, q, hA0, hV, rfl, hfz, hnd⟩ := hW
  have hA : DataW.TrodAll enc Try.prog W 0 (fun _ => true) true Try.f4.params.toList args.toList ds p := hA0
  rw [Try.params4] at hA hval
  obtain ⟨v0, vs0, d0, ds0, p0, q0, hargs, rfl, rfl, k0, r0⟩ := trodAll_cons hA
  obtain ⟨v1, vs1, d1, ds1, p1, q1, rfl, rfl, rfl, k1, r1⟩ := trodAll_cons r0
  obtain ⟨v2, vs2, d2, ds2, p2, q2, rfl, rfl, rfl, k2, r2⟩ := trodAll_cons r1
  obtain ⟨rfl, rfl, rfl⟩ := trodAll_nil r2
  obtain rfl : args = #[v0, v1, v2] := by cases args; simp_all
  obtain ⟨rfl, rfl⟩ := trodVars_none hV
  have lt0 : ∀ x ∈ p0, x.block < W.heap.size := by obtain ⟨m, hm⟩ := k0; exact DataW.trod_lt m _ _ _ hm
  have lt1 : ∀ x ∈ p1, x.block < W.heap.size := by obtain ⟨m, hm⟩ := k1; exact DataW.trod_lt m _ _ _ hm
  have lt2 : ∀ x ∈ p2, x.block < W.heap.size := by obtain ⟨m, hm⟩ := k2; exact DataW.trod_lt m _ _ _ hm
  obtain ⟨l0, s0, g0⟩ := Bs.ints_of_trod Try.underlying22 (by kernel_rfl) Try.underlying3 (hval 0 22 v0 rfl rfl) k0
  obtain ⟨a1, rfl, _, _, w1⟩ := open_int Try.underlying3 (hval 1 3 v1 rfl rfl) k1
  obtain ⟨a2, rfl, _, _, w2⟩ := open_int Try.underlying3 (hval 2 3 v2 rfl rfl) k2
  clear hA0 hval0
  refine (walk v0 l0 a1 a2 W s0 g0 w1 w2).mono fun e W' ⟨he, bel⟩ => ?_
  subst he
  exact ⟨_, rfl, _, _, _, [], _, [], hW', trodAll_mk1 (shut_bool Try.underlying4 _), (trodAll_cons_mk (Below.trod laidOut (by kernel_rfl) (of_decide_eq_true (by kernel_rfl)) k0 bel lt0) (trodAll_cons_mk (Below.trod laidOut (by kernel_rfl) (of_decide_eq_true (by kernel_rfl)) k1 bel lt1) (trodAll_cons_mk (Below.trod laidOut (by kernel_rfl) (of_decide_eq_true (by kernel_rfl)) k2 bel lt2) trodAll_mk0))), rfl, bel.frame _, fun h => by cases h⟩

theorem over : Rows.vecCountsRow.holds Try.pinned (OpenSpec.ofChange Rows.vecCountsSpec) :=
  OpenClaim.holds_of_wide 4 Try.f4 rfl rfl rfl rfl rfl rfl rfl ⟨rfl, rfl, rfl, rfl, rfl⟩ rfl rfl rfl rfl rfl (by kernel_rfl) Try.func4 (by kernel_rfl)
    (of_decide_eq_true (by kernel_rfl)) (by unfold Func.isWrapper; first | (rw [if_pos (by decide +kernel)]; kernel_rfl) | (rw [if_neg (by decide +kernel)]; exact ⟨rfl, rfl⟩))
    (fun os started H enc _ => lifted os started H enc)

theorem proved : Rows.VecCountsSaid := over
#print axioms proved
end Go.Proofs.Ytkfpomkabjdcaab.vecCounts
