/-
  For every fields, places and handle: what is set is held; all other fields stay, and the ones that were handed in: the law returns true and leaves the fields as they were.
  Conditions: none beyond that the arguments are values of their Go types.
-/
import Derived.Test.YtkfpomkabjdcaabRows
import Derived.Test.YtkfpomkabjdcaabBs
import Derived.Test.YtkfpomkabjdcaabVs
namespace Go.Proofs.Ytkfpomkabjdcaab.vecSets
open Go.ChangeShapes Go.WideShapes Go.ChangeAt Go.RowKit
open Bs Vc Vi Vs
set_option linter.unusedVariables false
theorem own : ownKnob Try.prog.godebug = none := by kernel_rfl
theorem laidOut : laidOutB Try.prog = true := by kernel_rfl
theorem inB_with (l : List Int) (k h j : Int) : inB (withV l k h) j = inB l j := by unfold inB; rw [withV_len]
theorem atE_with (l : List Int) (k h j : Int) : atE (withV l k h) j = atE l j := by unfold atE; rw [inB_with]
theorem with_with (l : List Int) (k a b : Int) : withV (withV l k a) k b = withV l k b := by
  unfold withV
  cases e : inB l k
  · simp [e]
  · have e' : inB (l.set k.toNat a) k = true := by unfold inB at *; simpa using e
    simp [e', List.set_set]
theorem with_other (l : List Int) (k j a b : Int) (h : ¬ j = k) : withV (withV l k a) j b = withV (withV l j b) k a := by
  unfold withV
  cases e : inB l k <;> cases e' : inB l j
  · simp [e, e']
  · have q : inB (l.set j.toNat b) k = false := by unfold inB at *; simpa using e
    simp [e', q]
  · have q : inB (l.set k.toNat a) j = false := by unfold inB at *; simpa using e'
    simp [e, q]
  · have q1 : inB (l.set k.toNat a) j = true := by unfold inB at *; simpa using e'
    have q2 : inB (l.set j.toNat b) k = true := by unfold inB at *; simpa using e
    have k1 := in_yes e
    have k2 := in_yes e'
    simp only [q1, q2, if_true]
    exact List.set_comm _ _ (by omega)
theorem at_with (l : List Int) (k h : Int) (e : inB l k = true) : atV (withV l k h) k = h := by
  have k1 := in_yes e
  unfold atV
  rw [inB_with, if_pos e]
  unfold withV
  rw [if_pos e, List.getD_eq_getElem?_getD, List.getElem?_set_self (by omega)]
  rfl
theorem at_other (l : List Int) (k h j : Int) (e : ¬ (j = k ∧ inB l k = true)) : atV (withV l k h) j = atV l j := by
  unfold atV
  rw [inB_with]
  cases e' : inB l j
  · rfl
  · have k2 := in_yes e'
    unfold withV
    cases e1 : inB l k
    · rfl
    · have k1 := in_yes e1
      have hn : ¬ j = k := fun q => e ⟨q, e1⟩
      simp only [if_true]
      rw [List.getD_eq_getElem?_getD, List.getElem?_set_ne (by omega), List.getD_eq_getElem?_getD]
theorem atE_yes {l : List Int} {k : Int} (e : inB l k = true) : atE l k = 0 := if_pos e
theorem atE_no {l : List Int} {k : Int} (e : inB l k = false) : atE l k = 5 := if_neg (by simp [e])

theorem walk (v0 : Value) (l0 : List Int) (a1 : Int) (a2 : Int) (a3 : Int) (w : World) (s0 : Bs.Sl w (Value.int .i64) v0 l0) (g0 : Bs.Wf l0) (w1 : (Lit.int .i64 a1).wf = true) (w2 : (Lit.int .i64 a2).wf = true) (w3 : (Lit.int .i64 a3).wf = true) :
    Calls Try.prog 3 #[v0, .int .i64 a1, .int .i64 a2, .int .i64 a3] w fun e w' => e = .returned (.bool true) ∧ Below w.heap.size w w' := by
  have hlen := s0.len_le
  unfold maxLen at hlen
  have s0' := s0
  obtain ⟨A, c, hv, q1, q2, q0, q3⟩ := s0'
  clear q1 q2 q3 q0
  by_cases h1 : 100 < l0.length
  · have h1' : (100 : Int) < (l0.length : Int) := by omega
    subst hv
    clear s0
    go_enter Try.func3, Try.ntmps3
    go_wp2_with fail
    refine (Vs.shown_any w).mono ?_
    rintro e w1 ⟨rfl, b1⟩
    go_wp2_with fail
    go_ret
    exact ⟨rfl, b1⟩
  · have h1' : ¬ (100 : Int) < (l0.length : Int) := by omega
    have hle : l0.length ≤ 1000 := by omega
    subst hv
    have S := Lib.hid s0
    clear s0
    go_enter Try.func3, Try.ntmps3
    go_wp2_with fail
    refine (Vs.shown_any w).mono ?_
    rintro e w0 ⟨rfl, b0⟩
    have S0 := Lib.hid (S.out.below b0)
    have BB := Lib.hid b0
    clear b0 S
    have B0 := Lib.hid BB.out
    obtain ⟨i0, hi, hz0, hz1, hz2⟩ := info_parts info_int
    have S1 := Lib.hid (S0.out.alloc (.cells #[] 3))
    go_wp2_with (at_builtin; refine wpList_append_sl rfl _ _ _ rfl w0.heap.size 3 i0 (.int .i64 0) 8 Try.underlying22 hi hz0 hz1 hz2 rfl (.slice (some ⟨w0.heap.size, 0, none⟩) 0 0) 0 [] rfl (World.ownsRow_made w0 #[] 0 (Nat.le_refl _) (Nat.zero_le _) rfl) A c l0 rfl S1.out (ints_oneCell _ _) (by unfold maxLen; omega) (by omega) (by simp) ?_; intro vw wa hown hgrow)
    have ba : Below w0.heap.size w0 wa := ((Below.refl w0.heap.size w0).alloc (Nat.le_refl _) _).grown hgrow (by simp) (fun k hk => by simp [Value.ownBlock] at hk; omega)
    rw [Nat.zero_add, List.nil_append] at hown
    have sw := Sl.of_own hown
    have B1 := Lib.hid (B0.out.trans (ba.mono B0.out.size))
    have S_1 := Lib.hid (S0.out.below ba)
    have W_1 := Lib.hid sw
    clear ba hown hgrow sw S1 S0 B0
    go_wp2_with fail
    refine (with_any (.slice A l0.length c) l0 a1 a2 wa S_1.out hle).mono ?_
    rintro e w2 ⟨vx, rfl, sx, b⟩
    have B2 := Lib.hid (B1.out.trans (b.mono B1.out.size))
    have S_2 := Lib.hid (S_1.out.below b)
    have W_2 := Lib.hid (W_1.out.below b)
    clear S_1
    clear W_1
    clear b
    have X_2 := Lib.hid sx
    clear sx
    go_wp2_with fail
    refine (at_any vx _ a1 w2 X_2.out).mono ?_
    rintro e wq ⟨rfl, rfl⟩
    rw [atE_with] at *
    go_wp2_with fail
    refine (at_any vx _ a3 w2 X_2.out).mono ?_
    rintro e wq ⟨rfl, rfl⟩
    rw [atE_with] at *
    go_wp2_with fail
    refine (at_any (.slice A l0.length c) _ a3 w2 S_2.out).mono ?_
    rintro e wq ⟨rfl, rfl⟩
    go_wp2_with fail
    refine (ints_b (.slice A l0.length c) vw _ _ w2 S_2.out W_2.out).mono ?_
    rintro e w3 ⟨rfl, b⟩
    rw [decide_eq_true rfl] at *
    have B3 := Lib.hid (B2.out.trans (b.mono B2.out.size))
    have S_3 := Lib.hid (S_2.out.below b)
    have W_3 := Lib.hid (W_2.out.below b)
    have X_3 := Lib.hid (X_2.out.below b)
    clear S_2
    clear W_2
    clear X_2
    clear b
    cases hk : inB l0 a1
    · have E1 : (atV (withV l0 a1 a2) a3 == atV l0 a3) = true := by rw [at_other l0 a1 a2 a3 (fun q => by rw [hk] at q; exact absurd q.2 (by simp))]; simp
      have E2 := Lib.hid (atE_no hk)
      have E3 : (atE l0 a1 == 0) = false := by rw [E2.out]; rfl
      by_cases ho : a3 = a1
      · have ho1 : (a3 == a1) = true := by simpa using ho
        clear ho
        go_wp2_with fail
        go_ret
        exact ⟨rfl, B3.out⟩
      · have ho1 : (a3 == a1) = false := by simpa using ho
        clear ho
        go_wp2_with fail
        go_ret
        exact ⟨rfl, B3.out⟩
    · have E2 := Lib.hid (atE_yes hk)
      have E3 : (atE l0 a1 == 0) = true := by rw [E2.out]; rfl
      have E4 : (atV (withV l0 a1 a2) a1 != a2) = false := by rw [at_with l0 a1 a2 hk]; simp
      by_cases ho : a3 = a1
      · have ho1 : (a3 == a1) = true := by simpa using ho
        clear ho
        go_wp2_with fail
        go_ret
        exact ⟨rfl, B3.out⟩
      · have ho1 : (a3 == a1) = false := by simpa using ho
        have E1 : (atV (withV l0 a1 a2) a3 == atV l0 a3) = true := by rw [at_other l0 a1 a2 a3 (fun q => ho q.1)]; simp
        clear ho
        go_wp2_with fail
        go_ret
        exact ⟨rfl, B3.out⟩

set_option maxRecDepth 100000 in
theorem lifted (os : Os) (started : os.Started) (H : Type) (enc : TypeId × Value → H) :
    ReturnsInHanded {} Try.checked os 3 .any (Rows.vecSetsSpec.pre6 enc Try.prog Try.f3 Rows.vecSetsRow.domain false) (Rows.vecSetsSpec.post enc Try.prog Try.f3 false true false false) := by
  refine returnsInHanded_of_change (C := Try.checked) own started (by kernel_rfl) Try.func3
    (ChangeSpec.witness6 (enc := enc) (C := Try.checked) false ⟨#[], #[.slice none 0 0, .int .i64 0, .int .i64 0, .int .i64 0], []⟩ 12 (by kernel_rfl) (by kernel_rfl) (by kernel_rfl) (by kernel_rfl)) ?_
  intro W base args ds gs before hval0 hW hcnd _
  have hval : ∀ (j : Nat) t v, Try.f3.params[j]? = some t → args[j]? = some v → Value.okWide Try.prog W .any base t v := hval0
  have hW' := hW
  obtain ⟨p, q, hA0, hV, rfl, hfz, hnd⟩ := hW
  have hA : DataW.TrodAll enc Try.prog W 0 (fun _ => true) true Try.f3.params.toList args.toList ds p := hA0
  rw [Try.params3] at hA hval
  obtain ⟨v0, vs0, d0, ds0, p0, q0, hargs, rfl, rfl, k0, r0⟩ := trodAll_cons hA
  obtain ⟨v1, vs1, d1, ds1, p1, q1, rfl, rfl, rfl, k1, r1⟩ := trodAll_cons r0
  obtain ⟨v2, vs2, d2, ds2, p2, q2, rfl, rfl, rfl, k2, r2⟩ := trodAll_cons r1
  obtain ⟨v3, vs3, d3, ds3, p3, q3, rfl, rfl, rfl, k3, r3⟩ := trodAll_cons r2
  obtain ⟨rfl, rfl, rfl⟩ := trodAll_nil r3
  obtain rfl : args = #[v0, v1, v2, v3] := by cases args; simp_all
  obtain ⟨rfl, rfl⟩ := trodVars_none hV
  have lt0 : ∀ x ∈ p0, x.block < W.heap.size := by obtain ⟨m, hm⟩ := k0; exact DataW.trod_lt m _ _ _ hm
  have lt1 : ∀ x ∈ p1, x.block < W.heap.size := by obtain ⟨m, hm⟩ := k1; exact DataW.trod_lt m _ _ _ hm
  have lt2 : ∀ x ∈ p2, x.block < W.heap.size := by obtain ⟨m, hm⟩ := k2; exact DataW.trod_lt m _ _ _ hm
  have lt3 : ∀ x ∈ p3, x.block < W.heap.size := by obtain ⟨m, hm⟩ := k3; exact DataW.trod_lt m _ _ _ hm
  obtain ⟨l0, s0, g0⟩ := Bs.ints_of_trod Try.underlying22 (by kernel_rfl) Try.underlying3 (hval 0 22 v0 rfl rfl) k0
  obtain ⟨a1, rfl, _, _, w1⟩ := open_int Try.underlying3 (hval 1 3 v1 rfl rfl) k1
  obtain ⟨a2, rfl, _, _, w2⟩ := open_int Try.underlying3 (hval 2 3 v2 rfl rfl) k2
  obtain ⟨a3, rfl, _, _, w3⟩ := open_int Try.underlying3 (hval 3 3 v3 rfl rfl) k3
  clear hA0 hval0
  refine (walk v0 l0 a1 a2 a3 W s0 g0 w1 w2 w3).mono fun e W' ⟨he, bel⟩ => ?_
  subst he
  exact ⟨_, rfl, _, _, _, [], _, [], hW', trodAll_mk1 (shut_bool Try.underlying4 _), (trodAll_cons_mk (Below.trod laidOut (by kernel_rfl) (of_decide_eq_true (by kernel_rfl)) k0 bel lt0) (trodAll_cons_mk (Below.trod laidOut (by kernel_rfl) (of_decide_eq_true (by kernel_rfl)) k1 bel lt1) (trodAll_cons_mk (Below.trod laidOut (by kernel_rfl) (of_decide_eq_true (by kernel_rfl)) k2 bel lt2) (trodAll_cons_mk (Below.trod laidOut (by kernel_rfl) (of_decide_eq_true (by kernel_rfl)) k3 bel lt3) trodAll_mk0)))), rfl, bel.frame _, fun h => by cases h⟩

theorem over : Rows.vecSetsRow.holds Try.pinned (OpenSpec.ofChange Rows.vecSetsSpec) :=
  OpenClaim.holds_of_wide 3 Try.f3 rfl rfl rfl rfl rfl rfl rfl ⟨rfl, rfl, rfl, rfl, rfl⟩ rfl rfl rfl rfl rfl (by kernel_rfl) Try.func3 (by kernel_rfl)
    (of_decide_eq_true (by kernel_rfl)) (by unfold Func.isWrapper; first | (rw [if_pos (by decide +kernel)]; kernel_rfl) | (rw [if_neg (by decide +kernel)]; exact ⟨rfl, rfl⟩))
    (fun os started H enc _ => lifted os started H enc)

theorem proved : Rows.VecSetsSaid := over
#print axioms proved
end Go.Proofs.Ytkfpomkabjdcaab.vecSets
