/-
  For every fields and handle: as many are named as fields are not 0, each as often as it is counted: the law returns true and leaves the fields as they were.
  Conditions: none beyond that the arguments are values of their Go types.
-/
import Derived.Test.YtkfpomkabjdcaabRows
import Derived.Test.YtkfpomkabjdcaabBs
import Derived.Test.YtkfpomkabjdcaabVs
namespace Go.Proofs.Ytkfpomkabjdcaab.vecNames
open Go.ChangeShapes Go.WideShapes Go.ChangeAt Go.RowKit
open Bs Vc Vi Vs
set_option linter.unusedVariables false
theorem own : ownKnob Try.prog.godebug = none := by kernel_rfl
theorem laidOut : laidOutB Try.prog = true := by kernel_rfl
theorem named_nz (l : List Int) : ∀ x ∈ named l, x ≠ 0 := fun x hx => by
  unfold named at hx; simpa using (List.mem_filter.1 hx).2
theorem count_take (l : List Int) {k : Nat} {x : Int} (h : l[k]? = some x) (y : Int) : (l.take (k + 1)).count y = (l.take k).count y + (if x = y then 1 else 0) := by
  rw [take_succ_of h, List.count_append]
  by_cases e : x = y
  · rw [if_pos e, e]; simp
  · rw [if_neg e]; simp [e]
theorem count_le (l : List Int) (k : Nat) (y : Int) : (l.take k).count y ≤ k := Nat.le_trans List.count_le_length (List.length_take_le _ _)
theorem named_len (l : List Int) : (named l).length + l.count 0 = l.length := by
  induction l with
  | nil => rfl
  | cons a l ih =>
    unfold named at *
    by_cases e : a = 0
    · simp [e]; omega
    · simp [e]; omega
theorem named_le_len (l : List Int) : (named l).length ≤ l.length := List.length_filter_le _ _

theorem walk (v0 : Value) (l0 : List Int) (a1 : Int) (w : World) (s0 : Bs.Sl w (Value.int .i64) v0 l0) (g0 : Bs.Wf l0) (w1 : (Lit.int .i64 a1).wf = true) :
    Calls Try.prog 5 #[v0, .int .i64 a1] w fun e w' => e = .returned (.bool true) ∧ Below w.heap.size w w' := by
  have hlen := s0.len_le
  unfold maxLen at hlen
  have s0' := s0
  obtain ⟨A, c, hv, q1, q2, q0, q3⟩ := s0'
  clear q1 q2 q3 q0
  by_cases h1 : 100 < l0.length
  · have h1' : (100 : Int) < (l0.length : Int) := by omega
    subst hv
    clear s0
    go_enter Try.func5, Try.ntmps5
    go_wp2_with fail
    refine (Vs.shown_any w).mono ?_
    rintro e w1 ⟨rfl, b1⟩
    go_wp2_with fail
    go_ret
    exact ⟨rfl, b1⟩
  · have h1' : ¬ (100 : Int) < (l0.length : Int) := by omega
    have hle : l0.length ≤ 1000 := by omega
    subst hv
    have S := Lib.hid s0
    clear s0
    go_enter Try.func5, Try.ntmps5
    go_wp2_with fail
    refine (Vs.shown_any w).mono ?_
    rintro e w0 ⟨rfl, b0⟩
    have S0 := Lib.hid (S.out.below b0)
    have BB := Lib.hid b0
    clear b0 S
    have B0 := Lib.hid BB.out
    go_wp2_with fail
    refine (names_any (.slice A l0.length c) l0 hle w0 S0.out).mono ?_
    rintro e w1 ⟨vn, rfl, sn, b⟩
    have B1 := Lib.hid (B0.out.trans (b.mono B0.out.size))
    have S_1 := Lib.hid (S0.out.below b)
    clear S0
    clear b
    have N_1 := Lib.hid sn
    clear sn
    have NN := N_1
    obtain ⟨An, cn, rfl, _, _, _, n3⟩ := N_1.out
    have H3 := Lib.hid n3
    have nz := Lib.hid (named_nz l0)
    have nl := named_le_len l0
    have cn1 := Lib.hid (count_named l0 a1)
    have nlen := Lib.hid (named_len l0)
    clear n3 N_1
    generalize named l0 = m at *
    go_wp2_with fail
    go_loop [6, 7] (fun n i => ∃ k : Nat, k ≤ m.length ∧ i = .int .i64 k ∧ n = .int .i64 ((m.take k).count a1)) (fun _ i => m.length - (intOf i).toNat)
    case atStart => exact ⟨0, Nat.zero_le _, rfl, by simp⟩
    case round =>
      obtain ⟨k, hk, rfl, rfl⟩ := hrel
      have hcl := count_le m k a1
      by_cases hlt : k < m.length
      · obtain ⟨b, off, rfl, hb, hc⟩ := H3.out (by omega)
        have c1 := hc k (.int .i64 m[k]) (by simp [hlt])
        have ex : m[k]? = some m[k] := List.getElem?_eq_getElem hlt
        have hnz : m[k] ≠ 0 := nz.out _ (List.getElem_mem hlt)
        clear hc
        generalize m[k] = x at c1 ex hnz
        have EX := Lib.hid (count_take m ex a1)
        have hz1 : (x == 0) = false := by simpa using hnz
        clear ex hnz
        by_cases hxh : x = a1
        · have p1 : (x == a1) = true := by simpa using hxh
          have E := Lib.hid (by rw [EX.out, if_pos hxh] : (m.take (k + 1)).count a1 = (m.take k).count a1 + 1)
          clear hxh EX
          generalize (m.take k).count a1 = n at *
          go_wp2
          go_round
          case rel => exact ⟨k + 1, by omega, by go_num, by rw [E.out]; go_num⟩
          case measure => simp [intOf]; omega
        · have p1 : (x == a1) = false := by simpa using hxh
          have E := Lib.hid (by rw [EX.out, if_neg hxh]; rfl : (m.take (k + 1)).count a1 = (m.take k).count a1)
          clear hxh EX
          generalize (m.take k).count a1 = n at *
          go_wp2
          go_round
          case rel => exact ⟨k + 1, by omega, by go_num, by rw [E.out]⟩
          case measure => simp [intOf]; omega
      · have ek : m.take k = m := List.take_of_length_le (by omega)
        rw [ek]
        rw [cn1.out]
        have hcc : cnt l0 a1 ≤ l0.length := by unfold cnt; split; omega; exact List.count_le_length
        clear ek hcl
        have S2 := S_1.out
        obtain ⟨_, _, sv, _, _, _, s3⟩ := S2
        injection sv with sA _ sC
        subst sA sC
        have G3 := Lib.hid s3
        clear s3
        go_wp2_with fail
        go_loop [8, 9] (fun n i => ∃ k : Nat, k ≤ l0.length ∧ i = .int .i64 k ∧ n = .int .i64 ((l0.take k).count 0)) (fun _ i => l0.length - (intOf i).toNat)
        case atStart => exact ⟨0, Nat.zero_le _, rfl, by simp⟩
        case round =>
          obtain ⟨j, hj, rfl, rfl⟩ := hrel
          have hcl := count_le l0 j 0
          by_cases hlt2 : j < l0.length
          · obtain ⟨b, off, rfl, hb, hc⟩ := G3.out (by omega)
            have c1 := hc j (.int .i64 l0[j]) (by simp [hlt2])
            have ex : l0[j]? = some l0[j] := List.getElem?_eq_getElem hlt2
            clear hc
            generalize l0[j] = x at c1 ex
            have EX := Lib.hid (count_take l0 ex 0)
            clear ex
            by_cases hxh : x = 0
            · have p1 : (x == 0) = true := by simpa using hxh
              have E := Lib.hid (by rw [EX.out, if_pos hxh] : (l0.take (j + 1)).count 0 = (l0.take j).count 0 + 1)
              clear hxh EX
              generalize (l0.take j).count 0 = n at *
              go_wp2
              go_round
              case rel => exact ⟨j + 1, by omega, by go_num, by rw [E.out]; go_num⟩
              case measure => simp [intOf]; omega
            · have p1 : (x == 0) = false := by simpa using hxh
              have E := Lib.hid (by rw [EX.out, if_neg hxh]; rfl : (l0.take (j + 1)).count 0 = (l0.take j).count 0)
              clear hxh EX
              generalize (l0.take j).count 0 = n at *
              go_wp2
              go_round
              case rel => exact ⟨j + 1, by omega, by go_num, by rw [E.out]⟩
              case measure => simp [intOf]; omega
          · have ek : l0.take j = l0 := List.take_of_length_le (by omega)
            rw [ek]
            have hz2 : l0.count 0 ≤ l0.length := List.count_le_length
            have E : ((m.length : Int) + (l0.count 0 : Int) == (l0.length : Int)) = true := by have := nlen.out; rw [beq_iff_eq]; omega
            clear ek hcl
            generalize l0.count 0 = zz at *
            go_wp2_with fail
            refine (count_any (.slice A l0.length c) l0 hle a1 w1 S_1.out).mono ?_
            rintro e w2 ⟨rfl, b⟩
            have B2 := Lib.hid (B1.out.trans (b.mono B1.out.size))
            clear b
            go_wp2_with fail
            go_ret
            exact ⟨rfl, B2.out⟩

set_option maxRecDepth 100000 in
theorem lifted (os : Os) (started : os.Started) (H : Type) (enc : TypeId × Value → H) :
    ReturnsInHanded {} Try.checked os 5 .any (Rows.vecNamesSpec.pre6 enc Try.prog Try.f5 Rows.vecNamesRow.domain false) (Rows.vecNamesSpec.post enc Try.prog Try.f5 false true false false) := by
  refine returnsInHanded_of_change (C := Try.checked) own started (by kernel_rfl) Try.func5
    (ChangeSpec.witness6 (enc := enc) (C := Try.checked) false ⟨#[], #[.slice none 0 0, .int .i64 0], []⟩ 12 (by kernel_rfl) (by kernel_rfl) (by kernel_rfl) (by kernel_rfl)) ?_
  intro W base args ds gs before hval0 hW hcnd _
  have hval : ∀ (j : Nat) t v, Try.f5.params[j]? = some t → args[j]? = some v → Value.okWide Try.prog W .any base t v := hval0
  have hW' := hW
  obtain ⟨p, q, hA0, hV, rfl, hfz, hnd⟩ := hW
  have hA : DataW.TrodAll enc Try.prog W 0 (fun _ => true) true Try.f5.params.toList args.toList ds p := hA0
  rw [Try.params5] at hA hval
  obtain ⟨v0, vs0, d0, ds0, p0, q0, hargs, rfl, rfl, k0, r0⟩ := trodAll_cons hA
  obtain ⟨v1, vs1, d1, ds1, p1, q1, rfl, rfl, rfl, k1, r1⟩ := trodAll_cons r0
  obtain ⟨rfl, rfl, rfl⟩ := trodAll_nil r1
  obtain rfl : args = #[v0, v1] := by cases args; simp_all
  obtain ⟨rfl, rfl⟩ := trodVars_none hV
  have lt0 : ∀ x ∈ p0, x.block < W.heap.size := by obtain ⟨m, hm⟩ := k0; exact DataW.trod_lt m _ _ _ hm
  have lt1 : ∀ x ∈ p1, x.block < W.heap.size := by obtain ⟨m, hm⟩ := k1; exact DataW.trod_lt m _ _ _ hm
  obtain ⟨l0, s0, g0⟩ := Bs.ints_of_trod Try.underlying22 (by kernel_rfl) Try.underlying3 (hval 0 22 v0 rfl rfl) k0
  obtain ⟨a1, rfl, _, _, w1⟩ := open_int Try.underlying3 (hval 1 3 v1 rfl rfl) k1
  clear hA0 hval0
  refine (walk v0 l0 a1 W s0 g0 w1).mono fun e W' ⟨he, bel⟩ => ?_
  subst he
  exact ⟨_, rfl, _, _, _, [], _, [], hW', trodAll_mk1 (shut_bool Try.underlying4 _), (trodAll_cons_mk (Below.trod laidOut (by kernel_rfl) (of_decide_eq_true (by kernel_rfl)) k0 bel lt0) (trodAll_cons_mk (Below.trod laidOut (by kernel_rfl) (of_decide_eq_true (by kernel_rfl)) k1 bel lt1) trodAll_mk0)), rfl, bel.frame _, fun h => by cases h⟩

theorem over : Rows.vecNamesRow.holds Try.pinned (OpenSpec.ofChange Rows.vecNamesSpec) :=
  OpenClaim.holds_of_wide 5 Try.f5 rfl rfl rfl rfl rfl rfl rfl ⟨rfl, rfl, rfl, rfl, rfl⟩ rfl rfl rfl rfl rfl (by kernel_rfl) Try.func5 (by kernel_rfl)
    (of_decide_eq_true (by kernel_rfl)) (by unfold Func.isWrapper; first | (rw [if_pos (by decide +kernel)]; kernel_rfl) | (rw [if_neg (by decide +kernel)]; exact ⟨rfl, rfl⟩))
    (fun os started H enc _ => lifted os started H enc)

theorem proved : Rows.VecNamesSaid := over
#print axioms proved
end Go.Proofs.Ytkfpomkabjdcaab.vecNames
