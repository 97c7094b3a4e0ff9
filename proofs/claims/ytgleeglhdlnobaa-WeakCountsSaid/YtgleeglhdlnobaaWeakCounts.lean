/-
  WeakCounts
  Conditions: none beyond that the arguments are values of their Go types.
-/
import Derived.Test.YtgleeglhdlnobaaRows
import Derived.Test.YtgleeglhdlnobaaBs
import Derived.Test.YtgleeglhdlnobaaA12
import Derived.Test.YtgleeglhdlnobaaPw20
import Derived.Test.YtgleeglhdlnobaaCs
namespace Go.Proofs.Ytgleeglhdlnobaa.weakCounts
open Go.ChangeShapes Go.WideShapes Go.ChangeAt Go.RowKit
open Go.Pw
set_option linter.unusedVariables false
theorem own : ownKnob Try.prog.godebug = none := by kernel_rfl
theorem laidOut : laidOutB Try.prog = true := by kernel_rfl
theorem walk (v0 : Value) (l0 : List C9.C) (a1 : Int) (a2 : Int) (a3 : Int) (w : World) (s0 : Bs.Ss 3 w Cs.cellV v0 l0) (w1 : (Lit.int .i64 a1).wf = true) (w2 : (Lit.int .i64 a2).wf = true) (w3 : (Lit.int .i64 a3).wf = true) :
    Calls Try.prog 11 #[v0, .int .i64 a1, .int .i64 a2, .int .i64 a3] w fun e w' => e = .returned (.bool true) ∧ Below w.heap.size w w' := by
  have hr : RdL w (all w) #[v0, .int .i64 a1, .int .i64 a2, .int .i64 a3] [.lst false (l0.map C9.cell), .int .i64 a1, .int .i64 a2, .int .i64 a3] := rdL_of (vs := [v0, .int .i64 a1, .int .i64 a2, .int .i64 a3]) ⟨Cs.rd_cells s0, .int _ _, .int _ _, .int _ _, trivial⟩
  rcases Nat.lt_or_ge 50 (l0.map C9.cell).length with h | h
  · exact calls_true (C9d.counts_big false _ a1 a2 a3 h) hr
  by_cases h0 : a2 = 0
  · subst h0
    exact calls_true (C9d.counts_zero false _ a1 a3 h) hr
  have e0 : l0.length ≤ 50 := by simpa using h
  by_cases hw : a1 < 0 ∨ (l0.map C9.cell).length ≤ a1
  · exact calls_true (C9d.counts_err false _ a1 a2 a3 _ h h0 hw (C9.naming_ok false l0 (by omega) a2)) hr
  obtain ⟨k, rfl⟩ : ∃ k : Nat, a1 = k := ⟨a1.toNat, by omega⟩
  have hk : k < l0.length := by simp at hw; omega
  have hv : l0[k]? = some l0[k] := List.getElem?_eq_getElem hk
  have h1 := C9.set_ok false (l0.map C9.cell) _ (C9.cel_map l0) (by simp; omega) k a2 a3 (l0[k]).1 (l0[k]).2.1 (l0[k]).2.2 true (by simp [h0]) (by rw [List.getElem?_map, hv]; rfl) (by simpa using hk) (C9d.map_set_cell l0 k (a2, true, a3))
  have cA : ∀ x, ((C9.plc (C9.naming x) (l0.set k (a2, true, a3)) (l0.set k (a2, true, a3)).length).length : Int) = (C9.plc (C9.naming x) l0 l0.length).length - (if C9.naming x l0[k] then 1 else 0) + (if C9.naming x (a2, true, a3) then 1 else 0) := by
    intro x
    rw [C9c.plc_all, C9c.plc_all]
    exact C9d.count_set _ hv _
  have h2 := C9.naming_ok false (l0.set k (a2, true, a3)) (by simp; omega) a2
  have h3 := C9.naming_ok false l0 (by omega) a2
  have b3 := C9.plc_len (C9.naming a2) l0 l0.length
  have n2 : C9.naming a2 (a2, true, a3) = true := by simp [C9.naming, h0]
  have c2 := cA a2
  rw [n2] at c2
  by_cases ha : (l0[k]).1 = a2
  · have n1 : C9.naming a2 l0[k] = true := by simp [C9.naming, h0, ha]
    rw [n1] at c2
    exact calls_true (C9d.counts_same false _ _ k a2 a3 _ _ _ h h0 h1 h2 h3 ha (by simp at c2; simpa using c2)) hr
  · have n1 : C9.naming a2 l0[k] = false := by simp [C9.naming, ha]
    rw [n1] at c2
    have c2' : ((C9.plc (C9.naming a2) (l0.set k (a2, true, a3)) (l0.set k (a2, true, a3)).length).length : Int) = (C9.plc (C9.naming a2) l0 l0.length).length + 1 := by rw [c2]; simp
    by_cases hz : (l0[k]).1 = 0
    · exact calls_true (C9d.counts_zero_old false _ _ k a2 a3 _ _ _ h h0 h1 h2 h3 ha (by omega) (by omega) c2' hz) hr
    · have h4 := C9.naming_ok false (l0.set k (a2, true, a3)) (by simp; omega) (l0[k]).1
      have h5 := C9.naming_ok false l0 (by omega) (l0[k]).1
      have b5 := C9.plc_len (C9.naming (l0[k]).1) l0 l0.length
      have m1 : C9.naming (l0[k]).1 l0[k] = true := by simp [C9.naming, hz]
      have m2 : C9.naming (l0[k]).1 (a2, true, a3) = false := by
        have : ¬ a2 = (l0[k]).1 := fun q => ha q.symm
        simp [C9.naming, this]
      have c5 := cA (l0[k]).1
      rw [m1, m2] at c5
      exact calls_true (C9d.counts_old false _ _ k a2 a3 _ _ _ h h0 h1 h2 h3 _ _ ha (by omega) (by omega) c2' hz h4 h5 (by omega) (by omega) (by rw [c5]; simp)) hr

set_option maxRecDepth 100000 in
theorem lifted (os : Os) (started : os.Started) (H : Type) (enc : TypeId × Value → H) :
    ReturnsInHanded {} Try.checked os 11 .any (Rows.weakCountsSpec.pre6 enc Try.prog Try.f11 Rows.weakCountsRow.domain false) (Rows.weakCountsSpec.post enc Try.prog Try.f11 false true false false) := by
  refine returnsInHanded_of_change (C := Try.checked) own started (by kernel_rfl) Try.func11
    (ChangeSpec.witness6 (enc := enc) (C := Try.checked) false ⟨#[], #[.slice none 0 0, .int .i64 0, .int .i64 0, .int .i64 0], []⟩ 12 (by kernel_rfl) (by kernel_rfl) (by kernel_rfl) (by kernel_rfl)) ?_
  intro W base args ds gs before hval0 hW hcnd _
  have hval : ∀ (j : Nat) t v, Try.f11.params[j]? = some t → args[j]? = some v → Value.okWide Try.prog W .any base t v := hval0
  have hW' := hW
  obtain ⟨p, q, hA0, hV, rfl, hfz, hnd⟩ := hW
  have hA : DataW.TrodAll enc Try.prog W 0 (fun _ => true) true Try.f11.params.toList args.toList ds p := hA0
  rw [Try.params11] at hA hval
  obtain ⟨v0, vs0, d0, ds0, p0, q0, hargs, rfl, rfl, k0, r0⟩ := trodAll_cons hA
  obtain ⟨v1, vs1, d1, ds1, p1, q1, rfl, rfl, rfl, k1, r1⟩ := trodAll_cons r0
  obtain ⟨v2, vs2, d2, ds2, p2, q2, rfl, rfl, rfl, k2, r2⟩ := trodAll_cons r1
  obtain ⟨v3, vs3, d3, ds3, p3, q3, rfl, rfl, rfl, k3, r3⟩ := trodAll_cons r2
  obtain ⟨rfl, rfl, rfl⟩ := trodAll_nil r3
  obtain rfl : args = #[v0, v1, v2, v3] := by cases args; simp_all
  obtain ⟨rfl, rfl⟩ := trodVars_none hV
  have lt0 : ∀ x ∈ p0, x.block < W.heap.size := by obtain ⟨m, hm⟩ := k0; exact DataW.trod_lt m _ _ _ hm
  have lt1 : ∀ x ∈ p1, x.block < W.heap.size := by obtain ⟨m, hm⟩ := k1; exact DataW.trod_lt m _ _ _ hm
  have lt2 : ∀ x ∈ p2, x.block < W.heap.size := by obtain ⟨m, hm⟩ := k2; exact DataW.trod_lt m _ _ _ hm
  have lt3 : ∀ x ∈ p3, x.block < W.heap.size := by obtain ⟨m, hm⟩ := k3; exact DataW.trod_lt m _ _ _ hm
  obtain ⟨l0, s0⟩ := Cs.cells_of_trod Try.underlying59 (by kernel_rfl) Try.underlying76 (by kernel_rfl) Try.underlying3 Try.underlying4 Try.underlying3 (hval 0 59 v0 rfl rfl) k0
  obtain ⟨a1, rfl, _, _, w1⟩ := open_int Try.underlying3 (hval 1 3 v1 rfl rfl) k1
  obtain ⟨a2, rfl, _, _, w2⟩ := open_int Try.underlying3 (hval 2 3 v2 rfl rfl) k2
  obtain ⟨a3, rfl, _, _, w3⟩ := open_int Try.underlying3 (hval 3 3 v3 rfl rfl) k3
  clear hA0 hval0
  refine (walk v0 l0 a1 a2 a3 W s0 w1 w2 w3).mono fun e W' ⟨he, bel⟩ => ?_
  subst he
  exact ⟨_, rfl, _, _, _, [], _, [], hW', trodAll_mk1 (shut_bool Try.underlying4 _), (trodAll_cons_mk (Below.trod laidOut (by kernel_rfl) (of_decide_eq_true (by kernel_rfl)) k0 bel lt0) (trodAll_cons_mk (Below.trod laidOut (by kernel_rfl) (of_decide_eq_true (by kernel_rfl)) k1 bel lt1) (trodAll_cons_mk (Below.trod laidOut (by kernel_rfl) (of_decide_eq_true (by kernel_rfl)) k2 bel lt2) (trodAll_cons_mk (Below.trod laidOut (by kernel_rfl) (of_decide_eq_true (by kernel_rfl)) k3 bel lt3) trodAll_mk0)))), rfl, bel.frame _, fun h => by cases h⟩

theorem over : Rows.weakCountsRow.holds Try.pinned (OpenSpec.ofChange Rows.weakCountsSpec) :=
  OpenClaim.holds_of_wide 11 Try.f11 rfl rfl rfl rfl rfl rfl rfl ⟨rfl, rfl, rfl, rfl, rfl⟩ rfl rfl rfl rfl rfl (by kernel_rfl) Try.func11 (by kernel_rfl)
    (of_decide_eq_true (by kernel_rfl)) (by unfold Func.isWrapper; first | (rw [if_pos (by decide +kernel)]; kernel_rfl) | (rw [if_neg (by decide +kernel)]; exact ⟨rfl, rfl⟩))
    (fun os started H enc _ => lifted os started H enc)

theorem proved : Rows.WeakCountsSaid := over
#print axioms proved
end Go.Proofs.Ytgleeglhdlnobaa.weakCounts
