/-
  WeakLoads
  Conditions: none beyond that the arguments are values of their Go types.
-/
import Derived.Test.YtgleeglhdlnobaaRows
import Derived.Test.YtgleeglhdlnobaaBs
import Derived.Test.YtgleeglhdlnobaaA12
import Derived.Test.YtgleeglhdlnobaaPw20
import Derived.Test.YtgleeglhdlnobaaCs
namespace Go.Proofs.Ytgleeglhdlnobaa.weakLoads
open Go.ChangeShapes Go.WideShapes Go.ChangeAt Go.RowKit
open Go.Pw
set_option linter.unusedVariables false
theorem own : ownKnob Try.prog.godebug = none := by kernel_rfl
theorem laidOut : laidOutB Try.prog = true := by kernel_rfl
theorem walk (v0 : Value) (l0 : List C9.C) (a1 : Int) (a2 : Int) (a3 : Int) (a4 : Int) (w : World) (s0 : Bs.Ss 3 w Cs.cellV v0 l0) (w1 : (Lit.int .i64 a1).wf = true) (w2 : (Lit.int .i64 a2).wf = true) (w3 : (Lit.int .i64 a3).wf = true) (w4 : (Lit.int .i64 a4).wf = true) :
    Calls Try.prog 10 #[v0, .int .i64 a1, .int .i64 a2, .int .i64 a3, .int .i64 a4] w fun e w' => e = .returned (.bool true) ∧ Below w.heap.size w w' := by
  have hr : RdL w (all w) #[v0, .int .i64 a1, .int .i64 a2, .int .i64 a3, .int .i64 a4] [.lst false (l0.map C9.cell), .int .i64 a1, .int .i64 a2, .int .i64 a3, .int .i64 a4] := rdL_of (vs := [v0, .int .i64 a1, .int .i64 a2, .int .i64 a3, .int .i64 a4]) ⟨Cs.rd_cells s0, .int _ _, .int _ _, .int _ _, .int _ _, trivial⟩
  rcases Nat.lt_or_ge 50 (l0.map C9.cell).length with h | h
  · exact calls_true (C9d.loads_big false _ a1 a2 a3 a4 h) hr
  by_cases h0 : a2 = 0
  · subst h0
    exact calls_true (C9d.loads_zero false _ a1 a3 a4 h) hr
  have e0 : l0.length ≤ 50 := by simpa using h
  by_cases hw : a1 < 0 ∨ (l0.map C9.cell).length ≤ a1
  · exact calls_true (C9d.loads_err false _ a1 a2 a3 a4 h h0 hw) hr
  obtain ⟨k, rfl⟩ : ∃ k : Nat, a1 = k := ⟨a1.toNat, by omega⟩
  have hk : k < l0.length := by simp at hw; omega
  have hv : l0[k]? = some l0[k] := List.getElem?_eq_getElem hk
  have h1 := C9.set_ok false (l0.map C9.cell) _ (C9.cel_map l0) (by simp; omega) k a2 a3 (l0[k]).1 (l0[k]).2.1 (l0[k]).2.2 true (by simp [h0]) (by rw [List.getElem?_map, hv]; rfl) (by simpa using hk) (C9d.map_set_cell l0 k (a2, true, a3))
  have hA : ((l0.set k (a2, true, a3)).map C9.cell)[k]? = some (C9.cell (a2, true, a3)) := by simp [hk]
  have hB : (((l0.set k (a2, true, a3)).map (C9c.clr [a2])).map C9.cell)[k]? = some (C9.cell (a2, false, a3)) := by simp [hk, C9c.clr, C9.hit, C9.off, h0]
  have h2 := C9.load_ok false _ k a2 a3 h0 (by simpa using hk) hA
  have h3 := C9c.clear_all false false (l0.set k (a2, true, a3)) (by simp; omega) [a2] (by simp)
  have h4 := C9.load_dead false _ k a2 a3 h0 (by simpa using hk) hB
  have h5 := C9d.ld_all false l0 a4
  have h6 := C9d.ld_all false (l0.set k (a2, true, a3)) a4
  by_cases ho : a4 = k
  · exact calls_true (C9d.loads_same false _ _ _ _ k a2 a3 a4 _ _ _ _ _ _ h h0 h1 h2 h3 h4 h5 h6 ho) hr
  · exact calls_true (C9d.loads_diff false _ _ _ _ k a2 a3 a4 _ _ _ _ _ _ h h0 h1 h2 h3 h4 h5 h6 ho (by rw [C9d.ld_set _ _ _ _ ho]) (by rw [C9d.ld_set _ _ _ _ ho])) hr

set_option maxRecDepth 100000 in
theorem lifted (os : Os) (started : os.Started) (H : Type) (enc : TypeId × Value → H) :
    ReturnsInHanded {} Try.checked os 10 .any (Rows.weakLoadsSpec.pre6 enc Try.prog Try.f10 Rows.weakLoadsRow.domain false) (Rows.weakLoadsSpec.post enc Try.prog Try.f10 false true false false) := by
  refine returnsInHanded_of_change (C := Try.checked) own started (by kernel_rfl) Try.func10
    (ChangeSpec.witness6 (enc := enc) (C := Try.checked) false ⟨#[], #[.slice none 0 0, .int .i64 0, .int .i64 0, .int .i64 0, .int .i64 0], []⟩ 12 (by kernel_rfl) (by kernel_rfl) (by kernel_rfl) (by kernel_rfl)) ?_
  intro W base args ds gs before hval0 hW hcnd _
  have hval : ∀ (j : Nat) t v, Try.f10.params[j]? = some t → args[j]? = some v → Value.okWide Try.prog W .any base t v := hval0
  have hW' := hW
  obtain ⟨p, q, hA0, hV, rfl, hfz, hnd⟩ := hW
  have hA : DataW.TrodAll enc Try.prog W 0 (fun _ => true) true Try.f10.params.toList args.toList ds p := hA0
  rw [Try.params10] at hA hval
  obtain ⟨v0, vs0, d0, ds0, p0, q0, hargs, rfl, rfl, k0, r0⟩ := trodAll_cons hA
  obtain ⟨v1, vs1, d1, ds1, p1, q1, rfl, rfl, rfl, k1, r1⟩ := trodAll_cons r0
  obtain ⟨v2, vs2, d2, ds2, p2, q2, rfl, rfl, rfl, k2, r2⟩ := trodAll_cons r1
  obtain ⟨v3, vs3, d3, ds3, p3, q3, rfl, rfl, rfl, k3, r3⟩ := trodAll_cons r2
  obtain ⟨v4, vs4, d4, ds4, p4, q4, rfl, rfl, rfl, k4, r4⟩ := trodAll_cons r3
  obtain ⟨rfl, rfl, rfl⟩ := trodAll_nil r4
  obtain rfl : args = #[v0, v1, v2, v3, v4] := by cases args; simp_all
  obtain ⟨rfl, rfl⟩ := trodVars_none hV
  have lt0 : ∀ x ∈ p0, x.block < W.heap.size := by obtain ⟨m, hm⟩ := k0; exact DataW.trod_lt m _ _ _ hm
  have lt1 : ∀ x ∈ p1, x.block < W.heap.size := by obtain ⟨m, hm⟩ := k1; exact DataW.trod_lt m _ _ _ hm
  have lt2 : ∀ x ∈ p2, x.block < W.heap.size := by obtain ⟨m, hm⟩ := k2; exact DataW.trod_lt m _ _ _ hm
  have lt3 : ∀ x ∈ p3, x.block < W.heap.size := by obtain ⟨m, hm⟩ := k3; exact DataW.trod_lt m _ _ _ hm
  have lt4 : ∀ x ∈ p4, x.block < W.heap.size := by obtain ⟨m, hm⟩ := k4; exact DataW.trod_lt m _ _ _ hm
  obtain ⟨l0, s0⟩ := Cs.cells_of_trod Try.underlying59 (by kernel_rfl) Try.underlying76 (by kernel_rfl) Try.underlying3 Try.underlying4 Try.underlying3 (hval 0 59 v0 rfl rfl) k0
  obtain ⟨a1, rfl, _, _, w1⟩ := open_int Try.underlying3 (hval 1 3 v1 rfl rfl) k1
  obtain ⟨a2, rfl, _, _, w2⟩ := open_int Try.underlying3 (hval 2 3 v2 rfl rfl) k2
  obtain ⟨a3, rfl, _, _, w3⟩ := open_int Try.underlying3 (hval 3 3 v3 rfl rfl) k3
  obtain ⟨a4, rfl, _, _, w4⟩ := open_int Try.underlying3 (hval 4 3 v4 rfl rfl) k4
  clear hA0 hval0
  refine (walk v0 l0 a1 a2 a3 a4 W s0 w1 w2 w3 w4).mono fun e W' ⟨he, bel⟩ => ?_
  subst he
  exact ⟨_, rfl, _, _, _, [], _, [], hW', trodAll_mk1 (shut_bool Try.underlying4 _), (trodAll_cons_mk (Below.trod laidOut (by kernel_rfl) (of_decide_eq_true (by kernel_rfl)) k0 bel lt0) (trodAll_cons_mk (Below.trod laidOut (by kernel_rfl) (of_decide_eq_true (by kernel_rfl)) k1 bel lt1) (trodAll_cons_mk (Below.trod laidOut (by kernel_rfl) (of_decide_eq_true (by kernel_rfl)) k2 bel lt2) (trodAll_cons_mk (Below.trod laidOut (by kernel_rfl) (of_decide_eq_true (by kernel_rfl)) k3 bel lt3) (trodAll_cons_mk (Below.trod laidOut (by kernel_rfl) (of_decide_eq_true (by kernel_rfl)) k4 bel lt4) trodAll_mk0))))), rfl, bel.frame _, fun h => by cases h⟩

theorem over : Rows.weakLoadsRow.holds Try.pinned (OpenSpec.ofChange Rows.weakLoadsSpec) :=
  OpenClaim.holds_of_wide 10 Try.f10 rfl rfl rfl rfl rfl rfl rfl ⟨rfl, rfl, rfl, rfl, rfl⟩ rfl rfl rfl rfl rfl (by kernel_rfl) Try.func10 (by kernel_rfl)
    (of_decide_eq_true (by kernel_rfl)) (by unfold Func.isWrapper; first | (rw [if_pos (by decide +kernel)]; kernel_rfl) | (rw [if_neg (by decide +kernel)]; exact ⟨rfl, rfl⟩))
    (fun os started H enc _ => lifted os started H enc)

theorem proved : Rows.WeakLoadsSaid := over
#print axioms proved
end Go.Proofs.Ytgleeglhdlnobaa.weakLoads
