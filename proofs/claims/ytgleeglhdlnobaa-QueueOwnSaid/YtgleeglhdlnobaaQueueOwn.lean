/-
  QueueOwn
  Conditions: none beyond that the arguments are values of their Go types.
-/
import Derived.Test.YtgleeglhdlnobaaRows
import Derived.Test.YtgleeglhdlnobaaBs
import Derived.Test.YtgleeglhdlnobaaA3
import Derived.Test.YtgleeglhdlnobaaPw20
import Derived.Test.YtgleeglhdlnobaaFs
namespace Go.Proofs.Ytgleeglhdlnobaa.queueOwn
open Go.ChangeShapes Go.WideShapes Go.ChangeAt Go.RowKit
open Go.Pw
set_option linter.unusedVariables false
theorem own : ownKnob Try.prog.godebug = none := by kernel_rfl
theorem laidOut : laidOutB Try.prog = true := by kernel_rfl
theorem walk (v0 : Value) (l0 : List Int) (c0 : Int) (a1 : Int) (a2 : Int) (w : World) (s0 : Bs.Sl w (Value.int .i64) v0 l0) (g0 : Bs.Wf l0) (k0 : (Lit.int .i64 c0).wf = true) (w1 : (Lit.int .i64 a1).wf = true) (w2 : (Lit.int .i64 a2).wf = true) :
    Calls Try.prog 6 #[.agg #[v0, .int .i64 c0], .int .i64 a1, .int .i64 a2] w fun e w' => e = .returned (.bool true) ∧ Below w.heap.size w w' := by
  have hq : Rd0 w (all w) (.agg #[v0, .int .i64 c0]) (.agg [.lst false (l0.map (PV.int .i64)), .int .i64 c0]) := rd_agg (vs := [v0, .int .i64 c0]) rfl ⟨rd_ints s0, .int _ _, trivial⟩
  have hr : RdL w (all w) #[.agg #[v0, .int .i64 c0], .int .i64 a1, .int .i64 a2] [.agg [.lst false (l0.map (PV.int .i64)), .int .i64 c0], .int .i64 a1, .int .i64 a2] := rdL_of (vs := [.agg #[v0, .int .i64 c0], .int .i64 a1, .int .i64 a2]) ⟨hq, .int _ _, .int _ _, trivial⟩
  rcases Nat.lt_or_ge 60 l0.length with h | h
  · exact calls_true (C2b.own_big false _ c0 a1 a2 (by simpa using h)) hr
  · have hl : (l0.map (PV.int .i64)).length ≤ 60 := by simpa using h
    rcases Int.lt_or_le ((l0.map (PV.int .i64)).length : Int) c0 with hc | hc
    · exact calls_true (C2b.own_ok false _ _ _ c0 a1 a2 (ints_map l0) hl hc rfl rfl ((ints_map l0).snoc a1) ((ints_map l0).snoc a2) (by simp) (by simp)) hr
    · exact calls_true (C2b.own_full false _ c0 a1 a2 hl hc) hr

set_option maxRecDepth 100000 in
theorem lifted (os : Os) (started : os.Started) (H : Type) (enc : TypeId × Value → H) :
    ReturnsInHanded {} Try.checked os 6 .any (Rows.queueOwnSpec.pre6 enc Try.prog Try.f6 Rows.queueOwnRow.domain false) (Rows.queueOwnSpec.post enc Try.prog Try.f6 false true false false) := by
  refine returnsInHanded_of_change (C := Try.checked) own started (by kernel_rfl) Try.func6
    (ChangeSpec.witness6 (enc := enc) (C := Try.checked) false ⟨#[], #[.agg #[.slice none 0 0, .int .i64 0], .int .i64 0, .int .i64 0], []⟩ 12 (by kernel_rfl) (by kernel_rfl) (by kernel_rfl) (by kernel_rfl)) ?_
  intro W base args ds gs before hval0 hW hcnd _
  have hval : ∀ (j : Nat) t v, Try.f6.params[j]? = some t → args[j]? = some v → Value.okWide Try.prog W .any base t v := hval0
  have hW' := hW
  obtain ⟨p, q, hA0, hV, rfl, hfz, hnd⟩ := hW
  have hA : DataW.TrodAll enc Try.prog W 0 (fun _ => true) true Try.f6.params.toList args.toList ds p := hA0
  rw [Try.params6] at hA hval
  obtain ⟨v0, vs0, d0, ds0, p0, q0, hargs, rfl, rfl, k0, r0⟩ := trodAll_cons hA
  obtain ⟨v1, vs1, d1, ds1, p1, q1, rfl, rfl, rfl, k1, r1⟩ := trodAll_cons r0
  obtain ⟨v2, vs2, d2, ds2, p2, q2, rfl, rfl, rfl, k2, r2⟩ := trodAll_cons r1
  obtain ⟨rfl, rfl, rfl⟩ := trodAll_nil r2
  obtain rfl : args = #[v0, v1, v2] := by cases args; simp_all
  obtain ⟨rfl, rfl⟩ := trodVars_none hV
  have lt0 : ∀ x ∈ p0, x.block < W.heap.size := by obtain ⟨m, hm⟩ := k0; exact DataW.trod_lt m _ _ _ hm
  have lt1 : ∀ x ∈ p1, x.block < W.heap.size := by obtain ⟨m, hm⟩ := k1; exact DataW.trod_lt m _ _ _ hm
  have lt2 : ∀ x ∈ p2, x.block < W.heap.size := by obtain ⟨m, hm⟩ := k2; exact DataW.trod_lt m _ _ _ hm
  obtain ⟨x0, z0, ya0, yb0, n0, rfl, rfl, rfl, fa0, fb0⟩ := Go.Joins.open_agg2 Try.underlying24 (by kernel_rfl) (by kernel_rfl) (hval 0 24 v0 rfl rfl) k0
  obtain ⟨l0, s0, g0⟩ := Fs.ints_of_field Try.underlying22 (by kernel_rfl) Try.underlying3 fa0
  obtain ⟨c0, e0, rfl, w0⟩ := DataW.trod_int Try.underlying3 fb0
  simp at e0
  subst e0
  obtain ⟨a1, rfl, _, _, w1⟩ := open_int Try.underlying3 (hval 1 3 v1 rfl rfl) k1
  obtain ⟨a2, rfl, _, _, w2⟩ := open_int Try.underlying3 (hval 2 3 v2 rfl rfl) k2
  clear hA0 hval0
  refine (walk x0 l0 c0 a1 a2 W s0 g0 w0 w1 w2).mono fun e W' ⟨he, bel⟩ => ?_
  subst he
  exact ⟨_, rfl, _, _, _, [], _, [], hW', trodAll_mk1 (shut_bool Try.underlying4 _), (trodAll_cons_mk (Below.trod laidOut (by kernel_rfl) (of_decide_eq_true (by kernel_rfl)) k0 bel lt0) (trodAll_cons_mk (Below.trod laidOut (by kernel_rfl) (of_decide_eq_true (by kernel_rfl)) k1 bel lt1) (trodAll_cons_mk (Below.trod laidOut (by kernel_rfl) (of_decide_eq_true (by kernel_rfl)) k2 bel lt2) trodAll_mk0))), rfl, bel.frame _, fun h => by cases h⟩

theorem over : Rows.queueOwnRow.holds Try.pinned (OpenSpec.ofChange Rows.queueOwnSpec) :=
  OpenClaim.holds_of_wide 6 Try.f6 rfl rfl rfl rfl rfl rfl rfl ⟨rfl, rfl, rfl, rfl, rfl⟩ rfl rfl rfl rfl rfl (by kernel_rfl) Try.func6 (by kernel_rfl)
    (of_decide_eq_true (by kernel_rfl)) (by unfold Func.isWrapper; first | (rw [if_pos (by decide +kernel)]; kernel_rfl) | (rw [if_neg (by decide +kernel)]; exact ⟨rfl, rfl⟩))
    (fun os started H enc _ => lifted os started H enc)

theorem proved : Rows.QueueOwnSaid := over
#print axioms proved
end Go.Proofs.Ytgleeglhdlnobaa.queueOwn
