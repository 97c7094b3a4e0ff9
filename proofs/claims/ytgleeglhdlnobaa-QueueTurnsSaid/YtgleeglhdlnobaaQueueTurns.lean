/-
  QueueTurns
  Conditions: none beyond that the arguments are values of their Go types.
-/
import Derived.Test.YtgleeglhdlnobaaRows
import Derived.Test.YtgleeglhdlnobaaBs
import Derived.Test.YtgleeglhdlnobaaA4
import Derived.Test.YtgleeglhdlnobaaPw20
namespace Go.Proofs.Ytgleeglhdlnobaa.queueTurns
open Go.ChangeShapes Go.WideShapes Go.ChangeAt Go.RowKit
open Go.Pw
set_option linter.unusedVariables false
theorem own : ownKnob Try.prog.godebug = none := by kernel_rfl
theorem laidOut : laidOutB Try.prog = true := by kernel_rfl
theorem walk (a0 : Int) (v1 : Value) (l1 : List Int) (w : World) (w0 : (Lit.int .u8 a0).wf = true) (s1 : Bs.Sl w (Value.int .i64) v1 l1) (g1 : Bs.Wf l1) :
    Calls Try.prog 8 #[.int .u8 a0, v1] w fun e w' => e = .returned (.bool true) ∧ Below w.heap.size w w' := by
  have hr : RdL w (all w) #[.int .u8 a0, v1] [.int .u8 a0, .lst false (l1.map (PV.int .i64))] := rdL_of (vs := [.int .u8 a0, v1]) ⟨.int _ _, rd_ints s1, trivial⟩
  have hw := wf_u8 w0
  rcases Nat.lt_or_ge 100 l1.length with h | h
  · exact calls_true (C2c.turns_big a0 hw.1 hw.2 false _ (by simpa using h)) hr
  · exact calls_true (C2c.turns_ok a0 (a0 % 10).toNat (by omega) hw.1 hw.2 false _ (ints_map _) (by simpa using h)) hr

set_option maxRecDepth 100000 in
theorem lifted (os : Os) (started : os.Started) (H : Type) (enc : TypeId × Value → H) :
    ReturnsInHanded {} Try.checked os 8 .any (Rows.queueTurnsSpec.pre6 enc Try.prog Try.f8 Rows.queueTurnsRow.domain false) (Rows.queueTurnsSpec.post enc Try.prog Try.f8 false true false false) := by
  refine returnsInHanded_of_change (C := Try.checked) own started (by kernel_rfl) Try.func8
    (ChangeSpec.witness6 (enc := enc) (C := Try.checked) false ⟨#[], #[.int .u8 0, .slice none 0 0], []⟩ 12 (by kernel_rfl) (by kernel_rfl) (by kernel_rfl) (by kernel_rfl)) ?_
  intro W base args ds gs before hval0 hW hcnd _
  have hval : ∀ (j : Nat) t v, Try.f8.params[j]? = some t → args[j]? = some v → Value.okWide Try.prog W .any base t v := hval0
  have hW' := hW
  obtain ⟨p, q, hA0, hV, rfl, hfz, hnd⟩ := hW
  have hA : DataW.TrodAll enc Try.prog W 0 (fun _ => true) true Try.f8.params.toList args.toList ds p := hA0
  rw [Try.params8] at hA hval
  obtain ⟨v0, vs0, d0, ds0, p0, q0, hargs, rfl, rfl, k0, r0⟩ := trodAll_cons hA
  obtain ⟨v1, vs1, d1, ds1, p1, q1, rfl, rfl, rfl, k1, r1⟩ := trodAll_cons r0
  obtain ⟨rfl, rfl, rfl⟩ := trodAll_nil r1
  obtain rfl : args = #[v0, v1] := by cases args; simp_all
  obtain ⟨rfl, rfl⟩ := trodVars_none hV
  have lt0 : ∀ x ∈ p0, x.block < W.heap.size := by obtain ⟨m, hm⟩ := k0; exact DataW.trod_lt m _ _ _ hm
  have lt1 : ∀ x ∈ p1, x.block < W.heap.size := by obtain ⟨m, hm⟩ := k1; exact DataW.trod_lt m _ _ _ hm
  obtain ⟨a0, rfl, _, _, w0⟩ := open_int Try.underlying5 (hval 0 5 v0 rfl rfl) k0
  obtain ⟨l1, s1, g1⟩ := Bs.ints_of_trod Try.underlying22 (by kernel_rfl) Try.underlying3 (hval 1 22 v1 rfl rfl) k1
  clear hA0 hval0
  refine (walk a0 v1 l1 W w0 s1 g1).mono fun e W' ⟨he, bel⟩ => ?_
  subst he
  exact ⟨_, rfl, _, _, _, [], _, [], hW', trodAll_mk1 (shut_bool Try.underlying4 _), (trodAll_cons_mk (Below.trod laidOut (by kernel_rfl) (of_decide_eq_true (by kernel_rfl)) k0 bel lt0) (trodAll_cons_mk (Below.trod laidOut (by kernel_rfl) (of_decide_eq_true (by kernel_rfl)) k1 bel lt1) trodAll_mk0)), rfl, bel.frame _, fun h => by cases h⟩

theorem over : Rows.queueTurnsRow.holds Try.pinned (OpenSpec.ofChange Rows.queueTurnsSpec) :=
  OpenClaim.holds_of_wide 8 Try.f8 rfl rfl rfl rfl rfl rfl rfl ⟨rfl, rfl, rfl, rfl, rfl⟩ rfl rfl rfl rfl rfl (by kernel_rfl) Try.func8 (by kernel_rfl)
    (of_decide_eq_true (by kernel_rfl)) (by unfold Func.isWrapper; first | (rw [if_pos (by decide +kernel)]; kernel_rfl) | (rw [if_neg (by decide +kernel)]; exact ⟨rfl, rfl⟩))
    (fun os started H enc _ => lifted os started H enc)

theorem proved : Rows.QueueTurnsSaid := over
#print axioms proved
end Go.Proofs.Ytgleeglhdlnobaa.queueTurns
