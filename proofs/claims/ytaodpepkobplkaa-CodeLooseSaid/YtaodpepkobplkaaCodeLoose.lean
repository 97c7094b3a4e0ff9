/-
  Numbers that a kind does not ask may be any.
  Conditions: none beyond that the arguments are values of their Go types.
-/
import Derived.Test.YtaodpepkobplkaaRows
import Derived.OpenShut
import Derived.Lib.Hide
import Derived.WalkKit
import Derived.ProofKit
import Derived.ShutString
import Derived.ChangeOld
import Derived.Below
import Derived.Test.YtaodpepkobplkaaC17Ok1
import Derived.Test.YtaodpepkobplkaaC17Rd
import Derived.Test.YtaodpepkobplkaaC17T
namespace Go.Proofs.Ytaodpepkobplkaa.codeLoose
open Go Go.Pw Go.Sh Go.Proofs Go.Proofs.Ytaodpepkobplkaa Go.ChangeShapes Go.WideShapes Go.ChangeAt Go.RowKit
set_option linter.unusedVariables false
theorem own : ownKnob Try.prog.godebug = none := by kernel_rfl
theorem laidOut : laidOutB Try.prog = true := by kernel_rfl
theorem walk (w : World) (v0 : Value) (a0 : code_Op) (r0 : Rd0 w (all w) v0 (code_Op.Pv a0)) (g0 : (fun (a : code_Op) => ((fun (n : Int) => (Lit.int .i64 n).wf = true) a.Kind) ∧ (((fun (n : Int) => (Lit.int .i64 n).wf = true) a.A) ∧ (((fun (n : Int) => (Lit.int .i64 n).wf = true) a.B) ∧ (((fun (n : Int) => (Lit.int .i64 n).wf = true) a.C) ∧ (True))))) a0) (v1 : Value) (a1 : Int) (r1 : Rd0 w (all w) v1 (.int .i64 a1)) (g1 : (fun (n : Int) => (Lit.int .i64 n).wf = true) a1) :
    Calls Try.prog 6 #[v0, v1] w fun e w' => e = .returned (.bool true) ∧ Below w.heap.size w w' :=
  calls_true (Ok.w17_CodeLoose_ok.2 _ (codeLoose a0 a1)) (rdL_of (vs := [v0, v1]) ⟨r0, r1, trivial⟩)

set_option maxRecDepth 100000 in
theorem lifted (os : Os) (started : os.Started) (H : Type) (enc : TypeId × Value → H) :
    ReturnsInHanded {} Try.checked os 6 .any (Rows.codeLooseSpec.pre6 enc Try.prog Try.f6 Rows.codeLooseRow.domain false) (Rows.codeLooseSpec.post enc Try.prog Try.f6 false true false false) := by
  refine returnsInHanded_of_change (C := Try.checked) own started (by kernel_rfl) Try.func6
    (ChangeSpec.witness6 (enc := enc) (C := Try.checked) false ⟨#[], #[.agg #[.int .i64 0, .int .i64 0, .int .i64 0, .int .i64 0], .int .i64 0], []⟩ 12 (by kernel_rfl) (by kernel_rfl) (by kernel_rfl) (by kernel_rfl)) ?_
  intro W base args ds gs before hval0 hW hcnd _
  have hval : ∀ (j : Nat) t v, Try.f6.params[j]? = some t → args[j]? = some v → Value.okWide Try.prog W .any base t v := hval0
  have hW' := hW
  obtain ⟨p, q, hA0, hV, rfl, hfz, hnd⟩ := hW
  have hA : DataW.TrodAll enc Try.prog W 0 (fun _ => true) true Try.f6.params.toList args.toList ds p := hA0
  rw [Try.params6] at hA hval
  obtain ⟨v0, vs0, d0, ds0, p0, q0, hargs, rfl, rfl, k0, r0⟩ := trodAll_cons hA
  obtain ⟨v1, vs1, d1, ds1, p1, q1, rfl, rfl, rfl, k1, r1⟩ := trodAll_cons r0
  obtain ⟨rfl, rfl, rfl⟩ := trodAll_nil r1
  obtain rfl : args = #[v0, v1] := by cases args; simp_all
  obtain ⟨rfl, rfl⟩ := trodVars_none hV
  have lt0 : ∀ x ∈ p0, x.block < W.heap.size := by obtain ⟨m, hm⟩ := k0; exact DataW.trod_lt m _ _ _ hm
  have lt1 : ∀ x ∈ p1, x.block < W.heap.size := by obtain ⟨m, hm⟩ := k1; exact DataW.trod_lt m _ _ _ hm
  clear hA0 hval0 r0 r1
  obtain ⟨a0, r0, g0⟩ := Rd.rd23.argA Try.underlying23 (fun _ => rfl) (hval 0 23 v0 rfl rfl) k0
  obtain ⟨a1, r1, g1⟩ := arg_int Try.underlying3 (by kernel_rfl) (hval 1 3 v1 rfl rfl) k1
  refine (walk W v0 a0 r0 g0 v1 a1 r1 g1).mono fun e W' ⟨he, bel⟩ => ?_
  subst he
  exact ⟨_, rfl, _, _, _, [], _, [], hW', trodAll_mk1 (shut_bool Try.underlying4 _), (trodAll_cons_mk (Below.trod laidOut (by kernel_rfl) (of_decide_eq_true (by kernel_rfl)) k0 bel lt0) (trodAll_cons_mk (Below.trod laidOut (by kernel_rfl) (of_decide_eq_true (by kernel_rfl)) k1 bel lt1) trodAll_mk0)), rfl, bel.frame _, fun h => by cases h⟩

theorem enters : Try.prog.mayEnter = true := by kernel_rfl
theorem lifts : (Rows.codeLooseRow.lifted == Try.prog.liftsFinal) = true := by kernel_rfl
theorem makes : (Try.prog.make == some Rows.codeLooseRow.make) = true := by kernel_rfl
theorem closed : joinedFacts Try.prog 6 Try.f6 Rows.codeLooseSpec Rows.codeLooseRow = true := by
  unfold joinedFacts
  rw [laidOut, enters, lifts, makes]
  kernel_rfl
theorem over : Rows.codeLooseRow.holds Try.pinned (OpenSpec.ofChange Rows.codeLooseSpec) :=
  OpenClaim.holds_of_wide 6 Try.f6 rfl rfl rfl rfl rfl rfl rfl ⟨rfl, rfl, rfl, rfl, rfl⟩ rfl rfl rfl rfl rfl (by kernel_rfl) Try.func6 closed
    (of_decide_eq_true (by kernel_rfl)) (by unfold Func.isWrapper; first | (rw [if_pos (by decide +kernel)]; kernel_rfl) | (rw [if_neg (by decide +kernel)]; exact ⟨rfl, rfl⟩))
    (fun os started H enc _ => lifted os started H enc)

theorem proved : Rows.CodeLooseSaid := over
#print axioms proved
end Go.Proofs.Ytaodpepkobplkaa.codeLoose
