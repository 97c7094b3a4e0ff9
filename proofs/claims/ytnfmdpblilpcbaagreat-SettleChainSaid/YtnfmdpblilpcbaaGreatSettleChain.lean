/-
  A chain of one to twenty-four objects that its first one holds dies whole when nobody names that one; slots come back.
  Conditions: none beyond that the arguments are values of their Go types.
-/
import Derived.Test.YtnfmdpblilpcbaaGreatRows
import Derived.OpenShut
import Derived.Lib.Hide
import Derived.WalkKit
import Derived.ProofKit
import Derived.ShutString
import Derived.ChangeOld
import Derived.Below
import Derived.Test.YtnfmdpblilpcbaaGreatI16cOk2
import Derived.Test.YtnfmdpblilpcbaaGreatI16cRd
import Derived.Test.YtnfmdpblilpcbaaGreatI16cT2
namespace Go.Proofs.YtnfmdpblilpcbaaGreat.settleChain
open Go Go.Pw Go.Sh Go.Proofs Go.Proofs.YtnfmdpblilpcbaaGreat Go.ChangeShapes Go.WideShapes Go.ChangeAt Go.RowKit
set_option linter.unusedVariables false
theorem own : ownKnob Tryz.prog.godebug = none := by kernel_rfl
theorem laidOut : laidOutB Tryz.prog = true := by kernel_rfl
theorem walk (w : World) (v0 : Value) (a0 : Int) (r0 : Rd0 w (all w) v0 (.int .u8 a0)) (g0 : (fun (n : Int) => (Lit.int .u8 n).wf = true) a0) :
    Calls Tryz.prog 14 #[v0] w fun e w' => e = .returned (.bool true) ∧ Below w.heap.size w w' :=
  calls_true (Ok.w16_SettleChain_ok.2 _ (settleChain (wf_u8 g0).1 (by have := (wf_u8 g0).2; omega))) (rdL_of (vs := [v0]) ⟨r0, trivial⟩)

set_option maxRecDepth 100000 in
theorem lifted (os : Os) (started : os.Started) (H : Type) (enc : TypeId × Value → H) :
    ReturnsInHanded {} Tryz.checked os 14 .any (Rows.settleChainSpec.pre6 enc Tryz.prog Tryz.f14 Rows.settleChainRow.domain false) (Rows.settleChainSpec.post enc Tryz.prog Tryz.f14 false true false false) := by
  refine returnsInHanded_of_change (C := Tryz.checked) own started (by kernel_rfl) Tryz.func14
    (ChangeSpec.witness6 (enc := enc) (C := Tryz.checked) false ⟨#[], #[.int .u8 0], []⟩ 12 (by kernel_rfl) (by kernel_rfl) (by kernel_rfl) (by kernel_rfl)) ?_
  intro W base args ds gs before hval0 hW hcnd _
  have hval : ∀ (j : Nat) t v, Tryz.f14.params[j]? = some t → args[j]? = some v → Value.okWide Tryz.prog W .any base t v := hval0
  have hW' := hW
  obtain ⟨p, q, hA0, hV, rfl, hfz, hnd⟩ := hW
  have hA : DataW.TrodAll enc Tryz.prog W 0 (fun _ => true) true Tryz.f14.params.toList args.toList ds p := hA0
  rw [Tryz.params14] at hA hval
  obtain ⟨v0, vs0, d0, ds0, p0, q0, hargs, rfl, rfl, k0, r0⟩ := trodAll_cons hA
  obtain ⟨rfl, rfl, rfl⟩ := trodAll_nil r0
  obtain rfl : args = #[v0] := by cases args; simp_all
  obtain ⟨rfl, rfl⟩ := trodVars_none hV
  have lt0 : ∀ x ∈ p0, x.block < W.heap.size := by obtain ⟨m, hm⟩ := k0; exact DataW.trod_lt m _ _ _ hm
  clear hA0 hval0 r0
  obtain ⟨a0, r0, g0⟩ := arg_int Tryz.underlying5 (by kernel_rfl) (hval 0 5 v0 rfl rfl) k0
  refine (walk W v0 a0 r0 g0).mono fun e W' ⟨he, bel⟩ => ?_
  subst he
  exact ⟨_, rfl, _, _, _, [], _, [], hW', trodAll_mk1 (shut_bool Tryz.underlying4 _), (trodAll_cons_mk (Below.trod laidOut (by kernel_rfl) (of_decide_eq_true (by kernel_rfl)) k0 bel lt0) trodAll_mk0), rfl, bel.frame _, fun h => by cases h⟩

theorem enters : Tryz.prog.mayEnter = true := by kernel_rfl
theorem lifts : (Rows.settleChainRow.lifted == Tryz.prog.liftsFinal) = true := by kernel_rfl
theorem makes : (Tryz.prog.make == some Rows.settleChainRow.make) = true := by kernel_rfl
theorem closed : joinedFacts Tryz.prog 14 Tryz.f14 Rows.settleChainSpec Rows.settleChainRow = true := by
  unfold joinedFacts
  rw [laidOut, enters, lifts, makes]
  kernel_rfl
theorem over : Rows.settleChainRow.holds Tryz.pinned (OpenSpec.ofChange Rows.settleChainSpec) :=
  OpenClaim.holds_of_wide 14 Tryz.f14 rfl rfl rfl rfl rfl rfl rfl ⟨rfl, rfl, rfl, rfl, rfl⟩ rfl rfl rfl rfl rfl (by kernel_rfl) Tryz.func14 closed
    (of_decide_eq_true (by kernel_rfl)) (by unfold Func.isWrapper; first | (rw [if_pos (by decide +kernel)]; kernel_rfl) | (rw [if_neg (by decide +kernel)]; exact ⟨rfl, rfl⟩))
    (fun os started H enc _ => lifted os started H enc)

theorem proved : Rows.SettleChainSaid := over
#print axioms proved
end Go.Proofs.YtnfmdpblilpcbaaGreat.settleChain
