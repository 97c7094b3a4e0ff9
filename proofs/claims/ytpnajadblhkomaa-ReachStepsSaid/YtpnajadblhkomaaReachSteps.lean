/-
  What is reached by way of another one is reached.
  Conditions: none beyond that the arguments are values of their Go types.
-/
import Derived.Test.YtpnajadblhkomaaRows
import Derived.OpenShut
import Derived.Lib.Hide
import Derived.WalkKit
import Derived.ProofKit
import Derived.ShutString
import Derived.ChangeOld
import Derived.Below
import Derived.Test.YtpnajadblhkomaaG8Ok2
import Derived.Test.YtpnajadblhkomaaG8Rd
import Derived.Test.YtpnajadblhkomaaG8T
namespace Go.Proofs.Ytpnajadblhkomaa.reachSteps
open Go Go.Pw Go.Sh Go.Proofs Go.Proofs.Ytpnajadblhkomaa Go.ChangeShapes Go.WideShapes Go.ChangeAt Go.RowKit
set_option linter.unusedVariables false
theorem own : ownKnob Try.prog.godebug = none := by kernel_rfl
theorem laidOut : laidOutB Try.prog = true := by kernel_rfl
theorem walk (w : World) (v0 : Value) (a0 : store_Store) (r0 : Rd0 w (all w) v0 (store_Store.Pv a0)) (g0 : (fun (a : store_Store) => ((fun (a : slab_Slab_store_Obj) => ((fun (l : List slab_Cell_store_Obj) => l.length ≤ maxLen ∧ ∀ a ∈ l, (fun (a : slab_Cell_store_Obj) => ((fun (n : Int) => (Lit.int .i64 n).wf = true) a.State) ∧ (((fun (n : Int) => (Lit.int .i64 n).wf = true) a.Gen) ∧ (((fun (a : store_Obj) => ((fun (n : Int) => (Lit.int .i64 n).wf = true) a.Serial) ∧ (((fun (n : Int) => (Lit.int .i64 n).wf = true) a.Strong) ∧ (((fun (n : Int) => (Lit.int .i64 n).wf = true) a.Weak) ∧ (((fun (n : Int) => (Lit.int .i64 n).wf = true) a.Prog) ∧ (((fun (_ : Bool) => True) a.Started) ∧ (((fun (l : List Int) => l.length ≤ maxLen ∧ ∀ a ∈ l, (fun (n : Int) => (Lit.int .i64 n).wf = true) a) a.Fields) ∧ (True))))))) a.Val) ∧ (True)))) a) a.Cells) ∧ (((fun (n : Int) => (Lit.int .i64 n).wf = true) a.Last) ∧ (True))) a.S) ∧ (((fun (n : Int) => (Lit.int .i64 n).wf = true) a.Serial) ∧ (True))) a0) (v1 : Value) (a1 : Int) (r1 : Rd0 w (all w) v1 (.int .i64 a1)) (g1 : (fun (n : Int) => (Lit.int .i64 n).wf = true) a1) (v2 : Value) (a2 : Int) (r2 : Rd0 w (all w) v2 (.int .i64 a2)) (g2 : (fun (n : Int) => (Lit.int .i64 n).wf = true) a2) (v3 : Value) (a3 : Int) (r3 : Rd0 w (all w) v3 (.int .i64 a3)) (g3 : (fun (n : Int) => (Lit.int .i64 n).wf = true) a3) :
    Calls Try.prog 15 #[v0, v1, v2, v3] w fun e w' => e = .returned (.bool true) ∧ Below w.heap.size w w' :=
  calls_true (Ok.w08_ReachSteps_ok (reachSteps a0 (fun c hc x hx => (wf_i64 ((g0.1.1.2 c hc).2.2.1.2.2.2.2.2.1.2 x hx)).2) a3 (wf_i64 g1).2 (wf_i64 g2).2)) (rdL_of (vs := [v0, v1, v2, v3]) ⟨r0, r1, r2, r3, trivial⟩)

set_option maxRecDepth 100000 in
theorem lifted (os : Os) (started : os.Started) (H : Type) (enc : TypeId × Value → H) :
    ReturnsInHanded {} Try.checked os 15 .any (Rows.reachStepsSpec.pre6 enc Try.prog Try.f15 Rows.reachStepsRow.domain false) (Rows.reachStepsSpec.post enc Try.prog Try.f15 false true false false) := by
  refine returnsInHanded_of_change (C := Try.checked) own started (by kernel_rfl) Try.func15
    (ChangeSpec.witness6 (enc := enc) (C := Try.checked) false ⟨#[], #[.agg #[.slice none 0 0, .int .i64 0, .int .i64 0], .int .i64 0, .int .i64 0, .int .i64 0], []⟩ 12 (by kernel_rfl) (by kernel_rfl) (by kernel_rfl) (by kernel_rfl)) ?_
  intro W base args ds gs before hval0 hW hcnd _
  have hval : ∀ (j : Nat) t v, Try.f15.params[j]? = some t → args[j]? = some v → Value.okWide Try.prog W .any base t v := hval0
  have hW' := hW
  obtain ⟨p, q, hA0, hV, rfl, hfz, hnd⟩ := hW
  have hA : DataW.TrodAll enc Try.prog W 0 (fun _ => true) true Try.f15.params.toList args.toList ds p := hA0
  rw [Try.params15] at hA hval
  obtain ⟨v0, vs0, d0, ds0, p0, q0, hargs, rfl, rfl, k0, r0⟩ := trodAll_cons hA
  obtain ⟨v1, vs1, d1, ds1, p1, q1, rfl, rfl, rfl, k1, r1⟩ := trodAll_cons r0
  obtain ⟨v2, vs2, d2, ds2, p2, q2, rfl, rfl, rfl, k2, r2⟩ := trodAll_cons r1
  obtain ⟨v3, vs3, d3, ds3, p3, q3, rfl, rfl, rfl, k3, r3⟩ := trodAll_cons r2
  obtain ⟨rfl, rfl, rfl⟩ := trodAll_nil r3
  obtain rfl : args = #[v0, v1, v2, v3] := by cases args; simp_all
  obtain ⟨rfl, rfl⟩ := trodVars_none hV
  have lt0 : ∀ x ∈ p0, x.block < W.heap.size := by obtain ⟨m, hm⟩ := k0; exact DataW.trod_lt m _ _ _ hm
  have lt1 : ∀ x ∈ p1, x.block < W.heap.size := by obtain ⟨m, hm⟩ := k1; exact DataW.trod_lt m _ _ _ hm
  have lt2 : ∀ x ∈ p2, x.block < W.heap.size := by obtain ⟨m, hm⟩ := k2; exact DataW.trod_lt m _ _ _ hm
  have lt3 : ∀ x ∈ p3, x.block < W.heap.size := by obtain ⟨m, hm⟩ := k3; exact DataW.trod_lt m _ _ _ hm
  clear hA0 hval0 r0 r1 r2 r3
  obtain ⟨a0, r0, g0⟩ := Rd.rd26.argA Try.underlying26 (fun _ => rfl) (hval 0 26 v0 rfl rfl) k0
  obtain ⟨a1, r1, g1⟩ := arg_int Try.underlying3 (by kernel_rfl) (hval 1 3 v1 rfl rfl) k1
  obtain ⟨a2, r2, g2⟩ := arg_int Try.underlying3 (by kernel_rfl) (hval 2 3 v2 rfl rfl) k2
  obtain ⟨a3, r3, g3⟩ := arg_int Try.underlying3 (by kernel_rfl) (hval 3 3 v3 rfl rfl) k3
  refine (walk W v0 a0 r0 g0 v1 a1 r1 g1 v2 a2 r2 g2 v3 a3 r3 g3).mono fun e W' ⟨he, bel⟩ => ?_
  subst he
  exact ⟨_, rfl, _, _, _, [], _, [], hW', trodAll_mk1 (shut_bool Try.underlying4 _), (trodAll_cons_mk (Below.trod laidOut (by kernel_rfl) (of_decide_eq_true (by kernel_rfl)) k0 bel lt0) (trodAll_cons_mk (Below.trod laidOut (by kernel_rfl) (of_decide_eq_true (by kernel_rfl)) k1 bel lt1) (trodAll_cons_mk (Below.trod laidOut (by kernel_rfl) (of_decide_eq_true (by kernel_rfl)) k2 bel lt2) (trodAll_cons_mk (Below.trod laidOut (by kernel_rfl) (of_decide_eq_true (by kernel_rfl)) k3 bel lt3) trodAll_mk0)))), rfl, bel.frame _, fun h => by cases h⟩

theorem over : Rows.reachStepsRow.holds Try.pinned (OpenSpec.ofChange Rows.reachStepsSpec) :=
  OpenClaim.holds_of_wide 15 Try.f15 rfl rfl rfl rfl rfl rfl rfl ⟨rfl, rfl, rfl, rfl, rfl⟩ rfl rfl rfl rfl rfl (by kernel_rfl) Try.func15 (by kernel_rfl)
    (of_decide_eq_true (by kernel_rfl)) (by unfold Func.isWrapper; first | (rw [if_pos (by decide +kernel)]; kernel_rfl) | (rw [if_neg (by decide +kernel)]; exact ⟨rfl, rfl⟩))
    (fun os started H enc _ => lifted os started H enc)

theorem proved : Rows.ReachStepsSaid := over
#print axioms proved
end Go.Proofs.Ytpnajadblhkomaa.reachSteps
