/-
  The model is the document's.
  Conditions: none beyond that the arguments are values of their Go types.
-/
import Derived.Test.YtbdapcapkocckaaGreatRows
import Derived.OpenShut
import Derived.Lib.Hide
import Derived.WalkKit
import Derived.ProofKit
import Derived.ShutString
import Derived.ChangeOld
import Derived.Below
import Derived.Test.YtbdapcapkocckaaGreatQ22rOk4
import Derived.Test.YtbdapcapkocckaaGreatQ22rRd
import Derived.Test.YtbdapcapkocckaaGreatQ22rT4
namespace Go.Proofs.YtbdapcapkocckaaGreat.modelRuns
open Go Go.Pw Go.Sh Go.Proofs Go.Proofs.YtbdapcapkocckaaGreat Go.ChangeShapes Go.WideShapes Go.ChangeAt Go.RowKit
set_option linter.unusedVariables false
theorem own : ownKnob Tryz.prog.godebug = none := by kernel_rfl
theorem laidOut : laidOutB Tryz.prog = true := by kernel_rfl
theorem walk (w : World) (v0 : Value) (a0 : Int) (r0 : Rd0 w (all w) v0 (.int .i64 a0)) (g0 : (fun (n : Int) => (Lit.int .i64 n).wf = true) a0) (v1 : Value) (a1 : Int) (r1 : Rd0 w (all w) v1 (.int .i64 a1)) (g1 : (fun (n : Int) => (Lit.int .i64 n).wf = true) a1) (v2 : Value) (a2 : Int) (r2 : Rd0 w (all w) v2 (.int .i64 a2)) (g2 : (fun (n : Int) => (Lit.int .i64 n).wf = true) a2) (v3 : Value) (a3 : List (List k8)) (r3 : Rd0 w (all w) v3 (.lst false (List.map (Ls k8.Pv) a3))) (g3 : (fun (l : List (List k8)) => l.length ≤ maxLen ∧ ∀ a ∈ l, (fun (l : List k8) => l.length ≤ maxLen ∧ ∀ a ∈ l, (fun (a : k8) => ((fun (n : Int) => (Lit.int .i64 n).wf = true) a.Kind) ∧ (((fun (n : Int) => (Lit.int .i64 n).wf = true) a.A) ∧ (((fun (n : Int) => (Lit.int .i64 n).wf = true) a.B) ∧ (((fun (n : Int) => (Lit.int .i64 n).wf = true) a.C) ∧ (True))))) a) a) a3) (v4 : Value) (a4 : List (List Int)) (r4 : Rd0 w (all w) v4 (.lst false (List.map (Ls (PV.int .i64)) a4))) (g4 : (fun (l : List (List Int)) => l.length ≤ maxLen ∧ ∀ a ∈ l, (fun (l : List Int) => l.length ≤ maxLen ∧ ∀ a ∈ l, (fun (n : Int) => (Lit.int .i64 n).wf = true) a) a) a4) (v5 : Value) (a5 : Int) (r5 : Rd0 w (all w) v5 (.int .i64 a5)) (g5 : (fun (n : Int) => (Lit.int .i64 n).wf = true) a5) :
    Calls Tryz.prog 3 #[v0, v1, v2, v3, v4, v5] w fun e w' => e = .returned (.bool true) ∧ Below w.heap.size w w' :=
  Ye (Ok.w22_ModelRuns_ok.2 _ (modelRuns)) (rdL_of (vs := [v0, v1, v2, v3, v4, v5]) ⟨r0, r1, r2, r3, r4, r5, trivial⟩)

set_option maxRecDepth 100000 in
theorem lifted (os : Os) (started : os.Started) (H : Type) (enc : TypeId × Value → H) :
    ReturnsInHanded {} Tryz.checked os 3 .any (Rows.modelRunsSpec.pre6 enc Tryz.prog Tryz.f3 Rows.modelRunsRow.domain false) (Rows.modelRunsSpec.post enc Tryz.prog Tryz.f3 false true false false) := by
  refine returnsInHanded_of_change (C := Tryz.checked) own started (by kernel_rfl) Tryz.func3
    (ChangeSpec.witness6 (enc := enc) (C := Tryz.checked) false ⟨#[], #[.int .i64 0, .int .i64 0, .int .i64 0, .slice none 0 0, .slice none 0 0, .int .i64 0], []⟩ 12 (by kernel_rfl) (by kernel_rfl) (by kernel_rfl) (by kernel_rfl)) ?_
  intro W base args ds gs before hval0 hW hcnd _
  have hval : ∀ (j : Nat) t v, Tryz.f3.params[j]? = some t → args[j]? = some v → Value.okWide Tryz.prog W .any base t v := hval0
  have hW' := hW
  obtain ⟨p, q, hA0, hV, rfl, hfz, hnd⟩ := hW
  have hA : DataW.TrodAll enc Tryz.prog W 0 (fun _ => true) true Tryz.f3.params.toList args.toList ds p := hA0
  rw [Tryz.params3] at hA hval
  obtain ⟨v0, vs0, d0, ds0, p0, q0, hargs, rfl, rfl, k0, r0⟩ := trodAll_cons hA
  obtain ⟨v1, vs1, d1, ds1, p1, q1, rfl, rfl, rfl, k1, r1⟩ := trodAll_cons r0
  obtain ⟨v2, vs2, d2, ds2, p2, q2, rfl, rfl, rfl, k2, r2⟩ := trodAll_cons r1
  obtain ⟨v3, vs3, d3, ds3, p3, q3, rfl, rfl, rfl, k3, r3⟩ := trodAll_cons r2
  obtain ⟨v4, vs4, d4, ds4, p4, q4, rfl, rfl, rfl, k4, r4⟩ := trodAll_cons r3
  obtain ⟨v5, vs5, d5, ds5, p5, q5, rfl, rfl, rfl, k5, r5⟩ := trodAll_cons r4
  obtain ⟨rfl, rfl, rfl⟩ := trodAll_nil r5
  obtain rfl : args = #[v0, v1, v2, v3, v4, v5] := by cases args; simp_all
  obtain ⟨rfl, rfl⟩ := trodVars_none hV
  have lt0 : ∀ x ∈ p0, x.block < W.heap.size := by obtain ⟨m, hm⟩ := k0; exact DataW.trod_lt m _ _ _ hm
  have lt1 : ∀ x ∈ p1, x.block < W.heap.size := by obtain ⟨m, hm⟩ := k1; exact DataW.trod_lt m _ _ _ hm
  have lt2 : ∀ x ∈ p2, x.block < W.heap.size := by obtain ⟨m, hm⟩ := k2; exact DataW.trod_lt m _ _ _ hm
  have lt3 : ∀ x ∈ p3, x.block < W.heap.size := by obtain ⟨m, hm⟩ := k3; exact DataW.trod_lt m _ _ _ hm
  have lt4 : ∀ x ∈ p4, x.block < W.heap.size := by obtain ⟨m, hm⟩ := k4; exact DataW.trod_lt m _ _ _ hm
  have lt5 : ∀ x ∈ p5, x.block < W.heap.size := by obtain ⟨m, hm⟩ := k5; exact DataW.trod_lt m _ _ _ hm
  clear hA0 hval0 r0 r1 r2 r3 r4 r5
  obtain ⟨a0, r0, g0⟩ := a1A Tryz.underlying3 (by kernel_rfl) (hval 0 3 v0 rfl rfl) k0
  obtain ⟨a1, r1, g1⟩ := a1A Tryz.underlying3 (by kernel_rfl) (hval 1 3 v1 rfl rfl) k1
  obtain ⟨a2, r2, g2⟩ := a1A Tryz.underlying3 (by kernel_rfl) (hval 2 3 v2 rfl rfl) k2
  obtain ⟨a3, r3, g3⟩ := a0j Rd.rd22 Tryz.underlying22 (hval 3 22 v3 rfl rfl) k3
  obtain ⟨a4, r4, g4⟩ := a0j Rd.rd23 Tryz.underlying23 (hval 4 23 v4 rfl rfl) k4
  obtain ⟨a5, r5, g5⟩ := a1A Tryz.underlying3 (by kernel_rfl) (hval 5 3 v5 rfl rfl) k5
  refine (walk W v0 a0 r0 g0 v1 a1 r1 g1 v2 a2 r2 g2 v3 a3 r3 g3 v4 a4 r4 g4 v5 a5 r5 g5).mono fun e W' ⟨he, bel⟩ => ?_
  subst he
  exact ⟨_, rfl, _, _, _, [], _, [], hW', trodAll_mk1 (shut_bool Tryz.underlying4 _), (trodAll_cons_mk (Below.trod laidOut (by kernel_rfl) (of_decide_eq_true (by kernel_rfl)) k0 bel lt0) (trodAll_cons_mk (Below.trod laidOut (by kernel_rfl) (of_decide_eq_true (by kernel_rfl)) k1 bel lt1) (trodAll_cons_mk (Below.trod laidOut (by kernel_rfl) (of_decide_eq_true (by kernel_rfl)) k2 bel lt2) (trodAll_cons_mk (Below.trod laidOut (by kernel_rfl) (of_decide_eq_true (by kernel_rfl)) k3 bel lt3) (trodAll_cons_mk (Below.trod laidOut (by kernel_rfl) (of_decide_eq_true (by kernel_rfl)) k4 bel lt4) (trodAll_cons_mk (Below.trod laidOut (by kernel_rfl) (of_decide_eq_true (by kernel_rfl)) k5 bel lt5) trodAll_mk0)))))), rfl, bel.frame _, fun h => by cases h⟩

theorem enters : Tryz.prog.mayEnter = true := by kernel_rfl
theorem lifts : (Rows.modelRunsRow.lifted == Tryz.prog.liftsFinal) = true := by kernel_rfl
theorem makes : (Tryz.prog.make == some Rows.modelRunsRow.make) = true := by kernel_rfl
theorem place : (Rows.modelRunsRow.inPlace == Tryz.prog.inPlace 3) = true := by kernel_rfl
theorem unfol : (Rows.modelRunsRow.unfollowed == Tryz.prog.unfollowed 3) = true := by kernel_rfl
theorem recur : (Rows.modelRunsRow.recurses == Tryz.prog.recurses 3) = true := by kernel_rfl
theorem names : (Rows.modelRunsRow.named == Tryz.prog.varsNamed 3) = true := by kernel_rfl
theorem rowed : mapsRowed Tryz.prog = true := by kernel_rfl
theorem stops : (Tryz.prog.stops == []) = true := by kernel_rfl
theorem knobs : (Tryz.prog.stopKnobs == []) = true := by kernel_rfl
theorem closed : joinedFacts Tryz.prog 3 Tryz.f3 Rows.modelRunsSpec Rows.modelRunsRow = true := by
  unfold joinedFacts
  rw [laidOut, enters, lifts, makes, place, unfol, recur, names, rowed, stops, knobs]
  kernel_rfl
theorem over : Rows.modelRunsRow.holds Tryz.pinned (OpenSpec.ofChange Rows.modelRunsSpec) :=
  OpenClaim.holds_of_wide 3 Tryz.f3 rfl rfl rfl rfl rfl rfl rfl ⟨rfl, rfl, rfl, rfl, rfl⟩ rfl rfl rfl rfl rfl (by kernel_rfl) Tryz.func3 closed
    (of_decide_eq_true (by kernel_rfl)) (by unfold Func.isWrapper; first | (rw [if_pos (by decide +kernel)]; kernel_rfl) | (rw [if_neg (by decide +kernel)]; exact ⟨rfl, rfl⟩))
    (fun os started H enc _ => lifted os started H enc)

theorem proved : Rows.ModelRunsSaid := over
#print axioms proved
end Go.Proofs.YtbdapcapkocckaaGreat.modelRuns
