/-
  What is garbage in any heap that is right and settled, which of it has a program that is owed, and what a collection makes of it are the document's.
  Conditions: none beyond that the arguments are values of their Go types.
-/
import Derived.Test.YtlkcpapbolbjnaaGreatRows
import Derived.OpenShut
import Derived.Lib.Hide
import Derived.WalkKit
import Derived.ProofKit
import Derived.ShutString
import Derived.ChangeOld
import Derived.Below
import Derived.Test.YtlkcpapbolbjnaaGreatO19aOk4
import Derived.Test.YtlkcpapbolbjnaaGreatO19aRd
import Derived.Test.YtlkcpapbolbjnaaGreatO19aT2
namespace Go.Proofs.YtlkcpapbolbjnaaGreat.collectDoes
open Go Go.Pw Go.Sh Go.Proofs Go.Proofs.YtlkcpapbolbjnaaGreat Go.ChangeShapes Go.WideShapes Go.ChangeAt Go.RowKit
set_option linter.unusedVariables false
theorem own : ownKnob Tryz.prog.godebug = none := by kernel_rfl
theorem laidOut : laidOutB Tryz.prog = true := by kernel_rfl
theorem walk (w : World) (v0 : Value) (a0 : hold_Heap) (r0 : Rd0 w (all w) v0 (hold_Heap.Pv a0)) (g0 : (fun (a : hold_Heap) => ((fun (a : store_Store) => ((fun (a : slab_Slab_store_Obj) => ((fun (l : List slab_Cell_store_Obj) => l.length ≤ maxLen ∧ ∀ a ∈ l, (fun (a : slab_Cell_store_Obj) => ((fun (n : Int) => (Lit.int .i64 n).wf = true) a.State) ∧ (((fun (n : Int) => (Lit.int .i64 n).wf = true) a.Gen) ∧ (((fun (a : store_Obj) => ((fun (n : Int) => (Lit.int .i64 n).wf = true) a.Serial) ∧ (((fun (n : Int) => (Lit.int .i64 n).wf = true) a.Strong) ∧ (((fun (n : Int) => (Lit.int .i64 n).wf = true) a.Weak) ∧ (((fun (n : Int) => (Lit.int .i64 n).wf = true) a.Prog) ∧ (((fun (_ : Bool) => True) a.Started) ∧ (((fun (l : List Int) => l.length ≤ maxLen ∧ ∀ a ∈ l, (fun (n : Int) => (Lit.int .i64 n).wf = true) a) a.Fields) ∧ (True))))))) a.Val) ∧ (True)))) a) a.Cells) ∧ (((fun (n : Int) => (Lit.int .i64 n).wf = true) a.Last) ∧ (True))) a.S) ∧ (((fun (n : Int) => (Lit.int .i64 n).wf = true) a.Serial) ∧ (True))) a.S) ∧ (((fun (l : List Int) => l.length ≤ maxLen ∧ ∀ a ∈ l, (fun (n : Int) => (Lit.int .i64 n).wf = true) a) a.Roots) ∧ (((fun (l : List weak_Cell) => l.length ≤ maxLen ∧ ∀ a ∈ l, (fun (a : weak_Cell) => ((fun (n : Int) => (Lit.int .i64 n).wf = true) a.Target) ∧ (((fun (_ : Bool) => True) a.Intact) ∧ (((fun (n : Int) => (Lit.int .i64 n).wf = true) a.Call) ∧ (True)))) a) a.Cells) ∧ (((fun (l : List hash_Place) => l.length ≤ maxLen ∧ ∀ a ∈ l, (fun (a : hash_Place) => ((fun (n : Int) => (Lit.int .i64 n).wf = true) a.State) ∧ (((fun (n : Int) => (Lit.int .i64 n).wf = true) a.Key) ∧ (((fun (n : Int) => (Lit.int .i64 n).wf = true) a.Val) ∧ (True)))) a) a.T) ∧ (((fun (a : queue_Queue_task_Task) => ((fun (l : List task_Task) => l.length ≤ maxLen ∧ ∀ a ∈ l, (fun (a : task_Task) => ((fun (n : Int) => (Lit.int .i64 n).wf = true) a.Kind) ∧ (((fun (n : Int) => (Lit.int .i64 n).wf = true) a.At) ∧ (((fun (n : Int) => (Lit.int .i64 n).wf = true) a.Prog) ∧ (True)))) a) a.L) ∧ (((fun (n : Int) => (Lit.int .i64 n).wf = true) a.Cap) ∧ (True))) a.Q) ∧ (True)))))) a0) :
    Calls Tryz.prog 3 #[v0] w fun e w' => e = .returned (.bool true) ∧ Below w.heap.size w w' :=
  calls_true (Ok.w19_CollectDoes_ok.2 _ (collectDoes shown19 ⟨(fun c hc => (wf_i64 (g0.1.1.1.2 c hc).2.2.1.2.1).2), (fun c hc x hx => (wf_i64 ((g0.1.1.1.2 c hc).2.2.1.2.2.2.2.2.1.2 x hx)).2), (fun x hx => (wf_i64 (g0.2.1.2 x hx)).2), (fun c hc => (wf_i64 (g0.2.2.1.2 c hc).1).2), (fun p hp => ⟨(wf_i64 (g0.2.2.2.1.2 p hp).2.1).2, (wf_i64 (g0.2.2.2.1.2 p hp).2.2.1).2⟩), (fun t ht => (wf_i64 (g0.2.2.2.2.1.1.2 t ht).2.1).2)⟩)) (rdL_of (vs := [v0]) ⟨r0, trivial⟩)

set_option maxRecDepth 100000 in
theorem lifted (os : Os) (started : os.Started) (H : Type) (enc : TypeId × Value → H) :
    ReturnsInHanded {} Tryz.checked os 3 .any (Rows.collectDoesSpec.pre6 enc Tryz.prog Tryz.f3 Rows.collectDoesRow.domain false) (Rows.collectDoesSpec.post enc Tryz.prog Tryz.f3 false true false false) := by
  refine returnsInHanded_of_change (C := Tryz.checked) own started (by kernel_rfl) Tryz.func3
    (ChangeSpec.witness6 (enc := enc) (C := Tryz.checked) false ⟨#[], #[.agg #[.slice none 0 0, .int .i64 0, .int .i64 0, .slice none 0 0, .slice none 0 0, .slice none 0 0, .slice none 0 0, .int .i64 0]], []⟩ 12 (by kernel_rfl) (by kernel_rfl) (by kernel_rfl) (by kernel_rfl)) ?_
  intro W base args ds gs before hval0 hW hcnd _
  have hval : ∀ (j : Nat) t v, Tryz.f3.params[j]? = some t → args[j]? = some v → Value.okWide Tryz.prog W .any base t v := hval0
  have hW' := hW
  obtain ⟨p, q, hA0, hV, rfl, hfz, hnd⟩ := hW
  have hA : DataW.TrodAll enc Tryz.prog W 0 (fun _ => true) true Tryz.f3.params.toList args.toList ds p := hA0
  rw [Tryz.params3] at hA hval
  obtain ⟨v0, vs0, d0, ds0, p0, q0, hargs, rfl, rfl, k0, r0⟩ := trodAll_cons hA
  obtain ⟨rfl, rfl, rfl⟩ := trodAll_nil r0
  obtain rfl : args = #[v0] := by cases args; simp_all
  obtain ⟨rfl, rfl⟩ := trodVars_none hV
  have lt0 : ∀ x ∈ p0, x.block < W.heap.size := by obtain ⟨m, hm⟩ := k0; exact DataW.trod_lt m _ _ _ hm
  clear hA0 hval0 r0
  obtain ⟨a0, r0, g0⟩ := Rd.rd34.argA Tryz.underlying34 (fun _ => rfl) (hval 0 34 v0 rfl rfl) k0
  refine (walk W v0 a0 r0 g0).mono fun e W' ⟨he, bel⟩ => ?_
  subst he
  exact ⟨_, rfl, _, _, _, [], _, [], hW', trodAll_mk1 (shut_bool Tryz.underlying4 _), (trodAll_cons_mk (Below.trod laidOut (by kernel_rfl) (of_decide_eq_true (by kernel_rfl)) k0 bel lt0) trodAll_mk0), rfl, bel.frame _, fun h => by cases h⟩

theorem enters : Tryz.prog.mayEnter = true := by kernel_rfl
theorem lifts : (Rows.collectDoesRow.lifted == Tryz.prog.liftsFinal) = true := by kernel_rfl
theorem makes : (Tryz.prog.make == some Rows.collectDoesRow.make) = true := by kernel_rfl
theorem closed : joinedFacts Tryz.prog 3 Tryz.f3 Rows.collectDoesSpec Rows.collectDoesRow = true := by
  unfold joinedFacts
  rw [laidOut, enters, lifts, makes]
  kernel_rfl
theorem over : Rows.collectDoesRow.holds Tryz.pinned (OpenSpec.ofChange Rows.collectDoesSpec) :=
  OpenClaim.holds_of_wide 3 Tryz.f3 rfl rfl rfl rfl rfl rfl rfl ⟨rfl, rfl, rfl, rfl, rfl⟩ rfl rfl rfl rfl rfl (by kernel_rfl) Tryz.func3 closed
    (of_decide_eq_true (by kernel_rfl)) (by unfold Func.isWrapper; first | (rw [if_pos (by decide +kernel)]; kernel_rfl) | (rw [if_neg (by decide +kernel)]; exact ⟨rfl, rfl⟩))
    (fun os started H enc _ => lifted os started H enc)

theorem proved : Rows.CollectDoesSaid := over
#print axioms proved
end Go.Proofs.YtlkcpapbolbjnaaGreat.collectDoes
