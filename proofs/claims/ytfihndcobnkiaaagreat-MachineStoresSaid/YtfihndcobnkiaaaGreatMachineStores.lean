/-
  What is stored is loaded and what is paired is got, as long as the object lives.
  Conditions: none beyond that the arguments are values of their Go types.
-/
import Derived.Test.YtfihndcobnkiaaaGreatRows
import Derived.OpenShut
import Derived.Lib.Hide
import Derived.WalkKit
import Derived.ProofKit
import Derived.ShutString
import Derived.ChangeOld
import Derived.Below
import Derived.Test.YtfihndcobnkiaaaGreatM18bOk3
import Derived.Test.YtfihndcobnkiaaaGreatM18bRd
import Derived.Test.YtfihndcobnkiaaaGreatM18bT3
namespace Go.Proofs.YtfihndcobnkiaaaGreat.machineStores
open Go Go.Pw Go.Sh Go.Proofs Go.Proofs.YtfihndcobnkiaaaGreat Go.ChangeShapes Go.WideShapes Go.ChangeAt Go.RowKit
set_option linter.unusedVariables false
theorem own : ownKnob Tryz.prog.godebug = none := by kernel_rfl
theorem laidOut : laidOutB Tryz.prog = true := by kernel_rfl
theorem walk (w : World) (v0 : Value) (a0 : hold_Heap) (r0 : Rd0 w (all w) v0 (hold_Heap.Pv a0)) (g0 : (fun (a : hold_Heap) => ((fun (a : store_Store) => ((fun (a : slab_Slab_store_Obj) => ((fun (l : List slab_Cell_store_Obj) => l.length ≤ maxLen ∧ ∀ a ∈ l, (fun (a : slab_Cell_store_Obj) => ((fun (n : Int) => (Lit.int .i64 n).wf = true) a.State) ∧ (((fun (n : Int) => (Lit.int .i64 n).wf = true) a.Gen) ∧ (((fun (a : store_Obj) => ((fun (n : Int) => (Lit.int .i64 n).wf = true) a.Serial) ∧ (((fun (n : Int) => (Lit.int .i64 n).wf = true) a.Strong) ∧ (((fun (n : Int) => (Lit.int .i64 n).wf = true) a.Weak) ∧ (((fun (n : Int) => (Lit.int .i64 n).wf = true) a.Prog) ∧ (((fun (_ : Bool) => True) a.Started) ∧ (((fun (l : List Int) => l.length ≤ maxLen ∧ ∀ a ∈ l, (fun (n : Int) => (Lit.int .i64 n).wf = true) a) a.Fields) ∧ (True))))))) a.Val) ∧ (True)))) a) a.Cells) ∧ (((fun (n : Int) => (Lit.int .i64 n).wf = true) a.Last) ∧ (True))) a.S) ∧ (((fun (n : Int) => (Lit.int .i64 n).wf = true) a.Serial) ∧ (True))) a.S) ∧ (((fun (l : List Int) => l.length ≤ maxLen ∧ ∀ a ∈ l, (fun (n : Int) => (Lit.int .i64 n).wf = true) a) a.Roots) ∧ (((fun (l : List weak_Cell) => l.length ≤ maxLen ∧ ∀ a ∈ l, (fun (a : weak_Cell) => ((fun (n : Int) => (Lit.int .i64 n).wf = true) a.Target) ∧ (((fun (_ : Bool) => True) a.Intact) ∧ (((fun (n : Int) => (Lit.int .i64 n).wf = true) a.Call) ∧ (True)))) a) a.Cells) ∧ (((fun (l : List hash_Place) => l.length ≤ maxLen ∧ ∀ a ∈ l, (fun (a : hash_Place) => ((fun (n : Int) => (Lit.int .i64 n).wf = true) a.State) ∧ (((fun (n : Int) => (Lit.int .i64 n).wf = true) a.Key) ∧ (((fun (n : Int) => (Lit.int .i64 n).wf = true) a.Val) ∧ (True)))) a) a.T) ∧ (((fun (a : queue_Queue_task_Task) => ((fun (l : List task_Task) => l.length ≤ maxLen ∧ ∀ a ∈ l, (fun (a : task_Task) => ((fun (n : Int) => (Lit.int .i64 n).wf = true) a.Kind) ∧ (((fun (n : Int) => (Lit.int .i64 n).wf = true) a.At) ∧ (((fun (n : Int) => (Lit.int .i64 n).wf = true) a.Prog) ∧ (True)))) a) a.L) ∧ (((fun (n : Int) => (Lit.int .i64 n).wf = true) a.Cap) ∧ (True))) a.Q) ∧ (True)))))) a0) (v1 : Value) (a1 : Int) (r1 : Rd0 w (all w) v1 (.int .i64 a1)) (g1 : (fun (n : Int) => (Lit.int .i64 n).wf = true) a1) (v2 : Value) (a2 : Int) (r2 : Rd0 w (all w) v2 (.int .i64 a2)) (g2 : (fun (n : Int) => (Lit.int .i64 n).wf = true) a2) (v3 : Value) (a3 : Int) (r3 : Rd0 w (all w) v3 (.int .i64 a3)) (g3 : (fun (n : Int) => (Lit.int .i64 n).wf = true) a3) (v4 : Value) (a4 : Int) (r4 : Rd0 w (all w) v4 (.int .i64 a4)) (g4 : (fun (n : Int) => (Lit.int .i64 n).wf = true) a4) :
    Calls Tryz.prog 9 #[v0, v1, v2, v3, v4] w fun e w' => e = .returned (.bool true) ∧ Below w.heap.size w w' :=
  calls_true (Ok.w18_MachineStores_ok.2 _ (machineStores ⟨(fun c hc => (wf_i64 (g0.1.1.1.2 c hc).2.2.1.2.1).2), (fun c hc x hx => (wf_i64 ((g0.1.1.1.2 c hc).2.2.1.2.2.2.2.2.1.2 x hx)).2), (fun x hx => (wf_i64 (g0.2.1.2 x hx)).2), (fun c hc => (wf_i64 (g0.2.2.1.2 c hc).1).2), (fun p hp => ⟨(wf_i64 (g0.2.2.2.1.2 p hp).2.1).2, (wf_i64 (g0.2.2.2.1.2 p hp).2.2.1).2⟩), (fun t ht => (wf_i64 (g0.2.2.2.2.1.1.2 t ht).2.1).2)⟩)) (rdL_of (vs := [v0, v1, v2, v3, v4]) ⟨r0, r1, r2, r3, r4, trivial⟩)

set_option maxRecDepth 100000 in
theorem lifted (os : Os) (started : os.Started) (H : Type) (enc : TypeId × Value → H) :
    ReturnsInHanded {} Tryz.checked os 9 .any (Rows.machineStoresSpec.pre6 enc Tryz.prog Tryz.f9 Rows.machineStoresRow.domain false) (Rows.machineStoresSpec.post enc Tryz.prog Tryz.f9 false true false false) := by
  refine returnsInHanded_of_change (C := Tryz.checked) own started (by kernel_rfl) Tryz.func9
    (ChangeSpec.witness6 (enc := enc) (C := Tryz.checked) false ⟨#[], #[.agg #[.slice none 0 0, .int .i64 0, .int .i64 0, .slice none 0 0, .slice none 0 0, .slice none 0 0, .slice none 0 0, .int .i64 0], .int .i64 0, .int .i64 0, .int .i64 0, .int .i64 0], []⟩ 12 (by kernel_rfl) (by kernel_rfl) (by kernel_rfl) (by kernel_rfl)) ?_
  intro W base args ds gs before hval0 hW hcnd _
  have hval : ∀ (j : Nat) t v, Tryz.f9.params[j]? = some t → args[j]? = some v → Value.okWide Tryz.prog W .any base t v := hval0
  have hW' := hW
  obtain ⟨p, q, hA0, hV, rfl, hfz, hnd⟩ := hW
  have hA : DataW.TrodAll enc Tryz.prog W 0 (fun _ => true) true Tryz.f9.params.toList args.toList ds p := hA0
  rw [Tryz.params9] at hA hval
  obtain ⟨v0, vs0, d0, ds0, p0, q0, hargs, rfl, rfl, k0, r0⟩ := trodAll_cons hA
  obtain ⟨v1, vs1, d1, ds1, p1, q1, rfl, rfl, rfl, k1, r1⟩ := trodAll_cons r0
  obtain ⟨v2, vs2, d2, ds2, p2, q2, rfl, rfl, rfl, k2, r2⟩ := trodAll_cons r1
  obtain ⟨v3, vs3, d3, ds3, p3, q3, rfl, rfl, rfl, k3, r3⟩ := trodAll_cons r2
  obtain ⟨v4, vs4, d4, ds4, p4, q4, rfl, rfl, rfl, k4, r4⟩ := trodAll_cons r3
  obtain ⟨rfl, rfl, rfl⟩ := trodAll_nil r4
  obtain rfl : args = #[v0, v1, v2, v3, v4] := by cases args; simp_all
  obtain ⟨rfl, rfl⟩ := trodVars_none hV
  have lt0 : ∀ x ∈ p0, x.block < W.heap.size := by obtain ⟨m, hm⟩ := k0; exact DataW.trod_lt m _ _ _ hm
  have lt1 : ∀ x ∈ p1, x.block < W.heap.size := by obtain ⟨m, hm⟩ := k1; exact DataW.trod_lt m _ _ _ hm
  have lt2 : ∀ x ∈ p2, x.block < W.heap.size := by obtain ⟨m, hm⟩ := k2; exact DataW.trod_lt m _ _ _ hm
  have lt3 : ∀ x ∈ p3, x.block < W.heap.size := by obtain ⟨m, hm⟩ := k3; exact DataW.trod_lt m _ _ _ hm
  have lt4 : ∀ x ∈ p4, x.block < W.heap.size := by obtain ⟨m, hm⟩ := k4; exact DataW.trod_lt m _ _ _ hm
  clear hA0 hval0 r0 r1 r2 r3 r4
  obtain ⟨a0, r0, g0⟩ := Rd.rd34.argA Tryz.underlying34 (fun _ => rfl) (hval 0 34 v0 rfl rfl) k0
  obtain ⟨a1, r1, g1⟩ := arg_int Tryz.underlying3 (by kernel_rfl) (hval 1 3 v1 rfl rfl) k1
  obtain ⟨a2, r2, g2⟩ := arg_int Tryz.underlying3 (by kernel_rfl) (hval 2 3 v2 rfl rfl) k2
  obtain ⟨a3, r3, g3⟩ := arg_int Tryz.underlying3 (by kernel_rfl) (hval 3 3 v3 rfl rfl) k3
  obtain ⟨a4, r4, g4⟩ := arg_int Tryz.underlying3 (by kernel_rfl) (hval 4 3 v4 rfl rfl) k4
  refine (walk W v0 a0 r0 g0 v1 a1 r1 g1 v2 a2 r2 g2 v3 a3 r3 g3 v4 a4 r4 g4).mono fun e W' ⟨he, bel⟩ => ?_
  subst he
  exact ⟨_, rfl, _, _, _, [], _, [], hW', trodAll_mk1 (shut_bool Tryz.underlying4 _), (trodAll_cons_mk (Below.trod laidOut (by kernel_rfl) (of_decide_eq_true (by kernel_rfl)) k0 bel lt0) (trodAll_cons_mk (Below.trod laidOut (by kernel_rfl) (of_decide_eq_true (by kernel_rfl)) k1 bel lt1) (trodAll_cons_mk (Below.trod laidOut (by kernel_rfl) (of_decide_eq_true (by kernel_rfl)) k2 bel lt2) (trodAll_cons_mk (Below.trod laidOut (by kernel_rfl) (of_decide_eq_true (by kernel_rfl)) k3 bel lt3) (trodAll_cons_mk (Below.trod laidOut (by kernel_rfl) (of_decide_eq_true (by kernel_rfl)) k4 bel lt4) trodAll_mk0))))), rfl, bel.frame _, fun h => by cases h⟩

theorem enters : Tryz.prog.mayEnter = true := by kernel_rfl
theorem lifts : (Rows.machineStoresRow.lifted == Tryz.prog.liftsFinal) = true := by kernel_rfl
theorem makes : (Tryz.prog.make == some Rows.machineStoresRow.make) = true := by kernel_rfl
theorem closed : joinedFacts Tryz.prog 9 Tryz.f9 Rows.machineStoresSpec Rows.machineStoresRow = true := by
  unfold joinedFacts
  rw [laidOut, enters, lifts, makes]
  kernel_rfl
theorem over : Rows.machineStoresRow.holds Tryz.pinned (OpenSpec.ofChange Rows.machineStoresSpec) :=
  OpenClaim.holds_of_wide 9 Tryz.f9 rfl rfl rfl rfl rfl rfl rfl ⟨rfl, rfl, rfl, rfl, rfl⟩ rfl rfl rfl rfl rfl (by kernel_rfl) Tryz.func9 closed
    (of_decide_eq_true (by kernel_rfl)) (by unfold Func.isWrapper; first | (rw [if_pos (by decide +kernel)]; kernel_rfl) | (rw [if_neg (by decide +kernel)]; exact ⟨rfl, rfl⟩))
    (fun os started H enc _ => lifted os started H enc)

theorem proved : Rows.MachineStoresSaid := over
#print axioms proved
end Go.Proofs.YtfihndcobnkiaaaGreat.machineStores
