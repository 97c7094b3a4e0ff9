/-
  What becomes of any right and settled heap by any row, and the answer, and what is told of it, are the document's.
  Conditions: none beyond that the arguments are values of their Go types.
-/
import Derived.Test.YtjlokngooekbcaaGreatRows
import Derived.OpenShut
import Derived.Lib.Hide
import Derived.WalkKit
import Derived.ProofKit
import Derived.ShutString
import Derived.ChangeOld
import Derived.Below
import Derived.Test.YtjlokngooekbcaaGreatEOk4
import Derived.Test.YtjlokngooekbcaaGreatERd
import Derived.Test.YtjlokngooekbcaaGreatET3
namespace Go.Proofs.YtjlokngooekbcaaGreat.engineDoes
open Go Go.Pw Go.Sh Go.Proofs Go.Proofs.YtjlokngooekbcaaGreat Go.ChangeShapes Go.WideShapes Go.ChangeAt Go.RowKit
set_option linter.unusedVariables false
theorem own : ownKnob Tryz.prog.godebug = none := by kernel_rfl
theorem laidOut : laidOutB Tryz.prog = true := by kernel_rfl
theorem walk (w : World) (v0 : Value) (a0 : b7) (r0 : Rd0 w (all w) v0 (b7.Pv a0)) (g0 : (fun (a : b7) => ((fun (a : a7) => ((fun (a : g6) => ((fun (l : List c4) => l.length ≤ maxLen ∧ ∀ a ∈ l, (fun (a : c4) => ((fun (n : Int) => (Lit.int .i64 n).wf = true) a.State) ∧ (((fun (n : Int) => (Lit.int .i64 n).wf = true) a.Gen) ∧ (((fun (a : n7) => ((fun (n : Int) => (Lit.int .i64 n).wf = true) a.Serial) ∧ (((fun (n : Int) => (Lit.int .i64 n).wf = true) a.Strong) ∧ (((fun (n : Int) => (Lit.int .i64 n).wf = true) a.Weak) ∧ (((fun (n : Int) => (Lit.int .i64 n).wf = true) a.Prog) ∧ (((fun (_ : Bool) => True) a.Started) ∧ (((fun (l : List Int) => l.length ≤ maxLen ∧ ∀ a ∈ l, (fun (n : Int) => (Lit.int .i64 n).wf = true) a) a.Fields) ∧ (True))))))) a.Val) ∧ (True)))) a) a.Cells) ∧ (((fun (n : Int) => (Lit.int .i64 n).wf = true) a.Last) ∧ (True))) a.S) ∧ (((fun (n : Int) => (Lit.int .i64 n).wf = true) a.Serial) ∧ (True))) a.S) ∧ (((fun (l : List Int) => l.length ≤ maxLen ∧ ∀ a ∈ l, (fun (n : Int) => (Lit.int .i64 n).wf = true) a) a.Roots) ∧ (((fun (l : List g9) => l.length ≤ maxLen ∧ ∀ a ∈ l, (fun (a : g9) => ((fun (n : Int) => (Lit.int .i64 n).wf = true) a.Target) ∧ (((fun (_ : Bool) => True) a.Intact) ∧ (((fun (n : Int) => (Lit.int .i64 n).wf = true) a.Call) ∧ (True)))) a) a.Cells) ∧ (((fun (l : List c9) => l.length ≤ maxLen ∧ ∀ a ∈ l, (fun (a : c9) => ((fun (n : Int) => (Lit.int .i64 n).wf = true) a.State) ∧ (((fun (n : Int) => (Lit.int .i64 n).wf = true) a.Key) ∧ (((fun (n : Int) => (Lit.int .i64 n).wf = true) a.Val) ∧ (True)))) a) a.T) ∧ (((fun (a : g7) => ((fun (l : List l5) => l.length ≤ maxLen ∧ ∀ a ∈ l, (fun (a : l5) => ((fun (n : Int) => (Lit.int .i64 n).wf = true) a.Kind) ∧ (((fun (n : Int) => (Lit.int .i64 n).wf = true) a.At) ∧ (((fun (n : Int) => (Lit.int .i64 n).wf = true) a.Prog) ∧ (True)))) a) a.L) ∧ (((fun (n : Int) => (Lit.int .i64 n).wf = true) a.Cap) ∧ (True))) a.Q) ∧ (True)))))) a0) (v1 : Value) (a1 : List (List k8)) (r1 : Rd0 w (all w) v1 (.lst false (List.map (Ls k8.Pv) a1))) (g1 : (fun (l : List (List k8)) => l.length ≤ maxLen ∧ ∀ a ∈ l, (fun (l : List k8) => l.length ≤ maxLen ∧ ∀ a ∈ l, (fun (a : k8) => ((fun (n : Int) => (Lit.int .i64 n).wf = true) a.Kind) ∧ (((fun (n : Int) => (Lit.int .i64 n).wf = true) a.A) ∧ (((fun (n : Int) => (Lit.int .i64 n).wf = true) a.B) ∧ (((fun (n : Int) => (Lit.int .i64 n).wf = true) a.C) ∧ (True))))) a) a) a1) (v2 : Value) (a2 : List Int) (r2 : Rd0 w (all w) v2 (.lst false (List.map (PV.int .i64) a2))) (g2 : (fun (l : List Int) => l.length ≤ maxLen ∧ ∀ a ∈ l, (fun (n : Int) => (Lit.int .i64 n).wf = true) a) a2) :
    Calls Tryz.prog 4 #[v0, v1, v2] w fun e w' => e = .returned (.bool true) ∧ Below w.heap.size w w' :=
  Wp (Ok.w21_EngineDoes_ok.2 _ (engineDoes ⟨(fun c hc => (a0U (g0.1.1.1.2 c hc).2.2.1.2.1).2), (fun c hc x hx => (a0U ((g0.1.1.1.2 c hc).2.2.1.2.2.2.2.2.1.2 x hx)).2), (fun x hx => (a0U (g0.2.1.2 x hx)).2), (fun c hc => (a0U (g0.2.2.1.2 c hc).1).2), (fun p hp => ⟨(a0U (g0.2.2.2.1.2 p hp).2.1).2, (a0U (g0.2.2.2.1.2 p hp).2.2.1).2⟩), (fun t ht => (a0U (g0.2.2.2.2.1.1.2 t ht).2.1).2)⟩)) (rdL_of (vs := [v0, v1, v2]) ⟨r0, r1, r2, trivial⟩)

set_option maxRecDepth 100000 in
theorem lifted (os : Os) (started : os.Started) (H : Type) (enc : TypeId × Value → H) :
    ReturnsInHanded {} Tryz.checked os 4 .any (Rows.engineDoesSpec.pre6 enc Tryz.prog Tryz.f4 Rows.engineDoesRow.domain false) (Rows.engineDoesSpec.post enc Tryz.prog Tryz.f4 false true false false) := by
  refine returnsInHanded_of_change (C := Tryz.checked) own started (by kernel_rfl) Tryz.func4
    (ChangeSpec.witness6 (enc := enc) (C := Tryz.checked) false ⟨#[], #[.agg #[.slice none 0 0, .int .i64 0, .int .i64 0, .slice none 0 0, .slice none 0 0, .slice none 0 0, .slice none 0 0, .int .i64 0], .slice none 0 0, .slice none 0 0], []⟩ 12 (by kernel_rfl) (by kernel_rfl) (by kernel_rfl) (by kernel_rfl)) ?_
  intro W base args ds gs before hval0 hW hcnd _
  have hval : ∀ (j : Nat) t v, Tryz.f4.params[j]? = some t → args[j]? = some v → Value.okWide Tryz.prog W .any base t v := hval0
  have hW' := hW
  obtain ⟨p, q, hA0, hV, rfl, hfz, hnd⟩ := hW
  have hA : DataW.TrodAll enc Tryz.prog W 0 (fun _ => true) true Tryz.f4.params.toList args.toList ds p := hA0
  rw [Tryz.params4] at hA hval
  obtain ⟨v0, vs0, d0, ds0, p0, q0, hargs, rfl, rfl, k0, r0⟩ := trodAll_cons hA
  obtain ⟨v1, vs1, d1, ds1, p1, q1, rfl, rfl, rfl, k1, r1⟩ := trodAll_cons r0
  obtain ⟨v2, vs2, d2, ds2, p2, q2, rfl, rfl, rfl, k2, r2⟩ := trodAll_cons r1
  obtain ⟨rfl, rfl, rfl⟩ := trodAll_nil r2
  obtain rfl : args = #[v0, v1, v2] := by cases args; simp_all
  obtain ⟨rfl, rfl⟩ := trodVars_none hV
  have lt0 : ∀ x ∈ p0, x.block < W.heap.size := by obtain ⟨m, hm⟩ := k0; exact DataW.trod_lt m _ _ _ hm
  have lt1 : ∀ x ∈ p1, x.block < W.heap.size := by obtain ⟨m, hm⟩ := k1; exact DataW.trod_lt m _ _ _ hm
  have lt2 : ∀ x ∈ p2, x.block < W.heap.size := by obtain ⟨m, hm⟩ := k2; exact DataW.trod_lt m _ _ _ hm
  clear hA0 hval0 r0 r1 r2
  obtain ⟨a0, r0, g0⟩ := Rd.rd37.argA Tryz.underlying37 (fun _ => rfl) (hval 0 37 v0 rfl rfl) k0
  obtain ⟨a1, r1, g1⟩ := YC Rd.rd22 Tryz.underlying22 (hval 1 22 v1 rfl rfl) k1
  obtain ⟨a2, r2, g2⟩ := YC Rd.rd30 Tryz.underlying30 (hval 2 30 v2 rfl rfl) k2
  refine (walk W v0 a0 r0 g0 v1 a1 r1 g1 v2 a2 r2 g2).mono fun e W' ⟨he, bel⟩ => ?_
  subst he
  exact ⟨_, rfl, _, _, _, [], _, [], hW', trodAll_mk1 (shut_bool Tryz.underlying4 _), (trodAll_cons_mk (Below.trod laidOut (by kernel_rfl) (of_decide_eq_true (by kernel_rfl)) k0 bel lt0) (trodAll_cons_mk (Below.trod laidOut (by kernel_rfl) (of_decide_eq_true (by kernel_rfl)) k1 bel lt1) (trodAll_cons_mk (Below.trod laidOut (by kernel_rfl) (of_decide_eq_true (by kernel_rfl)) k2 bel lt2) trodAll_mk0))), rfl, bel.frame _, fun h => by cases h⟩

theorem enters : Tryz.prog.mayEnter = true := by kernel_rfl
theorem lifts : (Rows.engineDoesRow.lifted == Tryz.prog.liftsFinal) = true := by kernel_rfl
theorem makes : (Tryz.prog.make == some Rows.engineDoesRow.make) = true := by kernel_rfl
theorem place : (Rows.engineDoesRow.inPlace == Tryz.prog.inPlace 4) = true := by kernel_rfl
theorem unfol : (Rows.engineDoesRow.unfollowed == Tryz.prog.unfollowed 4) = true := by kernel_rfl
theorem recur : (Rows.engineDoesRow.recurses == Tryz.prog.recurses 4) = true := by kernel_rfl
theorem names : (Rows.engineDoesRow.named == Tryz.prog.varsNamed 4) = true := by kernel_rfl
theorem rowed : mapsRowed Tryz.prog = true := by kernel_rfl
theorem stops : (Tryz.prog.stops == []) = true := by kernel_rfl
theorem knobs : (Tryz.prog.stopKnobs == []) = true := by kernel_rfl
theorem closed : joinedFacts Tryz.prog 4 Tryz.f4 Rows.engineDoesSpec Rows.engineDoesRow = true := by
  unfold joinedFacts
  rw [laidOut, enters, lifts, makes, place, unfol, recur, names, rowed, stops, knobs]
  kernel_rfl
theorem over : Rows.engineDoesRow.holds Tryz.pinned (OpenSpec.ofChange Rows.engineDoesSpec) :=
  OpenClaim.holds_of_wide 4 Tryz.f4 rfl rfl rfl rfl rfl rfl rfl ⟨rfl, rfl, rfl, rfl, rfl⟩ rfl rfl rfl rfl rfl (by kernel_rfl) Tryz.func4 closed
    (of_decide_eq_true (by kernel_rfl)) (by unfold Func.isWrapper; first | (rw [if_pos (by decide +kernel)]; kernel_rfl) | (rw [if_neg (by decide +kernel)]; exact ⟨rfl, rfl⟩))
    (fun os started H enc _ => lifted os started H enc)

theorem proved : Rows.EngineDoesSaid := over
#print axioms proved
end Go.Proofs.YtjlokngooekbcaaGreat.engineDoes
