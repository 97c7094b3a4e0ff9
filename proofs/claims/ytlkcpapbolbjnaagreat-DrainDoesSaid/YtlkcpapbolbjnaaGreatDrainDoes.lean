/-
  What becomes of any right and settled heap that is drained, how much is done, what fuel is left, and the error are the document's.
  Conditions: none beyond that the arguments are values of their Go types.
-/
import Derived.Test.YtlkcpapbolbjnaaGreatRows
import Derived.OpenShut
import Derived.Lib.Hide
import Derived.WalkKit
import Derived.ProofKit
import Derived.ShutString
import Derived.ChangeOld
import Derived.Below
import Derived.Test.YtlkcpapbolbjnaaGreatO20fOk4
import Derived.Test.YtlkcpapbolbjnaaGreatO20fRd
import Derived.Test.YtlkcpapbolbjnaaGreatO20fT3
namespace Go.Proofs.YtlkcpapbolbjnaaGreat.drainDoes
open Go Go.Pw Go.Sh Go.Proofs Go.Proofs.YtlkcpapbolbjnaaGreat Go.ChangeShapes Go.WideShapes Go.ChangeAt Go.RowKit
set_option linter.unusedVariables false
theorem own : ownKnob Tryz.prog.godebug = none := by kernel_rfl
theorem laidOut : laidOutB Tryz.prog = true := by kernel_rfl
theorem walk (w : World) (v0 : Value) (a0 : b7) (r0 : Rd0 w (all w) v0 (b7.Pv a0)) (g0 : (fun (a : b7) => ((fun (a : a7) => ((fun (a : g9) => ((fun (l : List b8) => l.length ≤ maxLen ∧ ∀ a ∈ l, (fun (a : b8) => ((fun (n : Int) => (Lit.int .i64 n).wf = true) a.State) ∧ (((fun (n : Int) => (Lit.int .i64 n).wf = true) a.Gen) ∧ (((fun (a : k9) => ((fun (n : Int) => (Lit.int .i64 n).wf = true) a.Serial) ∧ (((fun (n : Int) => (Lit.int .i64 n).wf = true) a.Strong) ∧ (((fun (n : Int) => (Lit.int .i64 n).wf = true) a.Weak) ∧ (((fun (n : Int) => (Lit.int .i64 n).wf = true) a.Prog) ∧ (((fun (_ : Bool) => True) a.Started) ∧ (((fun (l : List Int) => l.length ≤ maxLen ∧ ∀ a ∈ l, (fun (n : Int) => (Lit.int .i64 n).wf = true) a) a.Fields) ∧ (True))))))) a.Val) ∧ (True)))) a) a.Cells) ∧ (((fun (n : Int) => (Lit.int .i64 n).wf = true) a.Last) ∧ (True))) a.S) ∧ (((fun (n : Int) => (Lit.int .i64 n).wf = true) a.Serial) ∧ (True))) a.S) ∧ (((fun (l : List Int) => l.length ≤ maxLen ∧ ∀ a ∈ l, (fun (n : Int) => (Lit.int .i64 n).wf = true) a) a.Roots) ∧ (((fun (l : List g7) => l.length ≤ maxLen ∧ ∀ a ∈ l, (fun (a : g7) => ((fun (n : Int) => (Lit.int .i64 n).wf = true) a.Target) ∧ (((fun (_ : Bool) => True) a.Intact) ∧ (((fun (n : Int) => (Lit.int .i64 n).wf = true) a.Call) ∧ (True)))) a) a.Cells) ∧ (((fun (l : List c9) => l.length ≤ maxLen ∧ ∀ a ∈ l, (fun (a : c9) => ((fun (n : Int) => (Lit.int .i64 n).wf = true) a.State) ∧ (((fun (n : Int) => (Lit.int .i64 n).wf = true) a.Key) ∧ (((fun (n : Int) => (Lit.int .i64 n).wf = true) a.Val) ∧ (True)))) a) a.T) ∧ (((fun (a : g6) => ((fun (l : List g8) => l.length ≤ maxLen ∧ ∀ a ∈ l, (fun (a : g8) => ((fun (n : Int) => (Lit.int .i64 n).wf = true) a.Kind) ∧ (((fun (n : Int) => (Lit.int .i64 n).wf = true) a.At) ∧ (((fun (n : Int) => (Lit.int .i64 n).wf = true) a.Prog) ∧ (True)))) a) a.L) ∧ (((fun (n : Int) => (Lit.int .i64 n).wf = true) a.Cap) ∧ (True))) a.Q) ∧ (True)))))) a0) (v1 : Value) (a1 : List (List j2)) (r1 : Rd0 w (all w) v1 (.lst false (List.map (Ls j2.Pv) a1))) (g1 : (fun (l : List (List j2)) => l.length ≤ maxLen ∧ ∀ a ∈ l, (fun (l : List j2) => l.length ≤ maxLen ∧ ∀ a ∈ l, (fun (a : j2) => ((fun (n : Int) => (Lit.int .i64 n).wf = true) a.Kind) ∧ (((fun (n : Int) => (Lit.int .i64 n).wf = true) a.A) ∧ (((fun (n : Int) => (Lit.int .i64 n).wf = true) a.B) ∧ (((fun (n : Int) => (Lit.int .i64 n).wf = true) a.C) ∧ (True))))) a) a) a1) (v2 : Value) (a2 : Int) (r2 : Rd0 w (all w) v2 (.int .u8 a2)) (g2 : (fun (n : Int) => (Lit.int .u8 n).wf = true) a2) :
    Calls Tryz.prog 10 #[v0, v1, v2] w fun e w' => e = .returned (.bool true) ∧ Below w.heap.size w w' :=
  c94 (Ok.w20_DrainDoes_ok.2 _ (drainDoes shown20 ⟨(fun c hc => (d3U (g0.1.1.1.2 c hc).2.2.1.2.1).2), (fun c hc x hx => (d3U ((g0.1.1.1.2 c hc).2.2.1.2.2.2.2.2.1.2 x hx)).2), (fun x hx => (d3U (g0.2.1.2 x hx)).2), (fun c hc => (d3U (g0.2.2.1.2 c hc).1).2), (fun p hp => ⟨(d3U (g0.2.2.2.1.2 p hp).2.1).2, (d3U (g0.2.2.2.1.2 p hp).2.2.1).2⟩), (fun t ht => (d3U (g0.2.2.2.2.1.1.2 t ht).2.1).2)⟩ (d4e g2).1 (by have := (d4e g2).2; omega))) (rdL_of (vs := [v0, v1, v2]) ⟨r0, r1, r2, trivial⟩)

set_option maxRecDepth 100000 in
theorem lifted (os : Os) (started : os.Started) (H : Type) (enc : TypeId × Value → H) :
    ReturnsInHanded {} Tryz.checked os 10 .any (Rows.drainDoesSpec.pre6 enc Tryz.prog Tryz.f10 Rows.drainDoesRow.domain false) (Rows.drainDoesSpec.post enc Tryz.prog Tryz.f10 false true false false) := by
  refine returnsInHanded_of_change (C := Tryz.checked) own started (by kernel_rfl) Tryz.func10
    (ChangeSpec.witness6 (enc := enc) (C := Tryz.checked) false ⟨#[], #[.agg #[.slice none 0 0, .int .i64 0, .int .i64 0, .slice none 0 0, .slice none 0 0, .slice none 0 0, .slice none 0 0, .int .i64 0], .slice none 0 0, .int .u8 0], []⟩ 12 (by kernel_rfl) (by kernel_rfl) (by kernel_rfl) (by kernel_rfl)) ?_
  intro W base args ds gs before hval0 hW hcnd _
  have hval : ∀ (j : Nat) t v, Tryz.f10.params[j]? = some t → args[j]? = some v → Value.okWide Tryz.prog W .any base t v := hval0
  have hW' := hW
  obtain ⟨p, q, hA0, hV, rfl, hfz, hnd⟩ := hW
  have hA : DataW.TrodAll enc Tryz.prog W 0 (fun _ => true) true Tryz.f10.params.toList args.toList ds p := hA0
  rw [Tryz.params10] at hA hval
  obtain ⟨v0, vs0, d0, ds0, p0, q0, hargs, rfl, rfl, k0, r0⟩ := trodAll_cons hA
  obtain ⟨v1, vs1, d1, ds1, p1, q1, rfl, rfl, rfl, k1, r1⟩ := trodAll_cons r0
  obtain ⟨v2, vs2, d2, ds2, p2, q2, rfl, rfl, rfl, k2, r2⟩ := trodAll_cons r1
  obtain ⟨rfl, rfl, rfl⟩ := trodAll_nil r2
  obtain rfl : args = #[v0, v1, v2] := by cases args; simp_all
  obtain ⟨rfl, rfl⟩ := trodVars_none hV
  have lt0 : ∀ x ∈ p0, x.block < W.heap.size := by obtain ⟨m, hm⟩ := k0; exact DataW.trod_lt m _ _ _ hm
  have lt1 : ∀ x ∈ p1, x.block < W.heap.size := by obtain ⟨m, hm⟩ := k1; exact DataW.trod_lt m _ _ _ hm
  have lt2 : ∀ x ∈ p2, x.block < W.heap.size := by obtain ⟨m, hm⟩ := k2; exact DataW.trod_lt m _ _ _ hm
  clear hA0 hval0 r0 r1 r2
  obtain ⟨a0, r0, g0⟩ := Rd.rd34.argA Tryz.underlying34 (fun _ => rfl) (hval 0 34 v0 rfl rfl) k0
  obtain ⟨a1, r1, g1⟩ := d1E Rd.rd77 Tryz.underlying77 (hval 1 77 v1 rfl rfl) k1
  obtain ⟨a2, r2, g2⟩ := d2Y Tryz.underlying5 (by kernel_rfl) (hval 2 5 v2 rfl rfl) k2
  refine (walk W v0 a0 r0 g0 v1 a1 r1 g1 v2 a2 r2 g2).mono fun e W' ⟨he, bel⟩ => ?_
  subst he
  exact ⟨_, rfl, _, _, _, [], _, [], hW', trodAll_mk1 (shut_bool Tryz.underlying4 _), (trodAll_cons_mk (Below.trod laidOut (by kernel_rfl) (of_decide_eq_true (by kernel_rfl)) k0 bel lt0) (trodAll_cons_mk (Below.trod laidOut (by kernel_rfl) (of_decide_eq_true (by kernel_rfl)) k1 bel lt1) (trodAll_cons_mk (Below.trod laidOut (by kernel_rfl) (of_decide_eq_true (by kernel_rfl)) k2 bel lt2) trodAll_mk0))), rfl, bel.frame _, fun h => by cases h⟩

theorem enters : Tryz.prog.mayEnter = true := by kernel_rfl
theorem lifts : (Rows.drainDoesRow.lifted == Tryz.prog.liftsFinal) = true := by kernel_rfl
theorem makes : (Tryz.prog.make == some Rows.drainDoesRow.make) = true := by kernel_rfl
theorem place : (Rows.drainDoesRow.inPlace == Tryz.prog.inPlace 10) = true := by kernel_rfl
theorem unfol : (Rows.drainDoesRow.unfollowed == Tryz.prog.unfollowed 10) = true := by kernel_rfl
theorem recur : (Rows.drainDoesRow.recurses == Tryz.prog.recurses 10) = true := by kernel_rfl
theorem names : (Rows.drainDoesRow.named == Tryz.prog.varsNamed 10) = true := by kernel_rfl
theorem rowed : mapsRowed Tryz.prog = true := by kernel_rfl
theorem stops : (Tryz.prog.stops == []) = true := by kernel_rfl
theorem knobs : (Tryz.prog.stopKnobs == []) = true := by kernel_rfl
theorem closed : joinedFacts Tryz.prog 10 Tryz.f10 Rows.drainDoesSpec Rows.drainDoesRow = true := by
  unfold joinedFacts
  rw [laidOut, enters, lifts, makes, place, unfol, recur, names, rowed, stops, knobs]
  kernel_rfl
theorem over : Rows.drainDoesRow.holds Tryz.pinned (OpenSpec.ofChange Rows.drainDoesSpec) :=
  OpenClaim.holds_of_wide 10 Tryz.f10 rfl rfl rfl rfl rfl rfl rfl ⟨rfl, rfl, rfl, rfl, rfl⟩ rfl rfl rfl rfl rfl (by kernel_rfl) Tryz.func10 closed
    (of_decide_eq_true (by kernel_rfl)) (by unfold Func.isWrapper; first | (rw [if_pos (by decide +kernel)]; kernel_rfl) | (rw [if_neg (by decide +kernel)]; exact ⟨rfl, rfl⟩))
    (fun os started H enc _ => lifted os started H enc)

theorem proved : Rows.DrainDoesSaid := over
#print axioms proved
end Go.Proofs.YtlkcpapbolbjnaaGreat.drainDoes
