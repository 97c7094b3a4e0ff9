/-
  What is named no more is gone, whatever was done ahead, unless a count is stuck.
  Conditions: none beyond that the arguments are values of their Go types.
-/
import Derived.Test.YtjpgbnlcefhaiaaGreatRows
import Derived.OpenShut
import Derived.Lib.Hide
import Derived.WalkKit
import Derived.ProofKit
import Derived.ShutString
import Derived.ChangeOld
import Derived.Below
import Derived.Test.YtjpgbnlcefhaiaaGreatW24gOk2
import Derived.Test.YtjpgbnlcefhaiaaGreatW24gRd
import Derived.Test.YtjpgbnlcefhaiaaGreatW24gT3
namespace Go.Proofs.YtjpgbnlcefhaiaaGreat.topGone
open Go Go.Pw Go.Sh Go.Proofs Go.Proofs.YtjpgbnlcefhaiaaGreat Go.ChangeShapes Go.WideShapes Go.ChangeAt Go.RowKit
set_option linter.unusedVariables false
theorem own : ownKnob Tryz.prog.godebug = none := by kernel_rfl
theorem laidOut : laidOutB Tryz.prog = true := by kernel_rfl
theorem walk (w : World) (v0 : Value) (a0 : Int) (r0 : Rd0 w (all w) v0 (.int .u8 a0)) (g0 : (fun (n : Int) => (Lit.int .u8 n).wf = true) a0) (v1 : Value) (a1 : List (List Int)) (r1 : Rd0 w (all w) v1 (.lst false (List.map (Ls (PV.int .i64)) a1))) (g1 : (fun (l : List (List Int)) => l.length ≤ maxLen ∧ ∀ a ∈ l, (fun (l : List Int) => l.length ≤ maxLen ∧ ∀ a ∈ l, (fun (n : Int) => (Lit.int .i64 n).wf = true) a) a) a1) :
    Calls Tryz.prog 3 #[v0, v1] w fun e w' => e = .returned (.bool true) ∧ Below w.heap.size w w' :=
  c8C (Ok.wt_TopGone_ok.2 _ (topGone (d2F g0).1 (by have := (d2F g0).2; omega))) (rdL_of (vs := [v0, v1]) ⟨r0, r1, trivial⟩)

set_option maxRecDepth 100000 in
theorem lifted (os : Os) (started : os.Started) (H : Type) (enc : TypeId × Value → H) :
    ReturnsInHanded {} Tryz.checked os 3 .any (Rows.topGoneSpec.pre6 enc Tryz.prog Tryz.f3 Rows.topGoneRow.domain false) (Rows.topGoneSpec.post enc Tryz.prog Tryz.f3 false true false false) := by
  refine returnsInHanded_of_change (C := Tryz.checked) own started (by kernel_rfl) Tryz.func3
    (ChangeSpec.witness6 (enc := enc) (C := Tryz.checked) false ⟨#[], #[.int .u8 0, .slice none 0 0], []⟩ 12 (by kernel_rfl) (by kernel_rfl) (by kernel_rfl) (by kernel_rfl)) ?_
  intro W base args ds gs before hval0 hW hcnd _
  have hval : ∀ (j : Nat) t v, Tryz.f3.params[j]? = some t → args[j]? = some v → Value.okWide Tryz.prog W .any base t v := hval0
  have hW' := hW
  obtain ⟨p, q, hA0, hV, rfl, hfz, hnd⟩ := hW
  have hA : DataW.TrodAll enc Tryz.prog W 0 (fun _ => true) true Tryz.f3.params.toList args.toList ds p := hA0
  rw [Tryz.params3] at hA hval
  obtain ⟨v0, vs0, d0, ds0, p0, q0, hargs, rfl, rfl, k0, r0⟩ := trodAll_cons hA
  obtain ⟨v1, vs1, d1, ds1, p1, q1, rfl, rfl, rfl, k1, r1⟩ := trodAll_cons r0
  obtain ⟨rfl, rfl, rfl⟩ := trodAll_nil r1
  obtain rfl : args = #[v0, v1] := by cases args; simp_all
  obtain ⟨rfl, rfl⟩ := trodVars_none hV
  have lt0 : ∀ x ∈ p0, x.block < W.heap.size := by obtain ⟨m, hm⟩ := k0; exact DataW.trod_lt m _ _ _ hm
  have lt1 : ∀ x ∈ p1, x.block < W.heap.size := by obtain ⟨m, hm⟩ := k1; exact DataW.trod_lt m _ _ _ hm
  clear hA0 hval0 r0 r1
  obtain ⟨a0, r0, g0⟩ := d1L Tryz.underlying5 (by kernel_rfl) (hval 0 5 v0 rfl rfl) k0
  obtain ⟨a1, r1, g1⟩ := d0t Rd.rd22 Tryz.underlying22 (hval 1 22 v1 rfl rfl) k1
  refine (walk W v0 a0 r0 g0 v1 a1 r1 g1).mono fun e W' ⟨he, bel⟩ => ?_
  subst he
  exact ⟨_, rfl, _, _, _, [], _, [], hW', trodAll_mk1 (shut_bool Tryz.underlying4 _), (trodAll_cons_mk (Below.trod laidOut (by kernel_rfl) (of_decide_eq_true (by kernel_rfl)) k0 bel lt0) (trodAll_cons_mk (Below.trod laidOut (by kernel_rfl) (of_decide_eq_true (by kernel_rfl)) k1 bel lt1) trodAll_mk0)), rfl, bel.frame _, fun h => by cases h⟩

theorem enters : Tryz.prog.mayEnter = true := by kernel_rfl
theorem lifts : (Rows.topGoneRow.lifted == Tryz.prog.liftsFinal) = true := by kernel_rfl
theorem makes : (Tryz.prog.make == some Rows.topGoneRow.make) = true := by kernel_rfl
theorem place : (Rows.topGoneRow.inPlace == Tryz.prog.inPlace 3) = true := by kernel_rfl
theorem unfol : (Rows.topGoneRow.unfollowed == Tryz.prog.unfollowed 3) = true := by kernel_rfl
theorem recur : (Rows.topGoneRow.recurses == Tryz.prog.recurses 3) = true := by kernel_rfl
theorem names : (Rows.topGoneRow.named == Tryz.prog.varsNamed 3) = true := by kernel_rfl
theorem rowed : mapsRowed Tryz.prog = true := by kernel_rfl
theorem stops : (Tryz.prog.stops == []) = true := by kernel_rfl
theorem knobs : (Tryz.prog.stopKnobs == []) = true := by kernel_rfl
theorem closed : joinedFacts Tryz.prog 3 Tryz.f3 Rows.topGoneSpec Rows.topGoneRow = true := by
  unfold joinedFacts
  rw [laidOut, enters, lifts, makes, place, unfol, recur, names, rowed, stops, knobs]
  kernel_rfl
theorem over : Rows.topGoneRow.holds Tryz.pinned (OpenSpec.ofChange Rows.topGoneSpec) :=
  OpenClaim.holds_of_wide 3 Tryz.f3 rfl rfl rfl rfl rfl rfl rfl ⟨rfl, rfl, rfl, rfl, rfl⟩ rfl rfl rfl rfl rfl (by kernel_rfl) Tryz.func3 closed
    (of_decide_eq_true (by kernel_rfl)) (by unfold Func.isWrapper; first | (rw [if_pos (by decide +kernel)]; kernel_rfl) | (rw [if_neg (by decide +kernel)]; exact ⟨rfl, rfl⟩))
    (fun os started H enc _ => lifted os started H enc)

theorem proved : Rows.TopGoneSaid := over
#print axioms proved
end Go.Proofs.YtjpgbnlcefhaiaaGreat.topGone
