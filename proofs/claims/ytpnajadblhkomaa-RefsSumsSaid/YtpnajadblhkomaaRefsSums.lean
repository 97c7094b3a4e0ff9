/-
  As many names go out of all objects as come in to those that live, and to those that do not, together.
  Conditions: none beyond that the arguments are values of their Go types.
-/
import Derived.Test.YtpnajadblhkomaaRows
import Derived.OpenShut
import Derived.Lib.Hide
import Derived.WalkKit
import Derived.ProofKit
import Derived.ShutString
import Derived.ChangeOld
import Derived.Below
import Derived.Test.YtpnajadblhkomaaG7Ok2
import Derived.Test.YtpnajadblhkomaaRd
import Derived.Test.YtpnajadblhkomaaG7T
namespace Go.Proofs.Ytpnajadblhkomaa.refsSums
open Go Go.Pw Go.Sh Go.Proofs Go.Proofs.Ytpnajadblhkomaa Go.ChangeShapes Go.WideShapes Go.ChangeAt Go.RowKit
set_option linter.unusedVariables false
theorem own : ownKnob Try.prog.godebug = none := by kernel_rfl
theorem laidOut : laidOutB Try.prog = true := by kernel_rfl
theorem walk (w : World) (v0 : Value) (a0 : store_Store) (r0 : Rd0 w (all w) v0 (store_Store.Pv a0)) (g0 : (fun (a : store_Store) => ((fun (a : slab_Slab_store_Obj) => ((fun (l : List slab_Cell_store_Obj) => l.length ≤ maxLen ∧ ∀ a ∈ l, (fun (a : slab_Cell_store_Obj) => ((fun (n : Int) => (Lit.int .i64 n).wf = true) a.State) ∧ (((fun (n : Int) => (Lit.int .i64 n).wf = true) a.Gen) ∧ (((fun (a : store_Obj) => ((fun (n : Int) => (Lit.int .i64 n).wf = true) a.Serial) ∧ (((fun (n : Int) => (Lit.int .i64 n).wf = true) a.Strong) ∧ (((fun (n : Int) => (Lit.int .i64 n).wf = true) a.Weak) ∧ (((fun (n : Int) => (Lit.int .i64 n).wf = true) a.Prog) ∧ (((fun (_ : Bool) => True) a.Started) ∧ (((fun (l : List Int) => l.length ≤ maxLen ∧ ∀ a ∈ l, (fun (n : Int) => (Lit.int .i64 n).wf = true) a) a.Fields) ∧ (True))))))) a.Val) ∧ (True)))) a) a.Cells) ∧ (((fun (n : Int) => (Lit.int .i64 n).wf = true) a.Last) ∧ (True))) a.S) ∧ (((fun (n : Int) => (Lit.int .i64 n).wf = true) a.Serial) ∧ (True))) a0) :
    Calls Try.prog 8 #[v0] w fun e w' => e = .returned (.bool true) ∧ Below w.heap.size w w' :=
  calls_true (Ok.w07_RefsSums_ok (refsSums a0 (fun c hc x hx => (wf_i64 ((g0.1.1.2 c hc).2.2.1.2.2.2.2.2.1.2 x hx)).2))) (rdL_of (vs := [v0]) ⟨r0, trivial⟩)

set_option maxRecDepth 100000 in
theorem lifted (os : Os) (started : os.Started) (H : Type) (enc : TypeId × Value → H) :
    ReturnsInHanded {} Try.checked os 8 .any (Rows.refsSumsSpec.pre6 enc Try.prog Try.f8 Rows.refsSumsRow.domain false) (Rows.refsSumsSpec.post enc Try.prog Try.f8 false true false false) := by
  refine returnsInHanded_of_change (C := Try.checked) own started (by kernel_rfl) Try.func8
    (ChangeSpec.witness6 (enc := enc) (C := Try.checked) false ⟨#[], #[.agg #[.slice none 0 0, .int .i64 0, .int .i64 0]], []⟩ 12 (by kernel_rfl) (by kernel_rfl) (by kernel_rfl) (by kernel_rfl)) ?_
  intro W base args ds gs before hval0 hW hcnd _
  have hval : ∀ (j : Nat) t v, Try.f8.params[j]? = some t → args[j]? = some v → Value.okWide Try.prog W .any base t v := hval0
  have hW' := hW
  obtain ⟨p, q, hA0, hV, rfl, hfz, hnd⟩ := hW
  have hA : DataW.TrodAll enc Try.prog W 0 (fun _ => true) true Try.f8.params.toList args.toList ds p := hA0
  rw [Try.params8] at hA hval
  obtain ⟨v0, vs0, d0, ds0, p0, q0, hargs, rfl, rfl, k0, r0⟩ := trodAll_cons hA
  obtain ⟨rfl, rfl, rfl⟩ := trodAll_nil r0
  obtain rfl : args = #[v0] := by cases args; simp_all
  obtain ⟨rfl, rfl⟩ := trodVars_none hV
  have lt0 : ∀ x ∈ p0, x.block < W.heap.size := by obtain ⟨m, hm⟩ := k0; exact DataW.trod_lt m _ _ _ hm
  clear hA0 hval0 r0
  obtain ⟨a0, r0, g0⟩ := Rd.rd26.argA Try.underlying26 (fun _ => rfl) (hval 0 26 v0 rfl rfl) k0
  refine (walk W v0 a0 r0 g0).mono fun e W' ⟨he, bel⟩ => ?_
  subst he
  exact ⟨_, rfl, _, _, _, [], _, [], hW', trodAll_mk1 (shut_bool Try.underlying4 _), (trodAll_cons_mk (Below.trod laidOut (by kernel_rfl) (of_decide_eq_true (by kernel_rfl)) k0 bel lt0) trodAll_mk0), rfl, bel.frame _, fun h => by cases h⟩

theorem over : Rows.refsSumsRow.holds Try.pinned (OpenSpec.ofChange Rows.refsSumsSpec) :=
  OpenClaim.holds_of_wide 8 Try.f8 rfl rfl rfl rfl rfl rfl rfl ⟨rfl, rfl, rfl, rfl, rfl⟩ rfl rfl rfl rfl rfl (by kernel_rfl) Try.func8 (by kernel_rfl)
    (of_decide_eq_true (by kernel_rfl)) (by unfold Func.isWrapper; first | (rw [if_pos (by decide +kernel)]; kernel_rfl) | (rw [if_neg (by decide +kernel)]; exact ⟨rfl, rfl⟩))
    (fun os started H enc _ => lifted os started H enc)

theorem proved : Rows.RefsSumsSaid := over
#print axioms proved
end Go.Proofs.Ytpnajadblhkomaa.refsSums
