/-
  How the arguments of the laws are read.
-/
import Derived.Test.YtkjilddlbaibfaaPwL
import Derived.Test.YtkjilddlbaibfaaH11Ok2
namespace Go.Proofs.Ytkjilddlbaibfaa.Rd
open Go Go.Pw Go.Sh Go.Proofs
set_option linter.unusedVariables false
set_option maxRecDepth 100000
theorem rd3 : Rdr Try.prog 3 (PV.int .i64) (fun (n : Int) => (Lit.int .i64 n).wf = true) := rdr_int Try.underlying3 (by kernel_rfl)
theorem rd62 : Rdr Try.prog 62 hash_Place.Pv (fun (a : hash_Place) => ((fun (n : Int) => (Lit.int .i64 n).wf = true) a.State) ∧ (((fun (n : Int) => (Lit.int .i64 n).wf = true) a.Key) ∧ (((fun (n : Int) => (Lit.int .i64 n).wf = true) a.Val) ∧ (True)))) := rdr_struct (Pv := hash_Place.Pv) (fun x => ⟨x.1, x.2.1, x.2.2.1⟩) Try.underlying62 (rdrF_cons rfl rd3 (rdrF_cons rfl rd3 (rdrF_cons rfl rd3 rdrF_nil))) (by kernel_rfl) (fun _ => rfl) (fun a => ⟨(a.State, a.Key, a.Val, ()), rfl⟩) (fun _ h => ⟨h.1, h.2.1, h.2.2.1, trivial⟩)
theorem rd22 : Rdr Try.prog 22 (Ls hash_Place.Pv) (fun (l : List hash_Place) => l.length ≤ maxLen ∧ ∀ a ∈ l, (fun (a : hash_Place) => ((fun (n : Int) => (Lit.int .i64 n).wf = true) a.State) ∧ (((fun (n : Int) => (Lit.int .i64 n).wf = true) a.Key) ∧ (((fun (n : Int) => (Lit.int .i64 n).wf = true) a.Val) ∧ (True)))) a) := rdr_slice Try.underlying22 (by kernel_rfl) (Nat.lt_of_lt_of_eq (by decide : 0 < 3) (by kernel_rfl)) rd62
theorem rd23 : Rdr Try.prog 23 (Ls (PV.int .i64)) (fun (l : List Int) => l.length ≤ maxLen ∧ ∀ a ∈ l, (fun (n : Int) => (Lit.int .i64 n).wf = true) a) := rdr_slice Try.underlying23 (by kernel_rfl) (Nat.lt_of_lt_of_eq (by decide : 0 < 1) (by kernel_rfl)) rd3
end Go.Proofs.Ytkjilddlbaibfaa.Rd
