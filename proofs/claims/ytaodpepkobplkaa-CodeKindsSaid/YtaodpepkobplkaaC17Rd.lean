/-
 How the arguments of the laws are read.
-/
import Derived.Test.YtaodpepkobplkaaC17PwL
import Derived.Test.YtaodpepkobplkaaC17Ok1
namespace Go.Proofs.Ytaodpepkobplkaa.Rd
open Go Go.Pw Go.Sh Go.Proofs
set_option linter.unusedVariables false
set_option maxRecDepth 100000
theorem rd3 : Rdr Try.prog 3 (PV.int .i64) (fun (n : Int) => (Lit.int .i64 n).wf = true) := rdr_int Try.underlying3 (by kernel_rfl)
theorem rd23 : Rdr Try.prog 23 code_Op.Pv (fun (a : code_Op) => ((fun (n : Int) => (Lit.int .i64 n).wf = true) a.Kind) ∧ (((fun (n : Int) => (Lit.int .i64 n).wf = true) a.A) ∧ (((fun (n : Int) => (Lit.int .i64 n).wf = true) a.B) ∧ (((fun (n : Int) => (Lit.int .i64 n).wf = true) a.C) ∧ (True))))) := rdr_struct (Pv := code_Op.Pv) (fun x => ⟨x.1, x.2.1, x.2.2.1, x.2.2.2.1⟩) Try.underlying23 (rdrF_cons rfl rd3 (rdrF_cons rfl rd3 (rdrF_cons rfl rd3 (rdrF_cons rfl rd3 rdrF_nil)))) (by kernel_rfl) (fun _ => rfl) (fun a => ⟨(a.Kind, a.A, a.B, a.C, ()), rfl⟩) (fun _ h => ⟨h.1, h.2.1, h.2.2.1, h.2.2.2.1, trivial⟩)
theorem rd24 : Rdr Try.prog 24 (Ls (PV.int .i64)) (fun (l : List Int) => l.length ≤ maxLen ∧ ∀ a ∈ l, (fun (n : Int) => (Lit.int .i64 n).wf = true) a) := rdr_slice Try.underlying24 (by kernel_rfl) (Nat.lt_of_lt_of_eq (by decide : 0 < 1) (by kernel_rfl)) rd3
theorem rd42 : Rdr Try.prog 42 (Ls code_Op.Pv) (fun (l : List code_Op) => l.length ≤ maxLen ∧ ∀ a ∈ l, (fun (a : code_Op) => ((fun (n : Int) => (Lit.int .i64 n).wf = true) a.Kind) ∧ (((fun (n : Int) => (Lit.int .i64 n).wf = true) a.A) ∧ (((fun (n : Int) => (Lit.int .i64 n).wf = true) a.B) ∧ (((fun (n : Int) => (Lit.int .i64 n).wf = true) a.C) ∧ (True))))) a) := rdr_slice Try.underlying42 (by kernel_rfl) (Nat.lt_of_lt_of_eq (by decide : 0 < 4) (by kernel_rfl)) rd23
theorem rd41 : Rdr Try.prog 41 (Ls (Ls code_Op.Pv)) (fun (l : List (List code_Op)) => l.length ≤ maxLen ∧ ∀ a ∈ l, (fun (l : List code_Op) => l.length ≤ maxLen ∧ ∀ a ∈ l, (fun (a : code_Op) => ((fun (n : Int) => (Lit.int .i64 n).wf = true) a.Kind) ∧ (((fun (n : Int) => (Lit.int .i64 n).wf = true) a.A) ∧ (((fun (n : Int) => (Lit.int .i64 n).wf = true) a.B) ∧ (((fun (n : Int) => (Lit.int .i64 n).wf = true) a.C) ∧ (True))))) a) a) := rdr_slice Try.underlying41 (by kernel_rfl) (Nat.lt_of_lt_of_eq (by decide : 0 < 1) (by kernel_rfl)) rd42
end Go.Proofs.Ytaodpepkobplkaa.Rd
