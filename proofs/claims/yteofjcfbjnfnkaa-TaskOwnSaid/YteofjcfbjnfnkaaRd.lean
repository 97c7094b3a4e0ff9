/-
  How the arguments of the laws are read.
-/
import Derived.Test.YteofjcfbjnfnkaaPwL
import Derived.Test.YteofjcfbjnfnkaaF14Ok1
namespace Go.Proofs.Yteofjcfbjnfnkaa.Rd
open Go Go.Pw Go.Sh Go.Proofs
set_option linter.unusedVariables false
set_option maxRecDepth 100000
theorem rd3 : Rdr Try.prog 3 (PV.int .i64) (fun (n : Int) => (Lit.int .i64 n).wf = true) := rdr_int Try.underlying3 (by kernel_rfl)
theorem rd26 : Rdr Try.prog 26 task_Task.Pv (fun (a : task_Task) => ((fun (n : Int) => (Lit.int .i64 n).wf = true) a.Kind) ∧ (((fun (n : Int) => (Lit.int .i64 n).wf = true) a.At) ∧ (((fun (n : Int) => (Lit.int .i64 n).wf = true) a.Prog) ∧ (True)))) := rdr_struct (Pv := task_Task.Pv) (fun x => ⟨x.1, x.2.1, x.2.2.1⟩) Try.underlying26 (rdrF_cons rfl rd3 (rdrF_cons rfl rd3 (rdrF_cons rfl rd3 rdrF_nil))) (by kernel_rfl) (fun _ => rfl) (fun a => ⟨(a.Kind, a.At, a.Prog, ()), rfl⟩) (fun _ h => ⟨h.1, h.2.1, h.2.2.1, trivial⟩)
theorem rd22 : Rdr Try.prog 22 (Ls task_Task.Pv) (fun (l : List task_Task) => l.length ≤ maxLen ∧ ∀ a ∈ l, (fun (a : task_Task) => ((fun (n : Int) => (Lit.int .i64 n).wf = true) a.Kind) ∧ (((fun (n : Int) => (Lit.int .i64 n).wf = true) a.At) ∧ (((fun (n : Int) => (Lit.int .i64 n).wf = true) a.Prog) ∧ (True)))) a) := rdr_slice Try.underlying22 (by kernel_rfl) (Nat.lt_of_lt_of_eq (by decide : 0 < 3) (by kernel_rfl)) rd26
theorem rd24 : Rdr Try.prog 24 queue_Queue_task_Task.Pv (fun (a : queue_Queue_task_Task) => ((fun (l : List task_Task) => l.length ≤ maxLen ∧ ∀ a ∈ l, (fun (a : task_Task) => ((fun (n : Int) => (Lit.int .i64 n).wf = true) a.Kind) ∧ (((fun (n : Int) => (Lit.int .i64 n).wf = true) a.At) ∧ (((fun (n : Int) => (Lit.int .i64 n).wf = true) a.Prog) ∧ (True)))) a) a.L) ∧ (((fun (n : Int) => (Lit.int .i64 n).wf = true) a.Cap) ∧ (True))) := rdr_struct (Pv := queue_Queue_task_Task.Pv) (fun x => ⟨x.1, x.2.1⟩) Try.underlying24 (rdrF_cons rfl rd22 (rdrF_cons rfl rd3 rdrF_nil)) (by kernel_rfl) (fun _ => rfl) (fun a => ⟨(a.L, a.Cap, ()), rfl⟩) (fun _ h => ⟨h.1, h.2.1, trivial⟩)
end Go.Proofs.Yteofjcfbjnfnkaa.Rd
