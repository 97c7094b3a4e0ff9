/-
  How the arguments of the laws are read.
-/
import Derived.Test.YteilfbdphlimkaaPwL
import Derived.Test.YteilfbdphlimkaaD3Ok2
namespace Go.Proofs.Yteilfbdphlimkaa.Rd
open Go Go.Pw Go.Sh Go.Proofs
set_option linter.unusedVariables false
set_option maxRecDepth 100000
theorem rd3 : Rdr Try.prog 3 (PV.int .i64) (fun (n : Int) => (Lit.int .i64 n).wf = true) := rdr_int Try.underlying3 (by kernel_rfl)
theorem rd69 : Rdr Try.prog 69 slab_Cell_int.Pv (fun (a : slab_Cell_int) => ((fun (n : Int) => (Lit.int .i64 n).wf = true) a.State) ∧ (((fun (n : Int) => (Lit.int .i64 n).wf = true) a.Gen) ∧ (((fun (n : Int) => (Lit.int .i64 n).wf = true) a.Val) ∧ (True)))) := rdr_struct (Pv := slab_Cell_int.Pv) (fun x => ⟨x.1, x.2.1, x.2.2.1⟩) Try.underlying69 (rdrF_cons rfl rd3 (rdrF_cons rfl rd3 (rdrF_cons rfl rd3 rdrF_nil))) (by kernel_rfl) (fun _ => rfl) (fun a => ⟨(a.State, a.Gen, a.Val, ()), rfl⟩) (fun _ h => ⟨h.1, h.2.1, h.2.2.1, trivial⟩)
theorem rd22 : Rdr Try.prog 22 (Ls slab_Cell_int.Pv) (fun (l : List slab_Cell_int) => l.length ≤ maxLen ∧ ∀ a ∈ l, (fun (a : slab_Cell_int) => ((fun (n : Int) => (Lit.int .i64 n).wf = true) a.State) ∧ (((fun (n : Int) => (Lit.int .i64 n).wf = true) a.Gen) ∧ (((fun (n : Int) => (Lit.int .i64 n).wf = true) a.Val) ∧ (True)))) a) := rdr_slice Try.underlying22 (by kernel_rfl) (Nat.lt_of_lt_of_eq (by decide : 0 < 3) (by kernel_rfl)) rd69
theorem rd24 : Rdr Try.prog 24 slab_Slab_int.Pv (fun (a : slab_Slab_int) => ((fun (l : List slab_Cell_int) => l.length ≤ maxLen ∧ ∀ a ∈ l, (fun (a : slab_Cell_int) => ((fun (n : Int) => (Lit.int .i64 n).wf = true) a.State) ∧ (((fun (n : Int) => (Lit.int .i64 n).wf = true) a.Gen) ∧ (((fun (n : Int) => (Lit.int .i64 n).wf = true) a.Val) ∧ (True)))) a) a.Cells) ∧ (((fun (n : Int) => (Lit.int .i64 n).wf = true) a.Last) ∧ (True))) := rdr_struct (Pv := slab_Slab_int.Pv) (fun x => ⟨x.1, x.2.1⟩) Try.underlying24 (rdrF_cons rfl rd22 (rdrF_cons rfl rd3 rdrF_nil)) (by kernel_rfl) (fun _ => rfl) (fun a => ⟨(a.Cells, a.Last, ()), rfl⟩) (fun _ h => ⟨h.1, h.2.1, trivial⟩)
theorem rd54 : Rdr Try.prog 54 (Ls (PV.int .i64)) (fun (l : List Int) => l.length ≤ maxLen ∧ ∀ a ∈ l, (fun (n : Int) => (Lit.int .i64 n).wf = true) a) := rdr_slice Try.underlying54 (by kernel_rfl) (Nat.lt_of_lt_of_eq (by decide : 0 < 1) (by kernel_rfl)) rd3
theorem rd9 : Rdr Try.prog 9 PV.str (fun (s : ByteArray) => s.size ≤ maxLen) := rdr_str Try.underlying9 (by kernel_rfl)
theorem rd56 : Rdr Try.prog 56 (Ls PV.str) (fun (l : List ByteArray) => l.length ≤ maxLen ∧ ∀ a ∈ l, (fun (s : ByteArray) => s.size ≤ maxLen) a) := rdr_slice Try.underlying56 (by kernel_rfl) (Nat.lt_of_lt_of_eq (by decide : 0 < 1) (by kernel_rfl)) rd9
end Go.Proofs.Yteilfbdphlimkaa.Rd
