/-
  No cell of these rows narrows 'for every input' (looked for: loops, veiled, ifaces, maps, wideKeys, modest, calm, conditions, laid).
  DERIVED. THE GIVEN ROWS OF THIS SEAT. 7 by the template 'for every input the law returns true; each argument reads behind the call as it read before'; 0 by the template 'total and deterministic' (their statements: YtfihndcobnkiaaaGreatTotals.lean).
  GIVEN WITH THE SEED: the statements are not yours to turn. If you find one false, say at which input.
  Laid BY PROGRAM, IN A SANDBOX (cutbox-rows.mjs): the forced cells as the released guide's own fill.sh prints them over the translation c6c73019f296d29d… (all of the seat's roots in one cut). By AI agents, Wed Nov 11 2026. No macro, syntax, notation, axiom, sorry.
-/
import Derived.Test.YtfihndcobnkiaaaGreatChecked
import GoSem.Claim
import GoSem.ClaimJoined
import GoSem.ClaimMapViews
import Derived.JoinedTies
import Derived.KernelRfl
namespace Go.Proofs.YtfihndcobnkiaaaGreat
/- THE CELL 'sum', in the pinned program and in every row, IS THE sha256 OF THE DUMP (.gsa) THAT YtfihndcobnkiaaaGreatProg.lean LOADS. Nothing in Lean hashes anything: it is a label: what it is worth is what the hold of that sum in a sandbox is worth. -/
noncomputable def Tryz.pinned : Pinned := { name := "ytfihndcobnkiaaagreat", sum := "c6c73019f296d29d75bd3a1ff963e180fdccaad202e664498d4a7fcccd2f2348", checked := Tryz.checked }
namespace Rows
def none {H : Type} : Left H := { results := [], args := [] }

/-- 'mortmainlaw18.MachineDoes': WHATEVER THE INPUT: true; the input reads as it did. -/
def machineDoesSpec : ChangeSpec := { name := "machineDoes", fn := fun _ => fun
  | [d1, d2, d3] => { results := [.lit (.bool true)], args := [d1, d2, d3] }
  | _ => none }
def machineDoesRow : OpenClaim := { program := "ytfihndcobnkiaaagreat", sum := "c6c73019f296d29d75bd3a1ff963e180fdccaad202e664498d4a7fcccd2f2348", func := "mortmain/mortmainlaw18.MachineDoes", spec := "machineDoes", unfollowed := true, recurses := true, plainKeys := false, apart := false }
def MachineDoesSaid : Prop := machineDoesRow.holds Tryz.pinned (OpenSpec.ofChange machineDoesSpec)

/-- ITS FALSE NEIGHBOUR: 'it returns false'. Refute it at one input. -/
def machineDoesWrong : ChangeSpec := { name := "machineDoes", fn := fun _ => fun
  | [d1, d2, d3] => { results := [.lit (.bool false)], args := [d1, d2, d3] }
  | _ => none }
def MachineDoesWrongFalsely : Prop := machineDoesRow.holds Tryz.pinned (OpenSpec.ofChange machineDoesWrong)

/-- 'mortmainlaw18.MachineRuns': WHATEVER THE INPUT: true; the input reads as it did. -/
def machineRunsSpec : ChangeSpec := { name := "machineRuns", fn := fun _ => fun
  | [d1, d2, d3, d4] => { results := [.lit (.bool true)], args := [d1, d2, d3, d4] }
  | _ => none }
def machineRunsRow : OpenClaim := { program := "ytfihndcobnkiaaagreat", sum := "c6c73019f296d29d75bd3a1ff963e180fdccaad202e664498d4a7fcccd2f2348", func := "mortmain/mortmainlaw18.MachineRuns", spec := "machineRuns", unfollowed := true, recurses := true, plainKeys := false, apart := false }
def MachineRunsSaid : Prop := machineRunsRow.holds Tryz.pinned (OpenSpec.ofChange machineRunsSpec)

/-- ITS FALSE NEIGHBOUR: 'it returns false'. Refute it at one input. -/
def machineRunsWrong : ChangeSpec := { name := "machineRuns", fn := fun _ => fun
  | [d1, d2, d3, d4] => { results := [.lit (.bool false)], args := [d1, d2, d3, d4] }
  | _ => none }
def MachineRunsWrongFalsely : Prop := machineRunsRow.holds Tryz.pinned (OpenSpec.ofChange machineRunsWrong)

/-- 'mortmainlaw18.MachineStays': WHATEVER THE INPUT: true; the input reads as it did. -/
def machineStaysSpec : ChangeSpec := { name := "machineStays", fn := fun _ => fun
  | [d1, d2] => { results := [.lit (.bool true)], args := [d1, d2] }
  | _ => none }
def machineStaysRow : OpenClaim := { program := "ytfihndcobnkiaaagreat", sum := "c6c73019f296d29d75bd3a1ff963e180fdccaad202e664498d4a7fcccd2f2348", func := "mortmain/mortmainlaw18.MachineStays", spec := "machineStays", unfollowed := true, recurses := true, plainKeys := false, apart := false }
def MachineStaysSaid : Prop := machineStaysRow.holds Tryz.pinned (OpenSpec.ofChange machineStaysSpec)

/-- ITS FALSE NEIGHBOUR: 'it returns false'. Refute it at one input. -/
def machineStaysWrong : ChangeSpec := { name := "machineStays", fn := fun _ => fun
  | [d1, d2] => { results := [.lit (.bool false)], args := [d1, d2] }
  | _ => none }
def MachineStaysWrongFalsely : Prop := machineStaysRow.holds Tryz.pinned (OpenSpec.ofChange machineStaysWrong)

/-- 'mortmainlaw18.MachineKeeps': WHATEVER THE INPUT: true; the input reads as it did. -/
def machineKeepsSpec : ChangeSpec := { name := "machineKeeps", fn := fun _ => fun
  | [d1, d2] => { results := [.lit (.bool true)], args := [d1, d2] }
  | _ => none }
def machineKeepsRow : OpenClaim := { program := "ytfihndcobnkiaaagreat", sum := "c6c73019f296d29d75bd3a1ff963e180fdccaad202e664498d4a7fcccd2f2348", func := "mortmain/mortmainlaw18.MachineKeeps", spec := "machineKeeps", unfollowed := true, recurses := true, plainKeys := false, apart := false }
def MachineKeepsSaid : Prop := machineKeepsRow.holds Tryz.pinned (OpenSpec.ofChange machineKeepsSpec)

/-- ITS FALSE NEIGHBOUR: 'it returns false'. Refute it at one input. -/
def machineKeepsWrong : ChangeSpec := { name := "machineKeeps", fn := fun _ => fun
  | [d1, d2] => { results := [.lit (.bool false)], args := [d1, d2] }
  | _ => none }
def MachineKeepsWrongFalsely : Prop := machineKeepsRow.holds Tryz.pinned (OpenSpec.ofChange machineKeepsWrong)

/-- 'mortmainlaw18.MachineLoads': WHATEVER THE INPUT: true; the input reads as it did. -/
def machineLoadsSpec : ChangeSpec := { name := "machineLoads", fn := fun _ => fun
  | [d1, d2, d3, d4, d5] => { results := [.lit (.bool true)], args := [d1, d2, d3, d4, d5] }
  | _ => none }
def machineLoadsRow : OpenClaim := { program := "ytfihndcobnkiaaagreat", sum := "c6c73019f296d29d75bd3a1ff963e180fdccaad202e664498d4a7fcccd2f2348", func := "mortmain/mortmainlaw18.MachineLoads", spec := "machineLoads", unfollowed := true, recurses := true, plainKeys := false, apart := false }
def MachineLoadsSaid : Prop := machineLoadsRow.holds Tryz.pinned (OpenSpec.ofChange machineLoadsSpec)

/-- ITS FALSE NEIGHBOUR: 'it returns false'. Refute it at one input. -/
def machineLoadsWrong : ChangeSpec := { name := "machineLoads", fn := fun _ => fun
  | [d1, d2, d3, d4, d5] => { results := [.lit (.bool false)], args := [d1, d2, d3, d4, d5] }
  | _ => none }
def MachineLoadsWrongFalsely : Prop := machineLoadsRow.holds Tryz.pinned (OpenSpec.ofChange machineLoadsWrong)

/-- 'mortmainlaw18.MachineSame': WHATEVER THE INPUT: true; the input reads as it did. -/
def machineSameSpec : ChangeSpec := { name := "machineSame", fn := fun _ => fun
  | [d1, d2, d3] => { results := [.lit (.bool true)], args := [d1, d2, d3] }
  | _ => none }
def machineSameRow : OpenClaim := { program := "ytfihndcobnkiaaagreat", sum := "c6c73019f296d29d75bd3a1ff963e180fdccaad202e664498d4a7fcccd2f2348", func := "mortmain/mortmainlaw18.MachineSame", spec := "machineSame", unfollowed := true, recurses := true, plainKeys := false, apart := false }
def MachineSameSaid : Prop := machineSameRow.holds Tryz.pinned (OpenSpec.ofChange machineSameSpec)

/-- ITS FALSE NEIGHBOUR: 'it returns false'. Refute it at one input. -/
def machineSameWrong : ChangeSpec := { name := "machineSame", fn := fun _ => fun
  | [d1, d2, d3] => { results := [.lit (.bool false)], args := [d1, d2, d3] }
  | _ => none }
def MachineSameWrongFalsely : Prop := machineSameRow.holds Tryz.pinned (OpenSpec.ofChange machineSameWrong)

/-- 'mortmainlaw18.MachineStores': WHATEVER THE INPUT: true; the input reads as it did. -/
def machineStoresSpec : ChangeSpec := { name := "machineStores", fn := fun _ => fun
  | [d1, d2, d3, d4, d5] => { results := [.lit (.bool true)], args := [d1, d2, d3, d4, d5] }
  | _ => none }
def machineStoresRow : OpenClaim := { program := "ytfihndcobnkiaaagreat", sum := "c6c73019f296d29d75bd3a1ff963e180fdccaad202e664498d4a7fcccd2f2348", func := "mortmain/mortmainlaw18.MachineStores", spec := "machineStores", unfollowed := true, recurses := true, plainKeys := false, apart := false }
def MachineStoresSaid : Prop := machineStoresRow.holds Tryz.pinned (OpenSpec.ofChange machineStoresSpec)

/-- ITS FALSE NEIGHBOUR: 'it returns false'. Refute it at one input. -/
def machineStoresWrong : ChangeSpec := { name := "machineStores", fn := fun _ => fun
  | [d1, d2, d3, d4, d5] => { results := [.lit (.bool false)], args := [d1, d2, d3, d4, d5] }
  | _ => none }
def MachineStoresWrongFalsely : Prop := machineStoresRow.holds Tryz.pinned (OpenSpec.ofChange machineStoresWrong)

/- THE SECOND FORM. 'bulk': how many values and letters a reading holds, each counted each time it is reached (what is shared counts as often as it is met; a slice's spare places count too). A statement '..UptoSaid' is the law's where the arguments, and the package variables that the reading takes, are together of bulk at most 1048576: NARROWER than '..Said'. Prove '..Said' where nothing that the law and all that it calls make is longer than what came in: it says more and counts as full. Else prove '..UptoSaid'. A law counts once. -/
mutual
def uptoBulk {H : Type} : DataW H → Nat
  | .lit (.string bytes) => bytes.length + 1
  | .lit _ => 1
  | .nil => 1
  | .ptr d => uptoBulk d + 1
  | .slice elems spare => uptoBulkAll elems + uptoBulkAll spare + 1
  | .agg parts => uptoBulkAll parts + 1
  | .iface _ d => uptoBulk d + 1
  | .map entries => uptoBulkEntries entries + 1
  | .held _ => 1
def uptoBulkAll {H : Type} : List (DataW H) → Nat
  | [] => 0
  | d :: r => uptoBulk d + uptoBulkAll r
def uptoBulkEntries {H : Type} : List (Lit × DataW H) → Nat
  | [] => 0
  | x :: r => uptoBulkEntry x + uptoBulkEntries r
def uptoBulkEntry {H : Type} : Lit × DataW H → Nat
  | (.string bytes, d) => bytes.length + uptoBulk d + 1
  | (_, d) => uptoBulk d + 1
 end
def uptoSmall : (H : Type) → List (DataW H) → Bool := fun _ ds => decide (uptoBulkAll ds ≤ 1048576)
def OpenSpec.upto (s : _root_.Go.ChangeSpec) : _root_.Go.OpenSpec := { _root_.Go.OpenSpec.ofChange s with cond := some uptoSmall }

/-- 'mortmainlaw18.MachineDoes', WHERE WHAT IT READS IS OF BULK AT MOST 1048576: true; the input reads as it did. -/
def machineDoesUptoRow : OpenClaim := { program := "ytfihndcobnkiaaagreat", sum := "c6c73019f296d29d75bd3a1ff963e180fdccaad202e664498d4a7fcccd2f2348", func := "mortmain/mortmainlaw18.MachineDoes", spec := "machineDoes", unfollowed := true, recurses := true, plainKeys := false, apart := false, narrowed := true }
def MachineDoesUptoSaid : Prop := machineDoesUptoRow.holds Tryz.pinned (OpenSpec.upto machineDoesSpec)

/-- 'mortmainlaw18.MachineRuns', WHERE WHAT IT READS IS OF BULK AT MOST 1048576: true; the input reads as it did. -/
def machineRunsUptoRow : OpenClaim := { program := "ytfihndcobnkiaaagreat", sum := "c6c73019f296d29d75bd3a1ff963e180fdccaad202e664498d4a7fcccd2f2348", func := "mortmain/mortmainlaw18.MachineRuns", spec := "machineRuns", unfollowed := true, recurses := true, plainKeys := false, apart := false, narrowed := true }
def MachineRunsUptoSaid : Prop := machineRunsUptoRow.holds Tryz.pinned (OpenSpec.upto machineRunsSpec)

/-- 'mortmainlaw18.MachineStays', WHERE WHAT IT READS IS OF BULK AT MOST 1048576: true; the input reads as it did. -/
def machineStaysUptoRow : OpenClaim := { program := "ytfihndcobnkiaaagreat", sum := "c6c73019f296d29d75bd3a1ff963e180fdccaad202e664498d4a7fcccd2f2348", func := "mortmain/mortmainlaw18.MachineStays", spec := "machineStays", unfollowed := true, recurses := true, plainKeys := false, apart := false, narrowed := true }
def MachineStaysUptoSaid : Prop := machineStaysUptoRow.holds Tryz.pinned (OpenSpec.upto machineStaysSpec)

/-- 'mortmainlaw18.MachineKeeps', WHERE WHAT IT READS IS OF BULK AT MOST 1048576: true; the input reads as it did. -/
def machineKeepsUptoRow : OpenClaim := { program := "ytfihndcobnkiaaagreat", sum := "c6c73019f296d29d75bd3a1ff963e180fdccaad202e664498d4a7fcccd2f2348", func := "mortmain/mortmainlaw18.MachineKeeps", spec := "machineKeeps", unfollowed := true, recurses := true, plainKeys := false, apart := false, narrowed := true }
def MachineKeepsUptoSaid : Prop := machineKeepsUptoRow.holds Tryz.pinned (OpenSpec.upto machineKeepsSpec)

/-- 'mortmainlaw18.MachineLoads', WHERE WHAT IT READS IS OF BULK AT MOST 1048576: true; the input reads as it did. -/
def machineLoadsUptoRow : OpenClaim := { program := "ytfihndcobnkiaaagreat", sum := "c6c73019f296d29d75bd3a1ff963e180fdccaad202e664498d4a7fcccd2f2348", func := "mortmain/mortmainlaw18.MachineLoads", spec := "machineLoads", unfollowed := true, recurses := true, plainKeys := false, apart := false, narrowed := true }
def MachineLoadsUptoSaid : Prop := machineLoadsUptoRow.holds Tryz.pinned (OpenSpec.upto machineLoadsSpec)

/-- 'mortmainlaw18.MachineSame', WHERE WHAT IT READS IS OF BULK AT MOST 1048576: true; the input reads as it did. -/
def machineSameUptoRow : OpenClaim := { program := "ytfihndcobnkiaaagreat", sum := "c6c73019f296d29d75bd3a1ff963e180fdccaad202e664498d4a7fcccd2f2348", func := "mortmain/mortmainlaw18.MachineSame", spec := "machineSame", unfollowed := true, recurses := true, plainKeys := false, apart := false, narrowed := true }
def MachineSameUptoSaid : Prop := machineSameUptoRow.holds Tryz.pinned (OpenSpec.upto machineSameSpec)

/-- 'mortmainlaw18.MachineStores', WHERE WHAT IT READS IS OF BULK AT MOST 1048576: true; the input reads as it did. -/
def machineStoresUptoRow : OpenClaim := { program := "ytfihndcobnkiaaagreat", sum := "c6c73019f296d29d75bd3a1ff963e180fdccaad202e664498d4a7fcccd2f2348", func := "mortmain/mortmainlaw18.MachineStores", spec := "machineStores", unfollowed := true, recurses := true, plainKeys := false, apart := false, narrowed := true }
def MachineStoresUptoSaid : Prop := machineStoresUptoRow.holds Tryz.pinned (OpenSpec.upto machineStoresSpec)

end Rows
end Go.Proofs.YtfihndcobnkiaaaGreat
