/-
  No cell of these rows narrows 'for every input' (looked for: loops, veiled, ifaces, maps, wideKeys, modest, calm, conditions, laid).
  DERIVED. THE GIVEN ROWS OF THIS SEAT. 7 by the template 'for every input the law returns true; each argument reads behind the call as it read before'; 0 by the template 'total and deterministic' (their statements: YtjlokngooekbcaaGreatTotals.lean).
  GIVEN WITH THE SEED: the statements are not yours to turn. If you find one false, say at which input.
  Laid BY PROGRAM, IN A SANDBOX (cutbox-rows.mjs): the forced cells as the released guide's own fill.sh prints them over the translation 2a28a4abe2a31a74… (all of the seat's roots in one cut). By AI agents, Wed Nov 11 2026. No macro, syntax, notation, axiom, sorry.
-/
import Derived.Test.YtjlokngooekbcaaGreatChecked
import GoSem.Claim
import GoSem.ClaimJoined
import GoSem.ClaimMapViews
import Derived.JoinedTies
import Derived.KernelRfl
namespace Go.Proofs.YtjlokngooekbcaaGreat
/- THE CELL 'sum', in the pinned program and in every row, IS THE sha256 OF THE DUMP (.gsa) THAT YtjlokngooekbcaaGreatProg.lean LOADS. Nothing in Lean hashes anything: it is a label: what it is worth is what the hold of that sum in a sandbox is worth. -/
noncomputable def Tryz.pinned : Pinned := { name := "ytjlokngooekbcaagreat", sum := "2a28a4abe2a31a74aa4306c6137c1962121544bd60a966187e85eca5054d4a42", checked := Tryz.checked }
namespace Rows
def none {H : Type} : Left H := { results := [], args := [] }

/-- 'mortmainlaw21.EngineNew': WHATEVER THE INPUT: true; the input reads as it did. -/
def engineNewSpec : ChangeSpec := { name := "engineNew", fn := fun _ => fun
  | [d1, d2, d3, d4] => { results := [.lit (.bool true)], args := [d1, d2, d3, d4] }
  | _ => none }
def engineNewRow : OpenClaim := { program := "ytjlokngooekbcaagreat", sum := "2a28a4abe2a31a74aa4306c6137c1962121544bd60a966187e85eca5054d4a42", func := "mortmain/mortmainlaw21.EngineNew", spec := "engineNew", unfollowed := true, recurses := true, apart := false }
def EngineNewSaid : Prop := engineNewRow.holds Tryz.pinned (OpenSpec.ofChange engineNewSpec)

/-- ITS FALSE NEIGHBOUR: 'it returns false'. Refute it at one input. -/
def engineNewWrong : ChangeSpec := { name := "engineNew", fn := fun _ => fun
  | [d1, d2, d3, d4] => { results := [.lit (.bool false)], args := [d1, d2, d3, d4] }
  | _ => none }
def EngineNewWrongFalsely : Prop := engineNewRow.holds Tryz.pinned (OpenSpec.ofChange engineNewWrong)

/-- 'mortmainlaw21.EngineDoes': WHATEVER THE INPUT: true; the input reads as it did. -/
def engineDoesSpec : ChangeSpec := { name := "engineDoes", fn := fun _ => fun
  | [d1, d2, d3] => { results := [.lit (.bool true)], args := [d1, d2, d3] }
  | _ => none }
def engineDoesRow : OpenClaim := { program := "ytjlokngooekbcaagreat", sum := "2a28a4abe2a31a74aa4306c6137c1962121544bd60a966187e85eca5054d4a42", func := "mortmain/mortmainlaw21.EngineDoes", spec := "engineDoes", unfollowed := true, recurses := true, apart := false }
def EngineDoesSaid : Prop := engineDoesRow.holds Tryz.pinned (OpenSpec.ofChange engineDoesSpec)

/-- ITS FALSE NEIGHBOUR: 'it returns false'. Refute it at one input. -/
def engineDoesWrong : ChangeSpec := { name := "engineDoes", fn := fun _ => fun
  | [d1, d2, d3] => { results := [.lit (.bool false)], args := [d1, d2, d3] }
  | _ => none }
def EngineDoesWrongFalsely : Prop := engineDoesRow.holds Tryz.pinned (OpenSpec.ofChange engineDoesWrong)

/-- 'mortmainlaw21.EngineRuns': WHATEVER THE INPUT: true; the input reads as it did. -/
def engineRunsSpec : ChangeSpec := { name := "engineRuns", fn := fun _ => fun
  | [d1, d2, d3, d4, d5] => { results := [.lit (.bool true)], args := [d1, d2, d3, d4, d5] }
  | _ => none }
def engineRunsRow : OpenClaim := { program := "ytjlokngooekbcaagreat", sum := "2a28a4abe2a31a74aa4306c6137c1962121544bd60a966187e85eca5054d4a42", func := "mortmain/mortmainlaw21.EngineRuns", spec := "engineRuns", unfollowed := true, recurses := true, apart := false }
def EngineRunsSaid : Prop := engineRunsRow.holds Tryz.pinned (OpenSpec.ofChange engineRunsSpec)

/-- ITS FALSE NEIGHBOUR: 'it returns false'. Refute it at one input. -/
def engineRunsWrong : ChangeSpec := { name := "engineRuns", fn := fun _ => fun
  | [d1, d2, d3, d4, d5] => { results := [.lit (.bool false)], args := [d1, d2, d3, d4, d5] }
  | _ => none }
def EngineRunsWrongFalsely : Prop := engineRunsRow.holds Tryz.pinned (OpenSpec.ofChange engineRunsWrong)

/-- 'mortmainlaw21.EngineTallies': WHATEVER THE INPUT: true; the input reads as it did. -/
def engineTalliesSpec : ChangeSpec := { name := "engineTallies", fn := fun _ => fun
  | [d1, d2, d3, d4] => { results := [.lit (.bool true)], args := [d1, d2, d3, d4] }
  | _ => none }
def engineTalliesRow : OpenClaim := { program := "ytjlokngooekbcaagreat", sum := "2a28a4abe2a31a74aa4306c6137c1962121544bd60a966187e85eca5054d4a42", func := "mortmain/mortmainlaw21.EngineTallies", spec := "engineTallies", unfollowed := true, recurses := true, apart := false }
def EngineTalliesSaid : Prop := engineTalliesRow.holds Tryz.pinned (OpenSpec.ofChange engineTalliesSpec)

/-- ITS FALSE NEIGHBOUR: 'it returns false'. Refute it at one input. -/
def engineTalliesWrong : ChangeSpec := { name := "engineTallies", fn := fun _ => fun
  | [d1, d2, d3, d4] => { results := [.lit (.bool false)], args := [d1, d2, d3, d4] }
  | _ => none }
def EngineTalliesWrongFalsely : Prop := engineTalliesRow.holds Tryz.pinned (OpenSpec.ofChange engineTalliesWrong)

/-- 'mortmainlaw21.EngineQuiet': WHATEVER THE INPUT: true; the input reads as it did. -/
def engineQuietSpec : ChangeSpec := { name := "engineQuiet", fn := fun _ => fun
  | [d1, d2, d3, d4] => { results := [.lit (.bool true)], args := [d1, d2, d3, d4] }
  | _ => none }
def engineQuietRow : OpenClaim := { program := "ytjlokngooekbcaagreat", sum := "2a28a4abe2a31a74aa4306c6137c1962121544bd60a966187e85eca5054d4a42", func := "mortmain/mortmainlaw21.EngineQuiet", spec := "engineQuiet", unfollowed := true, recurses := true, apart := false }
def EngineQuietSaid : Prop := engineQuietRow.holds Tryz.pinned (OpenSpec.ofChange engineQuietSpec)

/-- ITS FALSE NEIGHBOUR: 'it returns false'. Refute it at one input. -/
def engineQuietWrong : ChangeSpec := { name := "engineQuiet", fn := fun _ => fun
  | [d1, d2, d3, d4] => { results := [.lit (.bool false)], args := [d1, d2, d3, d4] }
  | _ => none }
def EngineQuietWrongFalsely : Prop := engineQuietRow.holds Tryz.pinned (OpenSpec.ofChange engineQuietWrong)

/-- 'mortmainlaw21.EngineWrong': WHATEVER THE INPUT: true; the input reads as it did. -/
def engineWrongSpec : ChangeSpec := { name := "engineWrong", fn := fun _ => fun
  | [d1, d2, d3, d4, d5] => { results := [.lit (.bool true)], args := [d1, d2, d3, d4, d5] }
  | _ => none }
def engineWrongRow : OpenClaim := { program := "ytjlokngooekbcaagreat", sum := "2a28a4abe2a31a74aa4306c6137c1962121544bd60a966187e85eca5054d4a42", func := "mortmain/mortmainlaw21.EngineWrong", spec := "engineWrong", unfollowed := true, recurses := true, apart := false }
def EngineWrongSaid : Prop := engineWrongRow.holds Tryz.pinned (OpenSpec.ofChange engineWrongSpec)

/-- ITS FALSE NEIGHBOUR: 'it returns false'. Refute it at one input. -/
def engineWrongWrong : ChangeSpec := { name := "engineWrong", fn := fun _ => fun
  | [d1, d2, d3, d4, d5] => { results := [.lit (.bool false)], args := [d1, d2, d3, d4, d5] }
  | _ => none }
def EngineWrongWrongFalsely : Prop := engineWrongRow.holds Tryz.pinned (OpenSpec.ofChange engineWrongWrong)

/-- 'mortmainlaw21.EngineParts': WHATEVER THE INPUT: true; the input reads as it did. -/
def enginePartsSpec : ChangeSpec := { name := "engineParts", fn := fun _ => fun
  | [d1, d2, d3, d4, d5] => { results := [.lit (.bool true)], args := [d1, d2, d3, d4, d5] }
  | _ => none }
def enginePartsRow : OpenClaim := { program := "ytjlokngooekbcaagreat", sum := "2a28a4abe2a31a74aa4306c6137c1962121544bd60a966187e85eca5054d4a42", func := "mortmain/mortmainlaw21.EngineParts", spec := "engineParts", unfollowed := true, recurses := true, apart := false }
def EnginePartsSaid : Prop := enginePartsRow.holds Tryz.pinned (OpenSpec.ofChange enginePartsSpec)

/-- ITS FALSE NEIGHBOUR: 'it returns false'. Refute it at one input. -/
def enginePartsWrong : ChangeSpec := { name := "engineParts", fn := fun _ => fun
  | [d1, d2, d3, d4, d5] => { results := [.lit (.bool false)], args := [d1, d2, d3, d4, d5] }
  | _ => none }
def EnginePartsWrongFalsely : Prop := enginePartsRow.holds Tryz.pinned (OpenSpec.ofChange enginePartsWrong)

/- THE SECOND FORM. 'bulk': how many values and letters a reading holds, each counted each time it is reached (what is shared counts as often as it is met; a slice's spare places count too). A statement '..UptoSaid' is the law's where the arguments, and the package variables that the reading takes, are together of bulk at most 1048576: NARROWER than '..Said'. Prove '..Said' where nothing that the law and all that it calls make is longer than what came in: it says more and counts as full. Else prove '..UptoSaid'. A law counts once. -/
mutual
def uptoBulk {H : Type} : DataW H → Nat
  | .lit (.string bytes) => bytes.length + 1
  | .lit _ => 1
  | .nil => 1
  | .ptr d => uptoBulk d + 1
  | .slice elems spare => uptoBulkAll elems + uptoBulkAll spare + 1
  | .agg parts => uptoBulkAll parts + 1
  | .iface _ d => uptoBulk d + 1
  | .map entries => uptoBulkEntries entries + 1
  | .held _ => 1
def uptoBulkAll {H : Type} : List (DataW H) → Nat
  | [] => 0
  | d :: r => uptoBulk d + uptoBulkAll r
def uptoBulkEntries {H : Type} : List (Lit × DataW H) → Nat
  | [] => 0
  | x :: r => uptoBulkEntry x + uptoBulkEntries r
def uptoBulkEntry {H : Type} : Lit × DataW H → Nat
  | (.string bytes, d) => bytes.length + uptoBulk d + 1
  | (_, d) => uptoBulk d + 1
 end
def uptoSmall : (H : Type) → List (DataW H) → Bool := fun _ ds => decide (uptoBulkAll ds ≤ 1048576)
def OpenSpec.upto (s : _root_.Go.ChangeSpec) : _root_.Go.OpenSpec := { _root_.Go.OpenSpec.ofChange s with cond := some uptoSmall }

/-- 'mortmainlaw21.EngineNew', WHERE WHAT IT READS IS OF BULK AT MOST 1048576: true; the input reads as it did. -/
def engineNewUptoRow : OpenClaim := { program := "ytjlokngooekbcaagreat", sum := "2a28a4abe2a31a74aa4306c6137c1962121544bd60a966187e85eca5054d4a42", func := "mortmain/mortmainlaw21.EngineNew", spec := "engineNew", unfollowed := true, recurses := true, apart := false, narrowed := true }
def EngineNewUptoSaid : Prop := engineNewUptoRow.holds Tryz.pinned (OpenSpec.upto engineNewSpec)

/-- 'mortmainlaw21.EngineDoes', WHERE WHAT IT READS IS OF BULK AT MOST 1048576: true; the input reads as it did. -/
def engineDoesUptoRow : OpenClaim := { program := "ytjlokngooekbcaagreat", sum := "2a28a4abe2a31a74aa4306c6137c1962121544bd60a966187e85eca5054d4a42", func := "mortmain/mortmainlaw21.EngineDoes", spec := "engineDoes", unfollowed := true, recurses := true, apart := false, narrowed := true }
def EngineDoesUptoSaid : Prop := engineDoesUptoRow.holds Tryz.pinned (OpenSpec.upto engineDoesSpec)

/-- 'mortmainlaw21.EngineRuns', WHERE WHAT IT READS IS OF BULK AT MOST 1048576: true; the input reads as it did. -/
def engineRunsUptoRow : OpenClaim := { program := "ytjlokngooekbcaagreat", sum := "2a28a4abe2a31a74aa4306c6137c1962121544bd60a966187e85eca5054d4a42", func := "mortmain/mortmainlaw21.EngineRuns", spec := "engineRuns", unfollowed := true, recurses := true, apart := false, narrowed := true }
def EngineRunsUptoSaid : Prop := engineRunsUptoRow.holds Tryz.pinned (OpenSpec.upto engineRunsSpec)

/-- 'mortmainlaw21.EngineTallies', WHERE WHAT IT READS IS OF BULK AT MOST 1048576: true; the input reads as it did. -/
def engineTalliesUptoRow : OpenClaim := { program := "ytjlokngooekbcaagreat", sum := "2a28a4abe2a31a74aa4306c6137c1962121544bd60a966187e85eca5054d4a42", func := "mortmain/mortmainlaw21.EngineTallies", spec := "engineTallies", unfollowed := true, recurses := true, apart := false, narrowed := true }
def EngineTalliesUptoSaid : Prop := engineTalliesUptoRow.holds Tryz.pinned (OpenSpec.upto engineTalliesSpec)

/-- 'mortmainlaw21.EngineQuiet', WHERE WHAT IT READS IS OF BULK AT MOST 1048576: true; the input reads as it did. -/
def engineQuietUptoRow : OpenClaim := { program := "ytjlokngooekbcaagreat", sum := "2a28a4abe2a31a74aa4306c6137c1962121544bd60a966187e85eca5054d4a42", func := "mortmain/mortmainlaw21.EngineQuiet", spec := "engineQuiet", unfollowed := true, recurses := true, apart := false, narrowed := true }
def EngineQuietUptoSaid : Prop := engineQuietUptoRow.holds Tryz.pinned (OpenSpec.upto engineQuietSpec)

/-- 'mortmainlaw21.EngineWrong', WHERE WHAT IT READS IS OF BULK AT MOST 1048576: true; the input reads as it did. -/
def engineWrongUptoRow : OpenClaim := { program := "ytjlokngooekbcaagreat", sum := "2a28a4abe2a31a74aa4306c6137c1962121544bd60a966187e85eca5054d4a42", func := "mortmain/mortmainlaw21.EngineWrong", spec := "engineWrong", unfollowed := true, recurses := true, apart := false, narrowed := true }
def EngineWrongUptoSaid : Prop := engineWrongUptoRow.holds Tryz.pinned (OpenSpec.upto engineWrongSpec)

/-- 'mortmainlaw21.EngineParts', WHERE WHAT IT READS IS OF BULK AT MOST 1048576: true; the input reads as it did. -/
def enginePartsUptoRow : OpenClaim := { program := "ytjlokngooekbcaagreat", sum := "2a28a4abe2a31a74aa4306c6137c1962121544bd60a966187e85eca5054d4a42", func := "mortmain/mortmainlaw21.EngineParts", spec := "engineParts", unfollowed := true, recurses := true, apart := false, narrowed := true }
def EnginePartsUptoSaid : Prop := enginePartsUptoRow.holds Tryz.pinned (OpenSpec.upto enginePartsSpec)

end Rows
end Go.Proofs.YtjlokngooekbcaaGreat
