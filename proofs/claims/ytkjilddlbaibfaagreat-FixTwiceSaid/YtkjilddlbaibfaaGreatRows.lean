/-
  No cell of these rows narrows 'for every input' (looked for: loops, veiled, ifaces, maps, wideKeys, modest, calm, conditions, laid).
  DERIVED. THE GIVEN ROWS OF THIS SEAT. 10 by the template 'for every input the law returns true; each argument reads behind the call as it read before'; 0 by the template 'total and deterministic' (their statements: YtkjilddlbaibfaaGreatTotals.lean).
  GIVEN WITH THE SEED: the statements are not yours to turn. If you find one false, say at which input.
  Laid BY PROGRAM, IN A SANDBOX (cutbox-rows.mjs): the forced cells as the released guide's own fill.sh prints them over the translation a307263ad1bd1f64… (all of the seat's roots in one cut). By AI agents, Wed Nov 11 2026. No macro, syntax, notation, axiom, sorry.
-/
import Derived.Test.YtkjilddlbaibfaaGreatChecked
import GoSem.Claim
import GoSem.ClaimJoined
import GoSem.ClaimMapViews
import Derived.JoinedTies
import Derived.KernelRfl
namespace Go.Proofs.YtkjilddlbaibfaaGreat
/- THE CELL 'sum', in the pinned program and in every row, IS THE sha256 OF THE DUMP (.gsa) THAT YtkjilddlbaibfaaGreatProg.lean LOADS. Nothing in Lean hashes anything: it is a label: what it is worth is what the hold of that sum in a sandbox is worth. -/
noncomputable def Tryz.pinned : Pinned := { name := "ytkjilddlbaibfaagreat", sum := "a307263ad1bd1f6460d7cce7cc3d7775578b7db2f2f5e7b09ab0ac6762e280c1", checked := Tryz.checked }
namespace Rows
def none {H : Type} : Left H := { results := [], args := [] }

/-- 'mortmainlaw12.FixTells': WHATEVER THE INPUT: true; the input reads as it did. -/
def fixTellsSpec : ChangeSpec := { name := "fixTells", fn := fun _ => fun
  | [d1, d2, d3] => { results := [.lit (.bool true)], args := [d1, d2, d3] }
  | _ => none }
def fixTellsRow : OpenClaim := { program := "ytkjilddlbaibfaagreat", sum := "a307263ad1bd1f6460d7cce7cc3d7775578b7db2f2f5e7b09ab0ac6762e280c1", func := "mortmain/mortmainlaw12.FixTells", spec := "fixTells", unfollowed := true, recurses := true, apart := false }
def FixTellsSaid : Prop := fixTellsRow.holds Tryz.pinned (OpenSpec.ofChange fixTellsSpec)

/-- ITS FALSE NEIGHBOUR: 'it returns false'. Refute it at one input. -/
def fixTellsWrong : ChangeSpec := { name := "fixTells", fn := fun _ => fun
  | [d1, d2, d3] => { results := [.lit (.bool false)], args := [d1, d2, d3] }
  | _ => none }
def FixTellsWrongFalsely : Prop := fixTellsRow.holds Tryz.pinned (OpenSpec.ofChange fixTellsWrong)

/-- 'mortmainlaw12.FixLeast': WHATEVER THE INPUT: true; the input reads as it did. -/
def fixLeastSpec : ChangeSpec := { name := "fixLeast", fn := fun _ => fun
  | [d1, d2, d3, d4] => { results := [.lit (.bool true)], args := [d1, d2, d3, d4] }
  | _ => none }
def fixLeastRow : OpenClaim := { program := "ytkjilddlbaibfaagreat", sum := "a307263ad1bd1f6460d7cce7cc3d7775578b7db2f2f5e7b09ab0ac6762e280c1", func := "mortmain/mortmainlaw12.FixLeast", spec := "fixLeast", unfollowed := true, recurses := true, apart := false }
def FixLeastSaid : Prop := fixLeastRow.holds Tryz.pinned (OpenSpec.ofChange fixLeastSpec)

/-- ITS FALSE NEIGHBOUR: 'it returns false'. Refute it at one input. -/
def fixLeastWrong : ChangeSpec := { name := "fixLeast", fn := fun _ => fun
  | [d1, d2, d3, d4] => { results := [.lit (.bool false)], args := [d1, d2, d3, d4] }
  | _ => none }
def FixLeastWrongFalsely : Prop := fixLeastRow.holds Tryz.pinned (OpenSpec.ofChange fixLeastWrong)

/-- 'mortmainlaw12.FixPlain': WHATEVER THE INPUT: true; the input reads as it did. -/
def fixPlainSpec : ChangeSpec := { name := "fixPlain", fn := fun _ => fun
  | [d1, d2, d3] => { results := [.lit (.bool true)], args := [d1, d2, d3] }
  | _ => none }
def fixPlainRow : OpenClaim := { program := "ytkjilddlbaibfaagreat", sum := "a307263ad1bd1f6460d7cce7cc3d7775578b7db2f2f5e7b09ab0ac6762e280c1", func := "mortmain/mortmainlaw12.FixPlain", spec := "fixPlain", unfollowed := true, recurses := true, apart := false }
def FixPlainSaid : Prop := fixPlainRow.holds Tryz.pinned (OpenSpec.ofChange fixPlainSpec)

/-- ITS FALSE NEIGHBOUR: 'it returns false'. Refute it at one input. -/
def fixPlainWrong : ChangeSpec := { name := "fixPlain", fn := fun _ => fun
  | [d1, d2, d3] => { results := [.lit (.bool false)], args := [d1, d2, d3] }
  | _ => none }
def FixPlainWrongFalsely : Prop := fixPlainRow.holds Tryz.pinned (OpenSpec.ofChange fixPlainWrong)

/-- 'mortmainlaw12.FixMore': WHATEVER THE INPUT: true; the input reads as it did. -/
def fixMoreSpec : ChangeSpec := { name := "fixMore", fn := fun _ => fun
  | [d1, d2, d3, d4, d5, d6] => { results := [.lit (.bool true)], args := [d1, d2, d3, d4, d5, d6] }
  | _ => none }
def fixMoreRow : OpenClaim := { program := "ytkjilddlbaibfaagreat", sum := "a307263ad1bd1f6460d7cce7cc3d7775578b7db2f2f5e7b09ab0ac6762e280c1", func := "mortmain/mortmainlaw12.FixMore", spec := "fixMore", unfollowed := true, recurses := true, apart := false }
def FixMoreSaid : Prop := fixMoreRow.holds Tryz.pinned (OpenSpec.ofChange fixMoreSpec)

/-- ITS FALSE NEIGHBOUR: 'it returns false'. Refute it at one input. -/
def fixMoreWrong : ChangeSpec := { name := "fixMore", fn := fun _ => fun
  | [d1, d2, d3, d4, d5, d6] => { results := [.lit (.bool false)], args := [d1, d2, d3, d4, d5, d6] }
  | _ => none }
def FixMoreWrongFalsely : Prop := fixMoreRow.holds Tryz.pinned (OpenSpec.ofChange fixMoreWrong)

/-- 'mortmainlaw12.FixTwice': WHATEVER THE INPUT: true; the input reads as it did. -/
def fixTwiceSpec : ChangeSpec := { name := "fixTwice", fn := fun _ => fun
  | [d1, d2, d3] => { results := [.lit (.bool true)], args := [d1, d2, d3] }
  | _ => none }
def fixTwiceRow : OpenClaim := { program := "ytkjilddlbaibfaagreat", sum := "a307263ad1bd1f6460d7cce7cc3d7775578b7db2f2f5e7b09ab0ac6762e280c1", func := "mortmain/mortmainlaw12.FixTwice", spec := "fixTwice", unfollowed := true, recurses := true, apart := false }
def FixTwiceSaid : Prop := fixTwiceRow.holds Tryz.pinned (OpenSpec.ofChange fixTwiceSpec)

/-- ITS FALSE NEIGHBOUR: 'it returns false'. Refute it at one input. -/
def fixTwiceWrong : ChangeSpec := { name := "fixTwice", fn := fun _ => fun
  | [d1, d2, d3] => { results := [.lit (.bool false)], args := [d1, d2, d3] }
  | _ => none }
def FixTwiceWrongFalsely : Prop := fixTwiceRow.holds Tryz.pinned (OpenSpec.ofChange fixTwiceWrong)

/-- 'mortmainlaw13.TrialTells': WHATEVER THE INPUT: true; the input reads as it did. -/
def trialTellsSpec : ChangeSpec := { name := "trialTells", fn := fun _ => fun
  | [d1, d2, d3, d4] => { results := [.lit (.bool true)], args := [d1, d2, d3, d4] }
  | _ => none }
def trialTellsRow : OpenClaim := { program := "ytkjilddlbaibfaagreat", sum := "a307263ad1bd1f6460d7cce7cc3d7775578b7db2f2f5e7b09ab0ac6762e280c1", func := "mortmain/mortmainlaw13.TrialTells", spec := "trialTells", unfollowed := true, recurses := true, apart := false }
def TrialTellsSaid : Prop := trialTellsRow.holds Tryz.pinned (OpenSpec.ofChange trialTellsSpec)

/-- ITS FALSE NEIGHBOUR: 'it returns false'. Refute it at one input. -/
def trialTellsWrong : ChangeSpec := { name := "trialTells", fn := fun _ => fun
  | [d1, d2, d3, d4] => { results := [.lit (.bool false)], args := [d1, d2, d3, d4] }
  | _ => none }
def TrialTellsWrongFalsely : Prop := trialTellsRow.holds Tryz.pinned (OpenSpec.ofChange trialTellsWrong)

/-- 'mortmainlaw13.TrialOuter': WHATEVER THE INPUT: true; the input reads as it did. -/
def trialOuterSpec : ChangeSpec := { name := "trialOuter", fn := fun _ => fun
  | [d1, d2, d3] => { results := [.lit (.bool true)], args := [d1, d2, d3] }
  | _ => none }
def trialOuterRow : OpenClaim := { program := "ytkjilddlbaibfaagreat", sum := "a307263ad1bd1f6460d7cce7cc3d7775578b7db2f2f5e7b09ab0ac6762e280c1", func := "mortmain/mortmainlaw13.TrialOuter", spec := "trialOuter", unfollowed := true, recurses := true, apart := false }
def TrialOuterSaid : Prop := trialOuterRow.holds Tryz.pinned (OpenSpec.ofChange trialOuterSpec)

/-- ITS FALSE NEIGHBOUR: 'it returns false'. Refute it at one input. -/
def trialOuterWrong : ChangeSpec := { name := "trialOuter", fn := fun _ => fun
  | [d1, d2, d3] => { results := [.lit (.bool false)], args := [d1, d2, d3] }
  | _ => none }
def TrialOuterWrongFalsely : Prop := trialOuterRow.holds Tryz.pinned (OpenSpec.ofChange trialOuterWrong)

/-- 'mortmainlaw13.TrialKeeps': WHATEVER THE INPUT: true; the input reads as it did. -/
def trialKeepsSpec : ChangeSpec := { name := "trialKeeps", fn := fun _ => fun
  | [d1, d2, d3] => { results := [.lit (.bool true)], args := [d1, d2, d3] }
  | _ => none }
def trialKeepsRow : OpenClaim := { program := "ytkjilddlbaibfaagreat", sum := "a307263ad1bd1f6460d7cce7cc3d7775578b7db2f2f5e7b09ab0ac6762e280c1", func := "mortmain/mortmainlaw13.TrialKeeps", spec := "trialKeeps", unfollowed := true, recurses := true, apart := false }
def TrialKeepsSaid : Prop := trialKeepsRow.holds Tryz.pinned (OpenSpec.ofChange trialKeepsSpec)

/-- ITS FALSE NEIGHBOUR: 'it returns false'. Refute it at one input. -/
def trialKeepsWrong : ChangeSpec := { name := "trialKeeps", fn := fun _ => fun
  | [d1, d2, d3] => { results := [.lit (.bool false)], args := [d1, d2, d3] }
  | _ => none }
def TrialKeepsWrongFalsely : Prop := trialKeepsRow.holds Tryz.pinned (OpenSpec.ofChange trialKeepsWrong)

/-- 'mortmainlaw13.TrialCounts': WHATEVER THE INPUT: true; the input reads as it did. -/
def trialCountsSpec : ChangeSpec := { name := "trialCounts", fn := fun _ => fun
  | [d1, d2, d3] => { results := [.lit (.bool true)], args := [d1, d2, d3] }
  | _ => none }
def trialCountsRow : OpenClaim := { program := "ytkjilddlbaibfaagreat", sum := "a307263ad1bd1f6460d7cce7cc3d7775578b7db2f2f5e7b09ab0ac6762e280c1", func := "mortmain/mortmainlaw13.TrialCounts", spec := "trialCounts", unfollowed := true, recurses := true, apart := false }
def TrialCountsSaid : Prop := trialCountsRow.holds Tryz.pinned (OpenSpec.ofChange trialCountsSpec)

/-- ITS FALSE NEIGHBOUR: 'it returns false'. Refute it at one input. -/
def trialCountsWrong : ChangeSpec := { name := "trialCounts", fn := fun _ => fun
  | [d1, d2, d3] => { results := [.lit (.bool false)], args := [d1, d2, d3] }
  | _ => none }
def TrialCountsWrongFalsely : Prop := trialCountsRow.holds Tryz.pinned (OpenSpec.ofChange trialCountsWrong)

/-- 'mortmainlaw13.TrialTwice': WHATEVER THE INPUT: true; the input reads as it did. -/
def trialTwiceSpec : ChangeSpec := { name := "trialTwice", fn := fun _ => fun
  | [d1, d2] => { results := [.lit (.bool true)], args := [d1, d2] }
  | _ => none }
def trialTwiceRow : OpenClaim := { program := "ytkjilddlbaibfaagreat", sum := "a307263ad1bd1f6460d7cce7cc3d7775578b7db2f2f5e7b09ab0ac6762e280c1", func := "mortmain/mortmainlaw13.TrialTwice", spec := "trialTwice", unfollowed := true, recurses := true, apart := false }
def TrialTwiceSaid : Prop := trialTwiceRow.holds Tryz.pinned (OpenSpec.ofChange trialTwiceSpec)

/-- ITS FALSE NEIGHBOUR: 'it returns false'. Refute it at one input. -/
def trialTwiceWrong : ChangeSpec := { name := "trialTwice", fn := fun _ => fun
  | [d1, d2] => { results := [.lit (.bool false)], args := [d1, d2] }
  | _ => none }
def TrialTwiceWrongFalsely : Prop := trialTwiceRow.holds Tryz.pinned (OpenSpec.ofChange trialTwiceWrong)

/- THE SECOND FORM. 'bulk': how many values and letters a reading holds, each counted each time it is reached (what is shared counts as often as it is met; a slice's spare places count too). A statement '..UptoSaid' is the law's where the arguments, and the package variables that the reading takes, are together of bulk at most 1048576: NARROWER than '..Said'. Prove '..Said' where nothing that the law and all that it calls make is longer than what came in: it says more and counts as full. Else prove '..UptoSaid'. A law counts once. -/
mutual
def uptoBulk {H : Type} : DataW H → Nat
  | .lit (.string bytes) => bytes.length + 1
  | .lit _ => 1
  | .nil => 1
  | .ptr d => uptoBulk d + 1
  | .slice elems spare => uptoBulkAll elems + uptoBulkAll spare + 1
  | .agg parts => uptoBulkAll parts + 1
  | .iface _ d => uptoBulk d + 1
  | .map entries => uptoBulkEntries entries + 1
  | .held _ => 1
def uptoBulkAll {H : Type} : List (DataW H) → Nat
  | [] => 0
  | d :: r => uptoBulk d + uptoBulkAll r
def uptoBulkEntries {H : Type} : List (Lit × DataW H) → Nat
  | [] => 0
  | x :: r => uptoBulkEntry x + uptoBulkEntries r
def uptoBulkEntry {H : Type} : Lit × DataW H → Nat
  | (.string bytes, d) => bytes.length + uptoBulk d + 1
  | (_, d) => uptoBulk d + 1
 end
def uptoSmall : (H : Type) → List (DataW H) → Bool := fun _ ds => decide (uptoBulkAll ds ≤ 1048576)
def OpenSpec.upto (s : _root_.Go.ChangeSpec) : _root_.Go.OpenSpec := { _root_.Go.OpenSpec.ofChange s with cond := some uptoSmall }

/-- 'mortmainlaw12.FixTells', WHERE WHAT IT READS IS OF BULK AT MOST 1048576: true; the input reads as it did. -/
def fixTellsUptoRow : OpenClaim := { program := "ytkjilddlbaibfaagreat", sum := "a307263ad1bd1f6460d7cce7cc3d7775578b7db2f2f5e7b09ab0ac6762e280c1", func := "mortmain/mortmainlaw12.FixTells", spec := "fixTells", unfollowed := true, recurses := true, apart := false, narrowed := true }
def FixTellsUptoSaid : Prop := fixTellsUptoRow.holds Tryz.pinned (OpenSpec.upto fixTellsSpec)

/-- 'mortmainlaw12.FixLeast', WHERE WHAT IT READS IS OF BULK AT MOST 1048576: true; the input reads as it did. -/
def fixLeastUptoRow : OpenClaim := { program := "ytkjilddlbaibfaagreat", sum := "a307263ad1bd1f6460d7cce7cc3d7775578b7db2f2f5e7b09ab0ac6762e280c1", func := "mortmain/mortmainlaw12.FixLeast", spec := "fixLeast", unfollowed := true, recurses := true, apart := false, narrowed := true }
def FixLeastUptoSaid : Prop := fixLeastUptoRow.holds Tryz.pinned (OpenSpec.upto fixLeastSpec)

/-- 'mortmainlaw12.FixPlain', WHERE WHAT IT READS IS OF BULK AT MOST 1048576: true; the input reads as it did. -/
def fixPlainUptoRow : OpenClaim := { program := "ytkjilddlbaibfaagreat", sum := "a307263ad1bd1f6460d7cce7cc3d7775578b7db2f2f5e7b09ab0ac6762e280c1", func := "mortmain/mortmainlaw12.FixPlain", spec := "fixPlain", unfollowed := true, recurses := true, apart := false, narrowed := true }
def FixPlainUptoSaid : Prop := fixPlainUptoRow.holds Tryz.pinned (OpenSpec.upto fixPlainSpec)

/-- 'mortmainlaw12.FixMore', WHERE WHAT IT READS IS OF BULK AT MOST 1048576: true; the input reads as it did. -/
def fixMoreUptoRow : OpenClaim := { program := "ytkjilddlbaibfaagreat", sum := "a307263ad1bd1f6460d7cce7cc3d7775578b7db2f2f5e7b09ab0ac6762e280c1", func := "mortmain/mortmainlaw12.FixMore", spec := "fixMore", unfollowed := true, recurses := true, apart := false, narrowed := true }
def FixMoreUptoSaid : Prop := fixMoreUptoRow.holds Tryz.pinned (OpenSpec.upto fixMoreSpec)

/-- 'mortmainlaw12.FixTwice', WHERE WHAT IT READS IS OF BULK AT MOST 1048576: true; the input reads as it did. -/
def fixTwiceUptoRow : OpenClaim := { program := "ytkjilddlbaibfaagreat", sum := "a307263ad1bd1f6460d7cce7cc3d7775578b7db2f2f5e7b09ab0ac6762e280c1", func := "mortmain/mortmainlaw12.FixTwice", spec := "fixTwice", unfollowed := true, recurses := true, apart := false, narrowed := true }
def FixTwiceUptoSaid : Prop := fixTwiceUptoRow.holds Tryz.pinned (OpenSpec.upto fixTwiceSpec)

/-- 'mortmainlaw13.TrialTells', WHERE WHAT IT READS IS OF BULK AT MOST 1048576: true; the input reads as it did. -/
def trialTellsUptoRow : OpenClaim := { program := "ytkjilddlbaibfaagreat", sum := "a307263ad1bd1f6460d7cce7cc3d7775578b7db2f2f5e7b09ab0ac6762e280c1", func := "mortmain/mortmainlaw13.TrialTells", spec := "trialTells", unfollowed := true, recurses := true, apart := false, narrowed := true }
def TrialTellsUptoSaid : Prop := trialTellsUptoRow.holds Tryz.pinned (OpenSpec.upto trialTellsSpec)

/-- 'mortmainlaw13.TrialOuter', WHERE WHAT IT READS IS OF BULK AT MOST 1048576: true; the input reads as it did. -/
def trialOuterUptoRow : OpenClaim := { program := "ytkjilddlbaibfaagreat", sum := "a307263ad1bd1f6460d7cce7cc3d7775578b7db2f2f5e7b09ab0ac6762e280c1", func := "mortmain/mortmainlaw13.TrialOuter", spec := "trialOuter", unfollowed := true, recurses := true, apart := false, narrowed := true }
def TrialOuterUptoSaid : Prop := trialOuterUptoRow.holds Tryz.pinned (OpenSpec.upto trialOuterSpec)

/-- 'mortmainlaw13.TrialKeeps', WHERE WHAT IT READS IS OF BULK AT MOST 1048576: true; the input reads as it did. -/
def trialKeepsUptoRow : OpenClaim := { program := "ytkjilddlbaibfaagreat", sum := "a307263ad1bd1f6460d7cce7cc3d7775578b7db2f2f5e7b09ab0ac6762e280c1", func := "mortmain/mortmainlaw13.TrialKeeps", spec := "trialKeeps", unfollowed := true, recurses := true, apart := false, narrowed := true }
def TrialKeepsUptoSaid : Prop := trialKeepsUptoRow.holds Tryz.pinned (OpenSpec.upto trialKeepsSpec)

/-- 'mortmainlaw13.TrialCounts', WHERE WHAT IT READS IS OF BULK AT MOST 1048576: true; the input reads as it did. -/
def trialCountsUptoRow : OpenClaim := { program := "ytkjilddlbaibfaagreat", sum := "a307263ad1bd1f6460d7cce7cc3d7775578b7db2f2f5e7b09ab0ac6762e280c1", func := "mortmain/mortmainlaw13.TrialCounts", spec := "trialCounts", unfollowed := true, recurses := true, apart := false, narrowed := true }
def TrialCountsUptoSaid : Prop := trialCountsUptoRow.holds Tryz.pinned (OpenSpec.upto trialCountsSpec)

/-- 'mortmainlaw13.TrialTwice', WHERE WHAT IT READS IS OF BULK AT MOST 1048576: true; the input reads as it did. -/
def trialTwiceUptoRow : OpenClaim := { program := "ytkjilddlbaibfaagreat", sum := "a307263ad1bd1f6460d7cce7cc3d7775578b7db2f2f5e7b09ab0ac6762e280c1", func := "mortmain/mortmainlaw13.TrialTwice", spec := "trialTwice", unfollowed := true, recurses := true, apart := false, narrowed := true }
def TrialTwiceUptoSaid : Prop := trialTwiceUptoRow.holds Tryz.pinned (OpenSpec.upto trialTwiceSpec)

end Rows
end Go.Proofs.YtkjilddlbaibfaaGreat
