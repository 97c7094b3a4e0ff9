/-
  No cell of these rows narrows 'for every input' (looked for: loops, veiled, ifaces, maps, wideKeys, modest, calm, conditions, laid).
  DERIVED. THE GIVEN ROWS OF THIS SEAT. 13 by the template 'for every input the law returns true; each argument reads behind the call as it read before'; 0 by the template 'total and deterministic' (their statements: YtlkcpapbolbjnaaGreatTotals.lean).
  GIVEN WITH THE SEED: the statements are not yours to turn. If you find one false, say at which input.
  Laid BY PROGRAM, IN A SANDBOX (cutbox-rows.mjs): the forced cells as the released guide's own fill.sh prints them over the translation 87c79f83419afdbc… (all of the seat's roots in one cut). By AI agents, Wed Nov 11 2026. No macro, syntax, notation, axiom, sorry.
-/
import Derived.Test.YtlkcpapbolbjnaaGreatChecked
import GoSem.Claim
import GoSem.ClaimJoined
import GoSem.ClaimMapViews
import Derived.JoinedTies
import Derived.KernelRfl
namespace Go.Proofs.YtlkcpapbolbjnaaGreat
/- THE CELL 'sum', in the pinned program and in every row, IS THE sha256 OF THE DUMP (.gsa) THAT YtlkcpapbolbjnaaGreatProg.lean LOADS. Nothing in Lean hashes anything: it is a label: what it is worth is what the hold of that sum in a sandbox is worth. -/
noncomputable def Tryz.pinned : Pinned := { name := "ytlkcpapbolbjnaagreat", sum := "87c79f83419afdbc88df6621710290de52c414dcdf228ab9e4e55a096ee8f55c", checked := Tryz.checked }
namespace Rows
def none {H : Type} : Left H := { results := [], args := [] }

/-- 'mortmainlaw19.CollectDoes': WHATEVER THE INPUT: true; the input reads as it did. -/
def collectDoesSpec : ChangeSpec := { name := "collectDoes", fn := fun _ => fun
  | [d] => { results := [.lit (.bool true)], args := [d] }
  | _ => none }
def collectDoesRow : OpenClaim := { program := "ytlkcpapbolbjnaagreat", sum := "87c79f83419afdbc88df6621710290de52c414dcdf228ab9e4e55a096ee8f55c", func := "mortmain/mortmainlaw19.CollectDoes", spec := "collectDoes", unfollowed := true, recurses := true, plainKeys := false, apart := false }
def CollectDoesSaid : Prop := collectDoesRow.holds Tryz.pinned (OpenSpec.ofChange collectDoesSpec)

/-- ITS FALSE NEIGHBOUR: 'it returns false'. Refute it at one input. -/
def collectDoesWrong : ChangeSpec := { name := "collectDoes", fn := fun _ => fun
  | [d] => { results := [.lit (.bool false)], args := [d] }
  | _ => none }
def CollectDoesWrongFalsely : Prop := collectDoesRow.holds Tryz.pinned (OpenSpec.ofChange collectDoesWrong)

/-- 'mortmainlaw19.CollectStays': WHATEVER THE INPUT: true; the input reads as it did. -/
def collectStaysSpec : ChangeSpec := { name := "collectStays", fn := fun _ => fun
  | [d] => { results := [.lit (.bool true)], args := [d] }
  | _ => none }
def collectStaysRow : OpenClaim := { program := "ytlkcpapbolbjnaagreat", sum := "87c79f83419afdbc88df6621710290de52c414dcdf228ab9e4e55a096ee8f55c", func := "mortmain/mortmainlaw19.CollectStays", spec := "collectStays", unfollowed := true, recurses := true, plainKeys := false, apart := false }
def CollectStaysSaid : Prop := collectStaysRow.holds Tryz.pinned (OpenSpec.ofChange collectStaysSpec)

/-- ITS FALSE NEIGHBOUR: 'it returns false'. Refute it at one input. -/
def collectStaysWrong : ChangeSpec := { name := "collectStays", fn := fun _ => fun
  | [d] => { results := [.lit (.bool false)], args := [d] }
  | _ => none }
def CollectStaysWrongFalsely : Prop := collectStaysRow.holds Tryz.pinned (OpenSpec.ofChange collectStaysWrong)

/-- 'mortmainlaw19.CollectKeeps': WHATEVER THE INPUT: true; the input reads as it did. -/
def collectKeepsSpec : ChangeSpec := { name := "collectKeeps", fn := fun _ => fun
  | [d] => { results := [.lit (.bool true)], args := [d] }
  | _ => none }
def collectKeepsRow : OpenClaim := { program := "ytlkcpapbolbjnaagreat", sum := "87c79f83419afdbc88df6621710290de52c414dcdf228ab9e4e55a096ee8f55c", func := "mortmain/mortmainlaw19.CollectKeeps", spec := "collectKeeps", unfollowed := true, recurses := true, plainKeys := false, apart := false }
def CollectKeepsSaid : Prop := collectKeepsRow.holds Tryz.pinned (OpenSpec.ofChange collectKeepsSpec)

/-- ITS FALSE NEIGHBOUR: 'it returns false'. Refute it at one input. -/
def collectKeepsWrong : ChangeSpec := { name := "collectKeeps", fn := fun _ => fun
  | [d] => { results := [.lit (.bool false)], args := [d] }
  | _ => none }
def CollectKeepsWrongFalsely : Prop := collectKeepsRow.holds Tryz.pinned (OpenSpec.ofChange collectKeepsWrong)

/-- 'mortmainlaw19.CollectWeak': WHATEVER THE INPUT: true; the input reads as it did. -/
def collectWeakSpec : ChangeSpec := { name := "collectWeak", fn := fun _ => fun
  | [d] => { results := [.lit (.bool true)], args := [d] }
  | _ => none }
def collectWeakRow : OpenClaim := { program := "ytlkcpapbolbjnaagreat", sum := "87c79f83419afdbc88df6621710290de52c414dcdf228ab9e4e55a096ee8f55c", func := "mortmain/mortmainlaw19.CollectWeak", spec := "collectWeak", unfollowed := true, recurses := true, plainKeys := false, apart := false }
def CollectWeakSaid : Prop := collectWeakRow.holds Tryz.pinned (OpenSpec.ofChange collectWeakSpec)

/-- ITS FALSE NEIGHBOUR: 'it returns false'. Refute it at one input. -/
def collectWeakWrong : ChangeSpec := { name := "collectWeak", fn := fun _ => fun
  | [d] => { results := [.lit (.bool false)], args := [d] }
  | _ => none }
def CollectWeakWrongFalsely : Prop := collectWeakRow.holds Tryz.pinned (OpenSpec.ofChange collectWeakWrong)

/-- 'mortmainlaw19.CollectRing': WHATEVER THE INPUT: true; the input reads as it did. -/
def collectRingSpec : ChangeSpec := { name := "collectRing", fn := fun _ => fun
  | [d1, d2] => { results := [.lit (.bool true)], args := [d1, d2] }
  | _ => none }
def collectRingRow : OpenClaim := { program := "ytlkcpapbolbjnaagreat", sum := "87c79f83419afdbc88df6621710290de52c414dcdf228ab9e4e55a096ee8f55c", func := "mortmain/mortmainlaw19.CollectRing", spec := "collectRing", unfollowed := true, recurses := true, plainKeys := false, apart := false }
def CollectRingSaid : Prop := collectRingRow.holds Tryz.pinned (OpenSpec.ofChange collectRingSpec)

/-- ITS FALSE NEIGHBOUR: 'it returns false'. Refute it at one input. -/
def collectRingWrong : ChangeSpec := { name := "collectRing", fn := fun _ => fun
  | [d1, d2] => { results := [.lit (.bool false)], args := [d1, d2] }
  | _ => none }
def CollectRingWrongFalsely : Prop := collectRingRow.holds Tryz.pinned (OpenSpec.ofChange collectRingWrong)

/-- 'mortmainlaw19.CollectSaves': WHATEVER THE INPUT: true; the input reads as it did. -/
def collectSavesSpec : ChangeSpec := { name := "collectSaves", fn := fun _ => fun
  | [d] => { results := [.lit (.bool true)], args := [d] }
  | _ => none }
def collectSavesRow : OpenClaim := { program := "ytlkcpapbolbjnaagreat", sum := "87c79f83419afdbc88df6621710290de52c414dcdf228ab9e4e55a096ee8f55c", func := "mortmain/mortmainlaw19.CollectSaves", spec := "collectSaves", unfollowed := true, recurses := true, plainKeys := false, apart := false }
def CollectSavesSaid : Prop := collectSavesRow.holds Tryz.pinned (OpenSpec.ofChange collectSavesSpec)

/-- ITS FALSE NEIGHBOUR: 'it returns false'. Refute it at one input. -/
def collectSavesWrong : ChangeSpec := { name := "collectSaves", fn := fun _ => fun
  | [d] => { results := [.lit (.bool false)], args := [d] }
  | _ => none }
def CollectSavesWrongFalsely : Prop := collectSavesRow.holds Tryz.pinned (OpenSpec.ofChange collectSavesWrong)

/-- 'mortmainlaw20.DrainSteps': WHATEVER THE INPUT: true; the input reads as it did. -/
def drainStepsSpec : ChangeSpec := { name := "drainSteps", fn := fun _ => fun
  | [d1, d2, d3] => { results := [.lit (.bool true)], args := [d1, d2, d3] }
  | _ => none }
def drainStepsRow : OpenClaim := { program := "ytlkcpapbolbjnaagreat", sum := "87c79f83419afdbc88df6621710290de52c414dcdf228ab9e4e55a096ee8f55c", func := "mortmain/mortmainlaw20.DrainSteps", spec := "drainSteps", unfollowed := true, recurses := true, plainKeys := false, apart := false }
def DrainStepsSaid : Prop := drainStepsRow.holds Tryz.pinned (OpenSpec.ofChange drainStepsSpec)

/-- ITS FALSE NEIGHBOUR: 'it returns false'. Refute it at one input. -/
def drainStepsWrong : ChangeSpec := { name := "drainSteps", fn := fun _ => fun
  | [d1, d2, d3] => { results := [.lit (.bool false)], args := [d1, d2, d3] }
  | _ => none }
def DrainStepsWrongFalsely : Prop := drainStepsRow.holds Tryz.pinned (OpenSpec.ofChange drainStepsWrong)

/-- 'mortmainlaw20.DrainDoes': WHATEVER THE INPUT: true; the input reads as it did. -/
def drainDoesSpec : ChangeSpec := { name := "drainDoes", fn := fun _ => fun
  | [d1, d2, d3] => { results := [.lit (.bool true)], args := [d1, d2, d3] }
  | _ => none }
def drainDoesRow : OpenClaim := { program := "ytlkcpapbolbjnaagreat", sum := "87c79f83419afdbc88df6621710290de52c414dcdf228ab9e4e55a096ee8f55c", func := "mortmain/mortmainlaw20.DrainDoes", spec := "drainDoes", unfollowed := true, recurses := true, plainKeys := false, apart := false }
def DrainDoesSaid : Prop := drainDoesRow.holds Tryz.pinned (OpenSpec.ofChange drainDoesSpec)

/-- ITS FALSE NEIGHBOUR: 'it returns false'. Refute it at one input. -/
def drainDoesWrong : ChangeSpec := { name := "drainDoes", fn := fun _ => fun
  | [d1, d2, d3] => { results := [.lit (.bool false)], args := [d1, d2, d3] }
  | _ => none }
def DrainDoesWrongFalsely : Prop := drainDoesRow.holds Tryz.pinned (OpenSpec.ofChange drainDoesWrong)

/-- 'mortmainlaw20.DrainStays': WHATEVER THE INPUT: true; the input reads as it did. -/
def drainStaysSpec : ChangeSpec := { name := "drainStays", fn := fun _ => fun
  | [d1, d2, d3] => { results := [.lit (.bool true)], args := [d1, d2, d3] }
  | _ => none }
def drainStaysRow : OpenClaim := { program := "ytlkcpapbolbjnaagreat", sum := "87c79f83419afdbc88df6621710290de52c414dcdf228ab9e4e55a096ee8f55c", func := "mortmain/mortmainlaw20.DrainStays", spec := "drainStays", unfollowed := true, recurses := true, plainKeys := false, apart := false }
def DrainStaysSaid : Prop := drainStaysRow.holds Tryz.pinned (OpenSpec.ofChange drainStaysSpec)

/-- ITS FALSE NEIGHBOUR: 'it returns false'. Refute it at one input. -/
def drainStaysWrong : ChangeSpec := { name := "drainStays", fn := fun _ => fun
  | [d1, d2, d3] => { results := [.lit (.bool false)], args := [d1, d2, d3] }
  | _ => none }
def DrainStaysWrongFalsely : Prop := drainStaysRow.holds Tryz.pinned (OpenSpec.ofChange drainStaysWrong)

/-- 'mortmainlaw20.DrainParts': WHATEVER THE INPUT: true; the input reads as it did. -/
def drainPartsSpec : ChangeSpec := { name := "drainParts", fn := fun _ => fun
  | [d1, d2, d3, d4] => { results := [.lit (.bool true)], args := [d1, d2, d3, d4] }
  | _ => none }
def drainPartsRow : OpenClaim := { program := "ytlkcpapbolbjnaagreat", sum := "87c79f83419afdbc88df6621710290de52c414dcdf228ab9e4e55a096ee8f55c", func := "mortmain/mortmainlaw20.DrainParts", spec := "drainParts", unfollowed := true, recurses := true, plainKeys := false, apart := false }
def DrainPartsSaid : Prop := drainPartsRow.holds Tryz.pinned (OpenSpec.ofChange drainPartsSpec)

/-- ITS FALSE NEIGHBOUR: 'it returns false'. Refute it at one input. -/
def drainPartsWrong : ChangeSpec := { name := "drainParts", fn := fun _ => fun
  | [d1, d2, d3, d4] => { results := [.lit (.bool false)], args := [d1, d2, d3, d4] }
  | _ => none }
def DrainPartsWrongFalsely : Prop := drainPartsRow.holds Tryz.pinned (OpenSpec.ofChange drainPartsWrong)

/-- 'mortmainlaw20.DrainOnce': WHATEVER THE INPUT: true; the input reads as it did. -/
def drainOnceSpec : ChangeSpec := { name := "drainOnce", fn := fun _ => fun
  | [d1, d2, d3] => { results := [.lit (.bool true)], args := [d1, d2, d3] }
  | _ => none }
def drainOnceRow : OpenClaim := { program := "ytlkcpapbolbjnaagreat", sum := "87c79f83419afdbc88df6621710290de52c414dcdf228ab9e4e55a096ee8f55c", func := "mortmain/mortmainlaw20.DrainOnce", spec := "drainOnce", unfollowed := true, recurses := true, plainKeys := false, apart := false }
def DrainOnceSaid : Prop := drainOnceRow.holds Tryz.pinned (OpenSpec.ofChange drainOnceSpec)

/-- ITS FALSE NEIGHBOUR: 'it returns false'. Refute it at one input. -/
def drainOnceWrong : ChangeSpec := { name := "drainOnce", fn := fun _ => fun
  | [d1, d2, d3] => { results := [.lit (.bool false)], args := [d1, d2, d3] }
  | _ => none }
def DrainOnceWrongFalsely : Prop := drainOnceRow.holds Tryz.pinned (OpenSpec.ofChange drainOnceWrong)

/-- 'mortmainlaw20.DrainOrder': WHATEVER THE INPUT: true; the input reads as it did. -/
def drainOrderSpec : ChangeSpec := { name := "drainOrder", fn := fun _ => fun
  | [d1, d2] => { results := [.lit (.bool true)], args := [d1, d2] }
  | _ => none }
def drainOrderRow : OpenClaim := { program := "ytlkcpapbolbjnaagreat", sum := "87c79f83419afdbc88df6621710290de52c414dcdf228ab9e4e55a096ee8f55c", func := "mortmain/mortmainlaw20.DrainOrder", spec := "drainOrder", unfollowed := true, recurses := true, plainKeys := false, apart := false }
def DrainOrderSaid : Prop := drainOrderRow.holds Tryz.pinned (OpenSpec.ofChange drainOrderSpec)

/-- ITS FALSE NEIGHBOUR: 'it returns false'. Refute it at one input. -/
def drainOrderWrong : ChangeSpec := { name := "drainOrder", fn := fun _ => fun
  | [d1, d2] => { results := [.lit (.bool false)], args := [d1, d2] }
  | _ => none }
def DrainOrderWrongFalsely : Prop := drainOrderRow.holds Tryz.pinned (OpenSpec.ofChange drainOrderWrong)

/-- 'mortmainlaw20.DrainNothing': WHATEVER THE INPUT: true; the input reads as it did. -/
def drainNothingSpec : ChangeSpec := { name := "drainNothing", fn := fun _ => fun
  | [d1, d2, d3] => { results := [.lit (.bool true)], args := [d1, d2, d3] }
  | _ => none }
def drainNothingRow : OpenClaim := { program := "ytlkcpapbolbjnaagreat", sum := "87c79f83419afdbc88df6621710290de52c414dcdf228ab9e4e55a096ee8f55c", func := "mortmain/mortmainlaw20.DrainNothing", spec := "drainNothing", unfollowed := true, recurses := true, plainKeys := false, apart := false }
def DrainNothingSaid : Prop := drainNothingRow.holds Tryz.pinned (OpenSpec.ofChange drainNothingSpec)

/-- ITS FALSE NEIGHBOUR: 'it returns false'. Refute it at one input. -/
def drainNothingWrong : ChangeSpec := { name := "drainNothing", fn := fun _ => fun
  | [d1, d2, d3] => { results := [.lit (.bool false)], args := [d1, d2, d3] }
  | _ => none }
def DrainNothingWrongFalsely : Prop := drainNothingRow.holds Tryz.pinned (OpenSpec.ofChange drainNothingWrong)

/- THE SECOND FORM. 'bulk': how many values and letters a reading holds, each counted each time it is reached (what is shared counts as often as it is met; a slice's spare places count too). A statement '..UptoSaid' is the law's where the arguments, and the package variables that the reading takes, are together of bulk at most 1048576: NARROWER than '..Said'. Prove '..Said' where nothing that the law and all that it calls make is longer than what came in: it says more and counts as full. Else prove '..UptoSaid'. A law counts once. -/
mutual
def uptoBulk {H : Type} : DataW H → Nat
  | .lit (.string bytes) => bytes.length + 1
  | .lit _ => 1
  | .nil => 1
  | .ptr d => uptoBulk d + 1
  | .slice elems spare => uptoBulkAll elems + uptoBulkAll spare + 1
  | .agg parts => uptoBulkAll parts + 1
  | .iface _ d => uptoBulk d + 1
  | .map entries => uptoBulkEntries entries + 1
  | .held _ => 1
def uptoBulkAll {H : Type} : List (DataW H) → Nat
  | [] => 0
  | d :: r => uptoBulk d + uptoBulkAll r
def uptoBulkEntries {H : Type} : List (Lit × DataW H) → Nat
  | [] => 0
  | x :: r => uptoBulkEntry x + uptoBulkEntries r
def uptoBulkEntry {H : Type} : Lit × DataW H → Nat
  | (.string bytes, d) => bytes.length + uptoBulk d + 1
  | (_, d) => uptoBulk d + 1
 end
def uptoSmall : (H : Type) → List (DataW H) → Bool := fun _ ds => decide (uptoBulkAll ds ≤ 1048576)
def OpenSpec.upto (s : _root_.Go.ChangeSpec) : _root_.Go.OpenSpec := { _root_.Go.OpenSpec.ofChange s with cond := some uptoSmall }

/-- 'mortmainlaw19.CollectDoes', WHERE WHAT IT READS IS OF BULK AT MOST 1048576: true; the input reads as it did. -/
def collectDoesUptoRow : OpenClaim := { program := "ytlkcpapbolbjnaagreat", sum := "87c79f83419afdbc88df6621710290de52c414dcdf228ab9e4e55a096ee8f55c", func := "mortmain/mortmainlaw19.CollectDoes", spec := "collectDoes", unfollowed := true, recurses := true, plainKeys := false, apart := false, narrowed := true }
def CollectDoesUptoSaid : Prop := collectDoesUptoRow.holds Tryz.pinned (OpenSpec.upto collectDoesSpec)

/-- 'mortmainlaw19.CollectStays', WHERE WHAT IT READS IS OF BULK AT MOST 1048576: true; the input reads as it did. -/
def collectStaysUptoRow : OpenClaim := { program := "ytlkcpapbolbjnaagreat", sum := "87c79f83419afdbc88df6621710290de52c414dcdf228ab9e4e55a096ee8f55c", func := "mortmain/mortmainlaw19.CollectStays", spec := "collectStays", unfollowed := true, recurses := true, plainKeys := false, apart := false, narrowed := true }
def CollectStaysUptoSaid : Prop := collectStaysUptoRow.holds Tryz.pinned (OpenSpec.upto collectStaysSpec)

/-- 'mortmainlaw19.CollectKeeps', WHERE WHAT IT READS IS OF BULK AT MOST 1048576: true; the input reads as it did. -/
def collectKeepsUptoRow : OpenClaim := { program := "ytlkcpapbolbjnaagreat", sum := "87c79f83419afdbc88df6621710290de52c414dcdf228ab9e4e55a096ee8f55c", func := "mortmain/mortmainlaw19.CollectKeeps", spec := "collectKeeps", unfollowed := true, recurses := true, plainKeys := false, apart := false, narrowed := true }
def CollectKeepsUptoSaid : Prop := collectKeepsUptoRow.holds Tryz.pinned (OpenSpec.upto collectKeepsSpec)

/-- 'mortmainlaw19.CollectWeak', WHERE WHAT IT READS IS OF BULK AT MOST 1048576: true; the input reads as it did. -/
def collectWeakUptoRow : OpenClaim := { program := "ytlkcpapbolbjnaagreat", sum := "87c79f83419afdbc88df6621710290de52c414dcdf228ab9e4e55a096ee8f55c", func := "mortmain/mortmainlaw19.CollectWeak", spec := "collectWeak", unfollowed := true, recurses := true, plainKeys := false, apart := false, narrowed := true }
def CollectWeakUptoSaid : Prop := collectWeakUptoRow.holds Tryz.pinned (OpenSpec.upto collectWeakSpec)

/-- 'mortmainlaw19.CollectRing', WHERE WHAT IT READS IS OF BULK AT MOST 1048576: true; the input reads as it did. -/
def collectRingUptoRow : OpenClaim := { program := "ytlkcpapbolbjnaagreat", sum := "87c79f83419afdbc88df6621710290de52c414dcdf228ab9e4e55a096ee8f55c", func := "mortmain/mortmainlaw19.CollectRing", spec := "collectRing", unfollowed := true, recurses := true, plainKeys := false, apart := false, narrowed := true }
def CollectRingUptoSaid : Prop := collectRingUptoRow.holds Tryz.pinned (OpenSpec.upto collectRingSpec)

/-- 'mortmainlaw19.CollectSaves', WHERE WHAT IT READS IS OF BULK AT MOST 1048576: true; the input reads as it did. -/
def collectSavesUptoRow : OpenClaim := { program := "ytlkcpapbolbjnaagreat", sum := "87c79f83419afdbc88df6621710290de52c414dcdf228ab9e4e55a096ee8f55c", func := "mortmain/mortmainlaw19.CollectSaves", spec := "collectSaves", unfollowed := true, recurses := true, plainKeys := false, apart := false, narrowed := true }
def CollectSavesUptoSaid : Prop := collectSavesUptoRow.holds Tryz.pinned (OpenSpec.upto collectSavesSpec)

/-- 'mortmainlaw20.DrainSteps', WHERE WHAT IT READS IS OF BULK AT MOST 1048576: true; the input reads as it did. -/
def drainStepsUptoRow : OpenClaim := { program := "ytlkcpapbolbjnaagreat", sum := "87c79f83419afdbc88df6621710290de52c414dcdf228ab9e4e55a096ee8f55c", func := "mortmain/mortmainlaw20.DrainSteps", spec := "drainSteps", unfollowed := true, recurses := true, plainKeys := false, apart := false, narrowed := true }
def DrainStepsUptoSaid : Prop := drainStepsUptoRow.holds Tryz.pinned (OpenSpec.upto drainStepsSpec)

/-- 'mortmainlaw20.DrainDoes', WHERE WHAT IT READS IS OF BULK AT MOST 1048576: true; the input reads as it did. -/
def drainDoesUptoRow : OpenClaim := { program := "ytlkcpapbolbjnaagreat", sum := "87c79f83419afdbc88df6621710290de52c414dcdf228ab9e4e55a096ee8f55c", func := "mortmain/mortmainlaw20.DrainDoes", spec := "drainDoes", unfollowed := true, recurses := true, plainKeys := false, apart := false, narrowed := true }
def DrainDoesUptoSaid : Prop := drainDoesUptoRow.holds Tryz.pinned (OpenSpec.upto drainDoesSpec)

/-- 'mortmainlaw20.DrainStays', WHERE WHAT IT READS IS OF BULK AT MOST 1048576: true; the input reads as it did. -/
def drainStaysUptoRow : OpenClaim := { program := "ytlkcpapbolbjnaagreat", sum := "87c79f83419afdbc88df6621710290de52c414dcdf228ab9e4e55a096ee8f55c", func := "mortmain/mortmainlaw20.DrainStays", spec := "drainStays", unfollowed := true, recurses := true, plainKeys := false, apart := false, narrowed := true }
def DrainStaysUptoSaid : Prop := drainStaysUptoRow.holds Tryz.pinned (OpenSpec.upto drainStaysSpec)

/-- 'mortmainlaw20.DrainParts', WHERE WHAT IT READS IS OF BULK AT MOST 1048576: true; the input reads as it did. -/
def drainPartsUptoRow : OpenClaim := { program := "ytlkcpapbolbjnaagreat", sum := "87c79f83419afdbc88df6621710290de52c414dcdf228ab9e4e55a096ee8f55c", func := "mortmain/mortmainlaw20.DrainParts", spec := "drainParts", unfollowed := true, recurses := true, plainKeys := false, apart := false, narrowed := true }
def DrainPartsUptoSaid : Prop := drainPartsUptoRow.holds Tryz.pinned (OpenSpec.upto drainPartsSpec)

/-- 'mortmainlaw20.DrainOnce', WHERE WHAT IT READS IS OF BULK AT MOST 1048576: true; the input reads as it did. -/
def drainOnceUptoRow : OpenClaim := { program := "ytlkcpapbolbjnaagreat", sum := "87c79f83419afdbc88df6621710290de52c414dcdf228ab9e4e55a096ee8f55c", func := "mortmain/mortmainlaw20.DrainOnce", spec := "drainOnce", unfollowed := true, recurses := true, plainKeys := false, apart := false, narrowed := true }
def DrainOnceUptoSaid : Prop := drainOnceUptoRow.holds Tryz.pinned (OpenSpec.upto drainOnceSpec)

/-- 'mortmainlaw20.DrainOrder', WHERE WHAT IT READS IS OF BULK AT MOST 1048576: true; the input reads as it did. -/
def drainOrderUptoRow : OpenClaim := { program := "ytlkcpapbolbjnaagreat", sum := "87c79f83419afdbc88df6621710290de52c414dcdf228ab9e4e55a096ee8f55c", func := "mortmain/mortmainlaw20.DrainOrder", spec := "drainOrder", unfollowed := true, recurses := true, plainKeys := false, apart := false, narrowed := true }
def DrainOrderUptoSaid : Prop := drainOrderUptoRow.holds Tryz.pinned (OpenSpec.upto drainOrderSpec)

/-- 'mortmainlaw20.DrainNothing', WHERE WHAT IT READS IS OF BULK AT MOST 1048576: true; the input reads as it did. -/
def drainNothingUptoRow : OpenClaim := { program := "ytlkcpapbolbjnaagreat", sum := "87c79f83419afdbc88df6621710290de52c414dcdf228ab9e4e55a096ee8f55c", func := "mortmain/mortmainlaw20.DrainNothing", spec := "drainNothing", unfollowed := true, recurses := true, plainKeys := false, apart := false, narrowed := true }
def DrainNothingUptoSaid : Prop := drainNothingUptoRow.holds Tryz.pinned (OpenSpec.upto drainNothingSpec)

end Rows
end Go.Proofs.YtlkcpapbolbjnaaGreat
