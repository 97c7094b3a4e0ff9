/-
  No cell of these rows narrows 'for every input' (looked for: loops, veiled, ifaces, maps, wideKeys, modest, calm, conditions, laid).
  DERIVED. THE GIVEN ROWS OF THIS SEAT. 12 by the template 'for every input the law returns true; each argument reads behind the call as it read before'; 0 by the template 'total and deterministic' (their statements: YtnfmdpblilpcbaaGreatTotals.lean).
  GIVEN WITH THE SEED: the statements are not yours to turn. If you find one false, say at which input.
  Laid BY PROGRAM, IN A SANDBOX (cutbox-rows.mjs): the forced cells as the released guide's own fill.sh prints them over the translation a3de0441fe63fdea… (all of the seat's roots in one cut). By AI agents, Wed Nov 11 2026. No macro, syntax, notation, axiom, sorry.
-/
import Derived.Test.YtnfmdpblilpcbaaGreatChecked
import GoSem.Claim
import GoSem.ClaimJoined
import GoSem.ClaimMapViews
import Derived.JoinedTies
import Derived.KernelRfl
namespace Go.Proofs.YtnfmdpblilpcbaaGreat
/- THE CELL 'sum', in the pinned program and in every row, IS THE sha256 OF THE DUMP (.gsa) THAT YtnfmdpblilpcbaaGreatProg.lean LOADS. Nothing in Lean hashes anything: it is a label: what it is worth is what the hold of that sum in a sandbox is worth. -/
noncomputable def Tryz.pinned : Pinned := { name := "ytnfmdpblilpcbaagreat", sum := "a3de0441fe63fdea62308304c545b8510293e5e09c008a97c6c7881c9256b0e0", checked := Tryz.checked }
namespace Rows
def none {H : Type} : Left H := { results := [], args := [] }

/-- 'mortmainlaw15.HoldNames': WHATEVER THE INPUT: true; the input reads as it did. -/
def holdNamesSpec : ChangeSpec := { name := "holdNames", fn := fun _ => fun
  | [d1, d2, d3, d4] => { results := [.lit (.bool true)], args := [d1, d2, d3, d4] }
  | _ => none }
def holdNamesRow : OpenClaim := { program := "ytnfmdpblilpcbaagreat", sum := "a3de0441fe63fdea62308304c545b8510293e5e09c008a97c6c7881c9256b0e0", func := "mortmain/mortmainlaw15.HoldNames", spec := "holdNames", unfollowed := true, recurses := true, plainKeys := false, apart := false }
def HoldNamesSaid : Prop := holdNamesRow.holds Tryz.pinned (OpenSpec.ofChange holdNamesSpec)

/-- ITS FALSE NEIGHBOUR: 'it returns false'. Refute it at one input. -/
def holdNamesWrong : ChangeSpec := { name := "holdNames", fn := fun _ => fun
  | [d1, d2, d3, d4] => { results := [.lit (.bool false)], args := [d1, d2, d3, d4] }
  | _ => none }
def HoldNamesWrongFalsely : Prop := holdNamesRow.holds Tryz.pinned (OpenSpec.ofChange holdNamesWrong)

/-- 'mortmainlaw15.HoldCells': WHATEVER THE INPUT: true; the input reads as it did. -/
def holdCellsSpec : ChangeSpec := { name := "holdCells", fn := fun _ => fun
  | [d1, d2, d3, d4, d5] => { results := [.lit (.bool true)], args := [d1, d2, d3, d4, d5] }
  | _ => none }
def holdCellsRow : OpenClaim := { program := "ytnfmdpblilpcbaagreat", sum := "a3de0441fe63fdea62308304c545b8510293e5e09c008a97c6c7881c9256b0e0", func := "mortmain/mortmainlaw15.HoldCells", spec := "holdCells", unfollowed := true, recurses := true, plainKeys := false, apart := false }
def HoldCellsSaid : Prop := holdCellsRow.holds Tryz.pinned (OpenSpec.ofChange holdCellsSpec)

/-- ITS FALSE NEIGHBOUR: 'it returns false'. Refute it at one input. -/
def holdCellsWrong : ChangeSpec := { name := "holdCells", fn := fun _ => fun
  | [d1, d2, d3, d4, d5] => { results := [.lit (.bool false)], args := [d1, d2, d3, d4, d5] }
  | _ => none }
def HoldCellsWrongFalsely : Prop := holdCellsRow.holds Tryz.pinned (OpenSpec.ofChange holdCellsWrong)

/-- 'mortmainlaw15.HoldCounts': WHATEVER THE INPUT: true; the input reads as it did. -/
def holdCountsSpec : ChangeSpec := { name := "holdCounts", fn := fun _ => fun
  | [d1, d2] => { results := [.lit (.bool true)], args := [d1, d2] }
  | _ => none }
def holdCountsRow : OpenClaim := { program := "ytnfmdpblilpcbaagreat", sum := "a3de0441fe63fdea62308304c545b8510293e5e09c008a97c6c7881c9256b0e0", func := "mortmain/mortmainlaw15.HoldCounts", spec := "holdCounts", unfollowed := true, recurses := true, plainKeys := false, apart := false }
def HoldCountsSaid : Prop := holdCountsRow.holds Tryz.pinned (OpenSpec.ofChange holdCountsSpec)

/-- ITS FALSE NEIGHBOUR: 'it returns false'. Refute it at one input. -/
def holdCountsWrong : ChangeSpec := { name := "holdCounts", fn := fun _ => fun
  | [d1, d2] => { results := [.lit (.bool false)], args := [d1, d2] }
  | _ => none }
def HoldCountsWrongFalsely : Prop := holdCountsRow.holds Tryz.pinned (OpenSpec.ofChange holdCountsWrong)

/-- 'mortmainlaw15.HoldStays': WHATEVER THE INPUT: true; the input reads as it did. -/
def holdStaysSpec : ChangeSpec := { name := "holdStays", fn := fun _ => fun
  | [d1, d2, d3, d4, d5] => { results := [.lit (.bool true)], args := [d1, d2, d3, d4, d5] }
  | _ => none }
def holdStaysRow : OpenClaim := { program := "ytnfmdpblilpcbaagreat", sum := "a3de0441fe63fdea62308304c545b8510293e5e09c008a97c6c7881c9256b0e0", func := "mortmain/mortmainlaw15.HoldStays", spec := "holdStays", unfollowed := true, recurses := true, plainKeys := false, apart := false }
def HoldStaysSaid : Prop := holdStaysRow.holds Tryz.pinned (OpenSpec.ofChange holdStaysSpec)

/-- ITS FALSE NEIGHBOUR: 'it returns false'. Refute it at one input. -/
def holdStaysWrong : ChangeSpec := { name := "holdStays", fn := fun _ => fun
  | [d1, d2, d3, d4, d5] => { results := [.lit (.bool false)], args := [d1, d2, d3, d4, d5] }
  | _ => none }
def HoldStaysWrongFalsely : Prop := holdStaysRow.holds Tryz.pinned (OpenSpec.ofChange holdStaysWrong)

/-- 'mortmainlaw15.HoldBack': WHATEVER THE INPUT: true; the input reads as it did. -/
def holdBackSpec : ChangeSpec := { name := "holdBack", fn := fun _ => fun
  | [d1, d2, d3] => { results := [.lit (.bool true)], args := [d1, d2, d3] }
  | _ => none }
def holdBackRow : OpenClaim := { program := "ytnfmdpblilpcbaagreat", sum := "a3de0441fe63fdea62308304c545b8510293e5e09c008a97c6c7881c9256b0e0", func := "mortmain/mortmainlaw15.HoldBack", spec := "holdBack", unfollowed := true, recurses := true, plainKeys := false, apart := false }
def HoldBackSaid : Prop := holdBackRow.holds Tryz.pinned (OpenSpec.ofChange holdBackSpec)

/-- ITS FALSE NEIGHBOUR: 'it returns false'. Refute it at one input. -/
def holdBackWrong : ChangeSpec := { name := "holdBack", fn := fun _ => fun
  | [d1, d2, d3] => { results := [.lit (.bool false)], args := [d1, d2, d3] }
  | _ => none }
def HoldBackWrongFalsely : Prop := holdBackRow.holds Tryz.pinned (OpenSpec.ofChange holdBackWrong)

/-- 'mortmainlaw16.SettleActs': WHATEVER THE INPUT: true; the input reads as it did. -/
def settleActsSpec : ChangeSpec := { name := "settleActs", fn := fun _ => fun
  | [d1, d2] => { results := [.lit (.bool true)], args := [d1, d2] }
  | _ => none }
def settleActsRow : OpenClaim := { program := "ytnfmdpblilpcbaagreat", sum := "a3de0441fe63fdea62308304c545b8510293e5e09c008a97c6c7881c9256b0e0", func := "mortmain/mortmainlaw16.SettleActs", spec := "settleActs", unfollowed := true, recurses := true, plainKeys := false, apart := false }
def SettleActsSaid : Prop := settleActsRow.holds Tryz.pinned (OpenSpec.ofChange settleActsSpec)

/-- ITS FALSE NEIGHBOUR: 'it returns false'. Refute it at one input. -/
def settleActsWrong : ChangeSpec := { name := "settleActs", fn := fun _ => fun
  | [d1, d2] => { results := [.lit (.bool false)], args := [d1, d2] }
  | _ => none }
def SettleActsWrongFalsely : Prop := settleActsRow.holds Tryz.pinned (OpenSpec.ofChange settleActsWrong)

/-- 'mortmainlaw16.SettleBuries': WHATEVER THE INPUT: true; the input reads as it did. -/
def settleBuriesSpec : ChangeSpec := { name := "settleBuries", fn := fun _ => fun
  | [d1, d2] => { results := [.lit (.bool true)], args := [d1, d2] }
  | _ => none }
def settleBuriesRow : OpenClaim := { program := "ytnfmdpblilpcbaagreat", sum := "a3de0441fe63fdea62308304c545b8510293e5e09c008a97c6c7881c9256b0e0", func := "mortmain/mortmainlaw16.SettleBuries", spec := "settleBuries", unfollowed := true, recurses := true, plainKeys := false, apart := false }
def SettleBuriesSaid : Prop := settleBuriesRow.holds Tryz.pinned (OpenSpec.ofChange settleBuriesSpec)

/-- ITS FALSE NEIGHBOUR: 'it returns false'. Refute it at one input. -/
def settleBuriesWrong : ChangeSpec := { name := "settleBuries", fn := fun _ => fun
  | [d1, d2] => { results := [.lit (.bool false)], args := [d1, d2] }
  | _ => none }
def SettleBuriesWrongFalsely : Prop := settleBuriesRow.holds Tryz.pinned (OpenSpec.ofChange settleBuriesWrong)

/-- 'mortmainlaw16.SettleStays': WHATEVER THE INPUT: true; the input reads as it did. -/
def settleStaysSpec : ChangeSpec := { name := "settleStays", fn := fun _ => fun
  | [d] => { results := [.lit (.bool true)], args := [d] }
  | _ => none }
def settleStaysRow : OpenClaim := { program := "ytnfmdpblilpcbaagreat", sum := "a3de0441fe63fdea62308304c545b8510293e5e09c008a97c6c7881c9256b0e0", func := "mortmain/mortmainlaw16.SettleStays", spec := "settleStays", unfollowed := true, recurses := true, plainKeys := false, apart := false }
def SettleStaysSaid : Prop := settleStaysRow.holds Tryz.pinned (OpenSpec.ofChange settleStaysSpec)

/-- ITS FALSE NEIGHBOUR: 'it returns false'. Refute it at one input. -/
def settleStaysWrong : ChangeSpec := { name := "settleStays", fn := fun _ => fun
  | [d] => { results := [.lit (.bool false)], args := [d] }
  | _ => none }
def SettleStaysWrongFalsely : Prop := settleStaysRow.holds Tryz.pinned (OpenSpec.ofChange settleStaysWrong)

/-- 'mortmainlaw16.SettleKeeps': WHATEVER THE INPUT: true; the input reads as it did. -/
def settleKeepsSpec : ChangeSpec := { name := "settleKeeps", fn := fun _ => fun
  | [d] => { results := [.lit (.bool true)], args := [d] }
  | _ => none }
def settleKeepsRow : OpenClaim := { program := "ytnfmdpblilpcbaagreat", sum := "a3de0441fe63fdea62308304c545b8510293e5e09c008a97c6c7881c9256b0e0", func := "mortmain/mortmainlaw16.SettleKeeps", spec := "settleKeeps", unfollowed := true, recurses := true, plainKeys := false, apart := false }
def SettleKeepsSaid : Prop := settleKeepsRow.holds Tryz.pinned (OpenSpec.ofChange settleKeepsSpec)

/-- ITS FALSE NEIGHBOUR: 'it returns false'. Refute it at one input. -/
def settleKeepsWrong : ChangeSpec := { name := "settleKeeps", fn := fun _ => fun
  | [d] => { results := [.lit (.bool false)], args := [d] }
  | _ => none }
def SettleKeepsWrongFalsely : Prop := settleKeepsRow.holds Tryz.pinned (OpenSpec.ofChange settleKeepsWrong)

/-- 'mortmainlaw16.SettleOnce': WHATEVER THE INPUT: true; the input reads as it did. -/
def settleOnceSpec : ChangeSpec := { name := "settleOnce", fn := fun _ => fun
  | [d] => { results := [.lit (.bool true)], args := [d] }
  | _ => none }
def settleOnceRow : OpenClaim := { program := "ytnfmdpblilpcbaagreat", sum := "a3de0441fe63fdea62308304c545b8510293e5e09c008a97c6c7881c9256b0e0", func := "mortmain/mortmainlaw16.SettleOnce", spec := "settleOnce", unfollowed := true, recurses := true, plainKeys := false, apart := false }
def SettleOnceSaid : Prop := settleOnceRow.holds Tryz.pinned (OpenSpec.ofChange settleOnceSpec)

/-- ITS FALSE NEIGHBOUR: 'it returns false'. Refute it at one input. -/
def settleOnceWrong : ChangeSpec := { name := "settleOnce", fn := fun _ => fun
  | [d] => { results := [.lit (.bool false)], args := [d] }
  | _ => none }
def SettleOnceWrongFalsely : Prop := settleOnceRow.holds Tryz.pinned (OpenSpec.ofChange settleOnceWrong)

/-- 'mortmainlaw16.SettleWeak': WHATEVER THE INPUT: true; the input reads as it did. -/
def settleWeakSpec : ChangeSpec := { name := "settleWeak", fn := fun _ => fun
  | [d] => { results := [.lit (.bool true)], args := [d] }
  | _ => none }
def settleWeakRow : OpenClaim := { program := "ytnfmdpblilpcbaagreat", sum := "a3de0441fe63fdea62308304c545b8510293e5e09c008a97c6c7881c9256b0e0", func := "mortmain/mortmainlaw16.SettleWeak", spec := "settleWeak", unfollowed := true, recurses := true, plainKeys := false, apart := false }
def SettleWeakSaid : Prop := settleWeakRow.holds Tryz.pinned (OpenSpec.ofChange settleWeakSpec)

/-- ITS FALSE NEIGHBOUR: 'it returns false'. Refute it at one input. -/
def settleWeakWrong : ChangeSpec := { name := "settleWeak", fn := fun _ => fun
  | [d] => { results := [.lit (.bool false)], args := [d] }
  | _ => none }
def SettleWeakWrongFalsely : Prop := settleWeakRow.holds Tryz.pinned (OpenSpec.ofChange settleWeakWrong)

/-- 'mortmainlaw16.SettleChain': WHATEVER THE INPUT: true; the input reads as it did. -/
def settleChainSpec : ChangeSpec := { name := "settleChain", fn := fun _ => fun
  | [d] => { results := [.lit (.bool true)], args := [d] }
  | _ => none }
def settleChainRow : OpenClaim := { program := "ytnfmdpblilpcbaagreat", sum := "a3de0441fe63fdea62308304c545b8510293e5e09c008a97c6c7881c9256b0e0", func := "mortmain/mortmainlaw16.SettleChain", spec := "settleChain", unfollowed := true, recurses := true, plainKeys := false, apart := false }
def SettleChainSaid : Prop := settleChainRow.holds Tryz.pinned (OpenSpec.ofChange settleChainSpec)

/-- ITS FALSE NEIGHBOUR: 'it returns false'. Refute it at one input. -/
def settleChainWrong : ChangeSpec := { name := "settleChain", fn := fun _ => fun
  | [d] => { results := [.lit (.bool false)], args := [d] }
  | _ => none }
def SettleChainWrongFalsely : Prop := settleChainRow.holds Tryz.pinned (OpenSpec.ofChange settleChainWrong)

/- THE SECOND FORM. 'bulk': how many values and letters a reading holds, each counted each time it is reached (what is shared counts as often as it is met; a slice's spare places count too). A statement '..UptoSaid' is the law's where the arguments, and the package variables that the reading takes, are together of bulk at most 1048576: NARROWER than '..Said'. Prove '..Said' where nothing that the law and all that it calls make is longer than what came in: it says more and counts as full. Else prove '..UptoSaid'. A law counts once. -/
mutual
def uptoBulk {H : Type} : DataW H → Nat
  | .lit (.string bytes) => bytes.length + 1
  | .lit _ => 1
  | .nil => 1
  | .ptr d => uptoBulk d + 1
  | .slice elems spare => uptoBulkAll elems + uptoBulkAll spare + 1
  | .agg parts => uptoBulkAll parts + 1
  | .iface _ d => uptoBulk d + 1
  | .map entries => uptoBulkEntries entries + 1
  | .held _ => 1
def uptoBulkAll {H : Type} : List (DataW H) → Nat
  | [] => 0
  | d :: r => uptoBulk d + uptoBulkAll r
def uptoBulkEntries {H : Type} : List (Lit × DataW H) → Nat
  | [] => 0
  | x :: r => uptoBulkEntry x + uptoBulkEntries r
def uptoBulkEntry {H : Type} : Lit × DataW H → Nat
  | (.string bytes, d) => bytes.length + uptoBulk d + 1
  | (_, d) => uptoBulk d + 1
 end
def uptoSmall : (H : Type) → List (DataW H) → Bool := fun _ ds => decide (uptoBulkAll ds ≤ 1048576)
def OpenSpec.upto (s : _root_.Go.ChangeSpec) : _root_.Go.OpenSpec := { _root_.Go.OpenSpec.ofChange s with cond := some uptoSmall }

/-- 'mortmainlaw15.HoldNames', WHERE WHAT IT READS IS OF BULK AT MOST 1048576: true; the input reads as it did. -/
def holdNamesUptoRow : OpenClaim := { program := "ytnfmdpblilpcbaagreat", sum := "a3de0441fe63fdea62308304c545b8510293e5e09c008a97c6c7881c9256b0e0", func := "mortmain/mortmainlaw15.HoldNames", spec := "holdNames", unfollowed := true, recurses := true, plainKeys := false, apart := false, narrowed := true }
def HoldNamesUptoSaid : Prop := holdNamesUptoRow.holds Tryz.pinned (OpenSpec.upto holdNamesSpec)

/-- 'mortmainlaw15.HoldCells', WHERE WHAT IT READS IS OF BULK AT MOST 1048576: true; the input reads as it did. -/
def holdCellsUptoRow : OpenClaim := { program := "ytnfmdpblilpcbaagreat", sum := "a3de0441fe63fdea62308304c545b8510293e5e09c008a97c6c7881c9256b0e0", func := "mortmain/mortmainlaw15.HoldCells", spec := "holdCells", unfollowed := true, recurses := true, plainKeys := false, apart := false, narrowed := true }
def HoldCellsUptoSaid : Prop := holdCellsUptoRow.holds Tryz.pinned (OpenSpec.upto holdCellsSpec)

/-- 'mortmainlaw15.HoldCounts', WHERE WHAT IT READS IS OF BULK AT MOST 1048576: true; the input reads as it did. -/
def holdCountsUptoRow : OpenClaim := { program := "ytnfmdpblilpcbaagreat", sum := "a3de0441fe63fdea62308304c545b8510293e5e09c008a97c6c7881c9256b0e0", func := "mortmain/mortmainlaw15.HoldCounts", spec := "holdCounts", unfollowed := true, recurses := true, plainKeys := false, apart := false, narrowed := true }
def HoldCountsUptoSaid : Prop := holdCountsUptoRow.holds Tryz.pinned (OpenSpec.upto holdCountsSpec)

/-- 'mortmainlaw15.HoldStays', WHERE WHAT IT READS IS OF BULK AT MOST 1048576: true; the input reads as it did. -/
def holdStaysUptoRow : OpenClaim := { program := "ytnfmdpblilpcbaagreat", sum := "a3de0441fe63fdea62308304c545b8510293e5e09c008a97c6c7881c9256b0e0", func := "mortmain/mortmainlaw15.HoldStays", spec := "holdStays", unfollowed := true, recurses := true, plainKeys := false, apart := false, narrowed := true }
def HoldStaysUptoSaid : Prop := holdStaysUptoRow.holds Tryz.pinned (OpenSpec.upto holdStaysSpec)

/-- 'mortmainlaw15.HoldBack', WHERE WHAT IT READS IS OF BULK AT MOST 1048576: true; the input reads as it did. -/
def holdBackUptoRow : OpenClaim := { program := "ytnfmdpblilpcbaagreat", sum := "a3de0441fe63fdea62308304c545b8510293e5e09c008a97c6c7881c9256b0e0", func := "mortmain/mortmainlaw15.HoldBack", spec := "holdBack", unfollowed := true, recurses := true, plainKeys := false, apart := false, narrowed := true }
def HoldBackUptoSaid : Prop := holdBackUptoRow.holds Tryz.pinned (OpenSpec.upto holdBackSpec)

/-- 'mortmainlaw16.SettleActs', WHERE WHAT IT READS IS OF BULK AT MOST 1048576: true; the input reads as it did. -/
def settleActsUptoRow : OpenClaim := { program := "ytnfmdpblilpcbaagreat", sum := "a3de0441fe63fdea62308304c545b8510293e5e09c008a97c6c7881c9256b0e0", func := "mortmain/mortmainlaw16.SettleActs", spec := "settleActs", unfollowed := true, recurses := true, plainKeys := false, apart := false, narrowed := true }
def SettleActsUptoSaid : Prop := settleActsUptoRow.holds Tryz.pinned (OpenSpec.upto settleActsSpec)

/-- 'mortmainlaw16.SettleBuries', WHERE WHAT IT READS IS OF BULK AT MOST 1048576: true; the input reads as it did. -/
def settleBuriesUptoRow : OpenClaim := { program := "ytnfmdpblilpcbaagreat", sum := "a3de0441fe63fdea62308304c545b8510293e5e09c008a97c6c7881c9256b0e0", func := "mortmain/mortmainlaw16.SettleBuries", spec := "settleBuries", unfollowed := true, recurses := true, plainKeys := false, apart := false, narrowed := true }
def SettleBuriesUptoSaid : Prop := settleBuriesUptoRow.holds Tryz.pinned (OpenSpec.upto settleBuriesSpec)

/-- 'mortmainlaw16.SettleStays', WHERE WHAT IT READS IS OF BULK AT MOST 1048576: true; the input reads as it did. -/
def settleStaysUptoRow : OpenClaim := { program := "ytnfmdpblilpcbaagreat", sum := "a3de0441fe63fdea62308304c545b8510293e5e09c008a97c6c7881c9256b0e0", func := "mortmain/mortmainlaw16.SettleStays", spec := "settleStays", unfollowed := true, recurses := true, plainKeys := false, apart := false, narrowed := true }
def SettleStaysUptoSaid : Prop := settleStaysUptoRow.holds Tryz.pinned (OpenSpec.upto settleStaysSpec)

/-- 'mortmainlaw16.SettleKeeps', WHERE WHAT IT READS IS OF BULK AT MOST 1048576: true; the input reads as it did. -/
def settleKeepsUptoRow : OpenClaim := { program := "ytnfmdpblilpcbaagreat", sum := "a3de0441fe63fdea62308304c545b8510293e5e09c008a97c6c7881c9256b0e0", func := "mortmain/mortmainlaw16.SettleKeeps", spec := "settleKeeps", unfollowed := true, recurses := true, plainKeys := false, apart := false, narrowed := true }
def SettleKeepsUptoSaid : Prop := settleKeepsUptoRow.holds Tryz.pinned (OpenSpec.upto settleKeepsSpec)

/-- 'mortmainlaw16.SettleOnce', WHERE WHAT IT READS IS OF BULK AT MOST 1048576: true; the input reads as it did. -/
def settleOnceUptoRow : OpenClaim := { program := "ytnfmdpblilpcbaagreat", sum := "a3de0441fe63fdea62308304c545b8510293e5e09c008a97c6c7881c9256b0e0", func := "mortmain/mortmainlaw16.SettleOnce", spec := "settleOnce", unfollowed := true, recurses := true, plainKeys := false, apart := false, narrowed := true }
def SettleOnceUptoSaid : Prop := settleOnceUptoRow.holds Tryz.pinned (OpenSpec.upto settleOnceSpec)

/-- 'mortmainlaw16.SettleWeak', WHERE WHAT IT READS IS OF BULK AT MOST 1048576: true; the input reads as it did. -/
def settleWeakUptoRow : OpenClaim := { program := "ytnfmdpblilpcbaagreat", sum := "a3de0441fe63fdea62308304c545b8510293e5e09c008a97c6c7881c9256b0e0", func := "mortmain/mortmainlaw16.SettleWeak", spec := "settleWeak", unfollowed := true, recurses := true, plainKeys := false, apart := false, narrowed := true }
def SettleWeakUptoSaid : Prop := settleWeakUptoRow.holds Tryz.pinned (OpenSpec.upto settleWeakSpec)

/-- 'mortmainlaw16.SettleChain', WHERE WHAT IT READS IS OF BULK AT MOST 1048576: true; the input reads as it did. -/
def settleChainUptoRow : OpenClaim := { program := "ytnfmdpblilpcbaagreat", sum := "a3de0441fe63fdea62308304c545b8510293e5e09c008a97c6c7881c9256b0e0", func := "mortmain/mortmainlaw16.SettleChain", spec := "settleChain", unfollowed := true, recurses := true, plainKeys := false, apart := false, narrowed := true }
def SettleChainUptoSaid : Prop := settleChainUptoRow.holds Tryz.pinned (OpenSpec.upto settleChainSpec)

end Rows
end Go.Proofs.YtnfmdpblilpcbaaGreat
