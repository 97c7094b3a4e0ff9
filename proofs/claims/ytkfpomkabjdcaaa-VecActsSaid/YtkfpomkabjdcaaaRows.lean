/-
  No cell of these rows narrows 'for every input' (looked for: loops, veiled, ifaces, maps, wideKeys, modest, calm, conditions, laid).
  DERIVED. THE GIVEN ROWS OF THIS SEAT. 12 by the template 'for every input the law returns true; each argument reads behind the call as it read before'; 0 by the template 'total and deterministic' (their statements: YtkfpomkabjdcaaaTotals.lean).
  GIVEN WITH THE SEED: the statements are not yours to turn. If you find one false, say at which input.
  Laid BY PROGRAM, IN A SANDBOX (cutbox-rows.mjs): the forced cells as the released guide's own fill.sh prints them over the translation 9a79ad09e26042ae… (all of the seat's roots in one cut). By AI agents, Wed Nov 11 2026. No macro, syntax, notation, axiom, sorry.
-/
import Derived.Test.YtkfpomkabjdcaaaChecked
import GoSem.Claim
import GoSem.ClaimJoined
import GoSem.ClaimMapViews
import Derived.JoinedTies
import Derived.KernelRfl
namespace Go.Proofs.Ytkfpomkabjdcaaa
/- THE CELL 'sum', in the pinned program and in every row, IS THE sha256 OF THE DUMP (.gsa) THAT YtkfpomkabjdcaaaProg.lean LOADS. Nothing in Lean hashes anything: it is a label: what it is worth is what the hold of that sum in a sandbox is worth. -/
noncomputable def Try.pinned : Pinned := { name := "ytkfpomkabjdcaaa", sum := "9a79ad09e26042aebafa46df3b7b5bc52e6d930611275cf4dadd6f8ca8ceb1f8", checked := Try.checked }
namespace Rows
def none {H : Type} : Left H := { results := [], args := [] }

/-- 'mortmainlaw01.HandleTells': WHATEVER THE INPUT: true; the input reads as it did. -/
def handleTellsSpec : ChangeSpec := { name := "handleTells", fn := fun _ => fun
  | [d1, d2, d3] => { results := [.lit (.bool true)], args := [d1, d2, d3] }
  | _ => none }
def handleTellsRow : OpenClaim := { program := "ytkfpomkabjdcaaa", sum := "9a79ad09e26042aebafa46df3b7b5bc52e6d930611275cf4dadd6f8ca8ceb1f8", func := "mortmain/mortmainlaw01.HandleTells", spec := "handleTells", apart := false }
def HandleTellsSaid : Prop := handleTellsRow.holds Try.pinned (OpenSpec.ofChange handleTellsSpec)

/-- ITS FALSE NEIGHBOUR: 'it returns false'. Refute it at one input. -/
def handleTellsWrong : ChangeSpec := { name := "handleTells", fn := fun _ => fun
  | [d1, d2, d3] => { results := [.lit (.bool false)], args := [d1, d2, d3] }
  | _ => none }
def HandleTellsWrongFalsely : Prop := handleTellsRow.holds Try.pinned (OpenSpec.ofChange handleTellsWrong)

/-- 'mortmainlaw01.HandleBack': WHATEVER THE INPUT: true; the input reads as it did. -/
def handleBackSpec : ChangeSpec := { name := "handleBack", fn := fun _ => fun
  | [d1, d2, d3] => { results := [.lit (.bool true)], args := [d1, d2, d3] }
  | _ => none }
def handleBackRow : OpenClaim := { program := "ytkfpomkabjdcaaa", sum := "9a79ad09e26042aebafa46df3b7b5bc52e6d930611275cf4dadd6f8ca8ceb1f8", func := "mortmain/mortmainlaw01.HandleBack", spec := "handleBack", apart := false }
def HandleBackSaid : Prop := handleBackRow.holds Try.pinned (OpenSpec.ofChange handleBackSpec)

/-- ITS FALSE NEIGHBOUR: 'it returns false'. Refute it at one input. -/
def handleBackWrong : ChangeSpec := { name := "handleBack", fn := fun _ => fun
  | [d1, d2, d3] => { results := [.lit (.bool false)], args := [d1, d2, d3] }
  | _ => none }
def HandleBackWrongFalsely : Prop := handleBackRow.holds Try.pinned (OpenSpec.ofChange handleBackWrong)

/-- 'mortmainlaw01.HandleApart': WHATEVER THE INPUT: true; the input reads as it did. -/
def handleApartSpec : ChangeSpec := { name := "handleApart", fn := fun _ => fun
  | [d1, d2, d3, d4] => { results := [.lit (.bool true)], args := [d1, d2, d3, d4] }
  | _ => none }
def handleApartRow : OpenClaim := { program := "ytkfpomkabjdcaaa", sum := "9a79ad09e26042aebafa46df3b7b5bc52e6d930611275cf4dadd6f8ca8ceb1f8", func := "mortmain/mortmainlaw01.HandleApart", spec := "handleApart", apart := false }
def HandleApartSaid : Prop := handleApartRow.holds Try.pinned (OpenSpec.ofChange handleApartSpec)

/-- ITS FALSE NEIGHBOUR: 'it returns false'. Refute it at one input. -/
def handleApartWrong : ChangeSpec := { name := "handleApart", fn := fun _ => fun
  | [d1, d2, d3, d4] => { results := [.lit (.bool false)], args := [d1, d2, d3, d4] }
  | _ => none }
def HandleApartWrongFalsely : Prop := handleApartRow.holds Try.pinned (OpenSpec.ofChange handleApartWrong)

/-- 'mortmainlaw01.HandleNext': WHATEVER THE INPUT: true; the input reads as it did. -/
def handleNextSpec : ChangeSpec := { name := "handleNext", fn := fun _ => fun
  | [d] => { results := [.lit (.bool true)], args := [d] }
  | _ => none }
def handleNextRow : OpenClaim := { program := "ytkfpomkabjdcaaa", sum := "9a79ad09e26042aebafa46df3b7b5bc52e6d930611275cf4dadd6f8ca8ceb1f8", func := "mortmain/mortmainlaw01.HandleNext", spec := "handleNext", apart := false }
def HandleNextSaid : Prop := handleNextRow.holds Try.pinned (OpenSpec.ofChange handleNextSpec)

/-- ITS FALSE NEIGHBOUR: 'it returns false'. Refute it at one input. -/
def handleNextWrong : ChangeSpec := { name := "handleNext", fn := fun _ => fun
  | [d] => { results := [.lit (.bool false)], args := [d] }
  | _ => none }
def HandleNextWrongFalsely : Prop := handleNextRow.holds Try.pinned (OpenSpec.ofChange handleNextWrong)

/-- 'mortmainlaw01.HandleWalk': WHATEVER THE INPUT: true; the input reads as it did. -/
def handleWalkSpec : ChangeSpec := { name := "handleWalk", fn := fun _ => fun
  | [d1, d2, d3] => { results := [.lit (.bool true)], args := [d1, d2, d3] }
  | _ => none }
def handleWalkRow : OpenClaim := { program := "ytkfpomkabjdcaaa", sum := "9a79ad09e26042aebafa46df3b7b5bc52e6d930611275cf4dadd6f8ca8ceb1f8", func := "mortmain/mortmainlaw01.HandleWalk", spec := "handleWalk", apart := false }
def HandleWalkSaid : Prop := handleWalkRow.holds Try.pinned (OpenSpec.ofChange handleWalkSpec)

/-- ITS FALSE NEIGHBOUR: 'it returns false'. Refute it at one input. -/
def handleWalkWrong : ChangeSpec := { name := "handleWalk", fn := fun _ => fun
  | [d1, d2, d3] => { results := [.lit (.bool false)], args := [d1, d2, d3] }
  | _ => none }
def HandleWalkWrongFalsely : Prop := handleWalkRow.holds Try.pinned (OpenSpec.ofChange handleWalkWrong)

/-- 'mortmainlaw04.CountActs': WHATEVER THE INPUT: true; the input reads as it did. -/
def countActsSpec : ChangeSpec := { name := "countActs", fn := fun _ => fun
  | [d1, d2] => { results := [.lit (.bool true)], args := [d1, d2] }
  | _ => none }
def countActsRow : OpenClaim := { program := "ytkfpomkabjdcaaa", sum := "9a79ad09e26042aebafa46df3b7b5bc52e6d930611275cf4dadd6f8ca8ceb1f8", func := "mortmain/mortmainlaw04.CountActs", spec := "countActs", unfollowed := true, recurses := true, apart := false }
def CountActsSaid : Prop := countActsRow.holds Try.pinned (OpenSpec.ofChange countActsSpec)

/-- ITS FALSE NEIGHBOUR: 'it returns false'. Refute it at one input. -/
def countActsWrong : ChangeSpec := { name := "countActs", fn := fun _ => fun
  | [d1, d2] => { results := [.lit (.bool false)], args := [d1, d2] }
  | _ => none }
def CountActsWrongFalsely : Prop := countActsRow.holds Try.pinned (OpenSpec.ofChange countActsWrong)

/-- 'mortmainlaw04.CountBack': WHATEVER THE INPUT: true; the input reads as it did. -/
def countBackSpec : ChangeSpec := { name := "countBack", fn := fun _ => fun
  | [d] => { results := [.lit (.bool true)], args := [d] }
  | _ => none }
def countBackRow : OpenClaim := { program := "ytkfpomkabjdcaaa", sum := "9a79ad09e26042aebafa46df3b7b5bc52e6d930611275cf4dadd6f8ca8ceb1f8", func := "mortmain/mortmainlaw04.CountBack", spec := "countBack", unfollowed := true, recurses := true, apart := false }
def CountBackSaid : Prop := countBackRow.holds Try.pinned (OpenSpec.ofChange countBackSpec)

/-- ITS FALSE NEIGHBOUR: 'it returns false'. Refute it at one input. -/
def countBackWrong : ChangeSpec := { name := "countBack", fn := fun _ => fun
  | [d] => { results := [.lit (.bool false)], args := [d] }
  | _ => none }
def CountBackWrongFalsely : Prop := countBackRow.holds Try.pinned (OpenSpec.ofChange countBackWrong)

/-- 'mortmainlaw04.CountStuck': WHATEVER THE INPUT: true; the input reads as it did. -/
def countStuckSpec : ChangeSpec := { name := "countStuck", fn := fun _ => fun
  | [d1, d2] => { results := [.lit (.bool true)], args := [d1, d2] }
  | _ => none }
def countStuckRow : OpenClaim := { program := "ytkfpomkabjdcaaa", sum := "9a79ad09e26042aebafa46df3b7b5bc52e6d930611275cf4dadd6f8ca8ceb1f8", func := "mortmain/mortmainlaw04.CountStuck", spec := "countStuck", unfollowed := true, recurses := true, apart := false }
def CountStuckSaid : Prop := countStuckRow.holds Try.pinned (OpenSpec.ofChange countStuckSpec)

/-- ITS FALSE NEIGHBOUR: 'it returns false'. Refute it at one input. -/
def countStuckWrong : ChangeSpec := { name := "countStuck", fn := fun _ => fun
  | [d1, d2] => { results := [.lit (.bool false)], args := [d1, d2] }
  | _ => none }
def CountStuckWrongFalsely : Prop := countStuckRow.holds Try.pinned (OpenSpec.ofChange countStuckWrong)

/-- 'mortmainlaw04.CountSums': WHATEVER THE INPUT: true; the input reads as it did. -/
def countSumsSpec : ChangeSpec := { name := "countSums", fn := fun _ => fun
  | [d] => { results := [.lit (.bool true)], args := [d] }
  | _ => none }
def countSumsRow : OpenClaim := { program := "ytkfpomkabjdcaaa", sum := "9a79ad09e26042aebafa46df3b7b5bc52e6d930611275cf4dadd6f8ca8ceb1f8", func := "mortmain/mortmainlaw04.CountSums", spec := "countSums", unfollowed := true, recurses := true, apart := false }
def CountSumsSaid : Prop := countSumsRow.holds Try.pinned (OpenSpec.ofChange countSumsSpec)

/-- ITS FALSE NEIGHBOUR: 'it returns false'. Refute it at one input. -/
def countSumsWrong : ChangeSpec := { name := "countSums", fn := fun _ => fun
  | [d] => { results := [.lit (.bool false)], args := [d] }
  | _ => none }
def CountSumsWrongFalsely : Prop := countSumsRow.holds Try.pinned (OpenSpec.ofChange countSumsWrong)

/-- 'mortmainlaw04.CountParts': WHATEVER THE INPUT: true; the input reads as it did. -/
def countPartsSpec : ChangeSpec := { name := "countParts", fn := fun _ => fun
  | [d1, d2, d3] => { results := [.lit (.bool true)], args := [d1, d2, d3] }
  | _ => none }
def countPartsRow : OpenClaim := { program := "ytkfpomkabjdcaaa", sum := "9a79ad09e26042aebafa46df3b7b5bc52e6d930611275cf4dadd6f8ca8ceb1f8", func := "mortmain/mortmainlaw04.CountParts", spec := "countParts", unfollowed := true, recurses := true, apart := false }
def CountPartsSaid : Prop := countPartsRow.holds Try.pinned (OpenSpec.ofChange countPartsSpec)

/-- ITS FALSE NEIGHBOUR: 'it returns false'. Refute it at one input. -/
def countPartsWrong : ChangeSpec := { name := "countParts", fn := fun _ => fun
  | [d1, d2, d3] => { results := [.lit (.bool false)], args := [d1, d2, d3] }
  | _ => none }
def CountPartsWrongFalsely : Prop := countPartsRow.holds Try.pinned (OpenSpec.ofChange countPartsWrong)

/-- 'mortmainlaw04.CountOrder': WHATEVER THE INPUT: true; the input reads as it did. -/
def countOrderSpec : ChangeSpec := { name := "countOrder", fn := fun _ => fun
  | [d1, d2, d3] => { results := [.lit (.bool true)], args := [d1, d2, d3] }
  | _ => none }
def countOrderRow : OpenClaim := { program := "ytkfpomkabjdcaaa", sum := "9a79ad09e26042aebafa46df3b7b5bc52e6d930611275cf4dadd6f8ca8ceb1f8", func := "mortmain/mortmainlaw04.CountOrder", spec := "countOrder", unfollowed := true, recurses := true, apart := false }
def CountOrderSaid : Prop := countOrderRow.holds Try.pinned (OpenSpec.ofChange countOrderSpec)

/-- ITS FALSE NEIGHBOUR: 'it returns false'. Refute it at one input. -/
def countOrderWrong : ChangeSpec := { name := "countOrder", fn := fun _ => fun
  | [d1, d2, d3] => { results := [.lit (.bool false)], args := [d1, d2, d3] }
  | _ => none }
def CountOrderWrongFalsely : Prop := countOrderRow.holds Try.pinned (OpenSpec.ofChange countOrderWrong)

/-- 'mortmainlaw05.VecActs': WHATEVER THE INPUT: true; the input reads as it did. -/
def vecActsSpec : ChangeSpec := { name := "vecActs", fn := fun _ => fun
  | [d1, d2, d3, d4] => { results := [.lit (.bool true)], args := [d1, d2, d3, d4] }
  | _ => none }
def vecActsRow : OpenClaim := { program := "ytkfpomkabjdcaaa", sum := "9a79ad09e26042aebafa46df3b7b5bc52e6d930611275cf4dadd6f8ca8ceb1f8", func := "mortmain/mortmainlaw05.VecActs", spec := "vecActs", unfollowed := true, recurses := true, apart := false }
def VecActsSaid : Prop := vecActsRow.holds Try.pinned (OpenSpec.ofChange vecActsSpec)

/-- ITS FALSE NEIGHBOUR: 'it returns false'. Refute it at one input. -/
def vecActsWrong : ChangeSpec := { name := "vecActs", fn := fun _ => fun
  | [d1, d2, d3, d4] => { results := [.lit (.bool false)], args := [d1, d2, d3, d4] }
  | _ => none }
def VecActsWrongFalsely : Prop := vecActsRow.holds Try.pinned (OpenSpec.ofChange vecActsWrong)

/- THE SECOND FORM. 'bulk': how many values and letters a reading holds, each counted each time it is reached (what is shared counts as often as it is met; a slice's spare places count too). A statement '..UptoSaid' is the law's where the arguments, and the package variables that the reading takes, are together of bulk at most 1048576: NARROWER than '..Said'. Prove '..Said' where nothing that the law and all that it calls make is longer than what came in: it says more and counts as full. Else prove '..UptoSaid'. A law counts once. -/
mutual
def uptoBulk {H : Type} : DataW H → Nat
  | .lit (.string bytes) => bytes.length + 1
  | .lit _ => 1
  | .nil => 1
  | .ptr d => uptoBulk d + 1
  | .slice elems spare => uptoBulkAll elems + uptoBulkAll spare + 1
  | .agg parts => uptoBulkAll parts + 1
  | .iface _ d => uptoBulk d + 1
  | .map entries => uptoBulkEntries entries + 1
  | .held _ => 1
def uptoBulkAll {H : Type} : List (DataW H) → Nat
  | [] => 0
  | d :: r => uptoBulk d + uptoBulkAll r
def uptoBulkEntries {H : Type} : List (Lit × DataW H) → Nat
  | [] => 0
  | x :: r => uptoBulkEntry x + uptoBulkEntries r
def uptoBulkEntry {H : Type} : Lit × DataW H → Nat
  | (.string bytes, d) => bytes.length + uptoBulk d + 1
  | (_, d) => uptoBulk d + 1
 end
def uptoSmall : (H : Type) → List (DataW H) → Bool := fun _ ds => decide (uptoBulkAll ds ≤ 1048576)
def OpenSpec.upto (s : _root_.Go.ChangeSpec) : _root_.Go.OpenSpec := { _root_.Go.OpenSpec.ofChange s with cond := some uptoSmall }

/-- 'mortmainlaw01.HandleTells', WHERE WHAT IT READS IS OF BULK AT MOST 1048576: true; the input reads as it did. -/
def handleTellsUptoRow : OpenClaim := { program := "ytkfpomkabjdcaaa", sum := "9a79ad09e26042aebafa46df3b7b5bc52e6d930611275cf4dadd6f8ca8ceb1f8", func := "mortmain/mortmainlaw01.HandleTells", spec := "handleTells", apart := false, narrowed := true }
def HandleTellsUptoSaid : Prop := handleTellsUptoRow.holds Try.pinned (OpenSpec.upto handleTellsSpec)

/-- 'mortmainlaw01.HandleBack', WHERE WHAT IT READS IS OF BULK AT MOST 1048576: true; the input reads as it did. -/
def handleBackUptoRow : OpenClaim := { program := "ytkfpomkabjdcaaa", sum := "9a79ad09e26042aebafa46df3b7b5bc52e6d930611275cf4dadd6f8ca8ceb1f8", func := "mortmain/mortmainlaw01.HandleBack", spec := "handleBack", apart := false, narrowed := true }
def HandleBackUptoSaid : Prop := handleBackUptoRow.holds Try.pinned (OpenSpec.upto handleBackSpec)

/-- 'mortmainlaw01.HandleApart', WHERE WHAT IT READS IS OF BULK AT MOST 1048576: true; the input reads as it did. -/
def handleApartUptoRow : OpenClaim := { program := "ytkfpomkabjdcaaa", sum := "9a79ad09e26042aebafa46df3b7b5bc52e6d930611275cf4dadd6f8ca8ceb1f8", func := "mortmain/mortmainlaw01.HandleApart", spec := "handleApart", apart := false, narrowed := true }
def HandleApartUptoSaid : Prop := handleApartUptoRow.holds Try.pinned (OpenSpec.upto handleApartSpec)

/-- 'mortmainlaw01.HandleNext', WHERE WHAT IT READS IS OF BULK AT MOST 1048576: true; the input reads as it did. -/
def handleNextUptoRow : OpenClaim := { program := "ytkfpomkabjdcaaa", sum := "9a79ad09e26042aebafa46df3b7b5bc52e6d930611275cf4dadd6f8ca8ceb1f8", func := "mortmain/mortmainlaw01.HandleNext", spec := "handleNext", apart := false, narrowed := true }
def HandleNextUptoSaid : Prop := handleNextUptoRow.holds Try.pinned (OpenSpec.upto handleNextSpec)

/-- 'mortmainlaw01.HandleWalk', WHERE WHAT IT READS IS OF BULK AT MOST 1048576: true; the input reads as it did. -/
def handleWalkUptoRow : OpenClaim := { program := "ytkfpomkabjdcaaa", sum := "9a79ad09e26042aebafa46df3b7b5bc52e6d930611275cf4dadd6f8ca8ceb1f8", func := "mortmain/mortmainlaw01.HandleWalk", spec := "handleWalk", apart := false, narrowed := true }
def HandleWalkUptoSaid : Prop := handleWalkUptoRow.holds Try.pinned (OpenSpec.upto handleWalkSpec)

/-- 'mortmainlaw04.CountActs', WHERE WHAT IT READS IS OF BULK AT MOST 1048576: true; the input reads as it did. -/
def countActsUptoRow : OpenClaim := { program := "ytkfpomkabjdcaaa", sum := "9a79ad09e26042aebafa46df3b7b5bc52e6d930611275cf4dadd6f8ca8ceb1f8", func := "mortmain/mortmainlaw04.CountActs", spec := "countActs", unfollowed := true, recurses := true, apart := false, narrowed := true }
def CountActsUptoSaid : Prop := countActsUptoRow.holds Try.pinned (OpenSpec.upto countActsSpec)

/-- 'mortmainlaw04.CountBack', WHERE WHAT IT READS IS OF BULK AT MOST 1048576: true; the input reads as it did. -/
def countBackUptoRow : OpenClaim := { program := "ytkfpomkabjdcaaa", sum := "9a79ad09e26042aebafa46df3b7b5bc52e6d930611275cf4dadd6f8ca8ceb1f8", func := "mortmain/mortmainlaw04.CountBack", spec := "countBack", unfollowed := true, recurses := true, apart := false, narrowed := true }
def CountBackUptoSaid : Prop := countBackUptoRow.holds Try.pinned (OpenSpec.upto countBackSpec)

/-- 'mortmainlaw04.CountStuck', WHERE WHAT IT READS IS OF BULK AT MOST 1048576: true; the input reads as it did. -/
def countStuckUptoRow : OpenClaim := { program := "ytkfpomkabjdcaaa", sum := "9a79ad09e26042aebafa46df3b7b5bc52e6d930611275cf4dadd6f8ca8ceb1f8", func := "mortmain/mortmainlaw04.CountStuck", spec := "countStuck", unfollowed := true, recurses := true, apart := false, narrowed := true }
def CountStuckUptoSaid : Prop := countStuckUptoRow.holds Try.pinned (OpenSpec.upto countStuckSpec)

/-- 'mortmainlaw04.CountSums', WHERE WHAT IT READS IS OF BULK AT MOST 1048576: true; the input reads as it did. -/
def countSumsUptoRow : OpenClaim := { program := "ytkfpomkabjdcaaa", sum := "9a79ad09e26042aebafa46df3b7b5bc52e6d930611275cf4dadd6f8ca8ceb1f8", func := "mortmain/mortmainlaw04.CountSums", spec := "countSums", unfollowed := true, recurses := true, apart := false, narrowed := true }
def CountSumsUptoSaid : Prop := countSumsUptoRow.holds Try.pinned (OpenSpec.upto countSumsSpec)

/-- 'mortmainlaw04.CountParts', WHERE WHAT IT READS IS OF BULK AT MOST 1048576: true; the input reads as it did. -/
def countPartsUptoRow : OpenClaim := { program := "ytkfpomkabjdcaaa", sum := "9a79ad09e26042aebafa46df3b7b5bc52e6d930611275cf4dadd6f8ca8ceb1f8", func := "mortmain/mortmainlaw04.CountParts", spec := "countParts", unfollowed := true, recurses := true, apart := false, narrowed := true }
def CountPartsUptoSaid : Prop := countPartsUptoRow.holds Try.pinned (OpenSpec.upto countPartsSpec)

/-- 'mortmainlaw04.CountOrder', WHERE WHAT IT READS IS OF BULK AT MOST 1048576: true; the input reads as it did. -/
def countOrderUptoRow : OpenClaim := { program := "ytkfpomkabjdcaaa", sum := "9a79ad09e26042aebafa46df3b7b5bc52e6d930611275cf4dadd6f8ca8ceb1f8", func := "mortmain/mortmainlaw04.CountOrder", spec := "countOrder", unfollowed := true, recurses := true, apart := false, narrowed := true }
def CountOrderUptoSaid : Prop := countOrderUptoRow.holds Try.pinned (OpenSpec.upto countOrderSpec)

/-- 'mortmainlaw05.VecActs', WHERE WHAT IT READS IS OF BULK AT MOST 1048576: true; the input reads as it did. -/
def vecActsUptoRow : OpenClaim := { program := "ytkfpomkabjdcaaa", sum := "9a79ad09e26042aebafa46df3b7b5bc52e6d930611275cf4dadd6f8ca8ceb1f8", func := "mortmain/mortmainlaw05.VecActs", spec := "vecActs", unfollowed := true, recurses := true, apart := false, narrowed := true }
def VecActsUptoSaid : Prop := vecActsUptoRow.holds Try.pinned (OpenSpec.upto vecActsSpec)

end Rows
end Go.Proofs.Ytkfpomkabjdcaaa
