/-
  No cell of these rows narrows 'for every input' (looked for: loops, veiled, ifaces, maps, wideKeys, modest, calm, conditions, laid).
  DERIVED. THE GIVEN ROWS OF THIS SEAT. 7 by the template 'for every input the law returns true; each argument reads behind the call as it read before'; 0 by the template 'total and deterministic' (their statements: YtmgbbnfgfmfgaaaGreatTotals.lean).
  GIVEN WITH THE SEED: the statements are not yours to turn. If you find one false, say at which input.
  Laid BY PROGRAM, IN A SANDBOX (cutbox-rows.mjs): the forced cells as the released guide's own fill.sh prints them over the translation 98cf6412525d83e0… (all of the seat's roots in one cut). By AI agents, Wed Nov 11 2026. No macro, syntax, notation, axiom, sorry.
-/
import Derived.Test.YtmgbbnfgfmfgaaaGreatChecked
import GoSem.Claim
import GoSem.ClaimJoined
import GoSem.ClaimMapViews
import Derived.JoinedTies
import Derived.KernelRfl
namespace Go.Proofs.YtmgbbnfgfmfgaaaGreat
/- THE CELL 'sum', in the pinned program and in every row, IS THE sha256 OF THE DUMP (.gsa) THAT YtmgbbnfgfmfgaaaGreatProg.lean LOADS. Nothing in Lean hashes anything: it is a label: what it is worth is what the hold of that sum in a sandbox is worth. -/
noncomputable def Tryz.pinned : Pinned := { name := "ytmgbbnfgfmfgaaagreat", sum := "98cf6412525d83e09bb83b53f29fe30d3bd6bb1889ce41bdbabfa3105831b5d7", checked := Tryz.checked }
namespace Rows
def none {H : Type} : Left H := { results := [], args := [] }

/-- 'mortmainlaw22.ModelRuns': WHATEVER THE INPUT: true; the input reads as it did. -/
def modelRunsSpec : ChangeSpec := { name := "modelRuns", fn := fun _ => fun
  | [d1, d2, d3, d4, d5, d6] => { results := [.lit (.bool true)], args := [d1, d2, d3, d4, d5, d6] }
  | _ => none }
def modelRunsRow : OpenClaim := { program := "ytmgbbnfgfmfgaaagreat", sum := "98cf6412525d83e09bb83b53f29fe30d3bd6bb1889ce41bdbabfa3105831b5d7", func := "mortmain/mortmainlaw22.ModelRuns", spec := "modelRuns", unfollowed := true, recurses := true, apart := false }
def ModelRunsSaid : Prop := modelRunsRow.holds Tryz.pinned (OpenSpec.ofChange modelRunsSpec)

/-- ITS FALSE NEIGHBOUR: 'it returns false'. Refute it at one input. -/
def modelRunsWrong : ChangeSpec := { name := "modelRuns", fn := fun _ => fun
  | [d1, d2, d3, d4, d5, d6] => { results := [.lit (.bool false)], args := [d1, d2, d3, d4, d5, d6] }
  | _ => none }
def ModelRunsWrongFalsely : Prop := modelRunsRow.holds Tryz.pinned (OpenSpec.ofChange modelRunsWrong)

/-- 'mortmainlaw22.ModelEngine': WHATEVER THE INPUT: true; the input reads as it did. -/
def modelEngineSpec : ChangeSpec := { name := "modelEngine", fn := fun _ => fun
  | [d1, d2, d3, d4, d5] => { results := [.lit (.bool true)], args := [d1, d2, d3, d4, d5] }
  | _ => none }
def modelEngineRow : OpenClaim := { program := "ytmgbbnfgfmfgaaagreat", sum := "98cf6412525d83e09bb83b53f29fe30d3bd6bb1889ce41bdbabfa3105831b5d7", func := "mortmain/mortmainlaw22.ModelEngine", spec := "modelEngine", unfollowed := true, recurses := true, apart := false }
def ModelEngineSaid : Prop := modelEngineRow.holds Tryz.pinned (OpenSpec.ofChange modelEngineSpec)

/-- ITS FALSE NEIGHBOUR: 'it returns false'. Refute it at one input. -/
def modelEngineWrong : ChangeSpec := { name := "modelEngine", fn := fun _ => fun
  | [d1, d2, d3, d4, d5] => { results := [.lit (.bool false)], args := [d1, d2, d3, d4, d5] }
  | _ => none }
def ModelEngineWrongFalsely : Prop := modelEngineRow.holds Tryz.pinned (OpenSpec.ofChange modelEngineWrong)

/-- 'mortmainlaw22.ModelCounts': WHATEVER THE INPUT: true; the input reads as it did. -/
def modelCountsSpec : ChangeSpec := { name := "modelCounts", fn := fun _ => fun
  | [d1, d2, d3, d4] => { results := [.lit (.bool true)], args := [d1, d2, d3, d4] }
  | _ => none }
def modelCountsRow : OpenClaim := { program := "ytmgbbnfgfmfgaaagreat", sum := "98cf6412525d83e09bb83b53f29fe30d3bd6bb1889ce41bdbabfa3105831b5d7", func := "mortmain/mortmainlaw22.ModelCounts", spec := "modelCounts", unfollowed := true, recurses := true, apart := false }
def ModelCountsSaid : Prop := modelCountsRow.holds Tryz.pinned (OpenSpec.ofChange modelCountsSpec)

/-- ITS FALSE NEIGHBOUR: 'it returns false'. Refute it at one input. -/
def modelCountsWrong : ChangeSpec := { name := "modelCounts", fn := fun _ => fun
  | [d1, d2, d3, d4] => { results := [.lit (.bool false)], args := [d1, d2, d3, d4] }
  | _ => none }
def ModelCountsWrongFalsely : Prop := modelCountsRow.holds Tryz.pinned (OpenSpec.ofChange modelCountsWrong)

/-- 'mortmainlaw22.ModelWeak': WHATEVER THE INPUT: true; the input reads as it did. -/
def modelWeakSpec : ChangeSpec := { name := "modelWeak", fn := fun _ => fun
  | [d1, d2, d3, d4, d5, d6] => { results := [.lit (.bool true)], args := [d1, d2, d3, d4, d5, d6] }
  | _ => none }
def modelWeakRow : OpenClaim := { program := "ytmgbbnfgfmfgaaagreat", sum := "98cf6412525d83e09bb83b53f29fe30d3bd6bb1889ce41bdbabfa3105831b5d7", func := "mortmain/mortmainlaw22.ModelWeak", spec := "modelWeak", unfollowed := true, recurses := true, apart := false }
def ModelWeakSaid : Prop := modelWeakRow.holds Tryz.pinned (OpenSpec.ofChange modelWeakSpec)

/-- ITS FALSE NEIGHBOUR: 'it returns false'. Refute it at one input. -/
def modelWeakWrong : ChangeSpec := { name := "modelWeak", fn := fun _ => fun
  | [d1, d2, d3, d4, d5, d6] => { results := [.lit (.bool false)], args := [d1, d2, d3, d4, d5, d6] }
  | _ => none }
def ModelWeakWrongFalsely : Prop := modelWeakRow.holds Tryz.pinned (OpenSpec.ofChange modelWeakWrong)

/-- 'mortmainlaw22.ModelNames': WHATEVER THE INPUT: true; the input reads as it did. -/
def modelNamesSpec : ChangeSpec := { name := "modelNames", fn := fun _ => fun
  | [d1, d2, d3, d4] => { results := [.lit (.bool true)], args := [d1, d2, d3, d4] }
  | _ => none }
def modelNamesRow : OpenClaim := { program := "ytmgbbnfgfmfgaaagreat", sum := "98cf6412525d83e09bb83b53f29fe30d3bd6bb1889ce41bdbabfa3105831b5d7", func := "mortmain/mortmainlaw22.ModelNames", spec := "modelNames", unfollowed := true, recurses := true, apart := false }
def ModelNamesSaid : Prop := modelNamesRow.holds Tryz.pinned (OpenSpec.ofChange modelNamesSpec)

/-- ITS FALSE NEIGHBOUR: 'it returns false'. Refute it at one input. -/
def modelNamesWrong : ChangeSpec := { name := "modelNames", fn := fun _ => fun
  | [d1, d2, d3, d4] => { results := [.lit (.bool false)], args := [d1, d2, d3, d4] }
  | _ => none }
def ModelNamesWrongFalsely : Prop := modelNamesRow.holds Tryz.pinned (OpenSpec.ofChange modelNamesWrong)

/-- 'mortmainlaw22.ModelGoesOn': WHATEVER THE INPUT: true; the input reads as it did. -/
def modelGoesOnSpec : ChangeSpec := { name := "modelGoesOn", fn := fun _ => fun
  | [d1, d2, d3, d4, d5] => { results := [.lit (.bool true)], args := [d1, d2, d3, d4, d5] }
  | _ => none }
def modelGoesOnRow : OpenClaim := { program := "ytmgbbnfgfmfgaaagreat", sum := "98cf6412525d83e09bb83b53f29fe30d3bd6bb1889ce41bdbabfa3105831b5d7", func := "mortmain/mortmainlaw22.ModelGoesOn", spec := "modelGoesOn", unfollowed := true, recurses := true, apart := false }
def ModelGoesOnSaid : Prop := modelGoesOnRow.holds Tryz.pinned (OpenSpec.ofChange modelGoesOnSpec)

/-- ITS FALSE NEIGHBOUR: 'it returns false'. Refute it at one input. -/
def modelGoesOnWrong : ChangeSpec := { name := "modelGoesOn", fn := fun _ => fun
  | [d1, d2, d3, d4, d5] => { results := [.lit (.bool false)], args := [d1, d2, d3, d4, d5] }
  | _ => none }
def ModelGoesOnWrongFalsely : Prop := modelGoesOnRow.holds Tryz.pinned (OpenSpec.ofChange modelGoesOnWrong)

/-- 'mortmainlaw22.ModelSlots': WHATEVER THE INPUT: true; the input reads as it did. -/
def modelSlotsSpec : ChangeSpec := { name := "modelSlots", fn := fun _ => fun
  | [d1, d2, d3, d4] => { results := [.lit (.bool true)], args := [d1, d2, d3, d4] }
  | _ => none }
def modelSlotsRow : OpenClaim := { program := "ytmgbbnfgfmfgaaagreat", sum := "98cf6412525d83e09bb83b53f29fe30d3bd6bb1889ce41bdbabfa3105831b5d7", func := "mortmain/mortmainlaw22.ModelSlots", spec := "modelSlots", unfollowed := true, recurses := true, apart := false }
def ModelSlotsSaid : Prop := modelSlotsRow.holds Tryz.pinned (OpenSpec.ofChange modelSlotsSpec)

/-- ITS FALSE NEIGHBOUR: 'it returns false'. Refute it at one input. -/
def modelSlotsWrong : ChangeSpec := { name := "modelSlots", fn := fun _ => fun
  | [d1, d2, d3, d4] => { results := [.lit (.bool false)], args := [d1, d2, d3, d4] }
  | _ => none }
def ModelSlotsWrongFalsely : Prop := modelSlotsRow.holds Tryz.pinned (OpenSpec.ofChange modelSlotsWrong)

/- THE SECOND FORM. 'bulk': how many values and letters a reading holds, each counted each time it is reached (what is shared counts as often as it is met; a slice's spare places count too). A statement '..UptoSaid' is the law's where the arguments, and the package variables that the reading takes, are together of bulk at most 1048576: NARROWER than '..Said'. Prove '..Said' where nothing that the law and all that it calls make is longer than what came in: it says more and counts as full. Else prove '..UptoSaid'. A law counts once. -/
mutual
def uptoBulk {H : Type} : DataW H → Nat
  | .lit (.string bytes) => bytes.length + 1
  | .lit _ => 1
  | .nil => 1
  | .ptr d => uptoBulk d + 1
  | .slice elems spare => uptoBulkAll elems + uptoBulkAll spare + 1
  | .agg parts => uptoBulkAll parts + 1
  | .iface _ d => uptoBulk d + 1
  | .map entries => uptoBulkEntries entries + 1
  | .held _ => 1
def uptoBulkAll {H : Type} : List (DataW H) → Nat
  | [] => 0
  | d :: r => uptoBulk d + uptoBulkAll r
def uptoBulkEntries {H : Type} : List (Lit × DataW H) → Nat
  | [] => 0
  | x :: r => uptoBulkEntry x + uptoBulkEntries r
def uptoBulkEntry {H : Type} : Lit × DataW H → Nat
  | (.string bytes, d) => bytes.length + uptoBulk d + 1
  | (_, d) => uptoBulk d + 1
 end
def uptoSmall : (H : Type) → List (DataW H) → Bool := fun _ ds => decide (uptoBulkAll ds ≤ 1048576)
def OpenSpec.upto (s : _root_.Go.ChangeSpec) : _root_.Go.OpenSpec := { _root_.Go.OpenSpec.ofChange s with cond := some uptoSmall }

/-- 'mortmainlaw22.ModelRuns', WHERE WHAT IT READS IS OF BULK AT MOST 1048576: true; the input reads as it did. -/
def modelRunsUptoRow : OpenClaim := { program := "ytmgbbnfgfmfgaaagreat", sum := "98cf6412525d83e09bb83b53f29fe30d3bd6bb1889ce41bdbabfa3105831b5d7", func := "mortmain/mortmainlaw22.ModelRuns", spec := "modelRuns", unfollowed := true, recurses := true, apart := false, narrowed := true }
def ModelRunsUptoSaid : Prop := modelRunsUptoRow.holds Tryz.pinned (OpenSpec.upto modelRunsSpec)

/-- 'mortmainlaw22.ModelEngine', WHERE WHAT IT READS IS OF BULK AT MOST 1048576: true; the input reads as it did. -/
def modelEngineUptoRow : OpenClaim := { program := "ytmgbbnfgfmfgaaagreat", sum := "98cf6412525d83e09bb83b53f29fe30d3bd6bb1889ce41bdbabfa3105831b5d7", func := "mortmain/mortmainlaw22.ModelEngine", spec := "modelEngine", unfollowed := true, recurses := true, apart := false, narrowed := true }
def ModelEngineUptoSaid : Prop := modelEngineUptoRow.holds Tryz.pinned (OpenSpec.upto modelEngineSpec)

/-- 'mortmainlaw22.ModelCounts', WHERE WHAT IT READS IS OF BULK AT MOST 1048576: true; the input reads as it did. -/
def modelCountsUptoRow : OpenClaim := { program := "ytmgbbnfgfmfgaaagreat", sum := "98cf6412525d83e09bb83b53f29fe30d3bd6bb1889ce41bdbabfa3105831b5d7", func := "mortmain/mortmainlaw22.ModelCounts", spec := "modelCounts", unfollowed := true, recurses := true, apart := false, narrowed := true }
def ModelCountsUptoSaid : Prop := modelCountsUptoRow.holds Tryz.pinned (OpenSpec.upto modelCountsSpec)

/-- 'mortmainlaw22.ModelWeak', WHERE WHAT IT READS IS OF BULK AT MOST 1048576: true; the input reads as it did. -/
def modelWeakUptoRow : OpenClaim := { program := "ytmgbbnfgfmfgaaagreat", sum := "98cf6412525d83e09bb83b53f29fe30d3bd6bb1889ce41bdbabfa3105831b5d7", func := "mortmain/mortmainlaw22.ModelWeak", spec := "modelWeak", unfollowed := true, recurses := true, apart := false, narrowed := true }
def ModelWeakUptoSaid : Prop := modelWeakUptoRow.holds Tryz.pinned (OpenSpec.upto modelWeakSpec)

/-- 'mortmainlaw22.ModelNames', WHERE WHAT IT READS IS OF BULK AT MOST 1048576: true; the input reads as it did. -/
def modelNamesUptoRow : OpenClaim := { program := "ytmgbbnfgfmfgaaagreat", sum := "98cf6412525d83e09bb83b53f29fe30d3bd6bb1889ce41bdbabfa3105831b5d7", func := "mortmain/mortmainlaw22.ModelNames", spec := "modelNames", unfollowed := true, recurses := true, apart := false, narrowed := true }
def ModelNamesUptoSaid : Prop := modelNamesUptoRow.holds Tryz.pinned (OpenSpec.upto modelNamesSpec)

/-- 'mortmainlaw22.ModelGoesOn', WHERE WHAT IT READS IS OF BULK AT MOST 1048576: true; the input reads as it did. -/
def modelGoesOnUptoRow : OpenClaim := { program := "ytmgbbnfgfmfgaaagreat", sum := "98cf6412525d83e09bb83b53f29fe30d3bd6bb1889ce41bdbabfa3105831b5d7", func := "mortmain/mortmainlaw22.ModelGoesOn", spec := "modelGoesOn", unfollowed := true, recurses := true, apart := false, narrowed := true }
def ModelGoesOnUptoSaid : Prop := modelGoesOnUptoRow.holds Tryz.pinned (OpenSpec.upto modelGoesOnSpec)

/-- 'mortmainlaw22.ModelSlots', WHERE WHAT IT READS IS OF BULK AT MOST 1048576: true; the input reads as it did. -/
def modelSlotsUptoRow : OpenClaim := { program := "ytmgbbnfgfmfgaaagreat", sum := "98cf6412525d83e09bb83b53f29fe30d3bd6bb1889ce41bdbabfa3105831b5d7", func := "mortmain/mortmainlaw22.ModelSlots", spec := "modelSlots", unfollowed := true, recurses := true, apart := false, narrowed := true }
def ModelSlotsUptoSaid : Prop := modelSlotsUptoRow.holds Tryz.pinned (OpenSpec.upto modelSlotsSpec)

end Rows
end Go.Proofs.YtmgbbnfgfmfgaaaGreat
