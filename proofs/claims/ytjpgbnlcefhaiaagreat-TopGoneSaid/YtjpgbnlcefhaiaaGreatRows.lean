/-
  No cell of these rows narrows 'for every input' (looked for: loops, veiled, ifaces, maps, wideKeys, modest, calm, conditions, laid).
  DERIVED. THE GIVEN ROWS OF THIS SEAT. 10 by the template 'for every input the law returns true; each argument reads behind the call as it read before'; 0 by the template 'total and deterministic' (their statements: YtjpgbnlcefhaiaaGreatTotals.lean).
  GIVEN WITH THE SEED: the statements are not yours to turn. If you find one false, say at which input.
  Laid BY PROGRAM, IN A SANDBOX (cutbox-rows.mjs): the forced cells as the released guide's own fill.sh prints them over the translation 43da5dc08d4f012a… (all of the seat's roots in one cut). By AI agents, Wed Nov 11 2026. No macro, syntax, notation, axiom, sorry.
-/
import Derived.Test.YtjpgbnlcefhaiaaGreatChecked
import GoSem.Claim
import GoSem.ClaimJoined
import GoSem.ClaimMapViews
import Derived.JoinedTies
import Derived.KernelRfl
namespace Go.Proofs.YtjpgbnlcefhaiaaGreat
/- THE CELL 'sum', in the pinned program and in every row, IS THE sha256 OF THE DUMP (.gsa) THAT YtjpgbnlcefhaiaaGreatProg.lean LOADS. Nothing in Lean hashes anything: it is a label: what it is worth is what the hold of that sum in a sandbox is worth. -/
noncomputable def Tryz.pinned : Pinned := { name := "ytjpgbnlcefhaiaagreat", sum := "43da5dc08d4f012a3e3d1404d645ba83f5df53ccab9c74237fe5446313442c55", checked := Tryz.checked }
namespace Rows
def none {H : Type} : Left H := { results := [], args := [] }

/-- 'mortmaintop.TopGone': WHATEVER THE INPUT: true; the input reads as it did. -/
def topGoneSpec : ChangeSpec := { name := "topGone", fn := fun _ => fun
  | [d1, d2] => { results := [.lit (.bool true)], args := [d1, d2] }
  | _ => none }
def topGoneRow : OpenClaim := { program := "ytjpgbnlcefhaiaagreat", sum := "43da5dc08d4f012a3e3d1404d645ba83f5df53ccab9c74237fe5446313442c55", func := "mortmain/mortmaintop.TopGone", spec := "topGone", unfollowed := true, recurses := true, apart := false }
def TopGoneSaid : Prop := topGoneRow.holds Tryz.pinned (OpenSpec.ofChange topGoneSpec)

/-- ITS FALSE NEIGHBOUR: 'it returns false'. Refute it at one input. -/
def topGoneWrong : ChangeSpec := { name := "topGone", fn := fun _ => fun
  | [d1, d2] => { results := [.lit (.bool false)], args := [d1, d2] }
  | _ => none }
def TopGoneWrongFalsely : Prop := topGoneRow.holds Tryz.pinned (OpenSpec.ofChange topGoneWrong)

/-- 'mortmaintop.TopList': WHATEVER THE INPUT: true; the input reads as it did. -/
def topListSpec : ChangeSpec := { name := "topList", fn := fun _ => fun
  | [d] => { results := [.lit (.bool true)], args := [d] }
  | _ => none }
def topListRow : OpenClaim := { program := "ytjpgbnlcefhaiaagreat", sum := "43da5dc08d4f012a3e3d1404d645ba83f5df53ccab9c74237fe5446313442c55", func := "mortmain/mortmaintop.TopList", spec := "topList", unfollowed := true, recurses := true, apart := false }
def TopListSaid : Prop := topListRow.holds Tryz.pinned (OpenSpec.ofChange topListSpec)

/-- ITS FALSE NEIGHBOUR: 'it returns false'. Refute it at one input. -/
def topListWrong : ChangeSpec := { name := "topList", fn := fun _ => fun
  | [d] => { results := [.lit (.bool false)], args := [d] }
  | _ => none }
def TopListWrongFalsely : Prop := topListRow.holds Tryz.pinned (OpenSpec.ofChange topListWrong)

/-- 'mortmaintop.TopWeak': WHATEVER THE INPUT: true; the input reads as it did. -/
def topWeakSpec : ChangeSpec := { name := "topWeak", fn := fun _ => fun
  | [d1, d2] => { results := [.lit (.bool true)], args := [d1, d2] }
  | _ => none }
def topWeakRow : OpenClaim := { program := "ytjpgbnlcefhaiaagreat", sum := "43da5dc08d4f012a3e3d1404d645ba83f5df53ccab9c74237fe5446313442c55", func := "mortmain/mortmaintop.TopWeak", spec := "topWeak", unfollowed := true, recurses := true, apart := false }
def TopWeakSaid : Prop := topWeakRow.holds Tryz.pinned (OpenSpec.ofChange topWeakSpec)

/-- ITS FALSE NEIGHBOUR: 'it returns false'. Refute it at one input. -/
def topWeakWrong : ChangeSpec := { name := "topWeak", fn := fun _ => fun
  | [d1, d2] => { results := [.lit (.bool false)], args := [d1, d2] }
  | _ => none }
def TopWeakWrongFalsely : Prop := topWeakRow.holds Tryz.pinned (OpenSpec.ofChange topWeakWrong)

/-- 'mortmaintop.TopOnce': WHATEVER THE INPUT: true; the input reads as it did. -/
def topOnceSpec : ChangeSpec := { name := "topOnce", fn := fun _ => fun
  | [d1, d2] => { results := [.lit (.bool true)], args := [d1, d2] }
  | _ => none }
def topOnceRow : OpenClaim := { program := "ytjpgbnlcefhaiaagreat", sum := "43da5dc08d4f012a3e3d1404d645ba83f5df53ccab9c74237fe5446313442c55", func := "mortmain/mortmaintop.TopOnce", spec := "topOnce", unfollowed := true, recurses := true, apart := false }
def TopOnceSaid : Prop := topOnceRow.holds Tryz.pinned (OpenSpec.ofChange topOnceSpec)

/-- ITS FALSE NEIGHBOUR: 'it returns false'. Refute it at one input. -/
def topOnceWrong : ChangeSpec := { name := "topOnce", fn := fun _ => fun
  | [d1, d2] => { results := [.lit (.bool false)], args := [d1, d2] }
  | _ => none }
def TopOnceWrongFalsely : Prop := topOnceRow.holds Tryz.pinned (OpenSpec.ofChange topOnceWrong)

/-- 'mortmaintop.TopPairs': WHATEVER THE INPUT: true; the input reads as it did. -/
def topPairsSpec : ChangeSpec := { name := "topPairs", fn := fun _ => fun
  | [d1, d2] => { results := [.lit (.bool true)], args := [d1, d2] }
  | _ => none }
def topPairsRow : OpenClaim := { program := "ytjpgbnlcefhaiaagreat", sum := "43da5dc08d4f012a3e3d1404d645ba83f5df53ccab9c74237fe5446313442c55", func := "mortmain/mortmaintop.TopPairs", spec := "topPairs", unfollowed := true, recurses := true, apart := false }
def TopPairsSaid : Prop := topPairsRow.holds Tryz.pinned (OpenSpec.ofChange topPairsSpec)

/-- ITS FALSE NEIGHBOUR: 'it returns false'. Refute it at one input. -/
def topPairsWrong : ChangeSpec := { name := "topPairs", fn := fun _ => fun
  | [d1, d2] => { results := [.lit (.bool false)], args := [d1, d2] }
  | _ => none }
def TopPairsWrongFalsely : Prop := topPairsRow.holds Tryz.pinned (OpenSpec.ofChange topPairsWrong)

/-- 'mortmaintop.TopRetires': WHATEVER THE INPUT: true; the input reads as it did. -/
def topRetiresSpec : ChangeSpec := { name := "topRetires", fn := fun _ => fun
  | [d1, d2, d3] => { results := [.lit (.bool true)], args := [d1, d2, d3] }
  | _ => none }
def topRetiresRow : OpenClaim := { program := "ytjpgbnlcefhaiaagreat", sum := "43da5dc08d4f012a3e3d1404d645ba83f5df53ccab9c74237fe5446313442c55", func := "mortmain/mortmaintop.TopRetires", spec := "topRetires", unfollowed := true, recurses := true, apart := false }
def TopRetiresSaid : Prop := topRetiresRow.holds Tryz.pinned (OpenSpec.ofChange topRetiresSpec)

/-- ITS FALSE NEIGHBOUR: 'it returns false'. Refute it at one input. -/
def topRetiresWrong : ChangeSpec := { name := "topRetires", fn := fun _ => fun
  | [d1, d2, d3] => { results := [.lit (.bool false)], args := [d1, d2, d3] }
  | _ => none }
def TopRetiresWrongFalsely : Prop := topRetiresRow.holds Tryz.pinned (OpenSpec.ofChange topRetiresWrong)

/-- 'mortmaintop.TopStuck': WHATEVER THE INPUT: true; the input reads as it did. -/
def topStuckSpec : ChangeSpec := { name := "topStuck", fn := fun _ => fun
  | [d] => { results := [.lit (.bool true)], args := [d] }
  | _ => none }
def topStuckRow : OpenClaim := { program := "ytjpgbnlcefhaiaagreat", sum := "43da5dc08d4f012a3e3d1404d645ba83f5df53ccab9c74237fe5446313442c55", func := "mortmain/mortmaintop.TopStuck", spec := "topStuck", unfollowed := true, recurses := true, apart := false }
def TopStuckSaid : Prop := topStuckRow.holds Tryz.pinned (OpenSpec.ofChange topStuckSpec)

/-- ITS FALSE NEIGHBOUR: 'it returns false'. Refute it at one input. -/
def topStuckWrong : ChangeSpec := { name := "topStuck", fn := fun _ => fun
  | [d] => { results := [.lit (.bool false)], args := [d] }
  | _ => none }
def TopStuckWrongFalsely : Prop := topStuckRow.holds Tryz.pinned (OpenSpec.ofChange topStuckWrong)

/-- 'mortmaintop.TopErrors': WHATEVER THE INPUT: true; the input reads as it did. -/
def topErrorsSpec : ChangeSpec := { name := "topErrors", fn := fun _ => fun
  | [d1, d2, d3, d4, d5] => { results := [.lit (.bool true)], args := [d1, d2, d3, d4, d5] }
  | _ => none }
def topErrorsRow : OpenClaim := { program := "ytjpgbnlcefhaiaagreat", sum := "43da5dc08d4f012a3e3d1404d645ba83f5df53ccab9c74237fe5446313442c55", func := "mortmain/mortmaintop.TopErrors", spec := "topErrors", unfollowed := true, recurses := true, apart := false }
def TopErrorsSaid : Prop := topErrorsRow.holds Tryz.pinned (OpenSpec.ofChange topErrorsSpec)

/-- ITS FALSE NEIGHBOUR: 'it returns false'. Refute it at one input. -/
def topErrorsWrong : ChangeSpec := { name := "topErrors", fn := fun _ => fun
  | [d1, d2, d3, d4, d5] => { results := [.lit (.bool false)], args := [d1, d2, d3, d4, d5] }
  | _ => none }
def TopErrorsWrongFalsely : Prop := topErrorsRow.holds Tryz.pinned (OpenSpec.ofChange topErrorsWrong)

/-- 'mortmaintop.TopSerials': WHATEVER THE INPUT: true; the input reads as it did. -/
def topSerialsSpec : ChangeSpec := { name := "topSerials", fn := fun _ => fun
  | [d1, d2, d3] => { results := [.lit (.bool true)], args := [d1, d2, d3] }
  | _ => none }
def topSerialsRow : OpenClaim := { program := "ytjpgbnlcefhaiaagreat", sum := "43da5dc08d4f012a3e3d1404d645ba83f5df53ccab9c74237fe5446313442c55", func := "mortmain/mortmaintop.TopSerials", spec := "topSerials", unfollowed := true, recurses := true, apart := false }
def TopSerialsSaid : Prop := topSerialsRow.holds Tryz.pinned (OpenSpec.ofChange topSerialsSpec)

/-- ITS FALSE NEIGHBOUR: 'it returns false'. Refute it at one input. -/
def topSerialsWrong : ChangeSpec := { name := "topSerials", fn := fun _ => fun
  | [d1, d2, d3] => { results := [.lit (.bool false)], args := [d1, d2, d3] }
  | _ => none }
def TopSerialsWrongFalsely : Prop := topSerialsRow.holds Tryz.pinned (OpenSpec.ofChange topSerialsWrong)

/-- 'mortmaintop.TopSame': WHATEVER THE INPUT: true; the input reads as it did. -/
def topSameSpec : ChangeSpec := { name := "topSame", fn := fun _ => fun
  | [d1, d2, d3, d4] => { results := [.lit (.bool true)], args := [d1, d2, d3, d4] }
  | _ => none }
def topSameRow : OpenClaim := { program := "ytjpgbnlcefhaiaagreat", sum := "43da5dc08d4f012a3e3d1404d645ba83f5df53ccab9c74237fe5446313442c55", func := "mortmain/mortmaintop.TopSame", spec := "topSame", unfollowed := true, recurses := true, apart := false }
def TopSameSaid : Prop := topSameRow.holds Tryz.pinned (OpenSpec.ofChange topSameSpec)

/-- ITS FALSE NEIGHBOUR: 'it returns false'. Refute it at one input. -/
def topSameWrong : ChangeSpec := { name := "topSame", fn := fun _ => fun
  | [d1, d2, d3, d4] => { results := [.lit (.bool false)], args := [d1, d2, d3, d4] }
  | _ => none }
def TopSameWrongFalsely : Prop := topSameRow.holds Tryz.pinned (OpenSpec.ofChange topSameWrong)

/- THE SECOND FORM. 'bulk': how many values and letters a reading holds, each counted each time it is reached (what is shared counts as often as it is met; a slice's spare places count too). A statement '..UptoSaid' is the law's where the arguments, and the package variables that the reading takes, are together of bulk at most 1048576: NARROWER than '..Said'. Prove '..Said' where nothing that the law and all that it calls make is longer than what came in: it says more and counts as full. Else prove '..UptoSaid'. A law counts once. -/
mutual
def uptoBulk {H : Type} : DataW H → Nat
  | .lit (.string bytes) => bytes.length + 1
  | .lit _ => 1
  | .nil => 1
  | .ptr d => uptoBulk d + 1
  | .slice elems spare => uptoBulkAll elems + uptoBulkAll spare + 1
  | .agg parts => uptoBulkAll parts + 1
  | .iface _ d => uptoBulk d + 1
  | .map entries => uptoBulkEntries entries + 1
  | .held _ => 1
def uptoBulkAll {H : Type} : List (DataW H) → Nat
  | [] => 0
  | d :: r => uptoBulk d + uptoBulkAll r
def uptoBulkEntries {H : Type} : List (Lit × DataW H) → Nat
  | [] => 0
  | x :: r => uptoBulkEntry x + uptoBulkEntries r
def uptoBulkEntry {H : Type} : Lit × DataW H → Nat
  | (.string bytes, d) => bytes.length + uptoBulk d + 1
  | (_, d) => uptoBulk d + 1
 end
def uptoSmall : (H : Type) → List (DataW H) → Bool := fun _ ds => decide (uptoBulkAll ds ≤ 1048576)
def OpenSpec.upto (s : _root_.Go.ChangeSpec) : _root_.Go.OpenSpec := { _root_.Go.OpenSpec.ofChange s with cond := some uptoSmall }

/-- 'mortmaintop.TopGone', WHERE WHAT IT READS IS OF BULK AT MOST 1048576: true; the input reads as it did. -/
def topGoneUptoRow : OpenClaim := { program := "ytjpgbnlcefhaiaagreat", sum := "43da5dc08d4f012a3e3d1404d645ba83f5df53ccab9c74237fe5446313442c55", func := "mortmain/mortmaintop.TopGone", spec := "topGone", unfollowed := true, recurses := true, apart := false, narrowed := true }
def TopGoneUptoSaid : Prop := topGoneUptoRow.holds Tryz.pinned (OpenSpec.upto topGoneSpec)

/-- 'mortmaintop.TopList', WHERE WHAT IT READS IS OF BULK AT MOST 1048576: true; the input reads as it did. -/
def topListUptoRow : OpenClaim := { program := "ytjpgbnlcefhaiaagreat", sum := "43da5dc08d4f012a3e3d1404d645ba83f5df53ccab9c74237fe5446313442c55", func := "mortmain/mortmaintop.TopList", spec := "topList", unfollowed := true, recurses := true, apart := false, narrowed := true }
def TopListUptoSaid : Prop := topListUptoRow.holds Tryz.pinned (OpenSpec.upto topListSpec)

/-- 'mortmaintop.TopWeak', WHERE WHAT IT READS IS OF BULK AT MOST 1048576: true; the input reads as it did. -/
def topWeakUptoRow : OpenClaim := { program := "ytjpgbnlcefhaiaagreat", sum := "43da5dc08d4f012a3e3d1404d645ba83f5df53ccab9c74237fe5446313442c55", func := "mortmain/mortmaintop.TopWeak", spec := "topWeak", unfollowed := true, recurses := true, apart := false, narrowed := true }
def TopWeakUptoSaid : Prop := topWeakUptoRow.holds Tryz.pinned (OpenSpec.upto topWeakSpec)

/-- 'mortmaintop.TopOnce', WHERE WHAT IT READS IS OF BULK AT MOST 1048576: true; the input reads as it did. -/
def topOnceUptoRow : OpenClaim := { program := "ytjpgbnlcefhaiaagreat", sum := "43da5dc08d4f012a3e3d1404d645ba83f5df53ccab9c74237fe5446313442c55", func := "mortmain/mortmaintop.TopOnce", spec := "topOnce", unfollowed := true, recurses := true, apart := false, narrowed := true }
def TopOnceUptoSaid : Prop := topOnceUptoRow.holds Tryz.pinned (OpenSpec.upto topOnceSpec)

/-- 'mortmaintop.TopPairs', WHERE WHAT IT READS IS OF BULK AT MOST 1048576: true; the input reads as it did. -/
def topPairsUptoRow : OpenClaim := { program := "ytjpgbnlcefhaiaagreat", sum := "43da5dc08d4f012a3e3d1404d645ba83f5df53ccab9c74237fe5446313442c55", func := "mortmain/mortmaintop.TopPairs", spec := "topPairs", unfollowed := true, recurses := true, apart := false, narrowed := true }
def TopPairsUptoSaid : Prop := topPairsUptoRow.holds Tryz.pinned (OpenSpec.upto topPairsSpec)

/-- 'mortmaintop.TopRetires', WHERE WHAT IT READS IS OF BULK AT MOST 1048576: true; the input reads as it did. -/
def topRetiresUptoRow : OpenClaim := { program := "ytjpgbnlcefhaiaagreat", sum := "43da5dc08d4f012a3e3d1404d645ba83f5df53ccab9c74237fe5446313442c55", func := "mortmain/mortmaintop.TopRetires", spec := "topRetires", unfollowed := true, recurses := true, apart := false, narrowed := true }
def TopRetiresUptoSaid : Prop := topRetiresUptoRow.holds Tryz.pinned (OpenSpec.upto topRetiresSpec)

/-- 'mortmaintop.TopStuck', WHERE WHAT IT READS IS OF BULK AT MOST 1048576: true; the input reads as it did. -/
def topStuckUptoRow : OpenClaim := { program := "ytjpgbnlcefhaiaagreat", sum := "43da5dc08d4f012a3e3d1404d645ba83f5df53ccab9c74237fe5446313442c55", func := "mortmain/mortmaintop.TopStuck", spec := "topStuck", unfollowed := true, recurses := true, apart := false, narrowed := true }
def TopStuckUptoSaid : Prop := topStuckUptoRow.holds Tryz.pinned (OpenSpec.upto topStuckSpec)

/-- 'mortmaintop.TopErrors', WHERE WHAT IT READS IS OF BULK AT MOST 1048576: true; the input reads as it did. -/
def topErrorsUptoRow : OpenClaim := { program := "ytjpgbnlcefhaiaagreat", sum := "43da5dc08d4f012a3e3d1404d645ba83f5df53ccab9c74237fe5446313442c55", func := "mortmain/mortmaintop.TopErrors", spec := "topErrors", unfollowed := true, recurses := true, apart := false, narrowed := true }
def TopErrorsUptoSaid : Prop := topErrorsUptoRow.holds Tryz.pinned (OpenSpec.upto topErrorsSpec)

/-- 'mortmaintop.TopSerials', WHERE WHAT IT READS IS OF BULK AT MOST 1048576: true; the input reads as it did. -/
def topSerialsUptoRow : OpenClaim := { program := "ytjpgbnlcefhaiaagreat", sum := "43da5dc08d4f012a3e3d1404d645ba83f5df53ccab9c74237fe5446313442c55", func := "mortmain/mortmaintop.TopSerials", spec := "topSerials", unfollowed := true, recurses := true, apart := false, narrowed := true }
def TopSerialsUptoSaid : Prop := topSerialsUptoRow.holds Tryz.pinned (OpenSpec.upto topSerialsSpec)

/-- 'mortmaintop.TopSame', WHERE WHAT IT READS IS OF BULK AT MOST 1048576: true; the input reads as it did. -/
def topSameUptoRow : OpenClaim := { program := "ytjpgbnlcefhaiaagreat", sum := "43da5dc08d4f012a3e3d1404d645ba83f5df53ccab9c74237fe5446313442c55", func := "mortmain/mortmaintop.TopSame", spec := "topSame", unfollowed := true, recurses := true, apart := false, narrowed := true }
def TopSameUptoSaid : Prop := topSameUptoRow.holds Tryz.pinned (OpenSpec.upto topSameSpec)

end Rows
end Go.Proofs.YtjpgbnlcefhaiaaGreat
