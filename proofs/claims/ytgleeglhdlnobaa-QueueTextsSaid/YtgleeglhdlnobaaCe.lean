/-
  A cell known in a world.
  Conditions: none.
-/
import Derived.Test.YtgleeglhdlnobaaBs
namespace Go.Proofs.Ytgleeglhdlnobaa.Ce
open Go.RowKit Bs
set_option linter.unusedVariables false
/-- What cell k of block b holds. -/
def Ce (w : World) (b k : Nat) (v : Value) : Prop := b < w.heap.size ∧ w.cell? ⟨b, k, none⟩ = some v
theorem Ce.below {w w' : World} {b k : Nat} {v : Value} (h : Ce w b k v) (hb : Below w.heap.size w w') : Ce w' b k v :=
  ⟨Nat.lt_of_lt_of_le h.1 hb.size, (hb.cell (p := ⟨b, k, none⟩) h.1).trans h.2⟩
end Go.Proofs.Ytgleeglhdlnobaa.Ce
