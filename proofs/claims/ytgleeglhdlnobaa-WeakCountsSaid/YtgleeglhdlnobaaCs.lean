/-
  Slices of cells, as they are handed in.
  Conditions: what the arguments' reading says.
-/
import Derived.Test.YtgleeglhdlnobaaBs
import Derived.Test.YtgleeglhdlnobaaA12
import Derived.Lib.SmallJoins
import Derived.Deep.Strs
namespace Go.Proofs.Ytgleeglhdlnobaa.Cs
open Go.RowKit Go.WideElems Go.Maps Go.Joins Go.ChangeShapes Go.WideShapes Go.Deep Bs Go.Pw C9
set_option linter.unusedVariables false
def cellV (c : C) : List Value := [.int .i64 c.1, .bool c.2.1, .int .i64 c.2.2]
section
variable {H : Type} {enc : TypeId × Value → H} {P : Program} {w : World} {t e : TypeId} {v : Value} {d : DataW H} {p : List MemPlace} {r : Reach} {b0 : Nat} {f0 f1 f2 : Field}
theorem cells_of_trod (ht : P.underlying t = some (.slice e)) (he : P.cellsOf e = 3) (hs : P.underlying e = some (.struct #[f0, f1, f2])) (hone : oneCellFields P #[f0, f1, f2] = true)
    (u0 : P.underlying f0.type = some (.int .i64)) (u1 : P.underlying f1.type = some .bool) (u2 : P.underlying f2.type = some (.int .i64)) (hv : Value.okWide P w r b0 t v) (h : DataW.Trod enc P w 0 (fun _ => true) true t v d p) :
    ∃ l : List C, Ss 3 w cellV v l := by
  obtain ⟨l, h1, _⟩ := ss_of_trod 3 (by decide) cellV (fun _ => rfl) (fun _ => True) ht he (fun n cs y hcs hy => by
    obtain ⟨y0, y1, y2, m, _, _, h0, h1, h2⟩ := trod_struct3 hs hy
    obtain ⟨o0, k0⟩ := hone_of hone 0 f0 rfl
    obtain ⟨o1, k1⟩ := hone_of hone 1 f1 rfl
    obtain ⟨o2, k2⟩ := hone_of hone 2 f2 rfl
    match cs, hcs with
    | [c0, c1, c2], _ =>
      rw [o0, k0] at h0
      rw [o1, k1] at h1
      rw [o2, k2] at h2
      obtain ⟨a, e0, _⟩ := DataW.trod_int u0 h0
      obtain ⟨b, e1, _⟩ := DataW.trod_bool u1 h1
      obtain ⟨c, e2, _⟩ := DataW.trod_int u2 h2
      simp at e0 e1 e2
      subst e0 e1 e2
      exact ⟨(a, b, c), rfl, trivial⟩) hv h
  exact ⟨l, h1⟩
end
theorem rd_cells {w : World} {v : Value} {l : List C} (h : Ss 3 w cellV v l) : Rd0 w (all w) v (.lst false (l.map cell)) :=
  rd_ss (f := cellV) (fun _ => rfl) (fun _ => rfl) (fun a j y hy => by
    match j with
    | 0 => cases hy; exact ⟨_, rfl, .int _ _⟩
    | 1 => cases hy; exact ⟨_, rfl, .bool _⟩
    | 2 => cases hy; exact ⟨_, rfl, .int _ _⟩
    | n + 3 => simp [cell, PV.cells] at hy) h
end Go.Proofs.Ytgleeglhdlnobaa.Cs
