/-
  WeakClears
  Conditions: none beyond that the arguments are values of their Go types.
-/
import Derived.Test.YtgleeglhdlnobaaRows
import Derived.Test.YtgleeglhdlnobaaBs
import Derived.Test.YtgleeglhdlnobaaA12
import Derived.Test.YtgleeglhdlnobaaPw20
import Derived.Test.YtgleeglhdlnobaaCs
namespace Go.Proofs.Ytgleeglhdlnobaa.weakClears
open Go.ChangeShapes Go.WideShapes Go.ChangeAt Go.RowKit
open Go.Pw
set_option linter.unusedVariables false
theorem own : ownKnob Try.prog.godebug = none := by kernel_rfl
theorem laidOut : laidOutB Try.prog = true := by kernel_rfl
theorem walk (v0 : Value) (l0 : List C9.C) (v1 : Value) (l1 : List Int) (a2 : Int) (w : World) (s0 : Bs.Ss 3 w Cs.cellV v0 l0) (s1 : Bs.Sl w (Value.int .i64) v1 l1) (g1 : Bs.Wf l1) (w2 : (Lit.int .i64 a2).wf = true) :
    Calls Try.prog 9 #[v0, v1, .int .i64 a2] w fun e w' => e = .returned (.bool true) ∧ Below w.heap.size w w' := by
  have hr : RdL w (all w) #[v0, v1, .int .i64 a2] [.lst false (l0.map C9.cell), .lst false (l1.map (PV.int .i64)), .int .i64 a2] := rdL_of (vs := [v0, v1, .int .i64 a2]) ⟨Cs.rd_cells s0, rd_ints s1, .int _ _, trivial⟩
  rcases Nat.lt_or_ge 50 (l0.map C9.cell).length with h | h
  · exact calls_true (C9c.clears_big false false l0 _ a2 h) hr
  rcases Nat.lt_or_ge 50 (l1.map (PV.int .i64)).length with h' | h'
  · exact calls_true (C9c.clears_big2 false false l0 _ a2 h h') hr
  have e0 : l0.length ≤ 1000 := by simp at h; omega
  have e1 : l1.length ≤ 1000000 := by simp at h'; omega
  have h1 := C9c.clear_all false false l0 e0 l1 e1
  have h2 := C9c.clear_all false false (l0.map (C9c.clr l1)) (by simpa using e0) l1 e1
  rw [C9c.cld_none] at h2
  have h3 := C9.intact_ok false l0 e0 a2
  have h4 := C9b.times_ok false (l1.map (PV.int .i64)) (ints_map l1) (by simpa using e1) a2
  have h5 := C9.intact_ok false (l0.map (C9c.clr l1)) (by simpa using e0) a2
  have h6 := C9.naming_ok false (l0.map (C9c.clr l1)) (by simpa using e0) a2
  rw [C9c.count_naming] at h6
  have h7 := C9.naming_ok false l0 e0 a2
  by_cases q : a2 ≠ 0 ∧ a2 ∈ l1
  · exact calls_true (C9c.clears_in false false l0 _ _ _ _ a2 _ _ _ _ h h' (by simpa using C9c.cld_le l0 l1) h1 h2 h3 h4 h5 h6 h7 (by have := (C9c.tms_pos l1 a2).2 q; omega) (by rw [C9c.count_in a2 l1 l0 q.1 q.2]; rfl)) hr
  · exact calls_true (C9c.clears_out false false l0 _ _ _ _ a2 _ _ _ _ h h' (by simpa using C9c.cld_le l0 l1) h1 h2 h3 h4 h5 h6 h7 (by have := mt (C9c.tms_pos l1 a2).1 q; omega) (by rw [C9c.count_out a2 l1 l0 q])) hr

set_option maxRecDepth 100000 in
theorem lifted (os : Os) (started : os.Started) (H : Type) (enc : TypeId × Value → H) :
    ReturnsInHanded {} Try.checked os 9 .any (Rows.weakClearsSpec.pre6 enc Try.prog Try.f9 Rows.weakClearsRow.domain false) (Rows.weakClearsSpec.post enc Try.prog Try.f9 false true false false) := by
  refine returnsInHanded_of_change (C := Try.checked) own started (by kernel_rfl) Try.func9
    (ChangeSpec.witness6 (enc := enc) (C := Try.checked) false ⟨#[], #[.slice none 0 0, .slice none 0 0, .int .i64 0], []⟩ 12 (by kernel_rfl) (by kernel_rfl) (by kernel_rfl) (by kernel_rfl)) ?_
  intro W base args ds gs before hval0 hW hcnd _
  have hval : ∀ (j : Nat) t v, Try.f9.params[j]? = some t → args[j]? = some v → Value.okWide Try.prog W .any base t v := hval0
  have hW' := hW
  obtain ⟨p, q, hA0, hV, rfl, hfz, hnd⟩ := hW
  have hA : DataW.TrodAll enc Try.prog W 0 (fun _ => true) true Try.f9.params.toList args.toList ds p := hA0
  rw [Try.params9] at hA hval
  obtain ⟨v0, vs0, d0, ds0, p0, q0, hargs, rfl, rfl, k0, r0⟩ := trodAll_cons hA
  obtain ⟨v1, vs1, d1, ds1, p1, q1, rfl, rfl, rfl, k1, r1⟩ := trodAll_cons r0
  obtain ⟨v2, vs2, d2, ds2, p2, q2, rfl, rfl, rfl, k2, r2⟩ := trodAll_cons r1
  obtain ⟨rfl, rfl, rfl⟩ := trodAll_nil r2
  obtain rfl : args = #[v0, v1, v2] := by cases args; simp_all
  obtain ⟨rfl, rfl⟩ := trodVars_none hV
  have lt0 : ∀ x ∈ p0, x.block < W.heap.size := by obtain ⟨m, hm⟩ := k0; exact DataW.trod_lt m _ _ _ hm
  have lt1 : ∀ x ∈ p1, x.block < W.heap.size := by obtain ⟨m, hm⟩ := k1; exact DataW.trod_lt m _ _ _ hm
  have lt2 : ∀ x ∈ p2, x.block < W.heap.size := by obtain ⟨m, hm⟩ := k2; exact DataW.trod_lt m _ _ _ hm
  obtain ⟨l0, s0⟩ := Cs.cells_of_trod Try.underlying59 (by kernel_rfl) Try.underlying76 (by kernel_rfl) Try.underlying3 Try.underlying4 Try.underlying3 (hval 0 59 v0 rfl rfl) k0
  obtain ⟨l1, s1, g1⟩ := Bs.ints_of_trod Try.underlying22 (by kernel_rfl) Try.underlying3 (hval 1 22 v1 rfl rfl) k1
  obtain ⟨a2, rfl, _, _, w2⟩ := open_int Try.underlying3 (hval 2 3 v2 rfl rfl) k2
  clear hA0 hval0
  refine (walk v0 l0 v1 l1 a2 W s0 s1 g1 w2).mono fun e W' ⟨he, bel⟩ => ?_
  subst he
  exact ⟨_, rfl, _, _, _, [], _, [], hW', trodAll_mk1 (shut_bool Try.underlying4 _), (trodAll_cons_mk (Below.trod laidOut (by kernel_rfl) (of_decide_eq_true (by kernel_rfl)) k0 bel lt0) (trodAll_cons_mk (Below.trod laidOut (by kernel_rfl) (of_decide_eq_true (by kernel_rfl)) k1 bel lt1) (trodAll_cons_mk (Below.trod laidOut (by kernel_rfl) (of_decide_eq_true (by kernel_rfl)) k2 bel lt2) trodAll_mk0))), rfl, bel.frame _, fun h => by cases h⟩

theorem over : Rows.weakClearsRow.holds Try.pinned (OpenSpec.ofChange Rows.weakClearsSpec) :=
  OpenClaim.holds_of_wide 9 Try.f9 rfl rfl rfl rfl rfl rfl rfl ⟨rfl, rfl, rfl, rfl, rfl⟩ rfl rfl rfl rfl rfl (by kernel_rfl) Try.func9 (by kernel_rfl)
    (of_decide_eq_true (by kernel_rfl)) (by unfold Func.isWrapper; first | (rw [if_pos (by decide +kernel)]; kernel_rfl) | (rw [if_neg (by decide +kernel)]; exact ⟨rfl, rfl⟩))
    (fun os started H enc _ => lifted os started H enc)

theorem proved : Rows.WeakClearsSaid := over
#print axioms proved
end Go.Proofs.Ytgleeglhdlnobaa.weakClears
