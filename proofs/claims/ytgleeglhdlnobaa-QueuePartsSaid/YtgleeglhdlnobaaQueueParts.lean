/-
  QueueParts
  Conditions: none beyond that the arguments are values of their Go types.
-/
import Derived.Test.YtgleeglhdlnobaaRows
import Derived.Test.YtgleeglhdlnobaaBs
import Derived.Test.YtgleeglhdlnobaaA3
import Derived.Test.YtgleeglhdlnobaaPw20
import Derived.Test.YtgleeglhdlnobaaFs
namespace Go.Proofs.Ytgleeglhdlnobaa.queueParts
open Go.ChangeShapes Go.WideShapes Go.ChangeAt Go.RowKit
open Go.Pw
set_option linter.unusedVariables false
theorem own : ownKnob Try.prog.godebug = none := by kernel_rfl
theorem laidOut : laidOutB Try.prog = true := by kernel_rfl
theorem walk (v0 : Value) (l0 : List Int) (c0 : Int) (a1 : Int) (a2 : Int) (w : World) (s0 : Bs.Sl w (Value.int .i64) v0 l0) (g0 : Bs.Wf l0) (k0 : (Lit.int .i64 c0).wf = true) (w1 : (Lit.int .u8 a1).wf = true) (w2 : (Lit.int .u8 a2).wf = true) :
    Calls Try.prog 7 #[.agg #[v0, .int .i64 c0], .int .u8 a1, .int .u8 a2] w fun e w' => e = .returned (.bool true) ∧ Below w.heap.size w w' := by
  have hq : Rd0 w (all w) (.agg #[v0, .int .i64 c0]) (.agg [.lst false (l0.map (PV.int .i64)), .int .i64 c0]) := rd_agg (vs := [v0, .int .i64 c0]) rfl ⟨rd_ints s0, .int _ _, trivial⟩
  have hr : RdL w (all w) #[.agg #[v0, .int .i64 c0], .int .u8 a1, .int .u8 a2] [.agg [.lst false (l0.map (PV.int .i64)), .int .i64 c0], .int .u8 a1, .int .u8 a2] := rdL_of (vs := [.agg #[v0, .int .i64 c0], .int .u8 a1, .int .u8 a2]) ⟨hq, .int _ _, .int _ _, trivial⟩
  have u1 := wf_u8 w1
  have u2 := wf_u8 w2
  rcases Nat.lt_or_ge 100 l0.length with h | h
  · exact calls_true (C2b.parts_big false _ c0 a1 a2 (by simpa using h)) hr
  · have hI := ints_map l0
    have hl : (l0.map (PV.int .i64)).length ≤ 100 := by simpa using h
    generalize l0.map (PV.int .i64) = L at hI hl hr
    obtain ⟨k, hk⟩ : ∃ k : Nat, (k : Int) = max 0 (min a1 L.length) := ⟨(max 0 (min a1 L.length)).toNat, by omega⟩
    obtain ⟨m, hm⟩ : ∃ m : Nat, (m : Int) = max 0 (min a2 (L.drop k).length) := ⟨(max 0 (min a2 (L.drop k).length)).toNat, by omega⟩
    have hkm : ((k + m : Nat) : Int) = max 0 (min (a1 + a2) L.length) := by rw [List.length_drop] at hm; omega
    have j1 : Ints (L.drop k) := fun e he => hI e (List.mem_of_mem_drop he)
    have j2 : Ints (L.take k) := fun e he => hI e (List.mem_of_mem_take he)
    have j3 : Ints ((L.drop k).drop m) := fun e he => j1 e (List.mem_of_mem_drop he)
    have j4 : Ints ((L.drop k).take m) := fun e he => j1 e (List.mem_of_mem_take he)
    refine calls_true (C2b.parts_ok false L _ _ _ _ _ c0 a1 a2 hl u1.1 u1.2 u2.1 u2.2 j1 j2 j3 j4 rfl (by simp; omega) (by simp; omega) (by simp; omega) (fun e he => (List.mem_append.1 he).elim (j2 e) (j4 e))
      (C2b.drain_eq false L _ _ hI.len c0 a1 k hk rfl rfl) (C2b.drain_eq true _ _ _ j1.len c0 a2 m hm rfl rfl) (C2b.drain_eq false L _ _ hI.len c0 (a1 + a2) (k + m) hkm ?_ ?_)) hr
    · rw [List.drop_drop]
    · rw [List.take_add]

set_option maxRecDepth 100000 in
theorem lifted (os : Os) (started : os.Started) (H : Type) (enc : TypeId × Value → H) :
    ReturnsInHanded {} Try.checked os 7 .any (Rows.queuePartsSpec.pre6 enc Try.prog Try.f7 Rows.queuePartsRow.domain false) (Rows.queuePartsSpec.post enc Try.prog Try.f7 false true false false) := by
  refine returnsInHanded_of_change (C := Try.checked) own started (by kernel_rfl) Try.func7
    (ChangeSpec.witness6 (enc := enc) (C := Try.checked) false ⟨#[], #[.agg #[.slice none 0 0, .int .i64 0], .int .u8 0, .int .u8 0], []⟩ 12 (by kernel_rfl) (by kernel_rfl) (by kernel_rfl) (by kernel_rfl)) ?_
  intro W base args ds gs before hval0 hW hcnd _
  have hval : ∀ (j : Nat) t v, Try.f7.params[j]? = some t → args[j]? = some v → Value.okWide Try.prog W .any base t v := hval0
  have hW' := hW
  obtain ⟨p, q, hA0, hV, rfl, hfz, hnd⟩ := hW
  have hA : DataW.TrodAll enc Try.prog W 0 (fun _ => true) true Try.f7.params.toList args.toList ds p := hA0
  rw [Try.params7] at hA hval
  obtain ⟨v0, vs0, d0, ds0, p0, q0, hargs, rfl, rfl, k0, r0⟩ := trodAll_cons hA
  obtain ⟨v1, vs1, d1, ds1, p1, q1, rfl, rfl, rfl, k1, r1⟩ := trodAll_cons r0
  obtain ⟨v2, vs2, d2, ds2, p2, q2, rfl, rfl, rfl, k2, r2⟩ := trodAll_cons r1
  obtain ⟨rfl, rfl, rfl⟩ := trodAll_nil r2
  obtain rfl : args = #[v0, v1, v2] := by cases args; simp_all
  obtain ⟨rfl, rfl⟩ := trodVars_none hV
  have lt0 : ∀ x ∈ p0, x.block < W.heap.size := by obtain ⟨m, hm⟩ := k0; exact DataW.trod_lt m _ _ _ hm
  have lt1 : ∀ x ∈ p1, x.block < W.heap.size := by obtain ⟨m, hm⟩ := k1; exact DataW.trod_lt m _ _ _ hm
  have lt2 : ∀ x ∈ p2, x.block < W.heap.size := by obtain ⟨m, hm⟩ := k2; exact DataW.trod_lt m _ _ _ hm
  obtain ⟨x0, z0, ya0, yb0, n0, rfl, rfl, rfl, fa0, fb0⟩ := Go.Joins.open_agg2 Try.underlying24 (by kernel_rfl) (by kernel_rfl) (hval 0 24 v0 rfl rfl) k0
  obtain ⟨l0, s0, g0⟩ := Fs.ints_of_field Try.underlying22 (by kernel_rfl) Try.underlying3 fa0
  obtain ⟨c0, e0, rfl, w0⟩ := DataW.trod_int Try.underlying3 fb0
  simp at e0
  subst e0
  obtain ⟨a1, rfl, _, _, w1⟩ := open_int Try.underlying5 (hval 1 5 v1 rfl rfl) k1
  obtain ⟨a2, rfl, _, _, w2⟩ := open_int Try.underlying5 (hval 2 5 v2 rfl rfl) k2
  clear hA0 hval0
  refine (walk x0 l0 c0 a1 a2 W s0 g0 w0 w1 w2).mono fun e W' ⟨he, bel⟩ => ?_
  subst he
  exact ⟨_, rfl, _, _, _, [], _, [], hW', trodAll_mk1 (shut_bool Try.underlying4 _), (trodAll_cons_mk (Below.trod laidOut (by kernel_rfl) (of_decide_eq_true (by kernel_rfl)) k0 bel lt0) (trodAll_cons_mk (Below.trod laidOut (by kernel_rfl) (of_decide_eq_true (by kernel_rfl)) k1 bel lt1) (trodAll_cons_mk (Below.trod laidOut (by kernel_rfl) (of_decide_eq_true (by kernel_rfl)) k2 bel lt2) trodAll_mk0))), rfl, bel.frame _, fun h => by cases h⟩

theorem over : Rows.queuePartsRow.holds Try.pinned (OpenSpec.ofChange Rows.queuePartsSpec) :=
  OpenClaim.holds_of_wide 7 Try.f7 rfl rfl rfl rfl rfl rfl rfl ⟨rfl, rfl, rfl, rfl, rfl⟩ rfl rfl rfl rfl rfl (by kernel_rfl) Try.func7 (by kernel_rfl)
    (of_decide_eq_true (by kernel_rfl)) (by unfold Func.isWrapper; first | (rw [if_pos (by decide +kernel)]; kernel_rfl) | (rw [if_neg (by decide +kernel)]; exact ⟨rfl, rfl⟩))
    (fun os started H enc _ => lifted os started H enc)

theorem proved : Rows.QueuePartsSaid := over
#print axioms proved
end Go.Proofs.Ytgleeglhdlnobaa.queueParts
