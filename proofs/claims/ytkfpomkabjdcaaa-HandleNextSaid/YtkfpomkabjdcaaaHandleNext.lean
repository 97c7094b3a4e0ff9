/-
  For every number: the next handle of a valid one is of the same slot, one generation farther, or there is none at generation 9: the law returns true.
  Conditions: none beyond that the arguments are values of their Go types.
-/
import Derived.Test.YtkfpomkabjdcaaaRows
import Derived.WalkKit
import Derived.ProofKit
import Derived.OpenShut
import Derived.Test.YtkfpomkabjdcaaaHc
namespace Go.Proofs.Ytkfpomkabjdcaaa.handleNext
open Go.ChangeShapes Go.WideShapes Go.ChangeAt Go.RowKit
set_option linter.unusedVariables false

theorem own : ownKnob Try.prog.godebug = none := by kernel_rfl

theorem ok_pack (s g : Int) (h : 0 ≤ s ∧ s < 24 ∧ 0 ≤ g ∧ g ≤ 9) : Hc.okB (Hc.pack s g) = true := by
  rw [Hc.pack_yes s g h]; exact Hc.ok_yes _ (by omega) (by omega) (by omega)
theorem slot_pack (s g : Int) (h : 0 ≤ s ∧ s < 24 ∧ 0 ≤ g ∧ g ≤ 9) : Hc.slotOf (Hc.pack s g) = s := by
  rw [Hc.slot_yes _ (ok_pack s g h), Hc.pack_yes s g h]; omega
theorem gen_pack (s g : Int) (h : 0 ≤ s ∧ s < 24 ∧ 0 ≤ g ∧ g ≤ 9) : Hc.genOf (Hc.pack s g) = g := by
  rw [Hc.gen_yes _ (ok_pack s g h), Hc.pack_yes s g h]; omega
theorem pack_parts (h : Int) (o : Hc.okB h = true) : Hc.pack (Hc.slotOf h) (Hc.genOf h) = h := by
  have := Hc.ok_bd h o
  rw [Hc.slot_yes h o, Hc.gen_yes h o, Hc.pack_yes _ _ (by omega)]; omega

theorem slot_next (h : Int) (o : Hc.okB h = true) (n : Hc.nextOf h ≠ 0) : Hc.slotOf (Hc.nextOf h) = Hc.slotOf h ∧ Hc.genOf (Hc.nextOf h) = Hc.genOf h + 1 ∧ h < Hc.nextOf h := by
  have b := Hc.ok_bd h o
  unfold Hc.nextOf at *
  by_cases g : 0 ≤ Hc.slotOf h ∧ Hc.slotOf h < 24 ∧ 0 ≤ Hc.genOf h + 1 ∧ Hc.genOf h + 1 ≤ 9
  · refine ⟨slot_pack _ _ g, gen_pack _ _ g, ?_⟩
    rw [Hc.pack_yes _ _ g, Hc.slot_yes h o, Hc.gen_yes h o]; omega
  · exact absurd (Hc.pack_no _ _ g) n
theorem last_next (h : Int) (o : Hc.okB h = true) (n : Hc.nextOf h = 0) : Hc.genOf h = 9 := by
  have b := Hc.ok_bd h o
  have s := Hc.slot_yes h o
  have g := Hc.gen_yes h o
  unfold Hc.nextOf at n
  by_cases c : 0 ≤ Hc.slotOf h ∧ Hc.slotOf h < 24 ∧ 0 ≤ Hc.genOf h + 1 ∧ Hc.genOf h + 1 ≤ 9
  · rw [Hc.pack_yes _ _ c] at n; omega
  · omega

theorem walk (a0 : Int) (w0 : (Lit.int .i64 a0).wf = true) (w : World) :
    Calls Try.prog 6 #[.int .i64 a0] w fun e w' => e = .returned (.bool true) ∧ Grown w w' := by
  have b1 := Hc.gen_bd a0
  have b2 := Hc.pack_bd (Hc.slotOf a0) (Hc.genOf a0 + 1)
  have u1 : (Lit.int .i64 (Hc.nextOf a0)).wf = true := WalkArith.wf_i64 (by unfold Hc.nextOf; omega)
  clear b2
  have nx : Hc.okB a0 = true → Hc.nextOf a0 ≠ 0 → Hc.slotOf (Hc.nextOf a0) = Hc.slotOf a0 ∧ Hc.genOf (Hc.nextOf a0) = Hc.genOf a0 + 1 ∧ a0 < Hc.nextOf a0 := slot_next a0
  have lst : Hc.okB a0 = true → Hc.nextOf a0 = 0 → Hc.genOf a0 = 9 := last_next a0
  cases o : Hc.okB a0
  · clear nx lst
    go_enter Try.func6, Try.ntmps6
    go_wp2_with (first | (go_at_call 15; refine (Hc.pack_any _ _ _ (by assumption) (by assumption)).mono ?_; rintro e w' ⟨rfl, rfl⟩) | (go_at_call 16; refine (Hc.rpack_any _ _ _ (by assumption) (by assumption)).mono ?_; rintro e w' ⟨rfl, rfl⟩) | (go_at_call 17; refine (Hc.valid_any _ _ (by assumption)).mono ?_; rintro e w' ⟨rfl, rfl⟩) | (go_at_call 18; refine (Hc.rvalid_any _ _ (by assumption)).mono ?_; rintro e w' ⟨rfl, rfl⟩) | (go_at_call 19; refine (Hc.slot_any _ _ (by assumption)).mono ?_; rintro e w' ⟨rfl, rfl⟩) | (go_at_call 20; refine (Hc.rslot_any _ _ (by assumption)).mono ?_; rintro e w' ⟨rfl, rfl⟩) | (go_at_call 21; refine (Hc.gen_any _ _ (by assumption)).mono ?_; rintro e w' ⟨rfl, rfl⟩) | (go_at_call 22; refine (Hc.rgen_any _ _ (by assumption)).mono ?_; rintro e w' ⟨rfl, rfl⟩) | (go_at_call 23; refine (Hc.next_any _ _ (by assumption)).mono ?_; rintro e w' ⟨rfl, rfl⟩) | (go_at_call 24; refine (Hc.rnext_any _ _ (by assumption)).mono ?_; rintro e w' ⟨rfl, rfl⟩) | (go_at_call 25; refine (Hc.shown_any _).mono ?_; rintro e w' ⟨rfl, rfl⟩))
    go_ret
    exact ⟨rfl, Grown.refl _⟩
  · by_cases z : Hc.nextOf a0 = 0
    · have E := Lib.hid (lst o z)
      have Z : (Hc.nextOf a0 == 0) = true := by rw [z]; rfl
      clear nx lst z
      go_enter Try.func6, Try.ntmps6
      go_wp2_with (first | (go_at_call 15; refine (Hc.pack_any _ _ _ (by assumption) (by assumption)).mono ?_; rintro e w' ⟨rfl, rfl⟩) | (go_at_call 16; refine (Hc.rpack_any _ _ _ (by assumption) (by assumption)).mono ?_; rintro e w' ⟨rfl, rfl⟩) | (go_at_call 17; refine (Hc.valid_any _ _ (by assumption)).mono ?_; rintro e w' ⟨rfl, rfl⟩) | (go_at_call 18; refine (Hc.rvalid_any _ _ (by assumption)).mono ?_; rintro e w' ⟨rfl, rfl⟩) | (go_at_call 19; refine (Hc.slot_any _ _ (by assumption)).mono ?_; rintro e w' ⟨rfl, rfl⟩) | (go_at_call 20; refine (Hc.rslot_any _ _ (by assumption)).mono ?_; rintro e w' ⟨rfl, rfl⟩) | (go_at_call 21; refine (Hc.gen_any _ _ (by assumption)).mono ?_; rintro e w' ⟨rfl, rfl⟩) | (go_at_call 22; refine (Hc.rgen_any _ _ (by assumption)).mono ?_; rintro e w' ⟨rfl, rfl⟩) | (go_at_call 23; refine (Hc.next_any _ _ (by assumption)).mono ?_; rintro e w' ⟨rfl, rfl⟩) | (go_at_call 24; refine (Hc.rnext_any _ _ (by assumption)).mono ?_; rintro e w' ⟨rfl, rfl⟩) | (go_at_call 25; refine (Hc.shown_any _).mono ?_; rintro e w' ⟨rfl, rfl⟩))
      go_ret
      exact ⟨by rw [E.out]; rfl, Grown.refl _⟩
    · obtain ⟨e1, e2, e3⟩ := nx o z
      have Z : (Hc.nextOf a0 == 0) = false := by simpa using z
      have E1 : (Hc.slotOf (Hc.nextOf a0) == Hc.slotOf a0) = true := by rw [e1]; simp
      have E2 : (Hc.genOf (Hc.nextOf a0) == Hc.genOf a0 + 1) = true := by rw [e2]; simp
      clear nx lst z e1 e2
      go_enter Try.func6, Try.ntmps6
      go_wp2_with (first | (go_at_call 15; refine (Hc.pack_any _ _ _ (by assumption) (by assumption)).mono ?_; rintro e w' ⟨rfl, rfl⟩) | (go_at_call 16; refine (Hc.rpack_any _ _ _ (by assumption) (by assumption)).mono ?_; rintro e w' ⟨rfl, rfl⟩) | (go_at_call 17; refine (Hc.valid_any _ _ (by assumption)).mono ?_; rintro e w' ⟨rfl, rfl⟩) | (go_at_call 18; refine (Hc.rvalid_any _ _ (by assumption)).mono ?_; rintro e w' ⟨rfl, rfl⟩) | (go_at_call 19; refine (Hc.slot_any _ _ (by assumption)).mono ?_; rintro e w' ⟨rfl, rfl⟩) | (go_at_call 20; refine (Hc.rslot_any _ _ (by assumption)).mono ?_; rintro e w' ⟨rfl, rfl⟩) | (go_at_call 21; refine (Hc.gen_any _ _ (by assumption)).mono ?_; rintro e w' ⟨rfl, rfl⟩) | (go_at_call 22; refine (Hc.rgen_any _ _ (by assumption)).mono ?_; rintro e w' ⟨rfl, rfl⟩) | (go_at_call 23; refine (Hc.next_any _ _ (by assumption)).mono ?_; rintro e w' ⟨rfl, rfl⟩) | (go_at_call 24; refine (Hc.rnext_any _ _ (by assumption)).mono ?_; rintro e w' ⟨rfl, rfl⟩) | (go_at_call 25; refine (Hc.shown_any _).mono ?_; rintro e w' ⟨rfl, rfl⟩))
      go_ret
      exact ⟨rfl, Grown.refl _⟩

set_option maxRecDepth 100000 in
theorem lifted (os : Os) (started : os.Started) (H : Type) (enc : TypeId × Value → H) :
    ReturnsInHanded {} Try.checked os 6 .any (Rows.handleNextSpec.pre6 enc Try.prog Try.f6 Rows.handleNextRow.domain false) (Rows.handleNextSpec.post enc Try.prog Try.f6 false true false false) := by
  refine returnsInHanded_of_change (C := Try.checked) own started (by kernel_rfl) Try.func6
    (ChangeSpec.witness6 (enc := enc) (C := Try.checked) false ⟨#[], #[.int .i64 0], []⟩ 8 (by kernel_rfl) (by kernel_rfl) (by kernel_rfl) (by kernel_rfl)) ?_
  intro W base args ds gs before hval0 hW hcnd _
  have hval : ∀ (j : Nat) t v, Try.f6.params[j]? = some t → args[j]? = some v → Value.okWide Try.prog W .any base t v := hval0
  have hW' := hW
  obtain ⟨p, q, hA0, hV, rfl, hfz, hnd⟩ := hW
  have hA : DataW.TrodAll enc Try.prog W 0 (fun _ => true) true Try.f6.params.toList args.toList ds p := hA0
  rw [Try.params6] at hA hval
  obtain ⟨v0, vs0, d0, ds0, p0, q0, hargs, rfl, rfl, h0, r0⟩ := trodAll_cons hA
  obtain ⟨rfl, rfl, rfl⟩ := trodAll_nil r0
  obtain rfl : args = #[v0] := by cases args; simp_all
  obtain ⟨rfl, rfl⟩ := trodVars_none hV
  obtain ⟨a0, rfl, rfl, rfl, w0⟩ := open_int Try.underlying3 (hval 0 3 v0 rfl rfl) h0
  clear hA0 hval0
  simp only [List.append_nil] at hW'
  refine (walk a0 w0 W).mono fun e W' ⟨he, hg⟩ => ?_
  subst he
  exact ⟨_, rfl, post_of_same (pa := []) (pv := []) hW' (fun _ _ _ => (trodAll_cons_mk (shut_bool Try.underlying4 _) trodAll_mk0)) (fun sp _ => (trodAll_cons_mk (shut_int Try.underlying3 w0) trodAll_mk0)) (fun _ _ => rfl) rfl
    (hg.frame _) hg.2.1 (ok_one (by kernel_rfl) rfl (okWide_bool_mk Try.underlying4 _))⟩

theorem over : Rows.handleNextRow.holds Try.pinned (OpenSpec.ofChange Rows.handleNextSpec) :=
  OpenClaim.holds_of_wide 6 Try.f6 rfl rfl rfl rfl rfl rfl rfl ⟨rfl, rfl, rfl, rfl, rfl⟩ rfl rfl rfl rfl rfl (by kernel_rfl) Try.func6 (by kernel_rfl)
    (of_decide_eq_true (by kernel_rfl)) (by unfold Func.isWrapper; first | (rw [if_pos (by decide +kernel)]; kernel_rfl) | (rw [if_neg (by decide +kernel)]; exact ⟨rfl, rfl⟩))
    (fun os started H enc _ => lifted os started H enc)

theorem proved : Rows.HandleNextSaid :=
  over
#print axioms proved
end Go.Proofs.Ytkfpomkabjdcaaa.handleNext
