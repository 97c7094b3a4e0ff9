/-
  For every slot, generation and number of steps (below their moduli): so many steps on from a handle is the same slot so many generations on, as long as there are: the law returns true.
  Conditions: none beyond that the arguments are values of their Go types.
-/
import Derived.Test.YtkfpomkabjdcaaaRows
import Derived.WalkKit
import Derived.ProofKit
import Derived.OpenShut
import Derived.Test.YtkfpomkabjdcaaaHc
namespace Go.Proofs.Ytkfpomkabjdcaaa.handleWalk
open Go.ChangeShapes Go.WideShapes Go.ChangeAt Go.RowKit
set_option linter.unusedVariables false

theorem own : ownKnob Try.prog.godebug = none := by kernel_rfl

theorem ok_pack (s g : Int) (h : 0 ≤ s ∧ s < 24 ∧ 0 ≤ g ∧ g ≤ 9) : Hc.okB (Hc.pack s g) = true := by
  rw [Hc.pack_yes s g h]; exact Hc.ok_yes _ (by omega) (by omega) (by omega)
theorem slot_pack (s g : Int) (h : 0 ≤ s ∧ s < 24 ∧ 0 ≤ g ∧ g ≤ 9) : Hc.slotOf (Hc.pack s g) = s := by
  rw [Hc.slot_yes _ (ok_pack s g h), Hc.pack_yes s g h]; omega
theorem gen_pack (s g : Int) (h : 0 ≤ s ∧ s < 24 ∧ 0 ≤ g ∧ g ≤ 9) : Hc.genOf (Hc.pack s g) = g := by
  rw [Hc.gen_yes _ (ok_pack s g h), Hc.pack_yes s g h]; omega
theorem pack_parts (h : Int) (o : Hc.okB h = true) : Hc.pack (Hc.slotOf h) (Hc.genOf h) = h := by
  have := Hc.ok_bd h o
  rw [Hc.slot_yes h o, Hc.gen_yes h o, Hc.pack_yes _ _ (by omega)]; omega

/-- k steps on from slot s, generation g. -/
def at_ (s g : Int) (k : Nat) : Int := Hc.pack s (g + k)
theorem next_at (s g : Int) (k : Nat) (hs : 0 ≤ s ∧ s < 24) (hg : 0 ≤ g) : Hc.nextOf (at_ s g k) = at_ s g (k + 1) := by
  unfold at_ Hc.nextOf
  by_cases c : g + k ≤ 9
  · rw [slot_pack s _ (by omega), gen_pack s _ (by omega)]; congr 1; omega
  · rw [Hc.pack_no s (g + k) (by omega)]
    rw [Hc.pack_no s _ (by omega)]; rfl
theorem at_bd (s g : Int) (k : Nat) : 0 ≤ at_ s g k ∧ at_ s g k ≤ 312 := Hc.pack_bd _ _

theorem walk (a0 : Int) (a1 : Int) (a2 : Int) (w0 : (Lit.int .u8 a0).wf = true) (w1 : (Lit.int .u8 a1).wf = true) (w2 : (Lit.int .u8 a2).wf = true) (w : World) :
    Calls Try.prog 7 #[.int .u8 a0, .int .u8 a1, .int .u8 a2] w fun e w' => e = .returned (.bool true) ∧ Grown w w' := by
  obtain ⟨b0, c0⟩ := bounds_u8 w0
  obtain ⟨b1, c1⟩ := bounds_u8 w1
  obtain ⟨b2, c2⟩ := bounds_u8 w2
  have v0 : (Lit.int .i64 (a0 % 24)).wf = true := WalkArith.wf_i64 (by omega)
  have v1 : (Lit.int .i64 (a1 % 10)).wf = true := WalkArith.wf_i64 (by omega)
  have nx : ∀ k : Nat, Hc.nextOf (at_ (a0 % 24) (a1 % 10) k) = at_ (a0 % 24) (a1 % 10) (k + 1) := fun k => next_at _ _ k (by omega) (by omega)
  have z0 : Hc.pack (a0 % 24) (a1 % 10) = at_ (a0 % 24) (a1 % 10) 0 := by unfold at_; simp
  have bd : ∀ k : Nat, (Lit.int .i64 (at_ (a0 % 24) (a1 % 10) k)).wf = true := fun k => WalkArith.wf_i64 (by have := at_bd (a0 % 24) (a1 % 10) k; omega)
  have sl : ∀ k : Nat, a1 % 10 + k ≤ 9 → Hc.slotOf (at_ (a0 % 24) (a1 % 10) k) = a0 % 24 := fun k h => slot_pack _ _ (by omega)
  have en : ∀ k : Nat, 9 < a1 % 10 + k → at_ (a0 % 24) (a1 % 10) k = 0 := fun k h => Hc.pack_no _ _ (by omega)
  have v3 : (Lit.int .i64 (a1 % 10 + a2 % 12)).wf = true := WalkArith.wf_i64 (by omega)
  have NX := Lib.hid nx
  have Z0 := Lib.hid z0
  have SL := Lib.hid sl
  have EN := Lib.hid en
  have BD := Lib.hid bd
  clear nx z0 sl en bd
  go_enter Try.func7, Try.ntmps7
  go_wp2_with (first | (go_at_call 15; refine (Hc.pack_any _ _ _ (by assumption) (by assumption)).mono ?_; rintro e w' ⟨rfl, rfl⟩) | (go_at_call 16; refine (Hc.rpack_any _ _ _ (by assumption) (by assumption)).mono ?_; rintro e w' ⟨rfl, rfl⟩) | (go_at_call 17; refine (Hc.valid_any _ _ (by assumption)).mono ?_; rintro e w' ⟨rfl, rfl⟩) | (go_at_call 18; refine (Hc.rvalid_any _ _ (by assumption)).mono ?_; rintro e w' ⟨rfl, rfl⟩) | (go_at_call 19; refine (Hc.slot_any _ _ (by assumption)).mono ?_; rintro e w' ⟨rfl, rfl⟩) | (go_at_call 20; refine (Hc.rslot_any _ _ (by assumption)).mono ?_; rintro e w' ⟨rfl, rfl⟩) | (go_at_call 21; refine (Hc.gen_any _ _ (by assumption)).mono ?_; rintro e w' ⟨rfl, rfl⟩) | (go_at_call 22; refine (Hc.rgen_any _ _ (by assumption)).mono ?_; rintro e w' ⟨rfl, rfl⟩) | (go_at_call 23; refine (Hc.next_any _ _ (by assumption)).mono ?_; rintro e w' ⟨rfl, rfl⟩) | (go_at_call 24; refine (Hc.rnext_any _ _ (by assumption)).mono ?_; rintro e w' ⟨rfl, rfl⟩) | (go_at_call 25; refine (Hc.shown_any _).mono ?_; rintro e w' ⟨rfl, rfl⟩))
  go_loop [10, 11] (fun h i => ∃ k : Nat, (k : Int) ≤ a2 % 12 ∧ i = .int .i64 k ∧ h = .int .i64 (at_ (a0 % 24) (a1 % 10) k)) (fun _ i => 12 - (intOf i).toNat)
  case atStart => exact ⟨0, by omega, rfl, by rw [Z0.out]⟩
  case round =>
    obtain ⟨k, hk, rfl, rfl⟩ := hrel
    have u := BD.out k
    by_cases hlt : (k : Int) < a2 % 12
    · go_wp2_with (first | (go_at_call 15; refine (Hc.pack_any _ _ _ (by assumption) (by assumption)).mono ?_; rintro e w' ⟨rfl, rfl⟩) | (go_at_call 16; refine (Hc.rpack_any _ _ _ (by assumption) (by assumption)).mono ?_; rintro e w' ⟨rfl, rfl⟩) | (go_at_call 17; refine (Hc.valid_any _ _ (by assumption)).mono ?_; rintro e w' ⟨rfl, rfl⟩) | (go_at_call 18; refine (Hc.rvalid_any _ _ (by assumption)).mono ?_; rintro e w' ⟨rfl, rfl⟩) | (go_at_call 19; refine (Hc.slot_any _ _ (by assumption)).mono ?_; rintro e w' ⟨rfl, rfl⟩) | (go_at_call 20; refine (Hc.rslot_any _ _ (by assumption)).mono ?_; rintro e w' ⟨rfl, rfl⟩) | (go_at_call 21; refine (Hc.gen_any _ _ (by assumption)).mono ?_; rintro e w' ⟨rfl, rfl⟩) | (go_at_call 22; refine (Hc.rgen_any _ _ (by assumption)).mono ?_; rintro e w' ⟨rfl, rfl⟩) | (go_at_call 23; refine (Hc.next_any _ _ (by assumption)).mono ?_; rintro e w' ⟨rfl, rfl⟩) | (go_at_call 24; refine (Hc.rnext_any _ _ (by assumption)).mono ?_; rintro e w' ⟨rfl, rfl⟩) | (go_at_call 25; refine (Hc.shown_any _).mono ?_; rintro e w' ⟨rfl, rfl⟩))
      go_round
      case rel => exact ⟨k + 1, by omega, by go_num, by rw [NX.out]⟩
      case measure => simp [intOf]; omega
    · have hk2 : (k : Int) = a2 % 12 := by omega
      by_cases f : 9 < a1 % 10 + a2 % 12
      · have e : at_ (a0 % 24) (a1 % 10) k = 0 := EN.out k (by omega)
        have E : (at_ (a0 % 24) (a1 % 10) k == 0) = true := by rw [e]; rfl
        clear hk2 e
        go_wp2_with (first | (go_at_call 15; refine (Hc.pack_any _ _ _ (by assumption) (by assumption)).mono ?_; rintro e w' ⟨rfl, rfl⟩) | (go_at_call 16; refine (Hc.rpack_any _ _ _ (by assumption) (by assumption)).mono ?_; rintro e w' ⟨rfl, rfl⟩) | (go_at_call 17; refine (Hc.valid_any _ _ (by assumption)).mono ?_; rintro e w' ⟨rfl, rfl⟩) | (go_at_call 18; refine (Hc.rvalid_any _ _ (by assumption)).mono ?_; rintro e w' ⟨rfl, rfl⟩) | (go_at_call 19; refine (Hc.slot_any _ _ (by assumption)).mono ?_; rintro e w' ⟨rfl, rfl⟩) | (go_at_call 20; refine (Hc.rslot_any _ _ (by assumption)).mono ?_; rintro e w' ⟨rfl, rfl⟩) | (go_at_call 21; refine (Hc.gen_any _ _ (by assumption)).mono ?_; rintro e w' ⟨rfl, rfl⟩) | (go_at_call 22; refine (Hc.rgen_any _ _ (by assumption)).mono ?_; rintro e w' ⟨rfl, rfl⟩) | (go_at_call 23; refine (Hc.next_any _ _ (by assumption)).mono ?_; rintro e w' ⟨rfl, rfl⟩) | (go_at_call 24; refine (Hc.rnext_any _ _ (by assumption)).mono ?_; rintro e w' ⟨rfl, rfl⟩) | (go_at_call 25; refine (Hc.shown_any _).mono ?_; rintro e w' ⟨rfl, rfl⟩))
        go_ret
        exact ⟨rfl, Grown.refl _⟩
      · have e : (at_ (a0 % 24) (a1 % 10) k == Hc.pack (a0 % 24) (a1 % 10 + a2 % 12)) = true := by unfold at_; rw [hk2]; simp
        have e2 : (Hc.slotOf (at_ (a0 % 24) (a1 % 10) k) == a0 % 24) = true := by rw [SL.out k (by omega)]; simp
        clear hk2
        go_wp2_with (first | (go_at_call 15; refine (Hc.pack_any _ _ _ (by assumption) (by assumption)).mono ?_; rintro e w' ⟨rfl, rfl⟩) | (go_at_call 16; refine (Hc.rpack_any _ _ _ (by assumption) (by assumption)).mono ?_; rintro e w' ⟨rfl, rfl⟩) | (go_at_call 17; refine (Hc.valid_any _ _ (by assumption)).mono ?_; rintro e w' ⟨rfl, rfl⟩) | (go_at_call 18; refine (Hc.rvalid_any _ _ (by assumption)).mono ?_; rintro e w' ⟨rfl, rfl⟩) | (go_at_call 19; refine (Hc.slot_any _ _ (by assumption)).mono ?_; rintro e w' ⟨rfl, rfl⟩) | (go_at_call 20; refine (Hc.rslot_any _ _ (by assumption)).mono ?_; rintro e w' ⟨rfl, rfl⟩) | (go_at_call 21; refine (Hc.gen_any _ _ (by assumption)).mono ?_; rintro e w' ⟨rfl, rfl⟩) | (go_at_call 22; refine (Hc.rgen_any _ _ (by assumption)).mono ?_; rintro e w' ⟨rfl, rfl⟩) | (go_at_call 23; refine (Hc.next_any _ _ (by assumption)).mono ?_; rintro e w' ⟨rfl, rfl⟩) | (go_at_call 24; refine (Hc.rnext_any _ _ (by assumption)).mono ?_; rintro e w' ⟨rfl, rfl⟩) | (go_at_call 25; refine (Hc.shown_any _).mono ?_; rintro e w' ⟨rfl, rfl⟩))
        go_ret
        exact ⟨rfl, Grown.refl _⟩

set_option maxRecDepth 100000 in
theorem lifted (os : Os) (started : os.Started) (H : Type) (enc : TypeId × Value → H) :
    ReturnsInHanded {} Try.checked os 7 .any (Rows.handleWalkSpec.pre6 enc Try.prog Try.f7 Rows.handleWalkRow.domain false) (Rows.handleWalkSpec.post enc Try.prog Try.f7 false true false false) := by
  refine returnsInHanded_of_change (C := Try.checked) own started (by kernel_rfl) Try.func7
    (ChangeSpec.witness6 (enc := enc) (C := Try.checked) false ⟨#[], #[.int .u8 0, .int .u8 0, .int .u8 0], []⟩ 8 (by kernel_rfl) (by kernel_rfl) (by kernel_rfl) (by kernel_rfl)) ?_
  intro W base args ds gs before hval0 hW hcnd _
  have hval : ∀ (j : Nat) t v, Try.f7.params[j]? = some t → args[j]? = some v → Value.okWide Try.prog W .any base t v := hval0
  have hW' := hW
  obtain ⟨p, q, hA0, hV, rfl, hfz, hnd⟩ := hW
  have hA : DataW.TrodAll enc Try.prog W 0 (fun _ => true) true Try.f7.params.toList args.toList ds p := hA0
  rw [Try.params7] at hA hval
  obtain ⟨v0, vs0, d0, ds0, p0, q0, hargs, rfl, rfl, h0, r0⟩ := trodAll_cons hA
  obtain ⟨v1, vs1, d1, ds1, p1, q1, rfl, rfl, rfl, h1, r1⟩ := trodAll_cons r0
  obtain ⟨v2, vs2, d2, ds2, p2, q2, rfl, rfl, rfl, h2, r2⟩ := trodAll_cons r1
  obtain ⟨rfl, rfl, rfl⟩ := trodAll_nil r2
  obtain rfl : args = #[v0, v1, v2] := by cases args; simp_all
  obtain ⟨rfl, rfl⟩ := trodVars_none hV
  obtain ⟨a0, rfl, rfl, rfl, w0⟩ := open_int Try.underlying5 (hval 0 5 v0 rfl rfl) h0
  obtain ⟨a1, rfl, rfl, rfl, w1⟩ := open_int Try.underlying5 (hval 1 5 v1 rfl rfl) h1
  obtain ⟨a2, rfl, rfl, rfl, w2⟩ := open_int Try.underlying5 (hval 2 5 v2 rfl rfl) h2
  clear hA0 hval0
  simp only [List.append_nil] at hW'
  refine (walk a0 a1 a2 w0 w1 w2 W).mono fun e W' ⟨he, hg⟩ => ?_
  subst he
  exact ⟨_, rfl, post_of_same (pa := []) (pv := []) hW' (fun _ _ _ => (trodAll_cons_mk (shut_bool Try.underlying4 _) trodAll_mk0)) (fun sp _ => (trodAll_cons_mk (shut_int Try.underlying5 w0) (trodAll_cons_mk (shut_int Try.underlying5 w1) (trodAll_cons_mk (shut_int Try.underlying5 w2) trodAll_mk0)))) (fun _ _ => rfl) rfl
    (hg.frame _) hg.2.1 (ok_one (by kernel_rfl) rfl (okWide_bool_mk Try.underlying4 _))⟩

theorem over : Rows.handleWalkRow.holds Try.pinned (OpenSpec.ofChange Rows.handleWalkSpec) :=
  OpenClaim.holds_of_wide 7 Try.f7 rfl rfl rfl rfl rfl rfl rfl ⟨rfl, rfl, rfl, rfl, rfl⟩ rfl rfl rfl rfl rfl (by kernel_rfl) Try.func7 (by kernel_rfl)
    (of_decide_eq_true (by kernel_rfl)) (by unfold Func.isWrapper; first | (rw [if_pos (by decide +kernel)]; kernel_rfl) | (rw [if_neg (by decide +kernel)]; exact ⟨rfl, rfl⟩))
    (fun os started H enc _ => lifted os started H enc)

theorem proved : Rows.HandleWalkSaid :=
  over
#print axioms proved
end Go.Proofs.Ytkfpomkabjdcaaa.handleWalk
