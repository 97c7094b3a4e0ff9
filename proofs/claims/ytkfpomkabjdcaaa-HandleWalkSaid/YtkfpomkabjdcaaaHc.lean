/-
  The functions of packages handle and mortmainref01 each return what the plain functions below give, at every int; nothing in memory changes.
  Conditions: each integer fits its kind.
-/
import Derived.Test.YtkfpomkabjdcaaaProg
import Derived.WalkKit
import Derived.OpenShut
import Derived.Lib.Hide
namespace Go.Proofs.Ytkfpomkabjdcaaa.Hc
open Go.RowKit
set_option linter.unusedVariables false

def pack (s g : Int) : Int := if 0 ≤ s ∧ s < 24 ∧ 0 ≤ g ∧ g ≤ 9 then 1 + s + g * 32 else 0
def okB (h : Int) : Bool := decide (1 ≤ h ∧ h ≤ 400 ∧ (h - 1) % 32 < 24 ∧ (h - 1) / 32 ≤ 9)
def slotOf (h : Int) : Int := if okB h = true then (h - 1) % 32 else -1
def genOf (h : Int) : Int := if okB h = true then (h - 1) / 32 else -1
def nextOf (h : Int) : Int := pack (slotOf h) (genOf h + 1)
theorem pack_no (s g : Int) (h : ¬ (0 ≤ s ∧ s < 24 ∧ 0 ≤ g ∧ g ≤ 9)) : pack s g = 0 := if_neg h
theorem pack_yes (s g : Int) (h : 0 ≤ s ∧ s < 24 ∧ 0 ≤ g ∧ g ≤ 9) : pack s g = 1 + s + g * 32 := if_pos h
theorem pack_bd (s g : Int) : 0 ≤ pack s g ∧ pack s g ≤ 312 := by unfold pack; split <;> omega
theorem ok_yes (h : Int) (a : 1 ≤ h) (c : (h - 1) % 32 < 24) (d : (h - 1) / 32 ≤ 9) : okB h = true := by unfold okB; simp; omega
theorem ok_no (h : Int) (a : ¬ (1 ≤ h ∧ h ≤ 400 ∧ (h - 1) % 32 < 24 ∧ (h - 1) / 32 ≤ 9)) : okB h = false := decide_eq_false a
theorem slot_yes (h : Int) (a : okB h = true) : slotOf h = (h - 1) % 32 := if_pos a
theorem slot_no (h : Int) (a : okB h = false) : slotOf h = -1 := if_neg (by simp [a])
theorem gen_yes (h : Int) (a : okB h = true) : genOf h = (h - 1) / 32 := if_pos a
theorem gen_no (h : Int) (a : okB h = false) : genOf h = -1 := if_neg (by simp [a])
theorem ok_bd (h : Int) (a : okB h = true) : 1 ≤ h ∧ h ≤ 400 ∧ (h - 1) % 32 < 24 ∧ (h - 1) / 32 ≤ 9 := of_decide_eq_true a
theorem slot_bd (h : Int) : -1 ≤ slotOf h ∧ slotOf h < 24 := by
  unfold slotOf; split
  · rename_i a; have := ok_bd h a; omega
  · omega
theorem gen_bd (h : Int) : -1 ≤ genOf h ∧ genOf h ≤ 9 := by
  unfold genOf; split
  · rename_i a; have := ok_bd h a; omega
  · omega

theorem pack_any (s g : Int) (w : World) (hs : (Lit.int .i64 s).wf = true) (hg : (Lit.int .i64 g).wf = true) :
    Calls Try.prog 15 #[.int .i64 s, .int .i64 g] w fun e w' => e = .returned (.int .i64 (pack s g)) ∧ w = w' := by
  by_cases h : 0 ≤ s ∧ s < 24 ∧ 0 ≤ g ∧ g ≤ 9
  · rw [pack_yes s g h]
    obtain ⟨h1, h2, h3, h4⟩ := h
    clear hs hg
    go_enter Try.func15, Try.ntmps15
    go_wp2
    go_ret
    exact ⟨rfl, rfl⟩
  · rw [pack_no s g h]
    by_cases h1 : s < 0
    · clear h hs hg
      go_enter Try.func15, Try.ntmps15
      go_wp2
      go_ret
      exact ⟨rfl, rfl⟩
    · by_cases h2 : 24 ≤ s
      · clear h hs hg
        go_enter Try.func15, Try.ntmps15
        go_wp2
        go_ret
        exact ⟨rfl, rfl⟩
      · by_cases h3 : g < 0
        · clear h hs hg
          go_enter Try.func15, Try.ntmps15
          go_wp2
          go_ret
          exact ⟨rfl, rfl⟩
        · have h4 : 9 < g := by omega
          clear h hs hg
          go_enter Try.func15, Try.ntmps15
          go_wp2
          go_ret
          exact ⟨rfl, rfl⟩

theorem rpack_any (s g : Int) (w : World) (hs : (Lit.int .i64 s).wf = true) (hg : (Lit.int .i64 g).wf = true) :
    Calls Try.prog 16 #[.int .i64 s, .int .i64 g] w fun e w' => e = .returned (.int .i64 (pack s g)) ∧ w = w' := by
  by_cases h : 0 ≤ s ∧ s < 24 ∧ 0 ≤ g ∧ g ≤ 9
  · rw [pack_yes s g h]
    obtain ⟨h1, h2, h3, h4⟩ := h
    clear hs hg
    go_enter Try.func16, Try.ntmps16
    go_wp2
    go_ret
    exact ⟨by rw [show 1 + s + g * 32 = 1 + s + 32 * g from by omega]; rfl, rfl⟩
  · rw [pack_no s g h]
    by_cases h1 : s < 0
    · clear h hs hg
      go_enter Try.func16, Try.ntmps16
      go_wp2
      go_ret
      exact ⟨rfl, rfl⟩
    · by_cases h2 : 24 ≤ s
      · clear h hs hg
        go_enter Try.func16, Try.ntmps16
        go_wp2
        go_ret
        exact ⟨rfl, rfl⟩
      · by_cases h3 : g < 0
        · clear h hs hg
          go_enter Try.func16, Try.ntmps16
          go_wp2
          go_ret
          exact ⟨rfl, rfl⟩
        · have h4 : 9 < g := by omega
          clear h hs hg
          go_enter Try.func16, Try.ntmps16
          go_wp2
          go_ret
          exact ⟨rfl, rfl⟩

theorem parts_any (h : Int) (w : World) (hh : (Lit.int .i64 h).wf = true) :
    Calls Try.prog 49 #[.int .i64 h] w fun e w' => e = .returned (.tuple #[.int .i64 (slotOf h), .int .i64 (genOf h), .bool (okB h)]) ∧ w = w' := by
  have b := bounds_i64 hh
  obtain ⟨b1, b2⟩ := b
  clear hh
  by_cases h1 : h < 1
  · have o := ok_no h (by omega)
    rw [slot_no h o, gen_no h o, o]; clear o
    go_enter Try.func49, Try.ntmps49
    go_wp2
    go_ret3
    exact ⟨rfl, rfl⟩
  · by_cases h2 : 24 ≤ (h - 1) % 32
    · have o := ok_no h (by omega)
      rw [slot_no h o, gen_no h o, o]; clear o
      go_enter Try.func49, Try.ntmps49
      go_wp2
      go_ret3
      exact ⟨rfl, rfl⟩
    · by_cases h3 : 9 < (h - 1) / 32
      · have o := ok_no h (by omega)
        rw [slot_no h o, gen_no h o, o]; clear o
        go_enter Try.func49, Try.ntmps49
        go_wp2
        go_ret3
        exact ⟨rfl, rfl⟩
      · have o := ok_yes h (by omega) (by omega) (by omega)
        rw [slot_yes h o, gen_yes h o, o]; clear o
        go_enter Try.func49, Try.ntmps49
        go_wp2
        go_ret3
        exact ⟨rfl, rfl⟩

theorem valid_any (h : Int) (w : World) (hh : (Lit.int .i64 h).wf = true) :
    Calls Try.prog 17 #[.int .i64 h] w fun e w' => e = .returned (.bool (okB h)) ∧ w = w' := by
  go_enter Try.func17, Try.ntmps17
  go_wp2_with (go_at_call 49; refine (parts_any _ _ hh).mono ?_; rintro e w' ⟨rfl, rfl⟩)
  go_ret
  exact ⟨rfl, rfl⟩

theorem slot_any (h : Int) (w : World) (hh : (Lit.int .i64 h).wf = true) :
    Calls Try.prog 19 #[.int .i64 h] w fun e w' => e = .returned (.int .i64 (slotOf h)) ∧ w = w' := by
  go_enter Try.func19, Try.ntmps19
  go_wp2_with (go_at_call 49; refine (parts_any _ _ hh).mono ?_; rintro e w' ⟨rfl, rfl⟩)
  go_ret
  exact ⟨rfl, rfl⟩

theorem gen_any (h : Int) (w : World) (hh : (Lit.int .i64 h).wf = true) :
    Calls Try.prog 21 #[.int .i64 h] w fun e w' => e = .returned (.int .i64 (genOf h)) ∧ w = w' := by
  go_enter Try.func21, Try.ntmps21
  go_wp2_with (go_at_call 49; refine (parts_any _ _ hh).mono ?_; rintro e w' ⟨rfl, rfl⟩)
  go_ret
  exact ⟨rfl, rfl⟩

theorem next_any (h : Int) (w : World) (hh : (Lit.int .i64 h).wf = true) :
    Calls Try.prog 23 #[.int .i64 h] w fun e w' => e = .returned (.int .i64 (nextOf h)) ∧ w = w' := by
  have b1 := slot_bd h
  have b2 := gen_bd h
  have c1 : (Lit.int .i64 (slotOf h)).wf = true := WalkArith.wf_i64 (by omega)
  have c2 : (Lit.int .i64 (genOf h + 1)).wf = true := WalkArith.wf_i64 (by omega)
  unfold nextOf
  go_enter Try.func23, Try.ntmps23
  go_wp2_with (first | (go_at_call 49; refine (parts_any _ _ hh).mono ?_; rintro e w' ⟨rfl, rfl⟩) | (go_at_call 15; refine (pack_any _ _ _ c1 c2).mono ?_; rintro e w' ⟨rfl, rfl⟩))
  go_ret
  exact ⟨rfl, rfl⟩

theorem rvalid_any (h : Int) (w : World) (hh : (Lit.int .i64 h).wf = true) :
    Calls Try.prog 18 #[.int .i64 h] w fun e w' => e = .returned (.bool (okB h)) ∧ w = w' := by
  obtain ⟨b1, b2⟩ := bounds_i64 hh
  by_cases h1 : h < 1
  · have o := ok_no h (by omega)
    rw [o]; clear o hh
    go_enter Try.func18, Try.ntmps18
    go_wp2
    go_ret
    exact ⟨rfl, rfl⟩
  · by_cases h2 : 400 < h
    · have o := ok_no h (by omega)
      rw [o]; clear o hh
      go_enter Try.func18, Try.ntmps18
      go_wp2
      go_ret
      exact ⟨rfl, rfl⟩
    · have c1 : (Lit.int .i64 ((h - 1) % 32)).wf = true := WalkArith.wf_i64 (by omega)
      have c2 : (Lit.int .i64 ((h - 1) / 32)).wf = true := WalkArith.wf_i64 (by omega)
      have e : (pack ((h - 1) % 32) ((h - 1) / 32) == h) = okB h := by
        by_cases k : (h - 1) % 32 < 24 ∧ (h - 1) / 32 ≤ 9
        · rw [ok_yes h (by omega) k.1 k.2, pack_yes _ _ (by omega)]; simp; omega
        · rw [ok_no h (by omega), pack_no _ _ (by omega)]; simp; omega
      have E := Lib.hid e
      clear hh e
      go_enter Try.func18, Try.ntmps18
      go_wp2_with (go_at_call 16; refine (rpack_any _ _ _ c1 c2).mono ?_; rintro e w' ⟨rfl, rfl⟩)
      go_ret
      exact ⟨by rw [← E.out]; rfl, rfl⟩

theorem rslot_any (h : Int) (w : World) (hh : (Lit.int .i64 h).wf = true) :
    Calls Try.prog 20 #[.int .i64 h] w fun e w' => e = .returned (.int .i64 (slotOf h)) ∧ w = w' := by
  obtain ⟨b1, b2⟩ := bounds_i64 hh
  cases o : okB h
  · rw [slot_no h o]
    go_enter Try.func20, Try.ntmps20
    go_wp2_with (go_at_call 18; refine (rvalid_any _ _ hh).mono ?_; rintro e w' ⟨rfl, rfl⟩)
    go_ret
    exact ⟨rfl, rfl⟩
  · rw [slot_yes h o]
    obtain ⟨d1, d2, d3, d4⟩ := ok_bd h o
    go_enter Try.func20, Try.ntmps20
    go_wp2_with (go_at_call 18; refine (rvalid_any _ _ hh).mono ?_; rintro e w' ⟨rfl, rfl⟩)
    go_ret
    exact ⟨rfl, rfl⟩

theorem rgen_any (h : Int) (w : World) (hh : (Lit.int .i64 h).wf = true) :
    Calls Try.prog 22 #[.int .i64 h] w fun e w' => e = .returned (.int .i64 (genOf h)) ∧ w = w' := by
  obtain ⟨b1, b2⟩ := bounds_i64 hh
  cases o : okB h
  · rw [gen_no h o]
    go_enter Try.func22, Try.ntmps22
    go_wp2_with (go_at_call 18; refine (rvalid_any _ _ hh).mono ?_; rintro e w' ⟨rfl, rfl⟩)
    go_ret
    exact ⟨rfl, rfl⟩
  · rw [gen_yes h o]
    obtain ⟨d1, d2, d3, d4⟩ := ok_bd h o
    go_enter Try.func22, Try.ntmps22
    go_wp2_with (go_at_call 18; refine (rvalid_any _ _ hh).mono ?_; rintro e w' ⟨rfl, rfl⟩)
    go_ret
    exact ⟨rfl, rfl⟩

theorem rnext_any (h : Int) (w : World) (hh : (Lit.int .i64 h).wf = true) :
    Calls Try.prog 24 #[.int .i64 h] w fun e w' => e = .returned (.int .i64 (nextOf h)) ∧ w = w' := by
  have b1 := slot_bd h
  have b2 := gen_bd h
  have c1 : (Lit.int .i64 (slotOf h)).wf = true := WalkArith.wf_i64 (by omega)
  have c2 : (Lit.int .i64 (genOf h + 1)).wf = true := WalkArith.wf_i64 (by omega)
  cases o : okB h
  · have n : nextOf h = 0 := by unfold nextOf; rw [slot_no h o, gen_no h o]; rfl
    rw [n]; clear n
    go_enter Try.func24, Try.ntmps24
    go_wp2_with (go_at_call 18; refine (rvalid_any _ _ hh).mono ?_; rintro e w' ⟨rfl, rfl⟩)
    go_ret
    exact ⟨rfl, rfl⟩
  · unfold nextOf
    go_enter Try.func24, Try.ntmps24
    go_wp2_with (first | (go_at_call 18; refine (rvalid_any _ _ hh).mono ?_; rintro e w' ⟨rfl, rfl⟩) | (go_at_call 20; refine (rslot_any _ _ hh).mono ?_; rintro e w' ⟨rfl, rfl⟩) | (go_at_call 22; refine (rgen_any _ _ hh).mono ?_; rintro e w' ⟨rfl, rfl⟩) | (go_at_call 16; refine (rpack_any _ _ _ c1 c2).mono ?_; rintro e w' ⟨rfl, rfl⟩))
    go_ret
    exact ⟨rfl, rfl⟩

theorem shown_any (w : World) : Calls Try.prog 25 #[] w fun e w' => e = .returned (.bool true) ∧ w = w' := by
  go_enter Try.func25, Try.ntmps25
  go_wp2_with (first | (go_at_call 15; refine (pack_any _ _ _ (by decide) (by decide)).mono ?_; rintro e w' ⟨rfl, rfl⟩; simp only [show pack 2 1 = 35 from rfl, show pack 2 9 = 291 from rfl]) | (go_at_call 17; refine (valid_any _ _ (by decide)).mono ?_; rintro e w' ⟨rfl, rfl⟩) | (go_at_call 19; refine (slot_any _ _ (by decide)).mono ?_; rintro e w' ⟨rfl, rfl⟩) | (go_at_call 21; refine (gen_any _ _ (by decide)).mono ?_; rintro e w' ⟨rfl, rfl⟩) | (go_at_call 23; refine (next_any _ _ (by decide)).mono ?_; rintro e w' ⟨rfl, rfl⟩))
  go_ret
  exact ⟨rfl, rfl⟩
end Go.Proofs.Ytkfpomkabjdcaaa.Hc
