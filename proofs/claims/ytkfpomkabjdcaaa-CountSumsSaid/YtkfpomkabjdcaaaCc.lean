/-
  The functions of packages count and mortmainref04 each return what the plain functions below give, at every int; nothing in memory changes.
  Conditions: each integer fits its kind.
-/
import Derived.Test.YtkfpomkabjdcaaaProg
import Derived.WalkKit
import Derived.OpenShut
import Derived.Lib.Hide
namespace Go.Proofs.Ytkfpomkabjdcaaa.Cc
open Go.RowKit
set_option linter.unusedVariables false


def inc (c : Int) : Int := if 12 ≤ c then 12 else if c < 0 then 1 else c + 1
def dec (c : Int) : Int × Int := if 12 ≤ c then (12, 0) else if c < 1 then (0, 11) else (c - 1, 0)
def addV (c n : Int) : Int := if n < 1 then c else if c < 0 then min 12 n else min 12 (c + n)
def addP (c n : Int) : Int × Int := (addV c n, 0)
def subV (c n : Int) : Int × Int := if n < 1 then (c, 0) else if 12 ≤ c then (12, 0) else if c < n then (0, 11) else (c - n, 0)
def meas (c : Int) : Nat := if c < 0 then 14 else if c < 12 then (13 - c).toNat else if c = 12 then 0 else 1
def meas2 (c : Int) : Nat := if 12 < c then 1 else if c = 12 then 0 else c.toNat

theorem inc_bd (c : Int) : 1 ≤ inc c ∧ inc c ≤ 12 := by unfold inc; split; omega; split <;> omega
theorem dec_bd (c : Int) : 0 ≤ (dec c).1 ∧ (dec c).1 ≤ 12 := by unfold dec; split; simp; split; simp; simp; omega
theorem inc_big (c : Int) (h : 12 ≤ c) : inc c = 12 := if_pos h
theorem inc_neg (c : Int) (h : c < 0) : inc c = 1 := by unfold inc; rw [if_neg (by omega), if_pos h]
theorem inc_mid (c : Int) (h : 0 ≤ c) (k : c < 12) : inc c = c + 1 := by unfold inc; rw [if_neg (by omega), if_neg (by omega)]
theorem dec_big (c : Int) (h : 12 ≤ c) : dec c = (12, 0) := if_pos h
theorem dec_low (c : Int) (h : c < 1) : dec c = (0, 11) := by unfold dec; rw [if_neg (by omega), if_pos h]
theorem dec_mid (c : Int) (h : 1 ≤ c) (k : c < 12) : dec c = (c - 1, 0) := by unfold dec; rw [if_neg (by omega), if_neg (by omega)]
theorem add_none (c n : Int) (h : n < 1) : addP c n = (c, 0) := by unfold addP addV; rw [if_pos h]
theorem add_top (n : Int) (h : 1 ≤ n) : addP 12 n = (12, 0) := by unfold addP addV; rw [if_neg (by omega), if_neg (by omega)]; simp; omega
theorem add_step (c n : Int) (h : 1 ≤ n) : addP (inc c) (n - 1) = addP c n := by
  have b := inc_bd c
  unfold addP
  congr 1
  unfold addV
  rw [if_neg (show ¬ n < 1 by omega)]
  by_cases k : n - 1 < 1
  · rw [if_pos k]
    unfold inc
    split
    · rw [if_neg (by omega)]; omega
    · split
      · omega
      · omega
  · rw [if_neg k, if_neg (by omega)]
    unfold inc
    split
    · rw [if_neg (by omega)]; omega
    · split
      · omega
      · omega
theorem sub_none (c n : Int) (h : n < 1) : subV c n = (c, 0) := if_pos h
theorem sub_top (c n : Int) (h : 1 ≤ n) (k : 12 ≤ c) : subV c n = (12, 0) := by unfold subV; rw [if_neg (by omega), if_pos k]
theorem sub_low (c n : Int) (h : 1 ≤ n) (k : c < 1) : subV c n = (0, 11) := by unfold subV; rw [if_neg (by omega), if_neg (by omega), if_pos (by omega)]
theorem sub_step (c n : Int) (h : 1 ≤ n) (k : 1 ≤ c) (k2 : c < 12) : subV (c - 1) (n - 1) = subV c n := by
  unfold subV
  rw [if_neg (show ¬ n < 1 by omega), if_neg (show ¬ 12 ≤ c by omega)]
  by_cases g : n - 1 < 1
  · rw [if_pos g, if_neg (by omega)]; congr 1; omega
  · rw [if_neg g, if_neg (by omega)]
    by_cases q : c < n
    · rw [if_pos (by omega), if_pos q]
    · rw [if_neg (by omega), if_neg q]; congr 1; omega
theorem meas_inc (c : Int) (h : ¬ c = 12) : meas (inc c) < meas c := by
  by_cases a : 12 ≤ c
  · rw [inc_big c a]; unfold meas; simp; split; omega; split; omega; simp
  · by_cases b : c < 0
    · rw [inc_neg c b]; unfold meas; simp [b]
    · rw [inc_mid c (by omega) (by omega)]; unfold meas
      rw [if_neg (show ¬ c + 1 < 0 by omega), if_neg (show ¬ c < 0 by omega), if_pos (show c < 12 by omega)]
      split
      · omega
      · rw [if_pos (by omega)]; omega
theorem meas_12 (c : Int) (h : 12 < c) : meas2 12 < meas2 c := by unfold meas2; rw [if_neg (by omega), if_pos rfl, if_pos h]; omega
theorem meas_dec (c : Int) (h : 1 ≤ c) (k : c < 12) : meas2 (c - 1) < meas2 c := by
  unfold meas2; rw [if_neg (by omega), if_neg (by omega), if_neg (by omega), if_neg (by omega)]; omega

theorem stuck_any (c : Int) (w : World) : Calls Try.prog 53 #[.int .i64 c] w fun e w' => e = .returned (.bool (decide (12 ≤ c))) ∧ w = w' := by
  go_enter Try.func53, Try.ntmps53
  go_wp2
  go_ret
  exact ⟨rfl, rfl⟩

theorem up_any (c : Int) (w : World) (x1 : -9223372036854775808 ≤ c) (x2 : c ≤ 9223372036854775807) :
    Calls Try.prog 52 #[.int .i64 c] w fun e w' => e = .returned (.tuple #[.int .i64 (inc c), .int .i64 0]) ∧ w = w' := by
  by_cases h : 12 ≤ c
  · rw [inc_big c h]
    go_enter Try.func52, Try.ntmps52
    go_wp2_with (go_at_call 53; refine (stuck_any _ _).mono ?_; rintro e w' ⟨rfl, rfl⟩)
    go_ret2
    exact ⟨rfl, rfl⟩
  · by_cases k : c < 0
    · rw [inc_neg c k]
      go_enter Try.func52, Try.ntmps52
      go_wp2_with (go_at_call 53; refine (stuck_any _ _).mono ?_; rintro e w' ⟨rfl, rfl⟩)
      go_ret2
      exact ⟨rfl, rfl⟩
    · rw [inc_mid c (by omega) (by omega)]
      go_enter Try.func52, Try.ntmps52
      go_wp2_with (go_at_call 53; refine (stuck_any _ _).mono ?_; rintro e w' ⟨rfl, rfl⟩)
      go_ret2
      exact ⟨rfl, rfl⟩

theorem down_any (c : Int) (w : World) (x1 : -9223372036854775808 ≤ c) (x2 : c ≤ 9223372036854775807) :
    Calls Try.prog 50 #[.int .i64 c] w fun e w' => e = .returned (.tuple #[.int .i64 (dec c).1, .int .i64 (dec c).2]) ∧ w = w' := by
  by_cases h : 12 ≤ c
  · rw [dec_big c h]
    go_enter Try.func50, Try.ntmps50
    go_wp2_with (go_at_call 53; refine (stuck_any _ _).mono ?_; rintro e w' ⟨rfl, rfl⟩)
    go_ret2
    exact ⟨rfl, rfl⟩
  · by_cases k : c < 1
    · rw [dec_low c k]
      go_enter Try.func50, Try.ntmps50
      go_wp2_with (go_at_call 53; refine (stuck_any _ _).mono ?_; rintro e w' ⟨rfl, rfl⟩)
      go_ret2
      exact ⟨rfl, rfl⟩
    · rw [dec_mid c (by omega) (by omega)]
      go_enter Try.func50, Try.ntmps50
      go_wp2_with (go_at_call 53; refine (stuck_any _ _).mono ?_; rintro e w' ⟨rfl, rfl⟩)
      go_ret2
      exact ⟨rfl, rfl⟩

set_option maxHeartbeats 1000000 in
theorem repeat_up (c0 n0 : Int) (w : World) (hc : (Lit.int .i64 c0).wf = true) (hn : (Lit.int .i64 n0).wf = true) :
    Calls Try.prog 51 #[.int .i64 c0, .int .i64 n0, .func (Fn.func 52) #[] #[]] w fun e w' => e = .returned (.tuple #[.int .i64 (addP c0 n0).1, .int .i64 (addP c0 n0).2]) ∧ w = w' := by
  obtain ⟨x1, x2⟩ := bounds_i64 hc
  obtain ⟨x3, x4⟩ := bounds_i64 hn
  obtain ⟨R, hR⟩ : ∃ R, R = addP c0 n0 := ⟨_, rfl⟩
  have HR : Hid (R = addP c0 n0) := Lib.hid hR
  rw [← hR]; clear hR hc hn
  go_enter Try.func51, Try.ntmps51
  go_wp2_with fail
  refine wp_scope_jumps 0 (fun a' w' => w' = w ∧ ∃ (c n : Int) (u8 u9 u10 u11 u12 u13 u14 u15 u16 u17 u18 u19 u20 u21 u22 u23 u24 u25 u26 u27 u28 u29 u30 : Value), a' = { tmps := #[.int .i64 c, .int .i64 n, .func (Fn.func 52) #[] #[], undef, undef, undef, .int .i64 0, .int .i64 0, u8, u9, u10, u11, u12, u13, u14, u15, u16, u17, u18, u19, u20, u21, u22, u23, u24, u25, u26, u27, u28, u29, u30], defers := [] } ∧ addP c n = R ∧ -9223372036854775808 ≤ c ∧ c ≤ 9223372036854775807 ∧ -9223372036854775808 ≤ n ∧ n ≤ 9223372036854775807) (fun a' _ => meas (intOf (a'.tmps.getD 0 undef))) rfl ?_ ?_
  · obtain ⟨c, e1⟩ : ∃ c, c = c0 := ⟨_, rfl⟩
    obtain ⟨n, e2⟩ : ∃ n, n = n0 := ⟨_, rfl⟩
    rw [← e1, ← e2] at HR ⊢
    rw [← e1] at x1 x2
    rw [← e2] at x3 x4
    clear e1 e2
    have hs := Lib.hid HR.out.symm
    clear HR
    go_wp2_with fail
    go_step3
    by_cases hn : n < 1
    · have e := hs.out
      rw [add_none c n hn] at e
      have E := Lib.hid e
      clear hs e
      go_wp2
      all_goals simp only [Exit.jump]
      go_ret2
      exact ⟨by rw [← E.out]; rfl, rfl⟩
    · by_cases h12 : c = 12
      · subst h12
        have e := hs.out
        rw [add_top n (by omega)] at e
        have E := Lib.hid e
        clear hs e
        go_wp2_with (go_at_call 52; refine (up_any _ _ (by omega) (by omega)).mono ?_; rintro e w' ⟨rfl, rfl⟩; simp only [inc_big 12 (by decide)])
        all_goals simp only [Exit.jump]
        go_ret2
        exact ⟨by rw [← E.out]; rfl, rfl⟩
      · have e := hs.out
        rw [← add_step c n (by omega)] at e
        have hb := inc_bd c
        have hne : (inc c == c) = false := by
          rw [beq_eq_false_iff_ne]; unfold inc; split; omega; split <;> omega
        have E := Lib.hid e
        clear hs e
        go_wp2_with (go_at_call 52; refine (up_any _ _ (by omega) (by omega)).mono ?_; rintro e w' ⟨rfl, rfl⟩)
        go_step3
        exact ⟨rfl, rfl, inc c, _, _, _, _, _, _, _, _, _, _, _, _, _, _, _, _, _, _, _, _, _, _, _, _, rfl, E.out, by omega, by omega, by omega, by omega⟩
  · rintro a' w' ⟨rfl, c, n, u8, u9, u10, u11, u12, u13, u14, u15, u16, u17, u18, u19, u20, u21, u22, u23, u24, u25, u26, u27, u28, u29, u30, rfl, hR, x1, x2, x3, x4⟩
    have hs := Lib.hid hR
    clear hR HR
    by_cases hn : n < 1
    · have e := hs.out
      rw [add_none c n hn] at e
      have E := Lib.hid e
      clear hs e
      go_wp2
      all_goals simp only [Exit.jump]
      go_ret2
      exact ⟨by rw [← E.out]; rfl, rfl⟩
    · by_cases h12 : c = 12
      · subst h12
        have e := hs.out
        rw [add_top n (by omega)] at e
        have E := Lib.hid e
        clear hs e
        go_wp2_with (go_at_call 52; refine (up_any _ _ (by omega) (by omega)).mono ?_; rintro e w' ⟨rfl, rfl⟩; simp only [inc_big 12 (by decide)])
        all_goals simp only [Exit.jump]
        go_ret2
        exact ⟨by rw [← E.out]; rfl, rfl⟩
      · have e := hs.out
        rw [← add_step c n (by omega)] at e
        have hb := inc_bd c
        have hne : (inc c == c) = false := by
          rw [beq_eq_false_iff_ne]; unfold inc; split; omega; split <;> omega
        have E := Lib.hid e
        clear hs e
        go_wp2_with (go_at_call 52; refine (up_any _ _ (by omega) (by omega)).mono ?_; rintro e w' ⟨rfl, rfl⟩)
        go_step3
        exact ⟨rfl, ⟨rfl, inc c, _, _, _, _, _, _, _, _, _, _, _, _, _, _, _, _, _, _, _, _, _, _, _, _, rfl, E.out, by omega, by omega, by omega, by omega⟩, by simpa [intOf] using meas_inc c h12⟩
set_option maxHeartbeats 1000000 in
theorem repeat_down (c0 n0 : Int) (w : World) (hc : (Lit.int .i64 c0).wf = true) (hn : (Lit.int .i64 n0).wf = true) :
    Calls Try.prog 51 #[.int .i64 c0, .int .i64 n0, .func (Fn.func 50) #[] #[]] w fun e w' => e = .returned (.tuple #[.int .i64 (subV c0 n0).1, .int .i64 (subV c0 n0).2]) ∧ w = w' := by
  obtain ⟨x1, x2⟩ := bounds_i64 hc
  obtain ⟨x3, x4⟩ := bounds_i64 hn
  obtain ⟨R, hR⟩ : ∃ R, R = subV c0 n0 := ⟨_, rfl⟩
  have HR : Hid (R = subV c0 n0) := Lib.hid hR
  rw [← hR]; clear hR hc hn
  go_enter Try.func51, Try.ntmps51
  go_wp2_with fail
  refine wp_scope_jumps 0 (fun a' w' => w' = w ∧ ∃ (c n : Int) (u8 u9 u10 u11 u12 u13 u14 u15 u16 u17 u18 u19 u20 u21 u22 u23 u24 u25 u26 u27 u28 u29 u30 : Value), a' = { tmps := #[.int .i64 c, .int .i64 n, .func (Fn.func 50) #[] #[], undef, undef, undef, .int .i64 0, .int .i64 0, u8, u9, u10, u11, u12, u13, u14, u15, u16, u17, u18, u19, u20, u21, u22, u23, u24, u25, u26, u27, u28, u29, u30], defers := [] } ∧ subV c n = R ∧ -9223372036854775808 ≤ c ∧ c ≤ 9223372036854775807 ∧ -9223372036854775808 ≤ n ∧ n ≤ 9223372036854775807) (fun a' _ => meas2 (intOf (a'.tmps.getD 0 undef))) rfl ?_ ?_
  · obtain ⟨c, e1⟩ : ∃ c, c = c0 := ⟨_, rfl⟩
    obtain ⟨n, e2⟩ : ∃ n, n = n0 := ⟨_, rfl⟩
    rw [← e1, ← e2] at HR ⊢
    rw [← e1] at x1 x2
    rw [← e2] at x3 x4
    clear e1 e2
    have hs := Lib.hid HR.out.symm
    clear HR
    go_wp2_with fail
    go_step3
    by_cases hn : n < 1
    · have e := hs.out
      rw [sub_none c n hn] at e
      have E := Lib.hid e
      clear hs e
      go_wp2
      all_goals simp only [Exit.jump]
      go_ret2
      exact ⟨by rw [← E.out]; rfl, rfl⟩
    · by_cases h12 : c = 12
      · subst h12
        have e := hs.out
        rw [sub_top 12 n (by omega) (by omega)] at e
        have E := Lib.hid e
        clear hs e
        go_wp2_with (go_at_call 50; refine (down_any _ _ (by omega) (by omega)).mono ?_; rintro e w' ⟨rfl, rfl⟩; simp only [dec_big 12 (by decide)])
        all_goals simp only [Exit.jump]
        go_ret2
        exact ⟨by rw [← E.out]; rfl, rfl⟩
      · by_cases hl : c < 1
        · have e := hs.out
          rw [sub_low c n (by omega) hl] at e
          have hd := dec_low c hl
          have HD := Lib.hid hd
          have E := Lib.hid e
          clear hs e hd
          go_wp2_with (go_at_call 50; refine (down_any _ _ (by omega) (by omega)).mono ?_; rintro e w' ⟨rfl, rfl⟩; simp only [HD.out])
          all_goals simp only [Exit.jump]
          go_ret2
          exact ⟨by rw [← E.out]; rfl, rfl⟩
        · by_cases hb : 12 < c
          · have e := hs.out
            rw [sub_top c n (by omega) (by omega)] at e
            have e' : subV 12 (n - 1) = R := by
              rw [← e]; unfold subV; split <;> rfl
            have hd := dec_big c (by omega)
            have HD := Lib.hid hd
            have E := Lib.hid e'
            clear hs e hd e'
            go_wp2_with (go_at_call 50; refine (down_any _ _ (by omega) (by omega)).mono ?_; rintro e w' ⟨rfl, rfl⟩; simp only [HD.out])
            go_step3
            exact ⟨rfl, rfl, 12, _, _, _, _, _, _, _, _, _, _, _, _, _, _, _, _, _, _, _, _, _, _, _, _, rfl, E.out, by omega, by omega, by omega, by omega⟩
          · have e := hs.out
            rw [← sub_step c n (by omega) (by omega) (by omega)] at e
            have hd := dec_mid c (by omega) (by omega)
            have hne : (c - 1 == c) = false := by rw [beq_eq_false_iff_ne]; omega
            have HD := Lib.hid hd
            have E := Lib.hid e
            clear hs e hd
            go_wp2_with (go_at_call 50; refine (down_any _ _ (by omega) (by omega)).mono ?_; rintro e w' ⟨rfl, rfl⟩; simp only [HD.out])
            go_step3
            exact ⟨rfl, rfl, c - 1, _, _, _, _, _, _, _, _, _, _, _, _, _, _, _, _, _, _, _, _, _, _, _, _, rfl, E.out, by omega, by omega, by omega, by omega⟩
  · rintro a' w' ⟨rfl, c, n, u8, u9, u10, u11, u12, u13, u14, u15, u16, u17, u18, u19, u20, u21, u22, u23, u24, u25, u26, u27, u28, u29, u30, rfl, hR, x1, x2, x3, x4⟩
    have hs := Lib.hid hR
    clear hR HR
    by_cases hn : n < 1
    · have e := hs.out
      rw [sub_none c n hn] at e
      have E := Lib.hid e
      clear hs e
      go_wp2
      all_goals simp only [Exit.jump]
      go_ret2
      exact ⟨by rw [← E.out]; rfl, rfl⟩
    · by_cases h12 : c = 12
      · subst h12
        have e := hs.out
        rw [sub_top 12 n (by omega) (by omega)] at e
        have E := Lib.hid e
        clear hs e
        go_wp2_with (go_at_call 50; refine (down_any _ _ (by omega) (by omega)).mono ?_; rintro e w' ⟨rfl, rfl⟩; simp only [dec_big 12 (by decide)])
        all_goals simp only [Exit.jump]
        go_ret2
        exact ⟨by rw [← E.out]; rfl, rfl⟩
      · by_cases hl : c < 1
        · have e := hs.out
          rw [sub_low c n (by omega) hl] at e
          have hd := dec_low c hl
          have HD := Lib.hid hd
          have E := Lib.hid e
          clear hs e hd
          go_wp2_with (go_at_call 50; refine (down_any _ _ (by omega) (by omega)).mono ?_; rintro e w' ⟨rfl, rfl⟩; simp only [HD.out])
          all_goals simp only [Exit.jump]
          go_ret2
          exact ⟨by rw [← E.out]; rfl, rfl⟩
        · by_cases hb : 12 < c
          · have e := hs.out
            rw [sub_top c n (by omega) (by omega)] at e
            have e' : subV 12 (n - 1) = R := by
              rw [← e]; unfold subV; split <;> rfl
            have hd := dec_big c (by omega)
            have HD := Lib.hid hd
            have E := Lib.hid e'
            clear hs e hd e'
            go_wp2_with (go_at_call 50; refine (down_any _ _ (by omega) (by omega)).mono ?_; rintro e w' ⟨rfl, rfl⟩; simp only [HD.out])
            go_step3
            exact ⟨rfl, ⟨rfl, 12, _, _, _, _, _, _, _, _, _, _, _, _, _, _, _, _, _, _, _, _, _, _, _, _, rfl, E.out, by omega, by omega, by omega, by omega⟩, by simpa [intOf] using meas_12 c hb⟩
          · have e := hs.out
            rw [← sub_step c n (by omega) (by omega) (by omega)] at e
            have hd := dec_mid c (by omega) (by omega)
            have hne : (c - 1 == c) = false := by rw [beq_eq_false_iff_ne]; omega
            have HD := Lib.hid hd
            have E := Lib.hid e
            clear hs e hd
            go_wp2_with (go_at_call 50; refine (down_any _ _ (by omega) (by omega)).mono ?_; rintro e w' ⟨rfl, rfl⟩; simp only [HD.out])
            go_step3
            exact ⟨rfl, ⟨rfl, c - 1, _, _, _, _, _, _, _, _, _, _, _, _, _, _, _, _, _, _, _, _, _, _, _, _, rfl, E.out, by omega, by omega, by omega, by omega⟩, by simpa [intOf] using meas_dec c (by omega) (by omega)⟩

theorem Inc_any (c : Int) (w : World) (hc : (Lit.int .i64 c).wf = true) :
    Calls Try.prog 30 #[.int .i64 c] w fun e w' => e = .returned (.int .i64 (inc c)) ∧ w = w' := by
  obtain ⟨xc, yc⟩ := bounds_i64 hc
  go_enter Try.func30, Try.ntmps30
  go_wp2_with (go_at_call 52; refine (up_any _ _ xc yc).mono ?_; rintro e w' ⟨rfl, rfl⟩)
  go_ret
  exact ⟨rfl, rfl⟩

theorem Dec_any (c : Int) (w : World) (hc : (Lit.int .i64 c).wf = true) :
    Calls Try.prog 26 #[.int .i64 c] w fun e w' => e = .returned (.tuple #[.int .i64 (dec c).1, .int .i64 (dec c).2]) ∧ w = w' := by
  obtain ⟨xc, yc⟩ := bounds_i64 hc
  go_enter Try.func26, Try.ntmps26
  go_wp2_with (go_at_call 50; refine (down_any _ _ xc yc).mono ?_; rintro e w' ⟨rfl, rfl⟩)
  go_ret2
  exact ⟨rfl, rfl⟩

theorem Stuck_any (c : Int) (w : World) (hc : (Lit.int .i64 c).wf = true) :
    Calls Try.prog 32 #[.int .i64 c] w fun e w' => e = .returned (.bool (decide (12 ≤ c))) ∧ w = w' := by
  obtain ⟨xc, yc⟩ := bounds_i64 hc
  go_enter Try.func32, Try.ntmps32
  go_wp2_with (go_at_call 53; refine (stuck_any _ _).mono ?_; rintro e w' ⟨rfl, rfl⟩)
  go_ret
  exact ⟨rfl, rfl⟩

theorem Add_any (c n : Int) (w : World) (hc : (Lit.int .i64 c).wf = true) (hn : (Lit.int .i64 n).wf = true) :
    Calls Try.prog 34 #[.int .i64 c, .int .i64 n] w fun e w' => e = .returned (.int .i64 (addV c n)) ∧ w = w' := by
  obtain ⟨xc, yc⟩ := bounds_i64 hc
  obtain ⟨xn, yn⟩ := bounds_i64 hn
  go_enter Try.func34, Try.ntmps34
  go_wp2_with (go_at_call 51; refine (repeat_up _ _ _ hc hn).mono ?_; rintro e w' ⟨rfl, rfl⟩)
  go_ret
  exact ⟨rfl, rfl⟩

theorem Sub_any (c n : Int) (w : World) (hc : (Lit.int .i64 c).wf = true) (hn : (Lit.int .i64 n).wf = true) :
    Calls Try.prog 28 #[.int .i64 c, .int .i64 n] w fun e w' => e = .returned (.tuple #[.int .i64 (subV c n).1, .int .i64 (subV c n).2]) ∧ w = w' := by
  obtain ⟨xc, yc⟩ := bounds_i64 hc
  obtain ⟨xn, yn⟩ := bounds_i64 hn
  go_enter Try.func28, Try.ntmps28
  go_wp2_with (go_at_call 51; refine (repeat_down _ _ _ hc hn).mono ?_; rintro e w' ⟨rfl, rfl⟩)
  go_ret2
  exact ⟨rfl, rfl⟩

theorem inc_add (c : Int) (k : Nat) : inc (addV c k) = addV c (k + 1) := by
  unfold inc addV
  by_cases h : (k : Int) < 1
  · rw [if_pos h, if_neg (show ¬ (k : Int) + 1 < 1 by omega)]
    split
    · rw [if_neg (by omega)]; omega
    · split
      · omega
      · omega
  · rw [if_neg h, if_neg (show ¬ (k : Int) + 1 < 1 by omega)]
    by_cases g : c < 0
    · rw [if_pos g, if_pos g]; split
      · omega
      · rw [if_neg (by omega)]; omega
    · rw [if_neg g, if_neg g]; split
      · omega
      · rw [if_neg (by omega)]; omega
theorem add_end (c n : Int) (k : Nat) (h : (k : Int) = 0 ∨ (k : Int) ≤ n) (g : ¬ ((k : Int) < n ∧ (k : Int) < 20)) : addV c k = addV c n := by
  unfold addV
  by_cases a : n < 1
  · rw [if_pos a, if_pos (by omega)]
  · rw [if_neg a, if_neg (by omega)]
    split <;> omega
theorem addV_bd (c n : Int) (h1 : -9223372036854775808 ≤ c) (h2 : c ≤ 9223372036854775807) : -9223372036854775808 ≤ addV c n ∧ addV c n ≤ 9223372036854775807 := by
  unfold addV; split
  · omega
  · split <;> omega
theorem subV_bd (c n : Int) (h1 : -9223372036854775808 ≤ c) (h2 : c ≤ 9223372036854775807) : -9223372036854775808 ≤ (subV c n).1 ∧ (subV c n).1 ≤ 9223372036854775807 := by
  unfold subV; split
  · simp; omega
  · split
    · simp
    · split
      · simp
      · simp; omega
theorem sub_next (c v : Int) (k : Nat) (h : subV c k = (v, 0)) : subV c (k + 1) = dec v := by
  unfold subV at *
  rw [if_neg (show ¬ (k : Int) + 1 < 1 by omega)]
  by_cases a : (k : Int) < 1
  · rw [if_pos a] at h
    obtain ⟨rfl, _⟩ := Prod.mk.inj h
    have : (k : Int) = 0 := by omega
    unfold dec
    split
    · rfl
    · split
      · rw [if_pos (by omega)]
      · rw [if_neg (by omega)]; congr 1; omega
  · rw [if_neg a] at h
    split at h
    · obtain ⟨rfl, _⟩ := Prod.mk.inj h
      rw [if_pos ‹_›, dec_big 12 (by omega)]
    · split at h
      · have := (Prod.mk.inj h).2; omega
      · obtain ⟨rfl, _⟩ := Prod.mk.inj h
        rw [if_neg ‹_›]
        by_cases q : c < (k : Int) + 1
        · rw [if_pos q, dec_low _ (by omega)]
        · rw [if_neg q, dec_mid _ (by omega) (by omega)]; congr 1; omega
theorem sub_err (c n : Int) (k : Nat) (h : subV c (k + 1) = (0, 11)) (g : (k : Int) < n) : subV c n = (0, 11) := by
  unfold subV at *
  rw [if_neg (show ¬ (k : Int) + 1 < 1 by omega)] at h
  rw [if_neg (by omega)]
  split at h
  · have := (Prod.mk.inj h).2; omega
  · rw [if_neg ‹_›]
    split at h
    · rw [if_pos (by omega)]
    · have := (Prod.mk.inj h).2; omega
theorem sub_end (c n v : Int) (k : Nat) (e : subV c k = (v, 0)) (h : (k : Int) = 0 ∨ (k : Int) ≤ n) (g : ¬ ((k : Int) < n ∧ (k : Int) < 20)) : subV c n = (v, 0) := by
  by_cases z : (k : Int) < 1
  · have hk : (k : Int) = 0 := by omega
    rw [hk] at e
    rw [← e, sub_none c n (by omega), sub_none c 0 (by omega)]
  · by_cases t : 12 ≤ c
    · rw [sub_top c k (by omega) t] at e
      rw [← e, sub_top c n (by omega) t]
    · have hk : (k : Int) = n := by
        unfold subV at e
        rw [if_neg z, if_neg t] at e
        split at e
        · have := (Prod.mk.inj e).2; omega
        · omega
      rw [← hk, e]
theorem dec_cases (v : Int) : (dec v).2 = 0 ∨ dec v = (0, 11) := by
  unfold dec; split
  · left; rfl
  · split
    · right; rfl
    · left; rfl

theorem rstuck_any (c : Int) (w : World) : Calls Try.prog 33 #[.int .i64 c] w fun e w' => e = .returned (.bool (decide (12 ≤ c))) ∧ w = w' := by
  go_enter Try.func33, Try.ntmps33
  go_wp2
  go_ret
  exact ⟨rfl, rfl⟩

theorem rinc_any (c : Int) (w : World) (x1 : -9223372036854775808 ≤ c) (x2 : c ≤ 9223372036854775807) :
    Calls Try.prog 31 #[.int .i64 c] w fun e w' => e = .returned (.int .i64 (inc c)) ∧ w = w' := by
  by_cases h : 12 ≤ c
  · rw [inc_big c h]
    go_enter Try.func31, Try.ntmps31
    go_wp2_with (go_at_call 33; refine (rstuck_any _ _).mono ?_; rintro e w' ⟨rfl, rfl⟩)
    go_ret
    exact ⟨rfl, rfl⟩
  · by_cases k : c < 0
    · rw [inc_neg c k]
      go_enter Try.func31, Try.ntmps31
      go_wp2_with (go_at_call 33; refine (rstuck_any _ _).mono ?_; rintro e w' ⟨rfl, rfl⟩)
      go_ret
      exact ⟨rfl, rfl⟩
    · rw [inc_mid c (by omega) (by omega)]
      go_enter Try.func31, Try.ntmps31
      go_wp2_with (go_at_call 33; refine (rstuck_any _ _).mono ?_; rintro e w' ⟨rfl, rfl⟩)
      go_ret
      exact ⟨rfl, rfl⟩

theorem rdec_any (c : Int) (w : World) (x1 : -9223372036854775808 ≤ c) (x2 : c ≤ 9223372036854775807) :
    Calls Try.prog 27 #[.int .i64 c] w fun e w' => e = .returned (.tuple #[.int .i64 (dec c).1, .int .i64 (dec c).2]) ∧ w = w' := by
  by_cases h : 12 ≤ c
  · rw [dec_big c h]
    go_enter Try.func27, Try.ntmps27
    go_wp2_with (go_at_call 33; refine (rstuck_any _ _).mono ?_; rintro e w' ⟨rfl, rfl⟩)
    go_ret2
    exact ⟨rfl, rfl⟩
  · by_cases k : c < 1
    · rw [dec_low c k]
      go_enter Try.func27, Try.ntmps27
      go_wp2_with (go_at_call 33; refine (rstuck_any _ _).mono ?_; rintro e w' ⟨rfl, rfl⟩)
      go_ret2
      exact ⟨rfl, rfl⟩
    · rw [dec_mid c (by omega) (by omega)]
      go_enter Try.func27, Try.ntmps27
      go_wp2_with (go_at_call 33; refine (rstuck_any _ _).mono ?_; rintro e w' ⟨rfl, rfl⟩)
      go_ret2
      exact ⟨rfl, rfl⟩

set_option maxHeartbeats 1000000 in
theorem radd_any (c n : Int) (w : World) (hc : (Lit.int .i64 c).wf = true) (hn : (Lit.int .i64 n).wf = true) :
    Calls Try.prog 35 #[.int .i64 c, .int .i64 n] w fun e w' => e = .returned (.int .i64 (addV c n)) ∧ w = w' := by
  obtain ⟨x1, x2⟩ := bounds_i64 hc
  obtain ⟨x3, x4⟩ := bounds_i64 hn
  go_enter Try.func35, Try.ntmps35
  go_wp2_with fail
  go_loop [0, 5] (fun v i => ∃ k : Nat, k ≤ 20 ∧ ((k : Int) = 0 ∨ (k : Int) ≤ n) ∧ i = .int .i64 k ∧ v = .int .i64 (addV c k)) (fun _ i => 20 - (intOf i).toNat)
  case atStart => exact ⟨0, by omega, by omega, rfl, rfl⟩
  case round =>
    obtain ⟨k, hk, hkn, rfl, rfl⟩ := hrel
    obtain ⟨y1, y2⟩ := addV_bd c k x1 x2
    have S := Lib.hid (inc_add c k)
    by_cases h1 : (k : Int) < n
    · by_cases h2 : (k : Int) < 20
      · go_wp2_with (go_at_call 31; refine (rinc_any _ _ y1 y2).mono ?_; rintro e w' ⟨rfl, rfl⟩)
        go_round
        case rel => exact ⟨k + 1, by omega, by omega, by go_num, by rw [S.out]; rfl⟩
        case measure => simp [intOf]; omega
      · have E := Lib.hid (add_end c n k hkn (by omega))
        go_wp2_with fail
        go_ret
        exact ⟨by rw [← E.out]; rfl, rfl⟩
    · have E := Lib.hid (add_end c n k hkn (by omega))
      go_wp2_with fail
      go_ret
      exact ⟨by rw [← E.out]; rfl, rfl⟩

set_option maxHeartbeats 1000000 in
theorem rsub_any (c n : Int) (w : World) (hc : (Lit.int .i64 c).wf = true) (hn : (Lit.int .i64 n).wf = true) :
    Calls Try.prog 29 #[.int .i64 c, .int .i64 n] w fun e w' => e = .returned (.tuple #[.int .i64 (subV c n).1, .int .i64 (subV c n).2]) ∧ w = w' := by
  obtain ⟨x1, x2⟩ := bounds_i64 hc
  obtain ⟨x3, x4⟩ := bounds_i64 hn
  go_enter Try.func29, Try.ntmps29
  go_wp2_with fail
  go_loop [0, 6, 7, 8] (fun v i _ _ => ∃ (k : Nat) (x : Int), k ≤ 20 ∧ ((k : Int) = 0 ∨ (k : Int) ≤ n) ∧ i = .int .i64 k ∧ v = .int .i64 x ∧ Hid (subV c k = (x, 0)) ∧ -9223372036854775808 ≤ x ∧ x ≤ 9223372036854775807) (fun _ i _ _ => 20 - (intOf i).toNat)
  case atStart => exact ⟨0, c, by omega, by omega, rfl, rfl, Lib.hid rfl, x1, x2⟩
  case round =>
    obtain ⟨k, x, hk, hkn, rfl, rfl, hx, y1, y2⟩ := hrel
    by_cases h1 : (k : Int) < n
    · by_cases h2 : (k : Int) < 20
      · have S := Lib.hid (sub_next c x k hx.out)
        have d := dec_bd x
        rcases dec_cases x with z | z
        · have Z := Lib.hid z
          clear z
          go_wp2_with (go_at_call 27; refine (rdec_any _ _ y1 y2).mono ?_; rintro e w' ⟨rfl, rfl⟩; simp only [Z.out])
          go_round
          case rel => exact ⟨k + 1, (dec x).1, by omega, by omega, by go_num, rfl, Lib.hid (by rw [show ((k + 1 : Nat) : Int) = (k : Int) + 1 from rfl, S.out, ← Z.out]), by omega, by omega⟩
          case measure => simp [intOf]; omega
        · have Z := Lib.hid z
          have E := Lib.hid (sub_err c n k (by rw [S.out, z]) h1)
          clear z
          go_wp2_with (go_at_call 27; refine (rdec_any _ _ y1 y2).mono ?_; rintro e w' ⟨rfl, rfl⟩; simp only [Z.out])
          go_ret2
          exact ⟨by rw [E.out]; rfl, rfl⟩
      · have E := Lib.hid (sub_end c n x k hx.out hkn (by omega))
        go_wp2_with fail
        go_ret2
        exact ⟨by rw [E.out]; rfl, rfl⟩
    · have E := Lib.hid (sub_end c n x k hx.out hkn (by omega))
      go_wp2_with fail
      go_ret2
      exact ⟨by rw [E.out]; rfl, rfl⟩

set_option maxHeartbeats 1000000 in
theorem shown_any (w : World) : Calls Try.prog 36 #[] w fun e w' => e = .returned (.bool true) ∧ w = w' := by
  go_enter Try.func36, Try.ntmps36
  go_wp2_with (first | (go_at_call 26; refine (Dec_any _ _ (by decide)).mono ?_; rintro e w' ⟨rfl, rfl⟩; simp only [show dec 0 = (0, 11) from rfl, show dec 99 = (12, 0) from rfl]) | (go_at_call 28; refine (Sub_any _ _ _ (by decide) (by decide)).mono ?_; rintro e w' ⟨rfl, rfl⟩; simp only [show subV 5 3 = (2, 0) from rfl, show subV 5 6 = (0, 11) from rfl]) | (go_at_call 30; refine (Inc_any _ _ (by decide)).mono ?_; rintro e w' ⟨rfl, rfl⟩; simp only [show inc 11 = 12 from rfl, show inc 12 = 12 from rfl, show inc (-5) = 1 from rfl]) | (go_at_call 34; refine (Add_any _ _ _ (by decide) (by decide)).mono ?_; rintro e w' ⟨rfl, rfl⟩; simp only [show addV 3 4 = 7 from rfl]) | (go_at_call 32; refine (Stuck_any _ _ (by decide)).mono ?_; rintro e w' ⟨rfl, rfl⟩))
  go_ret
  exact ⟨rfl, rfl⟩
end Go.Proofs.Ytkfpomkabjdcaaa.Cc
