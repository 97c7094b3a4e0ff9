/-
  Package vec's and mortmainref05's contracts in one form each, and the law's own small case (shown), which is true.
  Conditions: a list of fields is no longer than 1000.
-/
import Derived.Test.YtkfpomkabjdcaabVi
namespace Go.Proofs.Ytkfpomkabjdcaab.Vs
open Go.RowKit Go.Shelf Bs Vc Vi
set_option linter.unusedVariables false

def newL (n : Int) : List Int := if 0 ≤ n ∧ n ≤ 4 then List.replicate n.toNat 0 else []
def newE (n : Int) : Int := if 0 ≤ n ∧ n ≤ 4 then 0 else 1
theorem newL_le (n : Int) : (newL n).length ≤ 1000 := by unfold newL; split <;> simp; omega

theorem new_any (n : Int) (w : World) : Calls Try.prog 13 #[.int .i64 n] w (GivesSE w (newL n) (newE n)) := by
  by_cases h : 0 ≤ n ∧ n ≤ 4
  · obtain ⟨k, rfl⟩ := Int.eq_ofNat_of_zero_le h.1
    have e1 : newL (k : Int) = List.replicate k 0 := by unfold newL; rw [if_pos h]; rfl
    have e2 : newE (k : Int) = 0 := if_pos h
    rw [e1, e2]
    exact new_yes k w (by omega)
  · have e1 : newL n = [] := if_neg h
    have e2 : newE n = 1 := if_neg h
    rw [e1, e2]
    exact new_no n w (by omega)
theorem with_any (v : Value) (l : List Int) (k h : Int) (w : World) (hs : Sl w (Value.int .i64) v l) (hl : l.length ≤ 1000) :
    Calls Try.prog 8 #[v, .int .i64 k, .int .i64 h] w (GivesSE w (withV l k h) (atE l k)) := by
  cases hk : inB l k
  · exact with_no v l k h w hs hk
  · obtain ⟨k0, k1⟩ := in_yes hk
    obtain ⟨n, rfl⟩ := Int.eq_ofNat_of_zero_le k0
    have e1 : withV l n h = l.set n h := by unfold withV; rw [if_pos hk]; rfl
    have e2 : atE l n = 0 := by unfold atE; rw [if_pos hk]
    rw [e1, e2]
    exact with_yes v l n h w hs (by omega) hl
theorem withV_len (l : List Int) (k h : Int) : (withV l k h).length = l.length := by unfold withV; split <;> simp

theorem below_drawn (w : World) (n : Nat) : Below w.heap.size w (w.drewN n) := ⟨rfl, rfl, rfl, Nat.le_refl _, fun _ _ => rfl⟩
theorem ints_b (v u : Value) (l m : List Int) (w : World) (h : Sl w (Value.int .i64) v l) (g : Sl w (Value.int .i64) u m) :
    Calls Try.prog 10 #[v, u] w fun e w' => e = .returned (.bool (decide (l = m))) ∧ Below w.heap.size w w' :=
  (ints_any v u l m w h g).mono fun e w' ⟨he, n, hw⟩ => ⟨he, by rw [hw]; exact below_drawn w n⟩
theorem at_b (v : Value) (l : List Int) (k : Int) (w : World) (h : Sl w (Value.int .i64) v l) :
    Calls Try.prog 9 #[v, .int .i64 k] w fun e w' => e = .returned (.tuple #[.int .i64 (atV l k), .int .i64 (atE l k)]) ∧ w = w' := at_any v l k w h

set_option maxHeartbeats 1000000 in
theorem shown_any (w : World) : Calls Try.prog 7 #[] w fun e w' => e = .returned (.bool true) ∧ Below w.heap.size w w' := by
  go_enter Try.func7, Try.ntmps7
  go_wp2_with fail
  refine (new_any 3 w).mono ?_
  rintro e w1 ⟨v1, rfl, s1, b1⟩
  rw [show newL 3 = [0, 0, 0] from rfl, show newE 3 = 0 from rfl] at *
  have S1 := Lib.hid s1
  have B1 := Lib.hid b1
  clear s1 b1
  go_wp2_with fail
  refine (with_any v1 [0, 0, 0] 1 7 w1 S1.out (by decide)).mono ?_
  rintro e w2 ⟨v2, rfl, s2, b2⟩
  rw [show withV [0, 0, 0] 1 7 = [0, 7, 0] from rfl, show atE [0, 0, 0] 1 = 0 from rfl] at *
  have S2 := Lib.hid s2
  have S12 := Lib.hid (S1.out.below b2)
  have B2 := Lib.hid (B1.out.trans (b2.mono B1.out.size))
  clear s2 b2
  go_wp2_with fail
  refine (at_any v2 [0, 7, 0] 1 w2 S2.out).mono ?_
  rintro e w3 ⟨rfl, rfl⟩
  rw [show atV [0, 7, 0] 1 = 7 from rfl, show atE [0, 7, 0] 1 = 0 from rfl]
  go_wp2_with fail
  refine (at_any v2 [0, 7, 0] 3 w2 S2.out).mono ?_
  rintro e w3 ⟨rfl, rfl⟩
  rw [show atV [0, 7, 0] 3 = 0 from rfl, show atE [0, 7, 0] 3 = 5 from rfl]
  go_wp2_with fail
  refine (new_any 5 w2).mono ?_
  rintro e w3 ⟨v3, rfl, s3, b3⟩
  rw [show newE 5 = 1 from rfl] at *
  have S3 := Lib.hid (S2.out.below b3)
  have S13 := S12.out.below b3
  have B3 := Lib.hid (B2.out.trans (b3.mono B2.out.size))
  clear s3 b3
  obtain ⟨b, off, c, rfl, hb, hc⟩ := S13.at_ (k := 1) (by decide)
  clear S13 S12 S1 S2
  go_wp2_with fail
  refine (names_any v2 [0, 7, 0] (by decide) w3 S3.out).mono ?_
  rintro e w4 ⟨v4, rfl, s4, b4⟩
  rw [show named [0, 7, 0] = [7] from rfl] at *
  have S4 := Lib.hid (S3.out.below b4)
  have B4 := Lib.hid (B3.out.trans (b4.mono B3.out.size))
  obtain ⟨A4, c4, rfl, _, _, _, _⟩ := s4
  clear b4
  go_wp2_with fail
  refine (count_any v2 [0, 7, 0] (by decide) 7 w4 S4.out).mono ?_
  rintro e w5 ⟨rfl, b5⟩
  rw [show cnt [0, 7, 0] 7 = 1 from rfl] at *
  have S5 := Lib.hid (S4.out.below b5)
  have B5 := Lib.hid (B4.out.trans (b5.mono B4.out.size))
  clear b5
  go_wp2_with fail
  refine (count_any v2 [0, 7, 0] (by decide) 0 w5 S5.out).mono ?_
  rintro e w6 ⟨rfl, b6⟩
  rw [show cnt [0, 7, 0] 0 = 0 from rfl] at *
  have B6 := Lib.hid (B5.out.trans (b6.mono B5.out.size))
  clear b6
  go_wp2_with fail
  go_ret
  exact ⟨rfl, B6.out⟩
end Go.Proofs.Ytkfpomkabjdcaab.Vs
