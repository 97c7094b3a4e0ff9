/-
  Slabs: what the plain functions come to.
-/
import Derived.Test.YteilfbdphlimkaaT01
namespace Go.Sh
set_option linter.unusedVariables false
set_option linter.unusedSimpArgs false

def cc (c : slab_Cell_int) : r03_Cell := ⟨c.State, c.Gen, c.Val⟩
def sc (s : slab_Slab_int) : r03_Slab := ⟨s.Cells.map cc, s.Last⟩

/-- A slab that is right. -/
structure SlR (s : slab_Slab_int) : Prop where
  len : s.Cells.length ≤ 24
  l0 : 0 ≤ s.Last
  l9 : s.Last ≤ 9
  cell : ∀ i (h : i < s.Cells.length), 0 ≤ s.Cells[i].State ∧ s.Cells[i].State ≤ 3 ∧ 0 ≤ s.Cells[i].Gen ∧ s.Cells[i].Gen ≤ s.Last

theorem its_eq (s : slab_Slab_int) (h : s.Cells.length ≤ 24) : w03_its s = some (sc s) := by
  unfold w03_its
  simp only [jn]
  have e := lp_collect (b := 24) cc s.Cells (by omega) (by omega)
  simp only [cc] at e
  rw [e]
  rfl

theorem Right_eq (s : r03_Slab) : r03_Right s = some (decide (s.Cells.length ≤ 24 ∧ 0 ≤ s.Last ∧ s.Last ≤ 9 ∧ ∀ i (h : i < s.Cells.length), 0 ≤ s.Cells[i].State ∧ s.Cells[i].State ≤ 3 ∧ 0 ≤ s.Cells[i].Gen ∧ s.Cells[i].Gen ≤ s.Last)) := by
  unfold r03_Right
  split
  · rename_i q
    rw [decide_eq_false (by simp at q; omega)]
  · rename_i q
    have q : s.Cells.length ≤ 24 ∧ 0 ≤ s.Last ∧ s.Last ≤ 9 := by simp at q; omega
    simp only [jn]
    refine lpb_up s.Cells.length (fun k => ∀ j (h : j < s.Cells.length), j < k → 0 ≤ s.Cells[j].State ∧ s.Cells[j].State ≤ 3 ∧ 0 ≤ s.Cells[j].Gen ∧ s.Cells[j].Gen ≤ s.Last) (by omega) (fun _ _ h => by omega) (fun k hk hP => ?_) (fun hP => ?_)
    · by_cases g : 0 ≤ s.Cells[k].State ∧ s.Cells[k].State ≤ 3 ∧ 0 ≤ s.Cells[k].Gen ∧ s.Cells[k].Gen ≤ s.Last
      · refine .inl ⟨?_, fun j h hj => ?_⟩
        · simp only [Int.ofNat_lt, hk, decide_true, if_true, ix_at hk, Option.bind_some]
          rw [if_neg (by simp; omega), w64_nat]
        · rcases Nat.lt_or_ge j k with q' | q'
          · exact hP j h q'
          · have : j = k := by omega
            subst this; exact g
      · refine .inr ⟨.inl false, ?_, ?_⟩
        · simp only [Int.ofNat_lt, hk, decide_true, if_true, ix_at hk, Option.bind_some]
          rw [if_pos (by simp; omega)]
        · simp only
          rw [decide_eq_false (fun q' => g (q'.2.2.2 k hk))]
    · refine ⟨.inr (), by simp, ?_⟩
      simp only
      rw [decide_eq_true ⟨q.1, q.2.1, q.2.2, fun i h => hP i h h⟩]

theorem right_eq (s : slab_Slab_int) : ∃ b, w03_right s = some b ∧ (b = true ↔ SlR s) := by
  unfold w03_right
  by_cases h : s.Cells.length ≤ 24
  · have hd : decide ((s.Cells.length : Int) ≤ 24) = true := by simp; omega
    rw [hd]
    simp only [onlyIf, beq_self_eq_true, if_true, its_eq s h, Option.bind_some, Right_eq, Bool.true_and]
    refine ⟨_, rfl, ?_⟩
    rw [decide_eq_true_iff]
    constructor
    · rintro ⟨h1, h2, h3, h4⟩
      exact ⟨h, h2, h3, fun i hi => by have := h4 i (by simpa [sc] using hi); simpa [sc, cc] using this⟩
    · rintro ⟨h1, h2, h3, h4⟩
      exact ⟨by simpa [sc] using h, h2, h3, fun i hi => by have := h4 i (by simpa [sc] using hi); simpa [sc, cc] using this⟩
  · have hd : decide ((s.Cells.length : Int) ≤ 24) = false := by simp; omega
    rw [hd]
    refine ⟨false, by simp [onlyIf], ?_⟩
    constructor
    · intro q; cases q
    · intro q; exact absurd q.len h

theorem shown : w03_shown = some true := by kernel_rfl

theorem with_eq {s : slab_Slab_int} {i : Int} {k : Nat} {c : slab_Cell_int} (hi : i = k) (hk : k < s.Cells.length) (hl : s.Cells.length ≤ 24) : slab_with_int s i c = some ⟨s.Cells.set k c, s.Last⟩ := by
  subst hi
  unfold slab_with_int slices_Clone_slab_Cell_int_slab_Cell_int
  rw [app_nil (by omega) (by omega), Option.bind_some, ix_at hk, Option.bind_some, Int.toNat_natCast]

theorem take_cases {s : slab_Slab_int} (hR : SlR s) (v : Int) :
    (∃ i, ∃ h : i < s.Cells.length, s.Cells[i].State = 0 ∧ (∀ j (hj : j < i), s.Cells[j].State ≠ 0) ∧ slab_Take_int s v = some (⟨s.Cells.set i ⟨1, s.Cells[i].Gen, v⟩, s.Last⟩, 1 + i + 32 * s.Cells[i].Gen, 0)) ∨
    ((∀ i (h : i < s.Cells.length), s.Cells[i].State ≠ 0) ∧ slab_Take_int s v = some (s, 0, 4)) := by
  have hlen := hR.len
  by_cases q : ∃ i, ∃ h : i < s.Cells.length, s.Cells[i].State = 0
  · obtain ⟨i, ⟨hi, h0⟩, hmin⟩ := exists_min (p := fun i => ∃ h : i < s.Cells.length, s.Cells[i].State = 0) q
    left
    refine ⟨i, hi, h0, fun j hj => fun e => by have := hmin j ⟨by omega, e⟩; omega, ?_⟩
    unfold slab_Take_int
    simp only [jn, slab_free_int, Option.bind_some]
    have hc := hR.cell i hi
    refine lpb_up s.Cells.length (fun k => k ≤ i) (by omega) (by omega) (fun k hk hP => ?_) (fun hP => by omega)
    rcases Nat.lt_or_ge k i with g | g
    · refine .inl ⟨?_, g⟩
      have : s.Cells[k].State ≠ 0 := fun e => by have := hmin k ⟨hk, e⟩; omega
      simp only [Int.ofNat_lt, hk, decide_true, if_true, ix_at hk, Option.bind_some]
      rw [if_neg (by simpa using this), w64_nat]
    · have : k = i := by omega
      subst this
      refine .inr ⟨.inl _, ?_, rfl⟩
      simp only [Int.ofNat_lt, hk, decide_true, if_true, ix_at hk, Option.bind_some, h0, with_eq rfl hk hlen]
      rw [handle_Pack_eq (by omega) (by omega) hc.2.2.1 (by have := hR.l9; omega)]
      simp
  · right
    refine ⟨fun i h e => q ⟨i, h, e⟩, ?_⟩
    unfold slab_Take_int
    simp only [jn, slab_free_int, Option.bind_some]
    refine lpb_up s.Cells.length (fun k => True) (by omega) trivial (fun k hk _ => ?_) (fun hP => ⟨.inr (), by simp, rfl⟩)
    refine .inl ⟨?_, trivial⟩
    have : s.Cells[k].State ≠ 0 := fun e => q ⟨k, hk, e⟩
    simp only [Int.ofNat_lt, hk, decide_true, if_true, ix_at hk, Option.bind_some]
    rw [if_neg (by simpa using this), w64_nat]

/-- The handle finds the cell of that place. -/
def Fnd (s : slab_Slab_int) (h : Int) (i : Nat) : Prop := ∃ hi : i < s.Cells.length, Hnd h ∧ (h - 1) % 32 = i ∧ s.Cells[i].Gen = (h - 1) / 32 ∧ (s.Cells[i].State = 1 ∨ s.Cells[i].State = 2)

theorem find_cases (s : slab_Slab_int) {h : Int} (hh : h ≤ 9223372036854775807) :
    (∃ i, Fnd s h i ∧ slab_Find_int s h = some ((i : Int), 0)) ∨ ((∀ i, ¬ Fnd s h i) ∧ slab_Find_int s h = some (-1, if h = 0 then 2 else 3)) := by
  unfold slab_Find_int
  by_cases h0 : h = 0
  · right
    subst h0
    exact ⟨fun i ⟨_, h1, _⟩ => by unfold Hnd at h1; omega, by simp⟩
  · rw [if_neg (by simpa using h0), handle_Slot_eq hh, Option.bind_some, if_neg h0]
    by_cases hd : Hnd h
    · rw [if_pos hd]
      have hd' := hd
      unfold Hnd at hd'
      obtain ⟨k, hk⟩ : ∃ k : Nat, (h - 1) % 32 = k := ⟨((h - 1) % 32).toNat, by omega⟩
      rw [hk]
      by_cases hl : k < s.Cells.length
      · rw [if_neg (by simp; omega), ix_at hl, Option.bind_some, handle_Gen_eq hh, Option.bind_some, if_pos hd]
        by_cases g : s.Cells[k].Gen = (h - 1) / 32 ∧ (s.Cells[k].State = 1 ∨ s.Cells[k].State = 2)
        · left
          refine ⟨k, ⟨hl, hd, hk, g⟩, ?_⟩
          rw [if_neg]
          simp; omega
        · right
          refine ⟨fun i ⟨hi, _, h2, h3⟩ => ?_, ?_⟩
          · have : i = k := by omega
            subst this; exact g h3
          · rw [if_pos]
            simp; omega
      · right
        refine ⟨fun i ⟨hi, _, h2, h3⟩ => by omega, ?_⟩
        rw [if_pos (by simp; omega)]
    · right
      refine ⟨fun i ⟨hi, h1, _⟩ => hd h1, ?_⟩
      rw [if_neg hd, if_pos (by simp)]

theorem find_of {s : slab_Slab_int} {h : Int} {i : Nat} (hf : Fnd s h i) : slab_Find_int s h = some ((i : Int), 0) := by
  have hh := hnd_le hf.2.1
  rcases find_cases s (h := h) (by omega) with ⟨j, h1, h2⟩ | ⟨h1, _⟩
  · obtain ⟨_, _, e1, _⟩ := hf
    obtain ⟨_, _, e2, _⟩ := h1
    have : i = j := by omega
    subst this; exact h2
  · exact absurd hf (h1 i)
theorem find_no {s : slab_Slab_int} {h : Int} (hh : h ≤ 9223372036854775807) (hf : ∀ i, ¬ Fnd s h i) : slab_Find_int s h = some (-1, if h = 0 then 2 else 3) := by
  rcases find_cases s hh with ⟨j, h1, _⟩ | ⟨_, h2⟩
  · exact absurd h1 (hf j)
  · exact h2

theorem err_ne (h : Int) : (if h = 0 then 2 else 3 : Int) ≠ 0 := by split <;> omega

theorem get_of {s : slab_Slab_int} {h : Int} {i : Nat} (hf : Fnd s h i) : ∃ hi : i < s.Cells.length, slab_Get_int s h = some (if s.Cells[i].State = 2 then (0, 3) else (s.Cells[i].Val, 0)) := by
  refine ⟨hf.1, ?_⟩
  unfold slab_Get_int
  rw [find_of hf, Option.bind_some, if_neg (by simp), ix_at hf.1, Option.bind_some]
  split <;> rename_i q
  · rw [if_pos (by simpa using q)]
  · rw [if_neg (by simpa using q)]
theorem get_no {s : slab_Slab_int} {h : Int} (hh : h ≤ 9223372036854775807) (hf : ∀ i, ¬ Fnd s h i) : slab_Get_int s h = some (0, if h = 0 then 2 else 3) := by
  unfold slab_Get_int
  rw [find_no hh hf, Option.bind_some, if_pos (by simpa using err_ne h)]

theorem set_of {s : slab_Slab_int} {h v : Int} {i : Nat} (hl : s.Cells.length ≤ 24) (hf : Fnd s h i) : ∃ hi : i < s.Cells.length, slab_Set_int s h v = some (⟨s.Cells.set i ⟨s.Cells[i].State, s.Cells[i].Gen, v⟩, s.Last⟩, 0) := by
  refine ⟨hf.1, ?_⟩
  unfold slab_Set_int
  rw [find_of hf, Option.bind_some, if_neg (by simp), ix_at hf.1, Option.bind_some, with_eq rfl hf.1 hl, Option.bind_some]
theorem set_no {s : slab_Slab_int} {h v : Int} (hh : h ≤ 9223372036854775807) (hf : ∀ i, ¬ Fnd s h i) : slab_Set_int s h v = some (s, if h = 0 then 2 else 3) := by
  unfold slab_Set_int
  rw [find_no hh hf, Option.bind_some, if_pos (by simpa using err_ne h)]

theorem kill_of {s : slab_Slab_int} {h : Int} {i : Nat} (hl : s.Cells.length ≤ 24) (hf : Fnd s h i) : ∃ hi : i < s.Cells.length, slab_Kill_int s h = some (if s.Cells[i].State = 2 then (s, 3) else (⟨s.Cells.set i ⟨2, s.Cells[i].Gen, s.Cells[i].Val⟩, s.Last⟩, 0)) := by
  obtain ⟨hi, hg⟩ := get_of hf
  refine ⟨hi, ?_⟩
  have hh := hnd_le hf.2.1
  unfold slab_Kill_int
  rw [hg]
  split
  · rw [Option.bind_some, if_pos (by simp)]
  · rw [Option.bind_some, if_neg (by simp), handle_Slot_eq (by omega), handle_Gen_eq (by omega), Option.bind_some, Option.bind_some, if_pos hf.2.1, if_pos hf.2.1, with_eq hf.2.2.1 hi hl, Option.bind_some, hf.2.2.2.1]
theorem kill_no {s : slab_Slab_int} {h : Int} (hh : h ≤ 9223372036854775807) (hf : ∀ i, ¬ Fnd s h i) : slab_Kill_int s h = some (s, if h = 0 then 2 else 3) := by
  unfold slab_Kill_int
  rw [get_no hh hf, Option.bind_some, if_pos (by simpa using err_ne h)]

theorem give_of {s : slab_Slab_int} {h : Int} {i : Nat} (hR : SlR s) (hf : Fnd s h i) : ∃ hi : i < s.Cells.length, slab_Give_int s h = some (⟨s.Cells.set i (if s.Cells[i].Gen = s.Last then ⟨3, s.Cells[i].Gen, 0⟩ else ⟨0, s.Cells[i].Gen + 1, 0⟩), s.Last⟩, 0) := by
  refine ⟨hf.1, ?_⟩
  have hi := hf.1
  have hc := hR.cell i hf.1
  have h9 := hR.l9
  unfold slab_Give_int
  rw [find_of hf, Option.bind_some, if_neg (by simp), ix_at hf.1, Option.bind_some]
  split <;> rename_i q
  · rw [with_eq rfl hf.1 hR.len, Option.bind_some, if_pos (by simpa using q)]
  · rw [with_eq rfl hf.1 hR.len, Option.bind_some, if_neg (by simpa using q), w64_in (n := s.Cells[i].Gen + 1)]
theorem give_no {s : slab_Slab_int} {h : Int} (hh : h ≤ 9223372036854775807) (hf : ∀ i, ¬ Fnd s h i) : slab_Give_int s h = some (s, if h = 0 then 2 else 3) := by
  unfold slab_Give_int
  rw [find_no hh hf, Option.bind_some, if_pos (by simpa using err_ne h)]
end Go.Sh
