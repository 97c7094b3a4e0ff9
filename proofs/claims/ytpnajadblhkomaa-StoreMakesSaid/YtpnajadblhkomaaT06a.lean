/-
  Slabs of objects: what the plain functions come to.
-/
import Derived.Test.YtpnajadblhkomaaT01
namespace Go.Sh
set_option linter.unusedVariables false
set_option linter.unusedSimpArgs false

abbrev z0 : store_Obj := ⟨0, 0, 0, 0, false, []⟩

/-- A slab that is right. -/
structure SlO (s : slab_Slab_store_Obj) : Prop where
  len : s.Cells.length ≤ 24
  l0 : 0 ≤ s.Last
  l9 : s.Last ≤ 9
  cell : ∀ i (h : i < s.Cells.length), 0 ≤ s.Cells[i].State ∧ s.Cells[i].State ≤ 3 ∧ 0 ≤ s.Cells[i].Gen ∧ s.Cells[i].Gen ≤ s.Last

theorem with_eq_o {s : slab_Slab_store_Obj} {i : Int} {k : Nat} {c : slab_Cell_store_Obj} (hi : i = k) (hk : k < s.Cells.length) (hl : s.Cells.length ≤ 24) : slab_with_store_Obj s i c = some ⟨s.Cells.set k c, s.Last⟩ := by
  subst hi
  unfold slab_with_store_Obj slices_Clone_slab_Cell_store_Obj_slab_Cell_store_Obj
  rw [app_nil (by omega) (by omega), Option.bind_some, ix_at hk, Option.bind_some, Int.toNat_natCast]

theorem take_cases_o {s : slab_Slab_store_Obj} (hR : SlO s) (v : store_Obj) :
    (∃ i, ∃ h : i < s.Cells.length, s.Cells[i].State = 0 ∧ (∀ j (hj : j < i), s.Cells[j].State ≠ 0) ∧ slab_Take_store_Obj s v = some (⟨s.Cells.set i ⟨1, s.Cells[i].Gen, v⟩, s.Last⟩, 1 + i + 32 * s.Cells[i].Gen, 0)) ∨
    ((∀ i (h : i < s.Cells.length), s.Cells[i].State ≠ 0) ∧ slab_Take_store_Obj s v = some (s, 0, 4)) := by
  have hlen := hR.len
  by_cases q : ∃ i, ∃ h : i < s.Cells.length, s.Cells[i].State = 0
  · obtain ⟨i, ⟨hi, h0⟩, hmin⟩ := exists_min (p := fun i => ∃ h : i < s.Cells.length, s.Cells[i].State = 0) q
    left
    refine ⟨i, hi, h0, fun j hj => fun e => by have := hmin j ⟨by omega, e⟩; omega, ?_⟩
    unfold slab_Take_store_Obj
    simp only [jn, slab_free_store_Obj, Option.bind_some]
    have hc := hR.cell i hi
    refine lpb_up s.Cells.length (fun k => k ≤ i) (by omega) (by omega) (fun k hk hP => ?_) (fun hP => by omega)
    rcases Nat.lt_or_ge k i with g | g
    · refine .inl ⟨?_, g⟩
      have : s.Cells[k].State ≠ 0 := fun e => by have := hmin k ⟨hk, e⟩; omega
      simp only [Int.ofNat_lt, hk, decide_true, if_true, ix_at hk, Option.bind_some]
      rw [if_neg (by simpa using this), w64_nat]
    · have : k = i := by omega
      subst this
      refine .inr ⟨.inl _, ?_, rfl⟩
      simp only [Int.ofNat_lt, hk, decide_true, if_true, ix_at hk, Option.bind_some, h0, with_eq_o rfl hk hlen]
      rw [handle_Pack_eq (by omega) (by omega) hc.2.2.1 (by have := hR.l9; omega)]
      simp
  · right
    refine ⟨fun i h e => q ⟨i, h, e⟩, ?_⟩
    unfold slab_Take_store_Obj
    simp only [jn, slab_free_store_Obj, Option.bind_some]
    refine lpb_up s.Cells.length (fun k => True) (by omega) trivial (fun k hk _ => ?_) (fun hP => ⟨.inr (), by simp, rfl⟩)
    refine .inl ⟨?_, trivial⟩
    have : s.Cells[k].State ≠ 0 := fun e => q ⟨k, hk, e⟩
    simp only [Int.ofNat_lt, hk, decide_true, if_true, ix_at hk, Option.bind_some]
    rw [if_neg (by simpa using this), w64_nat]

/-- The handle finds the cell of that place. -/
def FndO (s : slab_Slab_store_Obj) (h : Int) (i : Nat) : Prop := ∃ hi : i < s.Cells.length, Hnd h ∧ (h - 1) % 32 = i ∧ s.Cells[i].Gen = (h - 1) / 32 ∧ (s.Cells[i].State = 1 ∨ s.Cells[i].State = 2)

theorem find_cases_o (s : slab_Slab_store_Obj) {h : Int} (hh : h ≤ 9223372036854775807) :
    (∃ i, FndO s h i ∧ slab_Find_store_Obj s h = some ((i : Int), 0)) ∨ ((∀ i, ¬ FndO s h i) ∧ slab_Find_store_Obj s h = some (-1, if h = 0 then 2 else 3)) := by
  unfold slab_Find_store_Obj
  by_cases h0 : h = 0
  · right
    subst h0
    exact ⟨fun i ⟨_, h1, _⟩ => by unfold Hnd at h1; omega, by simp⟩
  · rw [if_neg (by simpa using h0), handle_Slot_eq hh, Option.bind_some, if_neg h0]
    by_cases hd : Hnd h
    · rw [if_pos hd]
      have hd' := hd
      unfold Hnd at hd'
      obtain ⟨k, hk⟩ : ∃ k : Nat, (h - 1) % 32 = k := ⟨((h - 1) % 32).toNat, by omega⟩
      rw [hk]
      by_cases hl : k < s.Cells.length
      · rw [if_neg (by simp; omega), ix_at hl, Option.bind_some, handle_Gen_eq hh, Option.bind_some, if_pos hd]
        by_cases g : s.Cells[k].Gen = (h - 1) / 32 ∧ (s.Cells[k].State = 1 ∨ s.Cells[k].State = 2)
        · left
          refine ⟨k, ⟨hl, hd, hk, g⟩, ?_⟩
          rw [if_neg]
          simp; omega
        · right
          refine ⟨fun i ⟨hi, _, h2, h3⟩ => ?_, ?_⟩
          · have : i = k := by omega
            subst this; exact g h3
          · rw [if_pos]
            simp; omega
      · right
        refine ⟨fun i ⟨hi, _, h2, h3⟩ => by omega, ?_⟩
        rw [if_pos (by simp; omega)]
    · right
      refine ⟨fun i ⟨hi, h1, _⟩ => hd h1, ?_⟩
      rw [if_neg hd, if_pos (by simp)]

theorem find_of_o {s : slab_Slab_store_Obj} {h : Int} {i : Nat} (hf : FndO s h i) : slab_Find_store_Obj s h = some ((i : Int), 0) := by
  have hh := hnd_le hf.2.1
  rcases find_cases_o s (h := h) (by omega) with ⟨j, h1, h2⟩ | ⟨h1, _⟩
  · obtain ⟨_, _, e1, _⟩ := hf
    obtain ⟨_, _, e2, _⟩ := h1
    have : i = j := by omega
    subst this; exact h2
  · exact absurd hf (h1 i)
theorem find_no_o {s : slab_Slab_store_Obj} {h : Int} (hh : h ≤ 9223372036854775807) (hf : ∀ i, ¬ FndO s h i) : slab_Find_store_Obj s h = some (-1, if h = 0 then 2 else 3) := by
  rcases find_cases_o s hh with ⟨j, h1, _⟩ | ⟨_, h2⟩
  · exact absurd h1 (hf j)
  · exact h2

theorem err_ne_o (h : Int) : (if h = 0 then 2 else 3 : Int) ≠ 0 := by split <;> omega

theorem get_of_o {s : slab_Slab_store_Obj} {h : Int} {i : Nat} (hf : FndO s h i) : ∃ hi : i < s.Cells.length, slab_Get_store_Obj s h = some (if s.Cells[i].State = 2 then (z0, 3) else (s.Cells[i].Val, 0)) := by
  refine ⟨hf.1, ?_⟩
  unfold slab_Get_store_Obj
  rw [find_of_o hf, Option.bind_some, if_neg (by simp), ix_at hf.1, Option.bind_some]
  split <;> rename_i q
  · rw [if_pos (by simpa using q)]
  · rw [if_neg (by simpa using q)]
theorem get_no_o {s : slab_Slab_store_Obj} {h : Int} (hh : h ≤ 9223372036854775807) (hf : ∀ i, ¬ FndO s h i) : slab_Get_store_Obj s h = some (z0, if h = 0 then 2 else 3) := by
  unfold slab_Get_store_Obj
  rw [find_no_o hh hf, Option.bind_some, if_pos (by simpa using err_ne_o h)]

theorem set_of_o {s : slab_Slab_store_Obj} {h : Int} {v : store_Obj} {i : Nat} (hl : s.Cells.length ≤ 24) (hf : FndO s h i) : ∃ hi : i < s.Cells.length, slab_Set_store_Obj s h v = some (⟨s.Cells.set i ⟨s.Cells[i].State, s.Cells[i].Gen, v⟩, s.Last⟩, 0) := by
  refine ⟨hf.1, ?_⟩
  unfold slab_Set_store_Obj
  rw [find_of_o hf, Option.bind_some, if_neg (by simp), ix_at hf.1, Option.bind_some, with_eq_o rfl hf.1 hl, Option.bind_some]
theorem set_no_o {s : slab_Slab_store_Obj} {h : Int} {v : store_Obj} (hh : h ≤ 9223372036854775807) (hf : ∀ i, ¬ FndO s h i) : slab_Set_store_Obj s h v = some (s, if h = 0 then 2 else 3) := by
  unfold slab_Set_store_Obj
  rw [find_no_o hh hf, Option.bind_some, if_pos (by simpa using err_ne_o h)]


end Go.Sh
