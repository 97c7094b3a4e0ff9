/-
  Handles: what the plain functions come to.
-/
import Derived.Test.YtpnajadblhkomaaG6Sh
import Derived.Test.YtpnajadblhkomaaSh1
namespace Go.Sh
set_option linter.unusedVariables false

/-- A handle that names a slot and a generation. -/
def Hnd (h : Int) : Prop := 1 ≤ h ∧ (h - 1) % 32 < 24 ∧ (h - 1) / 32 ≤ 9
instance (h : Int) : Decidable (Hnd h) := by unfold Hnd; infer_instance

theorem hnd_le {h : Int} (q : Hnd h) : 1 ≤ h ∧ h ≤ 320 := by unfold Hnd at q; omega

theorem handle_Pack_eq {i g : Int} (h1 : 0 ≤ i) (h2 : i < 24) (h3 : 0 ≤ g) (h4 : g ≤ 9) : handle_Pack i g = some (1 + i + 32 * g) := by
  unfold handle_Pack
  rw [if_neg (by simp; omega)]
  rw [show w64 (i * 1) = i by rw [w64_def]; omega, show w64 (1 + i) = 1 + i by rw [w64_def]; omega, show w64 (g * 32) = 32 * g by rw [w64_def]; omega, show w64 (1 + i + 32 * g) = 1 + i + 32 * g by rw [w64_def]; omega]

theorem r01_Pack_eq {i g : Int} : r01_Pack i g = some (if 0 ≤ i ∧ i < 24 ∧ 0 ≤ g ∧ g ≤ 9 then 1 + i + 32 * g else 0) := by
  unfold r01_Pack
  split
  · rename_i h; rw [if_neg (by simp at h; omega)]
  · rename_i h
    have h : 0 ≤ i ∧ i < 24 ∧ 0 ≤ g ∧ g ≤ 9 := by simp at h; omega
    rw [if_pos h]
    rw [show w64 (1 + i) = 1 + i by rw [w64_def]; omega, show w64 (32 * g) = 32 * g by rw [w64_def]; omega, show w64 (1 + i + 32 * g) = 1 + i + 32 * g by rw [w64_def]; omega]

theorem handle_parts_eq {h : Int} (hh : h ≤ 9223372036854775807) : handle_parts h = some (if Hnd h then ((h - 1) % 32, (h - 1) / 32, true) else (-1, -1, false)) := by
  unfold handle_parts
  split
  · rename_i q
    rw [if_neg (by unfold Hnd; simp at q; omega)]
  · rename_i q
    have q : 1 ≤ h := by simpa using q
    rw [w64_in (n := h - 1), rem_pos (by omega) (by omega), Option.bind_some, quo_pos (by omega) (by omega) (by omega), Option.bind_some, quo_pos (by omega) (by omega) (by omega), Option.bind_some, Int.ediv_one]
    split
    · rename_i q2
      rw [if_neg (by unfold Hnd; simp at q2; omega)]
    · rename_i q2
      rw [if_pos (by unfold Hnd; simp at q2; omega)]

theorem handle_Slot_eq {h : Int} (hh : h ≤ 9223372036854775807) : handle_Slot h = some (if Hnd h then (h - 1) % 32 else -1) := by
  unfold handle_Slot
  rw [handle_parts_eq hh, Option.bind_some]
  split <;> rfl
theorem handle_Gen_eq {h : Int} (hh : h ≤ 9223372036854775807) : handle_Gen h = some (if Hnd h then (h - 1) / 32 else -1) := by
  unfold handle_Gen
  rw [handle_parts_eq hh, Option.bind_some]
  split <;> rfl

theorem r01_Valid_eq {h : Int} : r01_Valid h = some (decide (Hnd h)) := by
  unfold r01_Valid
  split
  · rename_i q
    rw [decide_eq_false (by unfold Hnd; simp at q; omega)]
  · rename_i q
    have q : 1 ≤ h ∧ h ≤ 400 := by simp at q; omega
    rw [w64_in (n := h - 1), rem_pos (by omega) (by omega), Option.bind_some, quo_pos (by omega) (by omega) (by omega), Option.bind_some, r01_Pack_eq, Option.bind_some]
    congr 1
    by_cases k : Hnd h
    · rw [decide_eq_true k, if_pos (by unfold Hnd at k; omega)]
      simp; omega
    · rw [decide_eq_false k, if_neg (by unfold Hnd at k; omega)]
      simp; omega
theorem r01_Slot_eq {h : Int} : r01_Slot h = some (if Hnd h then (h - 1) % 32 else -1) := by
  unfold r01_Slot
  rw [r01_Valid_eq, Option.bind_some]
  by_cases k : Hnd h
  · have := hnd_le k
    rw [decide_eq_true k, if_neg (by simp), if_pos k, w64_in (n := h - 1), rem_pos (by omega) (by omega), Option.bind_some]
  · rw [decide_eq_false k, if_pos (by simp), if_neg k]
theorem r01_Gen_eq {h : Int} : r01_Gen h = some (if Hnd h then (h - 1) / 32 else -1) := by
  unfold r01_Gen
  rw [r01_Valid_eq, Option.bind_some]
  by_cases k : Hnd h
  · have := hnd_le k
    rw [decide_eq_true k, if_neg (by simp), if_pos k, w64_in (n := h - 1), quo_pos (by omega) (by omega) (by omega), Option.bind_some]
  · rw [decide_eq_false k, if_pos (by simp), if_neg k]
end Go.Sh
