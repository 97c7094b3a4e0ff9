/-
  Several texts of one kind, one behind the other.
-/
import Derived.Test.YtkjilddlbaibfaaGreatH12Sh
import Derived.Test.YtkjilddlbaibfaaGreatH12Sh1
import Derived.Test.YtkjilddlbaibfaaGreatH12Sh
namespace Go.Sh
set_option linter.unusedVariables false
def Hnd (h : Int) : Prop := 1 ≤ h ∧ (h - 1) % 32 < 24 ∧ (h - 1) / 32 ≤ 9
instance (h : Int) : Decidable (Hnd h) := by unfold Hnd; infer_instance
theorem hnd_le {h : Int} (q : Hnd h) : 1 ≤ h ∧ h ≤ 320 := by unfold Hnd at q; omega
theorem handle_Pack_eq {i g : Int} (h1 : 0 ≤ i) (h2 : i < 24) (h3 : 0 ≤ g) (h4 : g ≤ 9) : handle_Pack i g = some (1 + i + 32 * g) := by
  unfold handle_Pack
  rw [if_neg (by simp; omega)]
  rw [show w64 (i * 1) = i by rw [w64_def]; omega, show w64 (1 + i) = 1 + i by rw [w64_def]; omega, show w64 (g * 32) = 32 * g by rw [w64_def]; omega, show w64 (1 + i + 32 * g) = 1 + i + 32 * g by rw [w64_def]; omega]
theorem r01_Pack_eq {i g : Int} : r01_Pack i g = some (if 0 ≤ i ∧ i < 24 ∧ 0 ≤ g ∧ g ≤ 9 then 1 + i + 32 * g else 0) := by
  unfold r01_Pack
  split
  · rename_i h; rw [if_neg (by simp at h; omega)]
  · rename_i h
    have h : 0 ≤ i ∧ i < 24 ∧ 0 ≤ g ∧ g ≤ 9 := by simp at h; omega
    rw [if_pos h]
    rw [show w64 (1 + i) = 1 + i by rw [w64_def]; omega, show w64 (32 * g) = 32 * g by rw [w64_def]; omega, show w64 (1 + i + 32 * g) = 1 + i + 32 * g by rw [w64_def]; omega]
theorem handle_parts_eq {h : Int} (hh : h ≤ 9223372036854775807) : handle_parts h = some (if Hnd h then ((h - 1) % 32, (h - 1) / 32, true) else (-1, -1, false)) := by
  unfold handle_parts
  split
  · rename_i q
    rw [if_neg (by unfold Hnd; simp at q; omega)]
  · rename_i q
    have q : 1 ≤ h := by simpa using q
    rw [w64_in (n := h - 1), rem_pos (by omega) (by omega), Option.bind_some, quo_pos (by omega) (by omega) (by omega), Option.bind_some, quo_pos (by omega) (by omega) (by omega), Option.bind_some, Int.ediv_one]
    split
    · rename_i q2
      rw [if_neg (by unfold Hnd; simp at q2; omega)]
    · rename_i q2
      rw [if_pos (by unfold Hnd; simp at q2; omega)]
theorem handle_Slot_eq {h : Int} (hh : h ≤ 9223372036854775807) : handle_Slot h = some (if Hnd h then (h - 1) % 32 else -1) := by
  unfold handle_Slot
  rw [handle_parts_eq hh, Option.bind_some]
  split <;> rfl
theorem handle_Gen_eq {h : Int} (hh : h ≤ 9223372036854775807) : handle_Gen h = some (if Hnd h then (h - 1) / 32 else -1) := by
  unfold handle_Gen
  rw [handle_parts_eq hh, Option.bind_some]
  split <;> rfl
theorem r01_Valid_eq {h : Int} : r01_Valid h = some (decide (Hnd h)) := by
  unfold r01_Valid
  split
  · rename_i q
    rw [decide_eq_false (by unfold Hnd; simp at q; omega)]
  · rename_i q
    have q : 1 ≤ h ∧ h ≤ 400 := by simp at q; omega
    rw [w64_in (n := h - 1), rem_pos (by omega) (by omega), Option.bind_some, quo_pos (by omega) (by omega) (by omega), Option.bind_some, r01_Pack_eq, Option.bind_some]
    congr 1
    by_cases k : Hnd h
    · rw [decide_eq_true k, if_pos (by unfold Hnd at k; omega)]
      simp; omega
    · rw [decide_eq_false k, if_neg (by unfold Hnd at k; omega)]
      simp; omega
theorem r01_Slot_eq {h : Int} : r01_Slot h = some (if Hnd h then (h - 1) % 32 else -1) := by
  unfold r01_Slot
  rw [r01_Valid_eq, Option.bind_some]
  by_cases k : Hnd h
  · have := hnd_le k
    rw [decide_eq_true k, if_neg (by simp), if_pos k, w64_in (n := h - 1), rem_pos (by omega) (by omega), Option.bind_some]
  · rw [decide_eq_false k, if_pos (by simp), if_neg k]
theorem r01_Gen_eq {h : Int} : r01_Gen h = some (if Hnd h then (h - 1) / 32 else -1) := by
  unfold r01_Gen
  rw [r01_Valid_eq, Option.bind_some]
  by_cases k : Hnd h
  · have := hnd_le k
    rw [decide_eq_true k, if_neg (by simp), if_pos k, w64_in (n := h - 1), quo_pos (by omega) (by omega) (by omega), Option.bind_some]
  · rw [decide_eq_false k, if_pos (by simp), if_neg k]
end Go.Sh
namespace Go.Sh
set_option linter.unusedVariables false
set_option linter.unusedSimpArgs false
abbrev z0 : store_Obj := ⟨0, 0, 0, 0, false, []⟩
def FndO (s : slab_Slab_store_Obj) (h : Int) (i : Nat) : Prop := ∃ hi : i < s.Cells.length, Hnd h ∧ (h - 1) % 32 = i ∧ s.Cells[i].Gen = (h - 1) / 32 ∧ (s.Cells[i].State = 1 ∨ s.Cells[i].State = 2)
theorem find_cases_o (s : slab_Slab_store_Obj) {h : Int} (hh : h ≤ 9223372036854775807) :
    (∃ i, FndO s h i ∧ slab_Find_store_Obj s h = some ((i : Int), 0)) ∨ ((∀ i, ¬ FndO s h i) ∧ slab_Find_store_Obj s h = some (-1, if h = 0 then 2 else 3)) := by
  unfold slab_Find_store_Obj
  by_cases h0 : h = 0
  · right
    subst h0
    exact ⟨fun i ⟨_, h1, _⟩ => by unfold Hnd at h1; omega, by simp⟩
  · rw [if_neg (by simpa using h0), handle_Slot_eq hh, Option.bind_some, if_neg h0]
    by_cases hd : Hnd h
    · rw [if_pos hd]
      have hd' := hd
      unfold Hnd at hd'
      obtain ⟨k, hk⟩ : ∃ k : Nat, (h - 1) % 32 = k := ⟨((h - 1) % 32).toNat, by omega⟩
      rw [hk]
      by_cases hl : k < s.Cells.length
      · rw [if_neg (by simp; omega), ix_at hl, Option.bind_some, handle_Gen_eq hh, Option.bind_some, if_pos hd]
        by_cases g : s.Cells[k].Gen = (h - 1) / 32 ∧ (s.Cells[k].State = 1 ∨ s.Cells[k].State = 2)
        · left
          refine ⟨k, ⟨hl, hd, hk, g⟩, ?_⟩
          rw [if_neg]
          simp; omega
        · right
          refine ⟨fun i ⟨hi, _, h2, h3⟩ => ?_, ?_⟩
          · have : i = k := by omega
            subst this; exact g h3
          · rw [if_pos]
            simp; omega
      · right
        refine ⟨fun i ⟨hi, _, h2, h3⟩ => by omega, ?_⟩
        rw [if_pos (by simp; omega)]
    · right
      refine ⟨fun i ⟨hi, h1, _⟩ => hd h1, ?_⟩
      rw [if_neg hd, if_pos (by simp)]
theorem find_of_o {s : slab_Slab_store_Obj} {h : Int} {i : Nat} (hf : FndO s h i) : slab_Find_store_Obj s h = some ((i : Int), 0) := by
  have hh := hnd_le hf.2.1
  rcases find_cases_o s (h := h) (by omega) with ⟨j, h1, h2⟩ | ⟨h1, _⟩
  · obtain ⟨_, _, e1, _⟩ := hf
    obtain ⟨_, _, e2, _⟩ := h1
    have : i = j := by omega
    subst this; exact h2
  · exact absurd hf (h1 i)
theorem find_no_o {s : slab_Slab_store_Obj} {h : Int} (hh : h ≤ 9223372036854775807) (hf : ∀ i, ¬ FndO s h i) : slab_Find_store_Obj s h = some (-1, if h = 0 then 2 else 3) := by
  rcases find_cases_o s hh with ⟨j, h1, _⟩ | ⟨_, h2⟩
  · exact absurd h1 (hf j)
  · exact h2
theorem err_ne_o (h : Int) : (if h = 0 then 2 else 3 : Int) ≠ 0 := by split <;> omega
theorem get_of_o {s : slab_Slab_store_Obj} {h : Int} {i : Nat} (hf : FndO s h i) : ∃ hi : i < s.Cells.length, slab_Get_store_Obj s h = some (if s.Cells[i].State = 2 then (z0, 3) else (s.Cells[i].Val, 0)) := by
  refine ⟨hf.1, ?_⟩
  unfold slab_Get_store_Obj
  rw [find_of_o hf, Option.bind_some, if_neg (by simp), ix_at hf.1, Option.bind_some]
  split <;> rename_i q
  · rw [if_pos (by simpa using q)]
  · rw [if_neg (by simpa using q)]
theorem get_no_o {s : slab_Slab_store_Obj} {h : Int} (hh : h ≤ 9223372036854775807) (hf : ∀ i, ¬ FndO s h i) : slab_Get_store_Obj s h = some (z0, if h = 0 then 2 else 3) := by
  unfold slab_Get_store_Obj
  rw [find_no_o hh hf, Option.bind_some, if_pos (by simpa using err_ne_o h)]
end Go.Sh
namespace Go.Sh
set_option linter.unusedVariables false
set_option linter.unusedSimpArgs false
def oo (o : store_Obj) : r06_Obj := ⟨o.Serial, o.Strong, o.Weak, o.Prog, o.Started, o.Fields⟩
def cO (c : slab_Cell_store_Obj) : r06_Cell := ⟨c.State, c.Gen, oo c.Val⟩
def sO (s : store_Store) : r06_Store := ⟨s.S.Cells.map cO, s.S.Last, s.Serial⟩
def Sm (s : store_Store) : Prop := s.S.Cells.length ≤ 30 ∧ ∀ i (h : i < s.S.Cells.length), s.S.Cells[i].Val.Fields.length ≤ 10
instance (s : store_Store) : Decidable (Sm s) := by unfold Sm; infer_instance
def plc (i : Nat) (c : r06_Cell) : r03_Cell := ⟨c.State, c.Gen, (i : Int)⟩
def pl (t : r06_Store) : r03_Slab := ⟨t.Cells.mapIdx plc, t.Last⟩
theorem plain06 (t : r06_Store) (h : t.Cells.length ≤ 1000) : r06_Plain t = some (pl t) := by
  unfold r06_Plain
  simp only [jn]
  refine lpb_upS t.Cells.length (fun k acc => acc = (t.Cells.mapIdx plc).take k) (by omega) (by simp) (fun k acc hk hP => ?_) (fun acc hP => ?_)
  · subst hP
    refine .inl ⟨_, ?_, rfl⟩
    simp only [Int.ofNat_lt, hk, decide_true, if_true, ix_at hk, Option.bind_some]
    rw [app_ok (by omega) (by simp; omega), Option.bind_some, w64_nat]
    have e : (t.Cells.mapIdx plc).take (k + 1) = (t.Cells.mapIdx plc).take k ++ [plc k t.Cells[k]] := by
      rw [List.take_add_one, List.getElem?_eq_getElem (by simpa using hk)]
      simp
    rw [e]
    rfl
  · subst hP
    rw [List.take_of_length_le (by simp)]
    exact ⟨t.Cells.mapIdx plc, by simp only [Int.lt_irrefl, decide_false, Bool.false_eq_true, if_false], rfl⟩
theorem Right03 (s : r03_Slab) : r03_Right s = some (decide (s.Cells.length ≤ 24 ∧ 0 ≤ s.Last ∧ s.Last ≤ 9 ∧ ∀ i (h : i < s.Cells.length), 0 ≤ s.Cells[i].State ∧ s.Cells[i].State ≤ 3 ∧ 0 ≤ s.Cells[i].Gen ∧ s.Cells[i].Gen ≤ s.Last)) := by
  unfold r03_Right
  split
  · rename_i q
    rw [decide_eq_false (by simp at q; omega)]
  · rename_i q
    have q : s.Cells.length ≤ 24 ∧ 0 ≤ s.Last ∧ s.Last ≤ 9 := by simp at q; omega
    simp only [jn]
    refine lpb_up s.Cells.length (fun k => ∀ j (h : j < s.Cells.length), j < k → 0 ≤ s.Cells[j].State ∧ s.Cells[j].State ≤ 3 ∧ 0 ≤ s.Cells[j].Gen ∧ s.Cells[j].Gen ≤ s.Last) (by omega) (fun _ _ h => by omega) (fun k hk hP => ?_) (fun hP => ?_)
    · by_cases g : 0 ≤ s.Cells[k].State ∧ s.Cells[k].State ≤ 3 ∧ 0 ≤ s.Cells[k].Gen ∧ s.Cells[k].Gen ≤ s.Last
      · refine .inl ⟨?_, fun j h hj => ?_⟩
        · simp only [Int.ofNat_lt, hk, decide_true, if_true, ix_at hk, Option.bind_some]
          rw [if_neg (by simp; omega), w64_nat]
        · rcases Nat.lt_or_ge j k with q' | q'
          · exact hP j h q'
          · have : j = k := by omega
            subst this; exact g
      · refine .inr ⟨.inl false, ?_, ?_⟩
        · simp only [Int.ofNat_lt, hk, decide_true, if_true, ix_at hk, Option.bind_some]
          rw [if_pos (by simp; omega)]
        · simp only
          rw [decide_eq_false (fun q' => g (q'.2.2.2 k hk))]
    · refine ⟨.inr (), by simp, ?_⟩
      simp only
      rw [decide_eq_true ⟨q.1, q.2.1, q.2.2, fun i h => hP i h h⟩]
def Thr (c : r06_Cell) : Prop := c.State = 1 ∨ c.State = 2
instance (c : r06_Cell) : Decidable (Thr c) := by unfold Thr; infer_instance
theorem there06 (c : r06_Cell) : r06_there c = some (decide (Thr c)) := by
  unfold r06_there
  congr 1
  rw [Bool.eq_iff_iff, decide_eq_true_iff, Bool.or_eq_true, beq_iff_eq, beq_iff_eq]
  rfl
def ObOK (t : r06_Store) (o : r06_Obj) : Prop := 1 ≤ o.Serial ∧ o.Serial ≤ t.Serial ∧ 0 ≤ o.Strong ∧ 0 ≤ o.Weak ∧ -1 ≤ o.Prog ∧ o.Prog ≤ 5 ∧ o.Fields.length ≤ 4
def ObNo (o : r06_Obj) : Prop := o.Serial = 0 ∧ o.Strong = 0 ∧ o.Weak = 0 ∧ o.Prog = 0 ∧ o.Started = false ∧ o.Fields.length = 0
structure RtR (t : r06_Store) : Prop where
  len : t.Cells.length ≤ 24
  l0 : 0 ≤ t.Last
  l9 : t.Last ≤ 9
  ser : 0 ≤ t.Serial
  cell : ∀ i (h : i < t.Cells.length), 0 ≤ t.Cells[i].State ∧ t.Cells[i].State ≤ 3 ∧ 0 ≤ t.Cells[i].Gen ∧ t.Cells[i].Gen ≤ t.Last
  no : ∀ i (h : i < t.Cells.length), ¬ Thr t.Cells[i] → ObNo t.Cells[i].Val
  ok : ∀ i (h : i < t.Cells.length), Thr t.Cells[i] → ObOK t t.Cells[i].Val
  dif : ∀ i (h : i < t.Cells.length) k (hk : k < i), Thr t.Cells[i] → Thr t.Cells[k] → t.Cells[k].Val.Serial ≠ t.Cells[i].Val.Serial
def CeOK (t : r06_Store) (i : Nat) (h : i < t.Cells.length) : Prop :=
  (¬ Thr t.Cells[i] → ObNo t.Cells[i].Val) ∧ (Thr t.Cells[i] → ObOK t t.Cells[i].Val) ∧ ∀ k (hk : k < i), Thr t.Cells[i] → Thr t.Cells[k] → t.Cells[k].Val.Serial ≠ t.Cells[i].Val.Serial
theorem Right06 (t : r06_Store) (hl : t.Cells.length ≤ 1000) : ∃ b, r06_Right t = some b ∧ (b = true ↔ RtR t) := by
  unfold r06_Right
  rw [plain06 t hl, Option.bind_some, Right03, Option.bind_some]
  by_cases hR : (pl t).Cells.length ≤ 24 ∧ 0 ≤ (pl t).Last ∧ (pl t).Last ≤ 9 ∧ ∀ i (h : i < (pl t).Cells.length), 0 ≤ (pl t).Cells[i].State ∧ (pl t).Cells[i].State ≤ 3 ∧ 0 ≤ (pl t).Cells[i].Gen ∧ (pl t).Cells[i].Gen ≤ (pl t).Last
  · by_cases hs : 0 ≤ t.Serial
    · rw [decide_eq_true hR]
      rw [if_neg (by simp; omega)]
      simp only [jn]
      have hcell : ∀ i (h : i < t.Cells.length), 0 ≤ t.Cells[i].State ∧ t.Cells[i].State ≤ 3 ∧ 0 ≤ t.Cells[i].Gen ∧ t.Cells[i].Gen ≤ t.Last := fun i h => by
        have := hR.2.2.2 i (by simpa [pl] using h)
        simpa [pl, plc] using this
      have key : (∀ i (h : i < t.Cells.length), CeOK t i h) ↔ RtR t := by
        constructor
        · intro q
          exact ⟨by simpa [pl] using hR.1, hR.2.1, hR.2.2.1, hs, hcell, fun i h => (q i h).1, fun i h => (q i h).2.1, fun i h => (q i h).2.2⟩
        · intro q i h
          exact ⟨q.no i h, q.ok i h, q.dif i h⟩
      by_cases hall : ∀ i (h : i < t.Cells.length), CeOK t i h
      · refine ⟨true, ?_, by simpa using key.1 hall⟩
        refine lpb_up t.Cells.length (fun _ => True) (by omega) trivial (fun k hk _ => .inl ⟨?_, trivial⟩) (fun _ => ⟨.inr (), by simp, rfl⟩)
        obtain ⟨q1, q2, q3⟩ := hall k hk
        simp only [Int.ofNat_lt, hk, decide_true, if_true, ix_at hk, Option.bind_some, there06]
        by_cases ht : Thr t.Cells[k]
        · rw [decide_eq_true ht]
          obtain ⟨o1, o2, o3, o4, o5, o6, o7⟩ := q2 ht
          rw [if_neg (by simp), if_neg (by simp; omega)]
          refine lpb_up k (fun _ => True) (by omega) trivial (fun j hj _ => .inl ⟨?_, trivial⟩) (fun _ => ⟨.inr (), by simp, by rw [w64_nat]⟩)
          have hj' : j < t.Cells.length := by omega
          simp only [Int.ofNat_lt, hj, decide_true, if_true, ix_at hj', Option.bind_some, there06]
          rw [if_neg (by simp only [Bool.and_eq_true, decide_eq_true_eq, beq_iff_eq, not_and]; exact fun a => q3 j hj ht a), w64_nat]
        · rw [decide_eq_false ht]
          obtain ⟨o1, o2, o3, o4, o5, o6⟩ := q1 ht
          rw [if_pos (by simp), if_neg (by simp [o1, o2, o3, o4, o5, o6]), w64_nat]
      · refine ⟨false, ?_, by simpa using fun q => hall (key.2 q)⟩
        obtain ⟨i, ⟨hi, hbad⟩, hmin⟩ := exists_min (p := fun i => ∃ h : i < t.Cells.length, ¬ CeOK t i h) (by
          have := Classical.not_forall.1 hall
          obtain ⟨i, q⟩ := this
          obtain ⟨h, q⟩ := Classical.not_forall.1 q
          exact ⟨i, h, q⟩)
        refine lpb_up t.Cells.length (fun k => k ≤ i) (by omega) (by omega) (fun k hk hP => ?_) (fun hP => by omega)
        simp only [Int.ofNat_lt, hk, decide_true, if_true, ix_at hk, Option.bind_some, there06]
        rcases Nat.lt_or_ge k i with g | g
        · refine .inl ⟨?_, g⟩
          have hok : CeOK t k hk := Classical.byContradiction fun q => by have := hmin k ⟨hk, q⟩; omega
          obtain ⟨q1, q2, q3⟩ := hok
          by_cases ht : Thr t.Cells[k]
          · rw [decide_eq_true ht]
            obtain ⟨o1, o2, o3, o4, o5, o6, o7⟩ := q2 ht
            rw [if_neg (by simp), if_neg (by simp; omega)]
            refine lpb_up k (fun _ => True) (by omega) trivial (fun j hj _ => .inl ⟨?_, trivial⟩) (fun _ => ⟨.inr (), by simp, by rw [w64_nat]⟩)
            have hj' : j < t.Cells.length := by omega
            simp only [Int.ofNat_lt, hj, decide_true, if_true, ix_at hj', Option.bind_some, there06]
            rw [if_neg (by simp only [Bool.and_eq_true, decide_eq_true_eq, beq_iff_eq, not_and]; exact fun a => q3 j hj ht a), w64_nat]
          · rw [decide_eq_false ht]
            obtain ⟨o1, o2, o3, o4, o5, o6⟩ := q1 ht
            rw [if_pos (by simp), if_neg (by simp [o1, o2, o3, o4, o5, o6]), w64_nat]
        · have : k = i := by omega
          subst this
          refine .inr ⟨.inl false, ?_, rfl⟩
          by_cases ht : Thr t.Cells[k]
          · rw [decide_eq_true ht]
            rw [if_neg (by simp)]
            by_cases ho : ObOK t t.Cells[k].Val
            · have ho' := ho
              obtain ⟨o1, o2, o3, o4, o5, o6, o7⟩ := ho'
              rw [if_neg (by simp; omega)]
              have : ∃ j, j < k ∧ ∃ h : j < t.Cells.length, Thr t.Cells[j] ∧ t.Cells[j].Val.Serial = t.Cells[k].Val.Serial := Classical.byContradiction fun q => hbad ⟨fun n => absurd ht n, fun _ => ho, fun j hj _ h2 h3 => q ⟨j, hj, by omega, h2, h3⟩⟩
              obtain ⟨j, ⟨hj, hj', h2, h3⟩, hjm⟩ := exists_min this
              refine lpb_up k (fun m => m ≤ j) (by omega) (by omega) (fun m hm hP2 => ?_) (fun hP2 => by omega)
              have hm' : m < t.Cells.length := by omega
              simp only [Int.ofNat_lt, hm, decide_true, if_true, ix_at hm', Option.bind_some, there06]
              rcases Nat.lt_or_ge m j with g2 | g2
              · refine .inl ⟨?_, g2⟩
                rw [if_neg (by
                  simp only [Bool.and_eq_true, decide_eq_true_eq, beq_iff_eq, not_and]
                  intro a b
                  have := hjm m ⟨by omega, hm', a, b⟩
                  omega), w64_nat]
              · have : m = j := by omega
                subst this
                refine .inr ⟨.inl false, ?_, rfl⟩
                rw [if_pos (by simp only [Bool.and_eq_true, decide_eq_true_eq, beq_iff_eq]; exact ⟨h2, h3⟩)]
            · rw [if_pos (by
                unfold ObOK at ho
                simp only [Bool.or_eq_true, decide_eq_true_eq]
                omega)]
          · rw [decide_eq_false ht]
            rw [if_pos (by simp)]
            have hno : ¬ ObNo t.Cells[k].Val := fun q => hbad ⟨fun _ => q, fun n => absurd n ht, fun j hj h1 _ => absurd h1 ht⟩
            rw [if_pos (by
              unfold ObNo at hno
              simp only [Bool.or_eq_true, bne_iff_ne, ne_eq]
              cases hst : t.Cells[k].Val.Started
              · simp only [hst, true_and, Bool.false_eq_true, or_false] at hno ⊢
                omega
              · simp)]
    · refine ⟨false, ?_, by simp; exact fun q => hs q.ser⟩
      rw [if_pos (by simp; omega)]
  · refine ⟨false, ?_, ?_⟩
    · rw [decide_eq_false hR, if_pos (by simp)]
    · simp only [Bool.false_eq_true, false_iff]
      intro q
      exact hR ⟨by simpa [pl] using q.len, q.l0, q.l9, fun i h => by have := q.cell i (by simpa [pl] using h); simpa [pl, plc] using this⟩
structure StR (s : store_Store) : Prop where
  rt : RtR (sO s)
  big : s.Serial < 1000000000
  fl : ∀ i (h : i < s.S.Cells.length), s.S.Cells[i].Val.Fields.length ≤ 10
end Go.Sh
namespace Go.Sh
set_option linter.unusedVariables false
set_option linter.unusedSimpArgs false
theorem sortBy_spec {c : Int → Int → Option Int} {xs : List Int} (key : Int → Int) (hc : ∀ x y, ∃ r, c x y = some r ∧ (r < 0 ↔ key x < key y)) (hl : xs.length < 4611686018427387904) :
    ∃ ys, sortBy c xs = some ys ∧ ys.Perm xs ∧ ys.Pairwise (fun a b => key a ≤ key b) := by
  have hlt : ∀ x y, Go.Proofs.ltOf (fun x y => (c x y).getD 0) x y = decide (key x < key y) := fun x y => by
    obtain ⟨r, h1, h2⟩ := hc x y
    show decide ((c x y).getD 0 < 0) = _
    rw [h1, Option.getD_some]
    exact decide_eq_decide.2 h2
  have hO : Go.Sort.SWO (Go.Proofs.ltOf fun x y => (c x y).getD 0) := by
    refine ⟨fun x => ?_, fun x y z => ?_, fun x y z => ?_⟩
    · rw [hlt]; simp
    · rw [hlt, hlt, hlt]; simp; omega
    · rw [hlt, hlt, hlt]; simp; omega
  have hcond : (∀ x y, (c x y).isSome = true) ∧ Go.Sort.SWO (Go.Proofs.ltOf fun x y => (c x y).getD 0) ∧ xs.length < 4611686018427387904 := ⟨fun x y => by
    obtain ⟨r, h1, _⟩ := hc x y
    rw [h1]; rfl, hO, hl⟩
  unfold sortBy
  rw [if_pos hcond]
  refine ⟨_, rfl, ?_⟩
  obtain ⟨⟨p1, p2, p3⟩, p4⟩ := Go.Sort.pdq_sorts (Go.Proofs.ltOf fun x y => (c x y).getD 0) hO xs.toArray 0 xs.length (Go.Lib.bitLen xs.length) true true (Nat.zero_le _) (by simp) (Or.inl rfl)
  generalize Go.Sort.pdq (Go.Proofs.ltOf fun x y => (c x y).getD 0) xs.toArray 0 xs.length (Go.Lib.bitLen xs.length) true true = d at p1 p2 p3 p4 ⊢
  have hs : d.size = xs.length := by simpa using p1
  refine ⟨?_, ?_⟩
  · have e1 : d.extract 0 xs.length = d := by rw [← hs]; exact Array.extract_size
    have e2 : xs.toArray.extract 0 xs.length = xs.toArray := by
      simp
    rw [e1, e2] at p3
    simpa using p3
  · rw [List.pairwise_iff_getElem]
    intro i j hi hj hij
    have hi' : i < d.size := by simpa using hi
    have hj' : j < d.size := by simpa using hj
    have := p4 i j (Nat.zero_le _) hij (by omega)
    rw [hlt, getElem!_pos d j hj', getElem!_pos d i hi'] at this
    have := of_decide_eq_false this
    simp only [Array.getElem_toList]
    omega
def hnds : Nat → List slab_Cell_store_Obj → List Int
  | _, [] => []
  | k, c :: r => (if c.State = 1 then [1 + (k : Int) + 32 * c.Gen] else []) ++ hnds (k + 1) r
theorem hnds_snoc (c : slab_Cell_store_Obj) : ∀ (k : Nat) (xs : List slab_Cell_store_Obj), hnds k (xs ++ [c]) = hnds k xs ++ (if c.State = 1 then [1 + ((k + xs.length : Nat) : Int) + 32 * c.Gen] else [])
  | k, [] => by simp [hnds]
  | k, x :: r => by
    simp only [List.cons_append, hnds, hnds_snoc c (k + 1) r, List.append_assoc, List.length_cons]
    rw [show k + 1 + r.length = k + (r.length + 1) by omega]
theorem hnds_len : ∀ (k : Nat) (xs : List slab_Cell_store_Obj), (hnds k xs).length ≤ xs.length
  | _, [] => by simp [hnds]
  | k, c :: r => by
    have := hnds_len (k + 1) r
    simp only [hnds, List.length_append, List.length_cons]
    split <;> simp <;> omega
theorem hnds_mem {h : Int} : ∀ {k : Nat} {xs : List slab_Cell_store_Obj}, h ∈ hnds k xs ↔ ∃ i, ∃ hi : i < xs.length, xs[i].State = 1 ∧ h = 1 + ((k + i : Nat) : Int) + 32 * xs[i].Gen
  | k, [] => by simp [hnds]
  | k, c :: r => by
    simp only [hnds, List.mem_append, hnds_mem (k := k + 1) (xs := r)]
    constructor
    · rintro (q | ⟨i, hi, q1, q2⟩)
      · by_cases hc : c.State = 1
        · rw [if_pos hc] at q
          exact ⟨0, by simp, by simpa using hc, by simpa using q⟩
        · rw [if_neg hc] at q
          cases q
      · exact ⟨i + 1, by simpa using hi, by simpa using q1, by simp only [List.getElem_cons_succ]; rw [q2, show k + 1 + i = k + (i + 1) by omega]⟩
    · rintro ⟨i, hi, q1, q2⟩
      cases i with
      | zero =>
        left
        simp only [List.getElem_cons_zero] at q1 q2
        rw [if_pos q1]
        simp [q2]
      | succ i =>
        right
        simp only [List.getElem_cons_succ] at q1 q2
        exact ⟨i, by simpa using hi, q1, by rw [q2, show k + 1 + i = k + (i + 1) by omega]⟩
def sk (cs : List slab_Cell_store_Obj) (h : Int) : Int := match cs[((h - 1) % 32).toNat]? with
  | some c => c.Val.Serial
  | none => 0
theorem sk_hd {cs : List slab_Cell_store_Obj} {i : Nat} {g : Int} (h : i < cs.length) (h32 : cs.length ≤ 32) : sk cs (1 + (i : Int) + 32 * g) = cs[i].Val.Serial := by
  unfold sk
  have : ((1 + (i : Int) + 32 * g - 1) % 32).toNat = i := by omega
  rw [this, List.getElem?_eq_getElem h]
structure Slb (cs : List slab_Cell_store_Obj) : Prop where
  len : cs.length ≤ 24
  gen : ∀ i (h : i < cs.length), 0 ≤ cs[i].Gen ∧ cs[i].Gen ≤ 9
theorem live_spec {s : store_Store} (hR : Slb s.S.Cells) : ∃ l, store_Live s = some l ∧ l.Perm (hnds 0 s.S.Cells) ∧ l.Pairwise (fun a b => sk s.S.Cells a ≤ sk s.S.Cells b) := by
  have hlen := hR.len
  unfold store_Live
  simp only [jn]
  have hh := hnds_len 0 s.S.Cells
  have hloop : ∃ e : List (Int × Int) × List Int, lp (S := Int × (List (Int × Int)) × (List Int)) (E := ((List (Int × Int)) × (List Int))) (fun ((s23, s24, s25) : Int × (List (Int × Int)) × (List Int)) =>
      if (decide (s23 < (s.S.Cells.length : Int))) then
        ((ix s.S.Cells s23).bind fun v35 =>
          if (v35.State == 1) then
            (handle_Pack s23 v35.Gen).bind fun v36 =>
            (app 8 s25 [v36]).bind fun v37 =>
            some (.inl (w64 (s23 + 1), (mput s24 v36 v35.Val.Serial), v37))
          else
          some (.inl (w64 (s23 + 1), s24, s25)))
      else
      some (.inr (s24, s25))) (0, [], []) = some e ∧ e.2 = hnds 0 s.S.Cells ∧ ∀ h ∈ e.2, mget e.1 h = some (sk s.S.Cells h) := by
    refine lp_upS (T := List (Int × Int) × List Int) s.S.Cells.length (fun k e => e.2 = hnds 0 (s.S.Cells.take k) ∧ ∀ h ∈ e.2, mget e.1 h = some (sk s.S.Cells h)) (fun e : List (Int × Int) × List Int => e.2 = hnds 0 s.S.Cells ∧ ∀ h ∈ e.2, mget e.1 h = some (sk s.S.Cells h)) (by omega) ⟨by simp [hnds], by simp⟩ (fun k e hk hP => ?_) (fun e hP => ?_)
    · obtain ⟨h1, h2⟩ := hP
      obtain ⟨m, l⟩ := e
      simp only at h1 h2
      left
      have hc := hR.gen k hk
      have hl : l.length ≤ 24 := by rw [h1]; have := hnds_len 0 (s.S.Cells.take k); simp at this; omega
      have et : s.S.Cells.take (k + 1) = s.S.Cells.take k ++ [s.S.Cells[k]] := by rw [List.take_add_one, List.getElem?_eq_getElem hk]; rfl
      have el : (s.S.Cells.take k).length = k := by simp; omega
      by_cases q : s.S.Cells[k].State = 1
      · refine ⟨(mput m (1 + (k : Int) + 32 * s.S.Cells[k].Gen) s.S.Cells[k].Val.Serial, l ++ [1 + (k : Int) + 32 * s.S.Cells[k].Gen]), ?_, ?_, ?_⟩
        · simp only [Int.ofNat_lt, hk, decide_true, if_true, ix_at hk, Option.bind_some, q, beq_self_eq_true]
          rw [handle_Pack_eq (by omega) (by omega) hc.1 hc.2, Option.bind_some, app_ok (by omega) (by simp; omega), Option.bind_some, w64_nat]
        · simp only
          rw [et, hnds_snoc, if_pos q, el, h1, Nat.zero_add]
        · intro h hh
          simp only [List.mem_append, List.mem_singleton] at hh ⊢
          rw [mget_mput]
          rcases hh with hh | rfl
          · split
            · rename_i e; rw [e, sk_hd hk (by omega)]
            · exact h2 h hh
          · rw [if_pos rfl, sk_hd hk (by omega)]
      · refine ⟨(m, l), ?_, ?_, h2⟩
        · simp only [Int.ofNat_lt, hk, decide_true, if_true, ix_at hk, Option.bind_some]
          rw [if_neg (by simpa using q), w64_nat]
        · simp only
          rw [et, hnds_snoc, if_neg q, h1, List.append_nil]
    · obtain ⟨h1, h2⟩ := hP
      obtain ⟨m, l⟩ := e
      refine ⟨(m, l), by simp only [Int.lt_irrefl, decide_false, Bool.false_eq_true, if_false], ?_, h2⟩
      simpa using h1
  obtain ⟨⟨m, l⟩, e1, e2, e3⟩ := hloop
  rw [show lp _ _ = _ from e1, Option.bind_some]
  simp only at e2 e3 ⊢
  subst e2
  obtain ⟨ys, q1, q2, q3⟩ := sortBy_spec (c := fun p q => store_Live_1 p q m) (xs := hnds 0 s.S.Cells) (fun h => (mget m h).getD 0) (fun x y => by
    unfold store_Live_1 cmp_Compare_int cmp_isNaN_int
    simp only [Option.bind_some, bne_self_eq_false, Bool.false_eq_true, if_false]
    generalize (mget m x).getD 0 = a
    generalize (mget m y).getD 0 = b
    by_cases h1 : a < b
    · rw [decide_eq_true h1]; exact ⟨-1, rfl, by simp [h1]⟩
    · rw [decide_eq_false h1]
      by_cases h2 : a > b
      · rw [decide_eq_true h2]; exact ⟨1, rfl, by simp [h1]⟩
      · rw [decide_eq_false h2]; exact ⟨0, rfl, by simp [h1]⟩) (by omega)
  refine ⟨ys, by rw [q1]; rfl, q2, q3.imp_of_mem fun {a b} ha hb hab => ?_⟩
  rw [e3 a (q2.mem_iff.1 ha), e3 b (q2.mem_iff.1 hb)] at hab
  simpa using hab
theorem sorted_one {key : Int → Int} : ∀ {l m : List Int}, l.Perm m → l.Pairwise (fun a b => key a ≤ key b) → m.Pairwise (fun a b => key a ≤ key b) → (∀ a ∈ l, ∀ b ∈ l, key a = key b → a = b) → l = m
  | [], m, hp, _, _, _ => (List.nil_perm.1 hp).symm
  | a :: l, [], hp, _, _, _ => by simp at hp
  | a :: l, b :: m, hp, h1, h2, hk => by
    have ha := List.pairwise_cons.1 h1
    have hb := List.pairwise_cons.1 h2
    have e : a = b := by
      have m1 : b ∈ a :: l := hp.mem_iff.2 (List.mem_cons_self ..)
      have m2 : a ∈ b :: m := hp.mem_iff.1 (List.mem_cons_self ..)
      rcases List.mem_cons.1 m1 with q | q
      · exact q.symm
      · rcases List.mem_cons.1 m2 with q' | q'
        · exact q'
        · exact hk a (List.mem_cons_self ..) b m1 (Int.le_antisymm (ha.1 b q) (hb.1 a q'))
    subst e
    rw [sorted_one (List.perm_cons a |>.1 hp) ha.2 hb.2 fun x hx y hy => hk x (List.mem_cons_of_mem _ hx) y (List.mem_cons_of_mem _ hy)]
end Go.Sh
namespace Go.Sh
set_option linter.unusedVariables false
set_option linter.unusedSimpArgs false
theorem Ints_eq (a b : List Int) (ha : a.length < 4611686018427387904) : r02_Ints a b = some (decide (a = b)) := by
  unfold r02_Ints
  by_cases hl : a.length = b.length
  · rw [if_neg (by simp [hl])]
    simp only [jn]
    refine lpb_up a.length (fun k => ∀ j (h1 : j < a.length) (h2 : j < b.length), j < k → a[j] = b[j]) ha (fun _ _ _ h => by omega) (fun k hk hP => ?_) (fun hP => ?_)
    · have hk2 : k < b.length := by omega
      simp only [Int.ofNat_lt, hk, decide_true, if_true, ix_at hk, ix_at hk2, Option.bind_some]
      by_cases e : a[k] = b[k]
      · refine .inl ⟨?_, fun j h1 h2 hj => ?_⟩
        · rw [if_neg (by simpa using e), w64_nat]
        · rcases Nat.lt_or_ge j k with q | q
          · exact hP j h1 h2 q
          · have : j = k := by omega
            subst this; exact e
      · refine .inr ⟨.inl false, by rw [if_pos (by simpa using e)], ?_⟩
        simp only
        rw [decide_eq_false (fun q => e (by subst q; rfl))]
    · refine ⟨.inr (), by simp, ?_⟩
      simp only
      rw [decide_eq_true (List.ext_getElem hl fun i h1 h2 => hP i h1 h2 h1)]
  · rw [if_pos (by rw [bne_iff_ne]; omega)]
    rw [decide_eq_false (fun q => hl (by rw [q]))]
theorem sO_len (s : store_Store) : (sO s).Cells.length = s.S.Cells.length := by simp [sO]
theorem sO_ix (s : store_Store) (i : Int) : ix (sO s).Cells i = (ix s.S.Cells i).map cO := ix_map' cO s.S.Cells i
theorem pl_len (t : r06_Store) : (pl t).Cells.length = t.Cells.length := by simp [pl]
theorem pl_at {t : r06_Store} {k : Nat} (h : k < t.Cells.length) : ix (pl t).Cells k = some (plc k t.Cells[k]) := by
  rw [ix_at (by simpa [pl] using h)]
  simp [pl]
theorem find06 (s : store_Store) {h : Int} (hh : h ≤ 9223372036854775807) : r03_Find (pl (sO s)) h = slab_Find_store_Obj s.S h := by
  unfold r03_Find slab_Find_store_Obj
  rw [r01_Slot_eq, handle_Slot_eq hh, r01_Gen_eq, handle_Gen_eq hh]
  simp only [Option.bind_some, pl_len, sO_len]
  generalize (if Hnd h then (h - 1) % 32 else -1 : Int) = v
  generalize (if Hnd h then (h - 1) / 32 else -1 : Int) = g
  split
  · rfl
  · split
    · rfl
    · rename_i q
      have q : 0 ≤ v ∧ v < s.S.Cells.length := by simp at q; omega
      obtain ⟨k, rfl⟩ : ∃ k : Nat, v = k := ⟨v.toNat, by omega⟩
      have hk : k < s.S.Cells.length := by omega
      rw [pl_at (by rw [sO_len]; exact hk), ix_at hk]
      simp only [Option.bind_some, plc, sO, List.getElem_map, cO]
end Go.Sh
namespace Go.Sh
set_option linter.unusedVariables false
set_option linter.unusedSimpArgs false
theorem rt_len {s : store_Store} (h : RtR (sO s)) : s.S.Cells.length ≤ 24 := by have := h.len; rwa [sO_len] at this
theorem rt_cell {s : store_Store} (h : RtR (sO s)) (i : Nat) (hi : i < s.S.Cells.length) : 0 ≤ s.S.Cells[i].State ∧ s.S.Cells[i].State ≤ 3 ∧ 0 ≤ s.S.Cells[i].Gen ∧ s.S.Cells[i].Gen ≤ s.S.Last := by
  have := h.cell i (by rw [sO_len]; exact hi)
  simpa [sO, cO] using this
theorem rt_slb {s : store_Store} (h : RtR (sO s)) : Slb s.S.Cells := ⟨rt_len h, fun i hi => by have := rt_cell h i hi; have h9 : s.S.Last ≤ 9 := h.l9; omega⟩
theorem rt_ok {s : store_Store} (h : RtR (sO s)) (i : Nat) (hi : i < s.S.Cells.length) (ht : s.S.Cells[i].State = 1 ∨ s.S.Cells[i].State = 2) : ObOK (sO s) (oo s.S.Cells[i].Val) := by
  have := h.ok i (by rw [sO_len]; exact hi)
  simp only [sO, List.getElem_map, cO, Thr] at this
  exact this ht
theorem rt_dif {s : store_Store} (h : RtR (sO s)) {i j : Nat} (hi : i < s.S.Cells.length) (hj : j < s.S.Cells.length) (a : s.S.Cells[i].State = 1 ∨ s.S.Cells[i].State = 2) (b : s.S.Cells[j].State = 1 ∨ s.S.Cells[j].State = 2) (e : s.S.Cells[i].Val.Serial = s.S.Cells[j].Val.Serial) : i = j := by
  have key : ∀ i (hi : i < s.S.Cells.length) j (hj : j < i), (s.S.Cells[i].State = 1 ∨ s.S.Cells[i].State = 2) → (s.S.Cells[j].State = 1 ∨ s.S.Cells[j].State = 2) → s.S.Cells[j].Val.Serial ≠ s.S.Cells[i].Val.Serial := fun i hi j hj a b => by
    have := h.dif i (by rw [sO_len]; exact hi) j hj
    simp only [sO, List.getElem_map, cO, Thr, oo] at this
    exact this a b
  rcases Nat.lt_trichotomy i j with q | q | q
  · exact absurd e (key j hj i q b a)
  · exact q
  · exact absurd e.symm (key i hi j q a b)
theorem hnds_fnd {s : store_Store} (hR : RtR (sO s)) {x : Int} (hx : x ∈ hnds 0 s.S.Cells) : ∃ i, ∃ hi : i < s.S.Cells.length, s.S.Cells[i].State = 1 ∧ x = 1 + (i : Int) + 32 * s.S.Cells[i].Gen ∧ FndO s.S x i ∧ sk s.S.Cells x = s.S.Cells[i].Val.Serial ∧ store_Get s x = some (s.S.Cells[i].Val, 0) := by
  obtain ⟨i, hi, h1, h2⟩ := hnds_mem.1 hx
  rw [Nat.zero_add] at h2
  have hl := (rt_len hR)
  have hc := (rt_slb hR).gen i hi
  have hf : FndO s.S x i := ⟨hi, by unfold Hnd; omega, by omega, by omega, .inl h1⟩
  refine ⟨i, hi, h1, h2, hf, by rw [h2]; exact sk_hd hi (by omega), ?_⟩
  obtain ⟨_, e⟩ := get_of_o hf
  unfold store_Get
  rw [e, if_neg (by omega)]
  rfl
theorem fnd_hnds {s : store_Store} {x : Int} {i : Nat} (hf : FndO s.S x i) (h1 : ∀ hi : i < s.S.Cells.length, s.S.Cells[i].State = 1) : x ∈ hnds 0 s.S.Cells := by
  obtain ⟨hi, q1, q2, q3, _⟩ := hf
  refine hnds_mem.2 ⟨i, hi, h1 hi, ?_⟩
  unfold Hnd at q1
  rw [Nat.zero_add]
  omega
theorem sk_inj {s : store_Store} (hR : RtR (sO s)) {x y : Int} (hx : x ∈ hnds 0 s.S.Cells) (hy : y ∈ hnds 0 s.S.Cells) (e : sk s.S.Cells x = sk s.S.Cells y) : x = y := by
  obtain ⟨i, hi, a1, a2, _, a4, _⟩ := hnds_fnd hR hx
  obtain ⟨j, hj, b1, b2, _, b4, _⟩ := hnds_fnd hR hy
  have := (rt_dif hR) hi hj (.inl a1) (.inl b1) (by rw [← a4, ← b4]; exact e)
  subst this
  rw [a2, b2]
theorem hnds_nodup : ∀ (k : Nat) (cs : List slab_Cell_store_Obj), k + cs.length ≤ 32 → (hnds k cs).Nodup
  | _, [], _ => List.nodup_nil
  | k, c :: r, h => by
    simp only [List.length_cons] at h
    unfold hnds
    rw [List.nodup_append]
    refine ⟨by split <;> simp, hnds_nodup (k + 1) r (by omega), fun a ha b hb e => ?_⟩
    split at ha
    · simp only [List.mem_singleton] at ha
      subst ha; subst e
      obtain ⟨i, hi, h1, h2⟩ := hnds_mem.1 hb
      have : ((1 + (k : Int) + 32 * c.Gen) - 1) % 32 = ((1 + ((k + 1 + i : Nat) : Int) + 32 * r[i].Gen) - 1) % 32 := by rw [h2]
      omega
    · cases ha
theorem live_of {s : store_Store} (hR : RtR (sO s)) : ∃ l, store_Live s = some l ∧ l.Perm (hnds 0 s.S.Cells) ∧ l.Pairwise (fun a b => sk s.S.Cells a < sk s.S.Cells b) := by
  obtain ⟨l, h1, h2, h3⟩ := live_spec (rt_slb hR)
  refine ⟨l, h1, h2, ?_⟩
  have hn : l.Nodup := h2.nodup_iff.2 (hnds_nodup 0 _ (by have := (rt_len hR); omega))
  have := List.Pairwise.and h3 hn
  refine this.imp_of_mem fun {a b} ha hb ⟨q1, q2⟩ => ?_
  rcases Int.lt_or_eq_of_le q1 with q | q
  · exact q
  · exact absurd (sk_inj hR (h2.mem_iff.1 ha) (h2.mem_iff.1 hb) q) q2
end Go.Sh
namespace Go.Sh
set_option linter.unusedVariables false
set_option linter.unusedSimpArgs false
end Go.Sh
namespace Go.Sh
set_option linter.unusedVariables false
set_option linter.unusedSimpArgs false
noncomputable def lv (s : store_Store) : List Int := (store_Live s).getD []
def ob (s : store_Store) (h : Int) : store_Obj := ((store_Get s h).getD (z0, 0)).1
def outs (s : store_Store) (h : Int) : List Int := nz (ob s h).Fields
def FB (s : store_Store) : Prop := ∀ c ∈ s.S.Cells, ∀ x ∈ c.Val.Fields, x ≤ 9223372036854775807
section
variable {s : store_Store} (hR : RtR (sO s))
include hR
theorem lv_spec : store_Live s = some (lv s) ∧ (lv s).Perm (hnds 0 s.S.Cells) ∧ (lv s).Pairwise (fun a b => sk s.S.Cells a < sk s.S.Cells b) := by
  obtain ⟨l, h1, h2, h3⟩ := live_of hR
  have : lv s = l := by unfold lv; rw [h1]; rfl
  rw [this]
  exact ⟨h1, h2, h3⟩
theorem lv_live : store_Live s = some (lv s) := (lv_spec hR).1
theorem lv_mem {h : Int} : h ∈ lv s ↔ h ∈ hnds 0 s.S.Cells := (lv_spec hR).2.1.mem_iff
theorem lv_len : (lv s).length ≤ 24 := by
  rw [(lv_spec hR).2.1.length_eq]
  exact Nat.le_trans (hnds_len 0 s.S.Cells) (rt_len hR)
theorem lv_nodup : (lv s).Nodup := (lv_spec hR).2.1.nodup_iff.2 (hnds_nodup 0 _ (by have := (rt_len hR); omega))
theorem lv_get {h : Int} (hh : h ∈ lv s) : store_Get s h = some (ob s h, 0) := by
  obtain ⟨i, hi, _, _, _, _, e⟩ := hnds_fnd hR ((lv_mem hR).1 hh)
  unfold ob
  rw [e]
  rfl
theorem lv_fnd {h : Int} (hh : h ∈ lv s) : ∃ i, ∃ hi : i < s.S.Cells.length, s.S.Cells[i].State = 1 ∧ h = 1 + (i : Int) + 32 * s.S.Cells[i].Gen ∧ FndO s.S h i ∧ ob s h = s.S.Cells[i].Val := by
  obtain ⟨i, hi, h1, h2, h3, _, e⟩ := hnds_fnd hR ((lv_mem hR).1 hh)
  refine ⟨i, hi, h1, h2, h3, ?_⟩
  unfold ob
  rw [e]
  rfl
theorem lv_pos {h : Int} (hh : h ∈ lv s) : 1 ≤ h ∧ h ≤ 320 := by
  obtain ⟨i, hi, _, _, hf, _⟩ := lv_fnd hR hh
  exact hnd_le hf.2.1
theorem lv_no {h : Int} (hh : h ≤ 9223372036854775807) (hn : h ∉ lv s) : ∃ e, e ≠ 0 ∧ store_Get s h = some (z0, e) := by
  rcases find_cases_o s.S hh with ⟨i, hf, _⟩ | ⟨hf, _⟩
  · obtain ⟨hi, e⟩ := get_of_o hf
    unfold store_Get
    rw [e]
    by_cases h2 : s.S.Cells[i].State = 2
    · rw [if_pos h2]; exact ⟨3, by decide, rfl⟩
    · exact absurd ((lv_mem hR).2 (fnd_hnds hf fun _ => hf.2.2.2.2.resolve_right h2)) hn
  · unfold store_Get
    rw [get_no_o hh hf]
    exact ⟨_, err_ne_o h, rfl⟩
theorem ob_no {h : Int} (hh : h ≤ 9223372036854775807) (hn : h ∉ lv s) : ob s h = z0 := by
  obtain ⟨e, _, h1⟩ := lv_no hR hh hn
  unfold ob
  rw [h1]
  rfl
theorem get_ob {h : Int} (hh : h ≤ 9223372036854775807) : ∃ e, store_Get s h = some (ob s h, e) ∧ (e = 0 ↔ h ∈ lv s) := by
  by_cases q : h ∈ lv s
  · exact ⟨0, lv_get hR q, by simp [q]⟩
  · obtain ⟨e, h0, h1⟩ := lv_no hR hh q
    refine ⟨e, ?_, by simp [h0, q]⟩
    rw [h1, ob_no hR hh q]
theorem outs_no {h : Int} (hh : h ≤ 9223372036854775807) (hn : h ∉ lv s) : outs s h = [] := by
  unfold outs
  rw [ob_no hR hh hn]
  rfl
theorem ob_flen (h : Int) (hh : h ≤ 9223372036854775807) : (ob s h).Fields.length ≤ 4 := by
  by_cases q : h ∈ lv s
  · obtain ⟨i, hi, h1, _, _, e⟩ := lv_fnd hR q
    rw [e]
    exact (rt_ok hR i hi (.inl h1)).2.2.2.2.2.2
  · rw [ob_no hR hh q]
    exact Nat.zero_le _
theorem outs_len (h : Int) (hh : h ≤ 9223372036854775807) : (outs s h).length ≤ 4 := Nat.le_trans (nz_len _) (ob_flen hR h hh)
theorem outs_le (hF : FB s) {h x : Int} (hh : h ≤ 9223372036854775807) (hx : x ∈ outs s h) : x ≤ 9223372036854775807 := by
  by_cases q : h ∈ lv s
  · obtain ⟨i, hi, h1, _, _, e⟩ := lv_fnd hR q
    unfold outs at hx
    rw [e] at hx
    exact hF _ (List.getElem_mem hi) x (nz_mem.1 hx).1
  · rw [outs_no hR hh q] at hx
    cases hx
end
theorem get06 (s : store_Store) (hl : s.S.Cells.length ≤ 1000) {h : Int} (hh : h ≤ 9223372036854775807) : r06_Get (sO s) h = (store_Get s h).map fun p => (oo p.1, p.2) := by
  unfold r06_Get store_Get slab_Get_store_Obj r03_Get
  rw [plain06 _ (by rw [sO_len]; exact hl), Option.bind_some, find06 s hh]
  rcases find_cases_o s.S hh with ⟨i, hf, e⟩ | ⟨hf, e⟩
  · rw [e]
    have hi := hf.1
    simp only [Option.bind_some, bne_self_eq_false, Bool.false_eq_true, if_false]
    rw [pl_at (by rw [sO_len]; exact hi), ix_at hi]
    simp only [Option.bind_some, plc, sO, List.getElem_map, cO]
    split
    · rfl
    · simp only [Option.bind_some, bne_self_eq_false, Bool.false_eq_true, if_false]
      rw [ix_at (by simpa using hi)]
      simp [cO, oo]
  · rw [e]
    simp only [Option.bind_some]
    have hne : ((if h = 0 then 2 else 3 : Int) != 0) = true := by simpa using err_ne_o h
    simp only [hne, if_true, Option.bind_some]
    rfl
end Go.Sh
namespace Go.Sh
set_option linter.unusedVariables false
set_option linter.unusedSimpArgs false
theorem sorted06 {s : store_Store} (hR : RtR (sO s)) {l : List Int} (hl : ∀ x ∈ l, x ∈ lv s) (hn : l.length ≤ 100) :
    ∃ m, r06_Sorted (sO s) l = some m ∧ m.Perm l ∧ m.Pairwise (fun a b => sk s.S.Cells a ≤ sk s.S.Cells b) := by
  have hfind : ∀ x ∈ l, ∃ i : Nat, ∃ hi : i < s.S.Cells.length, r03_Find (pl (sO s)) x = some ((i : Int), 0) ∧ s.S.Cells[i].Val.Serial = sk s.S.Cells x := fun x hx => by
    obtain ⟨i, hi, _, _, hf, h4, _⟩ := hnds_fnd hR ((lv_mem hR).1 (hl x hx))
    refine ⟨i, hi, ?_, h4.symm⟩
    rw [find06 s (by have := hnd_le hf.2.1; omega), find_of_o hf]
  unfold r06_Sorted
  rw [app_nil (by omega) (by omega), Option.bind_some]
  simp only [jn]
  let K : List Int → Nat → Int := fun o a => sk s.S.Cells (o.getD a 0)
  have hplain := plain06 (sO s) (by rw [sO_len]; have := rt_len hR; omega)
  have inner : ∀ (n : Nat) (o : List Int), n < l.length → o.Perm l → (∀ a b, a < b → b ≤ n → b ≠ n → K o a ≤ K o b) →
      ∃ o', lp (S := Int × (List Int)) (E := (List Int)) (fun ((s58, s59) : Int × (List Int)) =>
            if (decide (s58 > 0)) then
              (r06_Plain (sO s)).bind fun v62 =>
              (ix s59 (w64 (s58 - 1))).bind fun v63 =>
              (r03_Find v62 v63).bind fun v64 =>
              (ix s59 s58).bind fun v65 =>
              (r03_Find v62 v65).bind fun v66 =>
              (onlyIf (((decide (v64.1 < 0)) || (decide (v66.1 < 0))) == false) (⟨0, 0, ⟨0, 0, 0, 0, false, []⟩⟩ : r06_Cell) (ix (sO s).Cells v64.1)).bind fun v67 =>
              (onlyIf (((decide (v64.1 < 0)) || (decide (v66.1 < 0))) == false) (⟨0, 0, ⟨0, 0, 0, 0, false, []⟩⟩ : r06_Cell) (ix (sO s).Cells v66.1)).bind fun v68 =>
              if (((decide (v64.1 < 0)) || (decide (v66.1 < 0))) || (decide (v67.Val.Serial ≤ v68.Val.Serial))) then
                some (.inr s59)
              else
              (ix (s59.set (s58).toNat v63) (w64 (s58 - 1))).bind fun v69 =>
              some (.inl (w64 (s58 - 1), ((s59.set (s58).toNat v63).set (w64 (s58 - 1)).toNat v65)))
            else
            some (.inr s59)) ((n : Int), o) = some o' ∧ o'.Perm l ∧ ∀ a b, a < b → b ≤ n → K o' a ≤ K o' b := by
    intro n o hn' hp hk
    have hbn : (n : Int).toNat < 4611686018427387904 := by rw [Int.toNat_natCast]; omega
    refine lp_ind (s0 := ((n : Int), o)) (fun q => ∃ k : Nat, q.1 = (k : Int) ∧ k ≤ n ∧ q.2.Perm l ∧ ∀ a b, a < b → b ≤ n → b ≠ k → K q.2 a ≤ K q.2 b) (fun o' => o'.Perm l ∧ ∀ a b, a < b → b ≤ n → K o' a ≤ K o' b) (fun q => q.1.toNat) ⟨n, rfl, Nat.le_refl _, hp, hk⟩ hbn ?_
    rintro ⟨_, o⟩ ⟨k, rfl, hkn, hp, hk⟩
    simp only at hp hk ⊢
    have hol : o.length = l.length := hp.length_eq
    rcases Nat.eq_zero_or_pos k with rfl | hpos
    · right
      refine ⟨o, by rw [if_neg (by simp)], hp, fun a b h1 h2 => hk a b h1 h2 (by omega)⟩
    · obtain ⟨j, rfl⟩ : ∃ j, k = j + 1 := ⟨k - 1, by omega⟩
      have hj1 : j + 1 < o.length := by omega
      have hj : j < o.length := by omega
      have ew : w64 (((j + 1 : Nat) : Int) - 1) = (j : Int) := by rw [w64_in (by omega) (by omega)]; omega
      obtain ⟨ia, hia, fa, ka⟩ := hfind o[j] (hp.mem_iff.1 (List.getElem_mem hj))
      obtain ⟨ib, hib, fb, kb⟩ := hfind o[j + 1] (hp.mem_iff.1 (List.getElem_mem hj1))
      have ea : ix (sO s).Cells (ia : Int) = some (cO s.S.Cells[ia]) := by rw [sO_ix, ix_at hia]; rfl
      have eb : ix (sO s).Cells (ib : Int) = some (cO s.S.Cells[ib]) := by rw [sO_ix, ix_at hib]; rfl
      have hneg : ((decide ((ia : Int) < 0)) || (decide ((ib : Int) < 0))) = false := by simp
      have hpos' : decide (((j + 1 : Nat) : Int) > 0) = true := by simp
      simp only [hpos', if_true, hplain, ew, ix_at hj, ix_at hj1, Option.bind_some, fa, fb, hneg, beq_self_eq_true, onlyT, ea, eb, Bool.false_or, cO, oo, ka, kb, Int.toNat_natCast]
      have Kj : K o j = sk s.S.Cells o[j] := by simp [K, List.getD, List.getElem?_eq_getElem hj]
      have Kj1 : K o (j + 1) = sk s.S.Cells o[j + 1] := by simp [K, List.getD, List.getElem?_eq_getElem hj1]
      by_cases hle : sk s.S.Cells o[j] ≤ sk s.S.Cells o[j + 1]
      · right
        refine ⟨o, by rw [if_pos (by simpa using hle)], hp, fun a b h1 h2 => ?_⟩
        by_cases e : b = j + 1
        · subst e
          rcases Nat.lt_or_ge a j with q | q
          · have := hk a j q (by omega) (by omega)
            omega
          · have : a = j := by omega
            subst this
            omega
        · exact hk a b h1 h2 e
      · left
        refine ⟨_, by rw [if_neg (by simpa using hle), ix_at (by simpa using hj)]; rfl, ⟨j, rfl, by omega, ?_, fun a b h1 h2 h3 => ?_⟩, by show (j : Int).toNat < ((j + 1 : Nat) : Int).toNat; omega⟩
        · exact (List.set_set_perm hj1 hj).trans hp
        · have hK : ∀ c, K ((o.set (j + 1) o[j]).set j o[j + 1]) c = if c = j then K o (j + 1) else if c = j + 1 then K o j else K o c := fun c => by
            simp only [K, List.getD, List.getElem?_set, List.length_set]
            by_cases c1 : c = j
            · subst c1; simp [hj, List.getElem?_eq_getElem hj1]
            · by_cases c2 : c = j + 1
              · subst c2; simp [hj1, List.getElem?_eq_getElem hj]
              · rw [if_neg (by omega), if_neg (by omega), if_neg c1, if_neg c2]
          show K ((o.set (j + 1) o[j]).set ((j : Nat) : Int).toNat o[j + 1]) a ≤ K ((o.set (j + 1) o[j]).set ((j : Nat) : Int).toNat o[j + 1]) b
          rw [Int.toNat_natCast, hK, hK]
          by_cases a1 : a = j
          · subst a1
            rw [if_pos rfl]
            by_cases b2 : b = a + 1
            · subst b2
              rw [if_neg (by omega), if_pos rfl]
              omega
            · rw [if_neg (by omega), if_neg b2]
              exact hk (a + 1) b (by omega) h2 b2
          · rw [if_neg a1]
            by_cases a2 : a = j + 1
            · subst a2
              rw [if_pos rfl, if_neg (by omega), if_neg (by omega)]
              exact hk j b (by omega) h2 (by omega)
            · rw [if_neg a2, if_neg h3]
              by_cases b2 : b = j + 1
              · subst b2
                rw [if_pos rfl]
                exact hk a j (by omega) (by omega) (by omega)
              · rw [if_neg b2]
                exact hk a b h1 h2 b2
  have outer : ∃ m, (lp (S := Int × (List Int)) (E := (List Int)) (fun ((s38, s39) : Int × (List Int)) =>
      if (decide (s38 < (s39.length : Int))) then
          (lp (S := Int × (List Int)) (E := (List Int)) (fun ((s58, s59) : Int × (List Int)) =>
            if (decide (s58 > 0)) then
              (r06_Plain (sO s)).bind fun v62 =>
              (ix s59 (w64 (s58 - 1))).bind fun v63 =>
              (r03_Find v62 v63).bind fun v64 =>
              (ix s59 s58).bind fun v65 =>
              (r03_Find v62 v65).bind fun v66 =>
              (onlyIf (((decide (v64.1 < 0)) || (decide (v66.1 < 0))) == false) (⟨0, 0, ⟨0, 0, 0, 0, false, []⟩⟩ : r06_Cell) (ix (sO s).Cells v64.1)).bind fun v67 =>
              (onlyIf (((decide (v64.1 < 0)) || (decide (v66.1 < 0))) == false) (⟨0, 0, ⟨0, 0, 0, 0, false, []⟩⟩ : r06_Cell) (ix (sO s).Cells v66.1)).bind fun v68 =>
              if (((decide (v64.1 < 0)) || (decide (v66.1 < 0))) || (decide (v67.Val.Serial ≤ v68.Val.Serial))) then
                some (.inr s59)
              else
              (ix (s59.set (s58).toNat v63) (w64 (s58 - 1))).bind fun v69 =>
              some (.inl (w64 (s58 - 1), ((s59.set (s58).toNat v63).set (w64 (s58 - 1)).toNat v65)))
            else
            some (.inr s59)) (s38, s39)).bind fun e57 =>
          some (.inl (w64 (s38 + 1), e57))
      else
      some (.inr s39)) (1, l)) = some m ∧ m.Perm l ∧ m.Pairwise (fun a b => sk s.S.Cells a ≤ sk s.S.Cells b) := by
    have hb1 : l.length + 1 - (1 : Int).toNat < 4611686018427387904 := by omega
    refine lp_ind (s0 := ((1 : Int), l)) (fun q => ∃ k : Nat, q.1 = (k : Int) ∧ (k ≤ l.length ∨ k = 1) ∧ 1 ≤ k ∧ q.2.Perm l ∧ ∀ a b, a < b → b < k → K q.2 a ≤ K q.2 b) (fun (o' : List Int) => o'.Perm l ∧ o'.Pairwise (fun a b => sk s.S.Cells a ≤ sk s.S.Cells b)) (fun q => l.length + 1 - q.1.toNat) ⟨1, rfl, .inr rfl, by omega, List.Perm.refl _, fun a b h1 h2 => by omega⟩ hb1 ?_
    rintro ⟨_, o⟩ ⟨k, rfl, hkl, hk1, hp, hk⟩
    simp only at hp hk ⊢
    have hol : o.length = l.length := hp.length_eq
    rcases Nat.lt_or_ge k l.length with h1 | h1
    · left
      obtain ⟨o', e1, e2, e3⟩ := inner k o h1 hp fun a b x1 x2 x3 => hk a b x1 (by omega)
      refine ⟨(((k + 1 : Nat) : Int), o'), ?_, ⟨k + 1, rfl, by omega, by omega, e2, fun a b x1 x2 => e3 a b x1 (by omega)⟩, by show l.length + 1 - ((k + 1 : Nat) : Int).toNat < l.length + 1 - (k : Int).toNat; omega⟩
      rw [if_pos (by simp; omega), e1, Option.bind_some, w64_nat (by omega)]
    · right
      refine ⟨o, by rw [if_neg (by simp; omega)], hp, ?_⟩
      rw [List.pairwise_iff_getElem]
      intro i j hi hj hij
      have := hk i j hij (by omega)
      simpa [K, List.getD, List.getElem?_eq_getElem hi, List.getElem?_eq_getElem hj] using this
  obtain ⟨m, e1, e2, e3⟩ := outer
  exact ⟨m, by rw [show lp _ _ = _ from e1]; rfl, e2, e3⟩
theorem live06 {s : store_Store} (hR : RtR (sO s)) : r06_Live (sO s) = some (lv s) := by
  have hlen := rt_len hR
  unfold r06_Live
  simp only [jn]
  have hloop : lp (S := Int × (List Int)) (E := (List Int)) (fun ((s18, s19) : Int × (List Int)) =>
      if (decide (s18 < ((sO s).Cells.length : Int))) then
          (ix (sO s).Cells s18).bind fun v27 =>
          if (v27.State == 1) then
            (r01_Pack s18 v27.Gen).bind fun v28 =>
            (app 8 s19 [v28]).bind fun v29 =>
            some (.inl (w64 (s18 + 1), v29))
          else
          some (.inl (w64 (s18 + 1), s19))
      else
      some (.inr s19)) (0, []) = some (hnds 0 s.S.Cells) := by
    refine some_of (lp_upS (T := List Int) s.S.Cells.length (fun k l => l = hnds 0 (s.S.Cells.take k)) (fun e => e = hnds 0 s.S.Cells) (by omega) (by simp [hnds]) (fun k l hk hP => ?_) (fun l hP => ?_))
    · subst hP
      left
      have hc := (rt_slb hR).gen k hk
      have hl := hnds_len 0 (s.S.Cells.take k)
      have et : s.S.Cells.take (k + 1) = s.S.Cells.take k ++ [s.S.Cells[k]] := by rw [List.take_add_one, List.getElem?_eq_getElem hk]; rfl
      have el : (s.S.Cells.take k).length = k := by simp; omega
      refine ⟨_, ?_, rfl⟩
      simp only [sO_len, Int.ofNat_lt, hk, decide_true, if_true, sO_ix, ix_at hk, Option.map_some, Option.bind_some, cO]
      rw [et, hnds_snoc, el, Nat.zero_add]
      by_cases q : s.S.Cells[k].State = 1
      · rw [if_pos (by simpa using q), if_pos q, r01_Pack_eq, Option.bind_some, if_pos (by omega), app_ok (by omega) (by simp; omega), Option.bind_some, w64_nat]
      · rw [if_neg (by simpa using q), if_neg q, w64_nat, List.append_nil]
    · subst hP
      refine ⟨_, by simp only [sO_len, Int.lt_irrefl, decide_false, Bool.false_eq_true, if_false]; rfl, by simp⟩
  rw [show lp _ _ = _ from hloop, Option.bind_some]
  obtain ⟨m, h1, h2, h3⟩ := sorted06 hR (l := hnds 0 s.S.Cells) (fun x hx => (lv_mem hR).2 hx) (by have := hnds_len 0 s.S.Cells; omega)
  rw [h1, Option.bind_some]
  congr 1
  obtain ⟨_, l2, l3⟩ := lv_spec hR
  exact sorted_one (key := sk s.S.Cells) (h2.trans l2.symm) h3 (l3.imp fun h => by omega) fun a ha b hb e => sk_inj hR (h2.mem_iff.1 ha) (h2.mem_iff.1 hb) e
end Go.Sh
namespace Go.Sh
set_option linter.unusedVariables false
set_option linter.unusedSimpArgs false
theorem names_eq (v : List Int) (h : v.length ≤ 1000000) : vec_Names v = some (nz v) := by
  unfold vec_Names vec_named
  simp only [jn, Option.bind_some]
  rw [lp_foldl v (fun b x => if x != 0 then b ++ [x] else b) id (fun k b => b.length ≤ k) (by omega) (by simp) (fun k hk b hb => ?_) (fun b _ => ?_)]
  · simp only [Option.bind_some, id]
    rw [foldl_filter]
    rfl
  · simp only [Int.ofNat_lt, hk, decide_true, if_true, ix_at hk, Option.bind_some]
    by_cases q : (v[k] != 0) = true
    · rw [if_pos (by simpa using q), if_pos q, app_ok (by omega) (by simp; omega), Option.bind_some, w64_nat]
      exact ⟨rfl, by simp; omega⟩
    · rw [if_neg (by simpa using q), if_neg q, w64_nat]
      exact ⟨rfl, by omega⟩
  · simp only [Int.lt_irrefl, decide_false, Bool.false_eq_true, if_false]
    rfl
theorem names05_eq (v : List Int) (h : v.length ≤ 1000000) : r05_Names v = some (nz v) := by
  unfold r05_Names
  simp only [jn]
  rw [lp_foldl v (fun b x => if x != 0 then b ++ [x] else b) id (fun k b => b.length ≤ k) (by omega) (by simp) (fun k hk b hb => ?_) (fun b _ => ?_)]
  · simp only [Option.bind_some, id]
    rw [foldl_filter]
    rfl
  · simp only [Int.ofNat_lt, hk, decide_true, if_true, ix_at hk, Option.bind_some]
    by_cases q : (v[k] != 0) = true
    · rw [if_pos q, if_pos q, app_ok (by omega) (by simp; omega), Option.bind_some, w64_nat]
      exact ⟨rfl, by simp; omega⟩
    · rw [if_neg q, if_neg q, w64_nat]
      exact ⟨rfl, by omega⟩
  · simp only [Int.lt_irrefl, decide_false, Bool.false_eq_true, if_false]
    rfl
theorem times07_eq (l : List Int) (h : Int) (hl : l.length ≤ 1000000) : r07_Times l h = some (tms l h : Int) := by
  unfold r07_Times
  simp only [jn]
  rw [lp_foldlR l (fun (b : Int) x => if (x == h && h != 0) then b + 1 else b) id (fun k b => 0 ≤ b ∧ b ≤ k) (by omega) (by simp) (fun k hk b hb => ?_) (fun b _ => ?_)]
  · simp only [Option.bind_some, id]
    rw [foldl_count]
    simp
  · simp only [Int.ofNat_lt, hk, decide_true, if_true, ix_at hk, Option.bind_some]
    by_cases q : (l[k] == h && h != 0) = true
    · rw [if_pos q, if_pos q, w64_nat, w64_in (n := b + 1) (by omega) (by omega)]
      exact ⟨rfl, by omega⟩
    · rw [if_neg q, if_neg q, w64_nat]
      exact ⟨rfl, by omega⟩
  · simp only [Int.lt_irrefl, decide_false, Bool.false_eq_true, if_false]
    rfl
section
variable {s : store_Store} (hR : RtR (sO s))
include hR
theorem out_eq {h : Int} (hh : h ≤ 9223372036854775807) : refs_Out s h = some (outs s h) := by
  obtain ⟨e, h1, _⟩ := get_ob hR hh
  unfold refs_Out
  rw [h1, Option.bind_some, names_eq _ (by have := ob_flen hR h hh; simp only; omega)]
  rfl
theorem out07_eq {h : Int} (hh : h ≤ 9223372036854775807) : r07_Out (sO s) h = some (outs s h) := by
  unfold r07_Out
  rw [get06 s (by have := rt_len hR; omega) hh]
  obtain ⟨e, h1, h2⟩ := get_ob hR hh
  rw [h1]
  simp only [Option.map_some, Option.bind_some]
  by_cases q : e = 0
  · subst q
    rw [if_neg (by simp), names05_eq _ (by have := ob_flen hR h hh; simp only [oo]; omega)]
    rfl
  · rw [if_pos (by simpa using q), outs_no hR hh (fun q' => q (h2.2 q'))]
end
end Go.Sh
namespace Go.Sh
set_option linter.unusedVariables false
set_option linter.unusedSimpArgs false
section
variable {s : store_Store} (hR : RtR (sO s)) (hF : FB s)
include hR hF
end
theorem filter_split {α : Type} (p : α → Bool) : ∀ l : List α, l.length = (l.filter p).length + (l.filter fun x => !p x).length
  | [] => rfl
  | x :: l => by
    have := filter_split p l
    by_cases h : p x
    · simp [h]; omega
    · simp [h]; omega
theorem lv_of {s : store_Store} (hR : RtR (sO s)) {l : List Int} (hp : l.Perm (hnds 0 s.S.Cells)) (hs : l.Pairwise (fun a b => sk s.S.Cells a < sk s.S.Cells b)) : lv s = l := by
  obtain ⟨_, l2, l3⟩ := lv_spec hR
  exact sorted_one (key := sk s.S.Cells) (l2.trans hp.symm) (l3.imp fun h => by omega) (hs.imp fun h => by omega) fun a ha b hb e => sk_inj hR (l2.mem_iff.1 ha) (l2.mem_iff.1 hb) e
theorem rtR_of {s : store_Store} (h1 : s.S.Cells.length ≤ 1000) (h : r06_Right (sO s) = some true) : RtR (sO s) := by
  obtain ⟨b, q1, q2⟩ := Right06 (sO s) (by rw [sO_len]; exact h1)
  rw [h] at q1
  exact q2.1 (Option.some.inj q1).symm
end Go.Sh
namespace Go.Sh
set_option linter.unusedVariables false
set_option linter.unusedSimpArgs false
inductive Rch (s : store_Store) (l : List Int) : Int → Prop
  | base {h : Int} : h ∈ l → h ∈ lv s → Rch s l h
  | step {a b : Int} : Rch s l a → b ∈ outs s a → b ∈ lv s → Rch s l b
open Classical in
noncomputable def rcd (s : store_Store) (l : List Int) : List Int := (lv s).filter fun h => decide (Rch s l h)
open Classical in
noncomputable def lst (s : store_Store) (l : List Int) : List Int := (lv s).filter fun h => decide (¬ Rch s l h)
def Cl (s : store_Store) (l : List Int) : Prop := ∀ a ∈ l, ∀ b ∈ outs s a, b ∈ lv s → b ∈ l
def LB (l : List Int) : Prop := ∀ x ∈ l, x ≤ 9223372036854775807
theorem Rch.live {s : store_Store} {l : List Int} {h : Int} (q : Rch s l h) : h ∈ lv s := by cases q <;> assumption
open Classical in
theorem rcd_mem {s : store_Store} {l : List Int} {h : Int} : h ∈ rcd s l ↔ Rch s l h := by
  unfold rcd
  rw [List.mem_filter]
  exact ⟨fun q => of_decide_eq_true q.2, fun q => ⟨q.live, decide_eq_true q⟩⟩
theorem rcd_len {s : store_Store} (hR : RtR (sO s)) (l : List Int) : (rcd s l).length ≤ 24 := Nat.le_trans (List.length_filter_le ..) (lv_len hR)
theorem rcd_cl (s : store_Store) (l : List Int) : Cl s (rcd s l) := fun a ha b hb hl => rcd_mem.2 (.step (rcd_mem.1 ha) hb hl)
theorem Rch.least {s : store_Store} {l m : List Int} (hc : Cl s m) (hl : ∀ x ∈ l, x ∈ lv s → x ∈ m) {h : Int} (q : Rch s l h) : h ∈ m := by
  induction q with
  | base h1 h2 => exact hl _ h1 h2
  | step _ h1 h2 ih => exact hc _ ih _ h1 h2
theorem Rch.mono {s : store_Store} {l m : List Int} (hl : ∀ x ∈ l, x ∈ lv s → Rch s m x) {h : Int} (q : Rch s l h) : Rch s m h := by
  induction q with
  | base h1 h2 => exact hl _ h1 h2
  | step _ h1 h2 ih => exact .step ih h1 h2
theorem rcd_congr {s : store_Store} {l m : List Int} (h : ∀ x, Rch s l x ↔ Rch s m x) : rcd s l = rcd s m := by
  unfold rcd
  exact List.filter_congr fun x _ => decide_eq_decide.2 (h x)
theorem filter_lt {α : Type} {p q : α → Bool} : ∀ {l : List α}, (∀ x ∈ l, p x = true → q x = true) → ∀ x ∈ l, q x = true → p x = false → (l.filter p).length < (l.filter q).length
  | [], _, x, hx, _, _ => by cases hx
  | y :: l, h, x, hx, h1, h2 => by
    have hle : (l.filter p).length ≤ (l.filter q).length := by
      have h' : ∀ x ∈ l, p x = true → q x = true := fun x hx => h x (List.mem_cons_of_mem _ hx)
      clear h hx
      induction l with
      | nil => simp
      | cons z l ih =>
        have := ih fun x hx => h' x (List.mem_cons_of_mem _ hx)
        have hz := h' z (List.mem_cons_self ..)
        simp only [List.filter_cons]
        by_cases a : p z = true
        · rw [if_pos a, if_pos (hz a)]; simp only [List.length_cons]; omega
        · rw [if_neg a]; split <;> (try simp only [List.length_cons]) <;> omega
    rcases List.mem_cons.1 hx with rfl | hx'
    · simp only [List.filter_cons, h1, h2, if_true, Bool.false_eq_true, if_false, List.length_cons]
      omega
    · have := filter_lt (fun x hx => h x (List.mem_cons_of_mem _ hx)) x hx' h1 h2
      have hy := h y (List.mem_cons_self ..)
      simp only [List.filter_cons]
      by_cases a : p y = true
      · rw [if_pos a, if_pos (hy a)]; simp only [List.length_cons]; omega
      · rw [if_neg a]; split <;> (try simp only [List.length_cons]) <;> omega
theorem nodup_le {l m : List Int} (hn : l.Nodup) (h : ∀ x ∈ l, x ∈ m) : l.length ≤ m.length := by
  induction l generalizing m with
  | nil => simp
  | cons x l ih =>
    rw [List.nodup_cons] at hn
    have hx := h x (List.mem_cons_self ..)
    have := ih (m := m.erase x) hn.2 fun y hy => (List.mem_erase_of_ne (fun e => hn.1 (by subst e; exact hy))).2 (h y (List.mem_cons_of_mem _ hy))
    rw [List.length_erase_of_mem hx] at this
    have : 0 < m.length := List.length_pos_of_mem hx
    simp only [List.length_cons]
    omega
section
variable {s : store_Store} (hR : RtR (sO s))
include hR
theorem isLive_eq {h : Int} (hh : h ≤ 9223372036854775807) : reach_isLive s h = some (decide (h ∈ lv s)) := by
  obtain ⟨e, h1, h2⟩ := get_ob hR hh
  unfold reach_isLive
  rw [h1, Option.bind_some]
  congr 1
  rw [Bool.eq_iff_iff, beq_iff_eq, decide_eq_true_iff]
  exact h2
abbrev Mk (m : List (Int × Bool)) (x : Int) : Prop := (mget m x).getD false = true
noncomputable def unm (s : store_Store) (m : List (Int × Bool)) : Nat := ((lv s).filter fun x => !(mget m x).getD false).length
omit hR in
theorem mk_put (m : List (Int × Bool)) (x y : Int) : Mk (mput m x true) y ↔ y = x ∨ Mk m y := by
  unfold Mk
  rw [mget_mput]
  by_cases q : y = x
  · simp [q]
  · simp [q]
omit hR in
theorem unm_put {m : List (Int × Bool)} {x : Int} (hx : x ∈ lv s) (hm : ¬ Mk m x) : unm s (mput m x true) < unm s m := by
  unfold unm
  refine filter_lt (fun y _ h => ?_) x hx (by simpa [Mk] using hm) ?_
  · by_cases q : Mk m y
    · have := (mk_put m x y).2 (.inr q)
      unfold Mk at this
      rw [this] at h
      cases h
    · simpa [Mk] using q
  · have := (mk_put m x x).2 (.inl rfl)
    unfold Mk at this
    rw [this]; rfl
structure Srch (s : store_Store) (l : List Int) (q : queue_Queue_int) (m : List (Int × Bool)) : Prop where
  nd : q.L.Nodup
  cap : q.Cap = ((lv s).length : Int)
  mkd : ∀ x ∈ q.L, Mk m x
  rc : ∀ x, Mk m x → Rch s l x
omit hR in
theorem Srch.room {l : List Int} {q : queue_Queue_int} {m : List (Int × Bool)} (h : Srch s l q m) {x : Int} (hx : x ∈ lv s) (hm : ¬ Mk m x) : q.L.length < (lv s).length := by
  have : (x :: q.L).length ≤ (lv s).length := nodup_le (List.nodup_cons.2 ⟨fun k => hm (h.mkd x k), h.nd⟩) fun y hy => by
    rcases List.mem_cons.1 hy with rfl | k
    · exact hx
    · exact (h.rc y (h.mkd y k)).live
  simp only [List.length_cons] at this
  omega
omit hR in
theorem push_eq {q : queue_Queue_int} {x : Int} (h : (q.L.length : Int) < q.Cap) (h2 : q.L.length ≤ 1000) : queue_Push_int q x = some (⟨q.L ++ [x], q.Cap⟩, 0) := by
  unfold queue_Push_int queue_Len_int queue_part_int
  rw [Option.bind_some, if_neg (by simp; omega)]
  have := cut_ok (xs := q.L) (i := 0) (j := q.L.length) (by omega) (Nat.le_refl _)
  rw [show ((0 : Nat) : Int) = 0 from rfl] at this
  rw [this]
  simp only [List.take_length, List.drop_zero, Option.bind_some]
  rw [app_ok (by omega) (by simp; omega)]
  rfl
omit hR in
theorem pop_eq {x : Int} {r : List Int} {c : Int} (h2 : r.length ≤ 1000) : queue_Pop_int ⟨x :: r, c⟩ = some (⟨r, c⟩, x, 0) := by
  unfold queue_Pop_int queue_Drain_int queue_Len_int queue_part_int
  simp only [Option.bind_some, List.length_cons]
  have e : (if (if (((r.length + 1 : Nat) : Int)) < 1 then (((r.length + 1 : Nat) : Int)) else 1) > 0 then (if (((r.length + 1 : Nat) : Int)) < 1 then (((r.length + 1 : Nat) : Int)) else 1) else 0 : Int) = ((1 : Nat) : Int) := by
    rw [if_neg (show ¬ (((r.length + 1 : Nat) : Int) < 1) by omega)]
    rfl
  rw [e]
  have h1 := cut_ok (xs := x :: r) (i := 0) (j := 1) (by omega) (by simp)
  have h3 := cut_ok (xs := x :: r) (i := 1) (j := r.length + 1) (by omega) (by simp)
  rw [show ((0 : Nat) : Int) = 0 from rfl] at h1
  rw [h1, h3]
  simp only [Option.bind_some]
  have e1 : List.drop 0 (List.take 1 (x :: r)) = [x] := by simp
  have e2 : List.drop 1 (List.take (r.length + 1) (x :: r)) = r := by simp
  rw [e1, e2]
  rfl
abbrev pushB (s : store_Store) (xs : List Int) : Int × queue_Queue_int × (List (Int × Bool)) → Option ((Int × queue_Queue_int × (List (Int × Bool))) ⊕ (queue_Queue_int × (List (Int × Bool)))) :=
  fun (s114, s115, s116) =>
      if (decide (s114 < (xs.length : Int))) then
          (ix xs s114).bind fun v126 =>
          (reach_isLive s v126).bind fun v127 =>
          if (v127 == true) then
            if (!((mget s116 v126).getD (false : Bool))) then
              (queue_Push_int s115 v126).bind fun v128 =>
              some (.inl (w64 (s114 + 1), v128.1, (mput s116 v126 true)))
            else
            some (.inl (w64 (s114 + 1), s115, s116))
          else
          some (.inl (w64 (s114 + 1), s115, s116))
      else
      some (.inr (s115, s116))
theorem push_spec {l xs : List Int} {q : queue_Queue_int} {m : List (Int × Bool)} (hxs : LB xs) (hlen : xs.length ≤ 1000000) (h0 : Srch s l q m) (hr : ∀ x ∈ xs, x ∈ lv s → Rch s l x) :
    ∃ q' m', lp (pushB s xs) (0, q, m) = some (q', m') ∧ Srch s l q' m' ∧ (∀ x, Mk m' x ↔ Mk m x ∨ x ∈ xs ∧ x ∈ lv s) ∧ (∀ x, Mk m' x → Mk m x ∨ x ∈ q'.L) ∧ (∀ x ∈ q.L, x ∈ q'.L) ∧ 2 * unm s m' + q'.L.length ≤ 2 * unm s m + q.L.length := by
  have := lp_upS (f := pushB s xs) (t0 := (q, m)) xs.length (fun k t => Srch s l t.1 t.2 ∧ (∀ x, Mk t.2 x ↔ Mk m x ∨ x ∈ xs.take k ∧ x ∈ lv s) ∧ (∀ x, Mk t.2 x → Mk m x ∨ x ∈ t.1.L) ∧ (∀ x ∈ q.L, x ∈ t.1.L) ∧ 2 * unm s t.2 + t.1.L.length ≤ 2 * unm s m + q.L.length)
    (fun t => Srch s l t.1 t.2 ∧ (∀ x, Mk t.2 x ↔ Mk m x ∨ x ∈ xs ∧ x ∈ lv s) ∧ (∀ x, Mk t.2 x → Mk m x ∨ x ∈ t.1.L) ∧ (∀ x ∈ q.L, x ∈ t.1.L) ∧ 2 * unm s t.2 + t.1.L.length ≤ 2 * unm s m + q.L.length) (by omega)
    ⟨h0, fun x => by simp, fun x h => .inl h, fun x h => h, Nat.le_refl _⟩ (fun k t hk hP => ?_) (fun t hP => ?_)
  · obtain ⟨⟨q', m'⟩, h1, h2⟩ := this
    exact ⟨q', m', h1, h2⟩
  · obtain ⟨q1, m1⟩ := t
    obtain ⟨p1, p2, p3, p4, p5⟩ := hP
    simp only at p1 p2 p3 p4 p5
    left
    have hle := hxs _ (List.getElem_mem hk)
    have ht : ∀ x, x ∈ xs.take (k + 1) ↔ x ∈ xs.take k ∨ x = xs[k] := fun x => by rw [List.take_succ_eq_append_getElem hk, List.mem_append, List.mem_singleton]
    simp only [pushB, Int.ofNat_lt, hk, decide_true, if_true, ix_at hk, Option.bind_some, isLive_eq hR hle]
    by_cases hv : xs[k] ∈ lv s
    · rw [if_pos (by simpa using hv)]
      by_cases hm : Mk m1 xs[k]
      · rw [if_neg (by rw [show (mget m1 xs[k]).getD false = true from hm]; decide), w64_nat]
        refine ⟨(q1, m1), rfl, p1, fun x => ?_, p3, p4, p5⟩
        rw [p2, ht]
        constructor
        · rintro (a | ⟨a, b⟩)
          · exact .inl a
          · exact .inr ⟨.inl a, b⟩
        · rintro (a | ⟨a | rfl, b⟩)
          · exact .inl a
          · exact .inr ⟨a, b⟩
          · exact (p2 _).1 hm
      · have hm' : (mget m1 xs[k]).getD false = false := by simpa [Mk] using hm
        have hroom := p1.room hv hm
        have hl24 := lv_len hR
        rw [if_pos (by rw [hm']; decide), push_eq (by rw [p1.cap]; omega) (by omega), Option.bind_some, w64_nat]
        refine ⟨(⟨q1.L ++ [xs[k]], q1.Cap⟩, mput m1 xs[k] true), rfl, ⟨?_, p1.cap, fun x hx => ?_, fun x hx => ?_⟩, fun x => ?_, fun x hx => ?_, fun x hx => ?_, ?_⟩
        · simp only
          rw [List.nodup_append]
          refine ⟨p1.nd, by simp, fun a ha b hb e => ?_⟩
          rw [List.mem_singleton] at hb
          subst hb; subst e
          exact hm (p1.mkd _ ha)
        · simp only [List.mem_append, List.mem_singleton] at hx
          rw [mk_put]
          rcases hx with a | a
          · exact .inr (p1.mkd x a)
          · exact .inl a
        · rcases (mk_put m1 xs[k] x).1 hx with rfl | a
          · exact hr _ (List.getElem_mem hk) hv
          · exact p1.rc x a
        · simp only
          rw [mk_put, p2, ht]
          constructor
          · rintro (rfl | a | ⟨a, b⟩)
            · exact .inr ⟨.inr rfl, hv⟩
            · exact .inl a
            · exact .inr ⟨.inl a, b⟩
          · rintro (a | ⟨a | a, b⟩)
            · exact .inr (.inl a)
            · exact .inr (.inr ⟨a, b⟩)
            · exact .inl a
        · simp only [List.mem_append, List.mem_singleton]
          rcases (mk_put m1 xs[k] x).1 hx with a | a
          · exact .inr (.inr a)
          · rcases p3 x a with b | b
            · exact .inl b
            · exact .inr (.inl b)
        · simp only [List.mem_append]
          exact .inl (p4 x hx)
        · have := unm_put hv hm
          simp only [List.length_append, List.length_singleton]
          omega
    · rw [if_neg (by simpa using hv), w64_nat]
      refine ⟨(q1, m1), rfl, p1, fun x => ?_, p3, p4, p5⟩
      rw [p2, ht]
      constructor
      · rintro (a | ⟨a, b⟩)
        · exact .inl a
        · exact .inr ⟨.inl a, b⟩
      · rintro (a | ⟨a | rfl, b⟩)
        · exact .inl a
        · exact .inr ⟨a, b⟩
        · exact absurd b hv
  · obtain ⟨q1, m1⟩ := t
    refine ⟨(q1, m1), ?_, ?_⟩
    · simp only [pushB, Int.lt_irrefl, decide_false, Bool.false_eq_true, if_false]
    · simpa using hP
theorem spread_eq (hF : FB s) {l : List Int} (hl : LB l) (hlen : l.length ≤ 1000000) : ∃ m, reach_spread s l = some m ∧ ∀ x, Mk m x ↔ Rch s l x := by
  unfold reach_spread queue_New_int
  simp only [jn, lv_live hR, Option.bind_some]
  have h24 := lv_len hR
  obtain ⟨q0, m0, e0, i0, i1, i2, i3, i4⟩ := push_spec hR (l := l) (xs := l) (q := ⟨[], ((lv s).length : Int)⟩) (m := []) hl hlen ⟨List.nodup_nil, rfl, (fun x hx => by cases hx), (fun x hx => by simp [Mk, mget] at hx)⟩ (fun x h1 h2 => .base h1 h2)
  rw [show lp _ _ = _ from e0, Option.bind_some]
  simp only
  have hu : unm s [] ≤ 24 := Nat.le_trans (List.length_filter_le ..) h24
  obtain ⟨m, h1, h2⟩ := lp_ind (s0 := (q0, m0)) (f := fun ((s70, s71) : queue_Queue_int × (List (Int × Bool))) =>
        (queue_Len_int s70).bind fun v74 =>
        if (decide (v74 > 0)) then
          (queue_Pop_int s70).bind fun v75 =>
          (refs_Out s v75.2.1).bind fun v76 =>
            (lp (pushB s v76) (0, v75.1, s71)).bind fun e97 =>
            (some (.inl (e97.1, e97.2)) : Option ((queue_Queue_int × List (Int × Bool)) ⊕ List (Int × Bool)))
        else
        some (.inr s71)) (fun t => Srch s l t.1 t.2 ∧ (∀ x ∈ l, x ∈ lv s → Mk t.2 x) ∧ ∀ a, Mk t.2 a → a ∈ t.1.L ∨ ∀ b ∈ outs s a, b ∈ lv s → Mk t.2 b) (fun m => ∀ x, Mk m x ↔ Rch s l x) (fun t => 2 * unm s t.2 + t.1.L.length)
      ⟨i0, fun x h1 h2 => (i1 x).2 (.inr ⟨h1, h2⟩), fun a ha => .inl ((i2 a ha).resolve_left (by simp [Mk, mget]))⟩ (by show 2 * unm s m0 + q0.L.length < _; simp only [List.length_nil] at i4; omega) (by
      rintro ⟨q, m⟩ ⟨p1, p2, p3⟩
      simp only at p1 p2 p3 ⊢
      have hq := nodup_le p1.nd fun x hx => (p1.rc x (p1.mkd x hx)).live
      unfold queue_Len_int
      rw [Option.bind_some]
      cases hqL : q.L with
      | nil =>
        right
        refine ⟨m, by rw [if_neg (by simp)], fun x => ⟨p1.rc x, fun h => ?_⟩⟩
        induction h with
        | base a b => exact p2 _ a b
        | step _ a b ih =>
          rcases p3 _ ih with c | c
          · rw [hqL] at c; cases c
          · exact c _ a b
      | cons a r =>
        left
        have hqe : q = ⟨a :: r, q.Cap⟩ := by rw [← hqL]
        have hal : a ∈ lv s := (p1.rc a (p1.mkd a (by rw [hqL]; exact List.mem_cons_self ..))).live
        have ha : a ≤ 9223372036854775807 := by have := lv_pos hR hal; omega
        have hnd := p1.nd
        rw [hqL] at hnd hq
        simp only [List.length_cons] at hq
        obtain ⟨q', m', e1, j0, j1, j2, j3, j4⟩ := push_spec hR (l := l) (xs := outs s a) (q := ⟨r, q.Cap⟩) (m := m) (fun x hx => outs_le hR hF ha hx) (by have := outs_len hR a ha; omega) ⟨(List.nodup_cons.1 hnd).2, p1.cap, fun x hx => p1.mkd x (by rw [hqL]; exact List.mem_cons_of_mem _ hx), p1.rc⟩ (fun x h1 h2 => .step (p1.rc a (p1.mkd a (by rw [hqL]; exact List.mem_cons_self ..))) h1 h2)
        refine ⟨(q', m'), ?_, ⟨j0, fun x h1 h2 => (j1 x).2 (.inl (p2 x h1 h2)), fun b hb => ?_⟩, ?_⟩
        · rw [if_pos (by simp), hqe, pop_eq (by omega), Option.bind_some]
          simp only
          rw [out_eq hR ha, Option.bind_some, e1, Option.bind_some]
        · simp only at hb ⊢
          rcases j2 b hb with c | c
          · rcases p3 b c with d | d
            · rw [hqL] at d
              rcases List.mem_cons.1 d with rfl | d
              · exact .inr fun y h1 h2 => (j1 y).2 (.inr ⟨h1, h2⟩)
              · exact .inl (j3 b d)
            · exact .inr fun y h1 h2 => (j1 y).2 (.inl (d y h1 h2))
          · exact .inl c
        · show 2 * unm s m' + q'.L.length < 2 * unm s m + (a :: r).length
          simp only [List.length_cons] at j4 ⊢
          omega)
  refine ⟨m, ?_, h2⟩
  rw [show lp _ _ = _ from h1]
  rfl
end
end Go.Sh
namespace Go.Sh
set_option linter.unusedVariables false
set_option linter.unusedSimpArgs false
theorem index_eq (l : List Int) (x : Int) (hl : l.length ≤ 1000000) : ∃ r : Int, slices_Index_int_int l x = some r ∧ (0 ≤ r ↔ x ∈ l) := by
  unfold slices_Index_int_int
  simp only [jn]
  by_cases h : x ∈ l
  · obtain ⟨i, hi, e⟩ := List.mem_iff_getElem.1 h
    obtain ⟨j, ⟨hj, ej⟩, hmin⟩ := exists_min (p := fun i => ∃ hi : i < l.length, l[i] = x) ⟨i, hi, e⟩
    refine ⟨(j : Int), ?_, by simp [h]⟩
    refine lpb_up l.length (fun k => k ≤ j) (by omega) (Nat.zero_le _) (fun k hk hP => ?_) (fun hP => by omega)
    simp only [Int.ofNat_lt, hk, decide_true, if_true, ix_at hk, Option.bind_some]
    rcases Nat.lt_or_ge k j with q | q
    · refine .inl ⟨?_, q⟩
      rw [if_neg (by
        rw [beq_iff_eq]
        intro e
        have := hmin k ⟨hk, e.symm⟩
        omega), w64_nat]
    · have : k = j := by omega
      subst this
      exact .inr ⟨_, by rw [if_pos (by simpa using ej.symm)], rfl⟩
  · refine ⟨-1, ?_, by simp [h]⟩
    refine lpb_up l.length (fun k => True) (by omega) trivial (fun k hk hP => .inl ⟨?_, trivial⟩) (fun hP => ⟨.inr (), by simp, rfl⟩)
    simp only [Int.ofNat_lt, hk, decide_true, if_true, ix_at hk, Option.bind_some]
    rw [if_neg (by
      rw [beq_iff_eq]
      intro e
      exact h (e ▸ List.getElem_mem hk)), w64_nat]
theorem contains_eq (l : List Int) (x : Int) (hl : l.length ≤ 1000000) : slices_Contains_int_int l x = some (decide (x ∈ l)) := by
  obtain ⟨r, h1, h2⟩ := index_eq l x hl
  unfold slices_Contains_int_int
  rw [h1, Option.bind_some]
  congr 1
  exact decide_eq_decide.2 h2
theorem has08_eq (l : List Int) (x : Int) (hl : l.length ≤ 1000000) : r08_Has l x = some (decide (x ≠ 0 ∧ x ∈ l)) := by
  unfold r08_Has
  rw [times07_eq l x hl, Option.bind_some]
  congr 1
  rw [decide_eq_decide, ← tms_pos]
  omega
open Classical in
theorem those_eq (all l : List Int) (b : Bool) (ha : all.length ≤ 1000000) (hl : l.length ≤ 1000000) (h0 : ∀ x ∈ all, x ≠ 0) : r08_those all l b = some (all.filter fun x => decide (x ∈ l) == b) := by
  unfold r08_those
  simp only [jn]
  rw [lp_foldl all (fun acc x => if decide (x ∈ l) == b then acc ++ [x] else acc) id (fun k acc => acc.length ≤ k) (by omega) (by simp) (fun k hk acc hb => ?_) (fun b _ => ?_)]
  · simp only [Option.bind_some, id]
    rw [foldl_filter]
    rfl
  · simp only [Int.ofNat_lt, hk, decide_true, if_true, ix_at hk, Option.bind_some, has08_eq _ _ hl]
    have e : decide (all[k] ≠ 0 ∧ all[k] ∈ l) = decide (all[k] ∈ l) := decide_eq_decide.2 ⟨fun q => q.2, fun q => ⟨h0 _ (List.getElem_mem hk), q⟩⟩
    rw [e]
    by_cases q : (decide (all[k] ∈ l) == b) = true
    · rw [if_pos q, if_pos q, app_ok (by omega) (by simp; omega), Option.bind_some, w64_nat]
      exact ⟨rfl, by simp; omega⟩
    · rw [if_neg q, if_neg q, w64_nat]
      exact ⟨rfl, by omega⟩
  · simp only [Int.lt_irrefl, decide_false, Bool.false_eq_true, if_false]
    rfl
section
variable {s : store_Store} (hR : RtR (sO s))
include hR
theorem lv_nz : ∀ x ∈ lv s, x ≠ 0 := fun x hx => by have := lv_pos hR hx; omega
open Classical in
theorem from_eq (hF : FB s) {l : List Int} (hl : LB l) (hlen : l.length ≤ 1000000) : reach_From s l = some (rcd s l) := by
  obtain ⟨m, h1, h2⟩ := spread_eq hR hF hl hlen
  unfold reach_From reach_live__reach_From_1 reach_From_1
  rw [h1, Option.bind_some]
  simp only [jn, lv_live hR, Option.bind_some]
  have h24 := lv_len hR
  rw [lp_foldl (lv s) (fun acc x => if decide (Rch s l x) then acc ++ [x] else acc) id (fun k acc => acc.length ≤ k) (by omega) (by simp) (fun k hk acc hb => ?_) (fun b _ => ?_)]
  · simp only [Option.bind_some, id]
    rw [foldl_filter]
    rfl
  · simp only [Int.ofNat_lt, hk, decide_true, if_true, ix_at hk, Option.bind_some]
    by_cases q : Rch s l (lv s)[k]
    · rw [if_pos ((h2 _).2 q), if_pos (by simpa using q), app_ok (by omega) (by simp; omega), Option.bind_some, w64_nat]
      exact ⟨rfl, by simp; omega⟩
    · rw [if_neg (fun k => q ((h2 _).1 k)), if_neg (by simpa using q), w64_nat]
      exact ⟨rfl, by omega⟩
  · simp only [Int.lt_irrefl, decide_false, Bool.false_eq_true, if_false]
    rfl
open Classical in
theorem lost_eq (hF : FB s) {l : List Int} (hl : LB l) (hlen : l.length ≤ 1000000) : reach_Lost s l = some (lst s l) := by
  obtain ⟨m, h1, h2⟩ := spread_eq hR hF hl hlen
  unfold reach_Lost reach_live__reach_Lost_1 reach_Lost_1
  rw [h1, Option.bind_some]
  simp only [jn, lv_live hR, Option.bind_some]
  have h24 := lv_len hR
  rw [lp_foldl (lv s) (fun acc x => if decide (¬ Rch s l x) then acc ++ [x] else acc) id (fun k acc => acc.length ≤ k) (by omega) (by simp) (fun k hk acc hb => ?_) (fun b _ => ?_)]
  · simp only [Option.bind_some, id]
    rw [foldl_filter]
    rfl
  · simp only [Int.ofNat_lt, hk, decide_true, if_true, ix_at hk, Option.bind_some]
    by_cases q : Rch s l (lv s)[k]
    · have e : (mget m (lv s)[k]).getD false = true := (h2 _).2 q
      rw [if_neg (by rw [e]; decide), if_neg (by simpa using q), w64_nat]
      exact ⟨rfl, by omega⟩
    · have e : (mget m (lv s)[k]).getD false = false := by
        have : ¬ Mk m (lv s)[k] := fun k => q ((h2 _).1 k)
        simpa [Mk] using this
      rw [if_pos (by rw [e]; decide), if_pos (by simpa using q), app_ok (by omega) (by simp; omega), Option.bind_some, w64_nat]
      exact ⟨rfl, by simp; omega⟩
  · simp only [Int.lt_irrefl, decide_false, Bool.false_eq_true, if_false]
    rfl
open Classical in
theorem closed_eq (hF : FB s) {l : List Int} (hl : LB l) (hlen : l.length ≤ 1000000) : reach_Closed s l = some (decide (Cl s l)) := by
  unfold reach_Closed
  simp only [jn]
  have hm : ∃ m : List (Int × Bool), lp (S := Int × (List (Int × Bool))) (E := (List (Int × Bool))) (fun ((s50, s51) : Int × (List (Int × Bool))) =>
      if (decide (s50 < (l.length : Int))) then
        (ix l s50).bind fun v54 =>
        some (.inl (w64 (s50 + 1), (mput s51 v54 true)))
      else
      some (.inr s51)) (0, []) = some m ∧ ∀ x, Mk m x ↔ x ∈ l := by
    refine lp_upS (T := List (Int × Bool)) l.length (fun k m => ∀ x, Mk m x ↔ x ∈ l.take k) (fun m => ∀ x, Mk m x ↔ x ∈ l) (by omega) (fun x => by simp [Mk, mget]) (fun k m hk hP => .inl ⟨mput m l[k] true, ?_, fun x => ?_⟩) (fun m hP => ⟨m, ?_, by simpa using hP⟩)
    · simp only [Int.ofNat_lt, hk, decide_true, if_true, ix_at hk, Option.bind_some]
      rw [w64_nat]
    · rw [mk_put, hP, List.take_succ_eq_append_getElem hk, List.mem_append, List.mem_singleton]
      exact or_comm
    · simp only [Int.lt_irrefl, decide_false, Bool.false_eq_true, if_false]
  obtain ⟨m, e1, e2⟩ := hm
  rw [show lp _ _ = _ from e1, Option.bind_some]
  have hmf : ∀ x, x ∉ l → (mget m x).getD false = false := fun x hx => by
    have : ¬ Mk m x := fun k => hx ((e2 x).1 k)
    simpa [Mk] using this
  refine lpb_up l.length (fun k => ∀ a ∈ l.take k, ∀ b ∈ outs s a, b ∈ lv s → b ∈ l) (by omega) (by simp) (fun k hk hP => ?_) (fun hP => ?_)
  · have hle := hl _ (List.getElem_mem hk)
    simp only [Int.ofNat_lt, hk, decide_true, if_true, ix_at hk, Option.bind_some, out_eq hR hle]
    have h4 := outs_len hR _ hle
    by_cases hg : ∀ b ∈ outs s l[k], b ∈ lv s → b ∈ l
    · refine .inl ⟨?_, ?_⟩
      · refine lpb_up (outs s l[k]).length (fun _ => True) (by omega) trivial (fun j hj _ => .inl ⟨?_, trivial⟩) (fun _ => ⟨.inr (), by simp, by rw [w64_nat]⟩)
        simp only [Int.ofNat_lt, hj, decide_true, if_true, ix_at hj, Option.bind_some, isLive_eq hR (outs_le hR hF hle (List.getElem_mem hj))]
        by_cases q : (outs s l[k])[j] ∈ lv s
        · have := (e2 _).2 (hg _ (List.getElem_mem hj) q)
          rw [if_pos (by simpa using q), if_neg (by rw [show (mget m (outs s l[k])[j]).getD false = true from this]; decide), w64_nat]
        · rw [if_neg (by simpa using q), w64_nat]
      · intro a ha
        rw [List.take_succ_eq_append_getElem hk, List.mem_append, List.mem_singleton] at ha
        rcases ha with ha | rfl
        · exact hP a ha
        · exact hg
    · refine .inr ⟨.inl false, ?_, ?_⟩
      · have hg' : ∃ j, ∃ hj : j < (outs s l[k]).length, (outs s l[k])[j] ∈ lv s ∧ (outs s l[k])[j] ∉ l := by
          refine Classical.byContradiction fun q => hg fun b hb h1 => Classical.byContradiction fun h2 => ?_
          obtain ⟨j, hj, e⟩ := List.mem_iff_getElem.1 hb
          exact q ⟨j, hj, by rw [e]; exact h1, by rw [e]; exact h2⟩
        obtain ⟨j, ⟨hj, j1, j2⟩, hmin⟩ := exists_min hg'
        refine lpb_up (outs s l[k]).length (fun i => i ≤ j) (by omega) (Nat.zero_le _) (fun i hi hP2 => ?_) (fun hP2 => by omega)
        simp only [Int.ofNat_lt, hi, decide_true, if_true, ix_at hi, Option.bind_some, isLive_eq hR (outs_le hR hF hle (List.getElem_mem hi))]
        rcases Nat.lt_or_ge i j with q | q
        · refine .inl ⟨?_, q⟩
          by_cases q1 : (outs s l[k])[i] ∈ lv s
          · have : (outs s l[k])[i] ∈ l := Classical.byContradiction fun q2 => by have := hmin i ⟨hi, q1, q2⟩; omega
            have := (e2 _).2 this
            rw [if_pos (by simpa using q1), if_neg (by rw [show (mget m (outs s l[k])[i]).getD false = true from this]; decide), w64_nat]
          · rw [if_neg (by simpa using q1), w64_nat]
        · have : i = j := by omega
          subst this
          refine .inr ⟨.inl false, ?_, rfl⟩
          rw [if_pos (by simpa using j1), if_pos (by rw [hmf _ j2]; decide)]
      · simp only
        rw [decide_eq_false (fun q : Cl s l => hg (q _ (List.getElem_mem hk)))]
  · refine ⟨.inr (), by simp only [Int.lt_irrefl, decide_false, Bool.false_eq_true, if_false], ?_⟩
    simp only
    rw [decide_eq_true (show Cl s l from fun a ha => hP a (by simpa using ha))]
def grow (s : store_Store) (all seen : List Int) : List Int := all.filter fun x => decide (x ∈ seen ++ seen.flatMap (outs s))
def grows (s : store_Store) (all seen : List Int) : Nat → List Int
  | 0 => seen
  | k + 1 => grow s all (grows s all seen k)
omit hR in
theorem grows_succ (all seen : List Int) (k : Nat) : grows s all seen (k + 1) = grow s all (grows s all seen k) := rfl
omit hR in
theorem grow_mem {all seen : List Int} {x : Int} : x ∈ grow s all seen ↔ x ∈ all ∧ (x ∈ seen ∨ ∃ a ∈ seen, x ∈ outs s a) := by
  unfold grow
  rw [List.mem_filter, decide_eq_true_iff, List.mem_append, List.mem_flatMap]
open Classical in
omit hR in
theorem grows_eq (l : List Int) : grows s (lv s) ((lv s).filter fun x => decide (x ∈ l) == true) (lv s).length = rcd s l := by
  have hsub : ∀ k x, x ∈ grows s (lv s) ((lv s).filter fun x => decide (x ∈ l) == true) k → Rch s l x := by
    intro k
    induction k with
    | zero =>
      intro x hx
      have := List.mem_filter.1 (show x ∈ (lv s).filter fun x => decide (x ∈ l) == true from hx)
      exact .base (by simpa using this.2) this.1
    | succ k ih =>
      intro x hx
      rw [grows_succ, grow_mem] at hx
      rcases hx.2 with q | ⟨a, q1, q2⟩
      · exact ih x q
      · exact .step (ih a q1) q2 hx.1
  have hall : ∀ k x, x ∈ grows s (lv s) ((lv s).filter fun x => decide (x ∈ l) == true) k → x ∈ lv s := fun k x hx => (hsub k x hx).live
  have hfil : ∀ k, ∃ p : Int → Bool, grows s (lv s) ((lv s).filter fun x => decide (x ∈ l) == true) k = (lv s).filter p := by
    intro k
    cases k with
    | zero => exact ⟨_, rfl⟩
    | succ k => exact ⟨_, rfl⟩
  have hinc : ∀ k x, x ∈ grows s (lv s) ((lv s).filter fun x => decide (x ∈ l) == true) k → x ∈ grows s (lv s) ((lv s).filter fun x => decide (x ∈ l) == true) (k + 1) := fun k x hx => grow_mem.2 ⟨hall k x hx, .inl hx⟩
  have key : ∀ k, Cl s (grows s (lv s) ((lv s).filter fun x => decide (x ∈ l) == true) k) ∨ k ≤ (grows s (lv s) ((lv s).filter fun x => decide (x ∈ l) == true) k).length := by
    intro k
    induction k with
    | zero => exact .inr (Nat.zero_le _)
    | succ k ih =>
      by_cases hc : Cl s (grows s (lv s) ((lv s).filter fun x => decide (x ∈ l) == true) k)
      · left
        have : ∀ x, x ∈ grows s (lv s) ((lv s).filter fun x => decide (x ∈ l) == true) (k + 1) ↔ x ∈ grows s (lv s) ((lv s).filter fun x => decide (x ∈ l) == true) k := fun x => ⟨fun hx => by
          rw [grows_succ, grow_mem] at hx
          rcases hx.2 with q | ⟨a, q1, q2⟩
          · exact q
          · exact hc a q1 x q2 hx.1, hinc k x⟩
        intro a ha b hb hbl
        exact (this b).2 (hc a ((this a).1 ha) b hb hbl)
      · right
        have hk := ih.resolve_left hc
        obtain ⟨b, hb1, hb2, hb3⟩ : ∃ b, b ∈ lv s ∧ b ∈ grows s (lv s) ((lv s).filter fun x => decide (x ∈ l) == true) (k + 1) ∧ b ∉ grows s (lv s) ((lv s).filter fun x => decide (x ∈ l) == true) k := by
          refine Classical.byContradiction fun q => hc fun a ha b hb hbl => Classical.byContradiction fun q2 => q ⟨b, hbl, grow_mem.2 ⟨hbl, .inr ⟨a, ha, hb⟩⟩, q2⟩
        obtain ⟨p, hp⟩ := hfil k
        obtain ⟨p', hp'⟩ := hfil (k + 1)
        have hi := hinc k
        rw [hp] at hi hb3 hk
        rw [hp'] at hi hb2 ⊢
        have := filter_lt (p := p) (q := p') (l := lv s) (fun x hx h => (List.mem_filter.1 (hi x (List.mem_filter.2 ⟨hx, h⟩))).2) b hb1 (List.mem_filter.1 hb2).2 (by
          cases h : p b
          · rfl
          · exact absurd (List.mem_filter.2 ⟨hb1, h⟩) hb3)
        omega
  have hcl : Cl s (grows s (lv s) ((lv s).filter fun x => decide (x ∈ l) == true) (lv s).length) := by
    rcases key (lv s).length with q | q
    · exact q
    · obtain ⟨p, hp⟩ := hfil (lv s).length
      rw [hp] at q ⊢
      have : (lv s).filter p = lv s := List.filter_eq_self.2 fun x hx => by
        cases h : p x
        · have := filter_lt (p := p) (q := fun _ => true) (l := lv s) (fun _ _ _ => rfl) x hx rfl h
          rw [List.filter_eq_self.2 (fun _ _ => rfl)] at this
          omega
        · rfl
      rw [this]
      exact fun _ _ _ _ h => h
  have hbase : ∀ k x, x ∈ l → x ∈ lv s → x ∈ grows s (lv s) ((lv s).filter fun x => decide (x ∈ l) == true) k := by
    intro k
    induction k with
    | zero => intro x h1 h2; exact List.mem_filter.2 ⟨h2, by simpa using h1⟩
    | succ k ih => intro x h1 h2; exact hinc k x (ih x h1 h2)
  have hiff : ∀ x, x ∈ grows s (lv s) ((lv s).filter fun x => decide (x ∈ l) == true) (lv s).length ↔ Rch s l x := fun x => ⟨hsub _ x, fun q => Rch.least hcl (hbase _) q⟩
  obtain ⟨p, hp⟩ := hfil (lv s).length
  rw [hp]
  unfold rcd
  refine List.filter_congr fun x hx => ?_
  have := hiff x
  rw [hp, List.mem_filter] at this
  rw [Bool.eq_iff_iff, decide_eq_true_iff, ← this]
  exact ⟨fun h => ⟨hx, h⟩, fun h => h.2⟩
open Classical in
theorem from08_eq {l : List Int} (hlen : l.length ≤ 1000000) : r08_From (sO s) l = some (rcd s l) := by
  unfold r08_From
  have h24 := lv_len hR
  rw [live06 hR, Option.bind_some, those_eq _ _ _ (by omega) hlen (lv_nz hR), Option.bind_some]
  simp only [jn]
  have hg : ∀ k, (grows s (lv s) ((lv s).filter fun x => decide (x ∈ l) == true) k).length ≤ 24 ∧ ∀ x ∈ grows s (lv s) ((lv s).filter fun x => decide (x ∈ l) == true) k, x ∈ lv s := by
    intro k
    cases k with
    | zero => exact ⟨Nat.le_trans (List.length_filter_le ..) h24, fun x hx => (List.mem_filter.1 (show x ∈ (lv s).filter fun x => decide (x ∈ l) == true from hx)).1⟩
    | succ k => exact ⟨Nat.le_trans (List.length_filter_le ..) h24, fun x hx => (List.mem_filter.1 (show x ∈ (lv s).filter _ from hx)).1⟩
  refine lpb_road (p := fun k => (grows s (lv s) ((lv s).filter fun x => decide (x ∈ l) == true) k, (k : Int))) rfl (lv s).length (fun _ => True) (by omega) trivial (fun k hk _ => .inl ⟨?_, trivial⟩) (fun _ => ⟨_, by simp only [Int.lt_irrefl, decide_false, Bool.false_eq_true, if_false]; rfl, by rw [grows_eq l]⟩)
  obtain ⟨g1, g2⟩ := hg k
  simp only [Int.ofNat_lt, hk, decide_true, if_true]
  rw [app_nil (by omega) (by omega), Option.bind_some]
  generalize hS : grows s (lv s) ((lv s).filter fun x => decide (x ∈ l) == true) k = S at g1 g2
  have hSle : ∀ x ∈ S, x ≤ 9223372036854775807 := fun x hx => by have := lv_pos hR (g2 x hx); omega
  have hflat : ∀ T : List Int, T.length ≤ 24 → (∀ x ∈ T, x ≤ 9223372036854775807) → (T.flatMap (outs s)).length ≤ 96 := fun T h1 h2 => by
    rw [List.length_flatMap]
    have := sum_le (fun x => (outs s x).length) 4 T fun x hx => outs_len hR x (h2 x hx)
    omega
  rw [lp_foldl S (fun acc x => acc ++ outs s x) id (fun j acc => acc.length ≤ S.length + 4 * j) (by omega) (by simp) (fun j hj acc hb => ?_) (fun b _ => ?_)]
  · simp only [Option.bind_some, id]
    rw [foldl_flat, those_eq _ _ _ (by omega) (by
      have := hflat S g1 hSle
      simp only [List.length_append]
      omega) (lv_nz hR), Option.bind_some, w64_nat, grows_succ, hS]
    unfold grow
    congr 3
    refine List.filter_congr fun x _ => ?_
    rw [Bool.eq_iff_iff]
    simp
  · have ho := outs_len hR _ (hSle _ (List.getElem_mem hj))
    simp only [Int.ofNat_lt, hj, decide_true, if_true, ix_at hj, Option.bind_some, out07_eq hR (hSle _ (List.getElem_mem hj))]
    rw [app_ok (by omega) (by omega), Option.bind_some, w64_nat]
    exact ⟨rfl, by simp; omega⟩
  · simp only [Int.lt_irrefl, decide_false, Bool.false_eq_true, if_false]
    rfl
open Classical in
theorem closed08_eq {l : List Int} (hlen : l.length ≤ 1000000) : r08_Closed (sO s) l = some (decide (∀ a ∈ l, a ∈ lv s → ∀ b ∈ outs s a, b ∈ lv s → b ∈ l)) := by
  unfold r08_Closed
  have h24 := lv_len hR
  rw [live06 hR, Option.bind_some, those_eq _ _ _ (by omega) hlen (lv_nz hR), Option.bind_some]
  simp only [jn]
  generalize hS : ((lv s).filter fun x => decide (x ∈ l) == true) = S
  have hSm : ∀ x, x ∈ S ↔ x ∈ lv s ∧ x ∈ l := fun x => by rw [← hS, List.mem_filter]; simp
  have hSl : S.length ≤ 24 := by rw [← hS]; exact Nat.le_trans (List.length_filter_le ..) h24
  refine lpb_up S.length (fun k => ∀ a ∈ S.take k, ∀ b ∈ outs s a, b ∈ lv s → b ∈ l) (by omega) (by simp) (fun k hk hP => ?_) (fun hP => ?_)
  · have hle : S[k] ≤ 9223372036854775807 := by have := lv_pos hR ((hSm _).1 (List.getElem_mem hk)).1; omega
    have h4 := outs_len hR _ hle
    simp only [Int.ofNat_lt, hk, decide_true, if_true, ix_at hk, Option.bind_some, out07_eq hR hle]
    rw [those_eq _ _ _ (by omega) (by omega) (lv_nz hR), Option.bind_some]
    generalize hT : ((lv s).filter fun x => decide (x ∈ outs s S[k]) == true) = T
    have hTm : ∀ x, x ∈ T ↔ x ∈ lv s ∧ x ∈ outs s S[k] := fun x => by rw [← hT, List.mem_filter]; simp
    have hTl : T.length ≤ 24 := by rw [← hT]; exact Nat.le_trans (List.length_filter_le ..) h24
    by_cases hg : ∀ b ∈ T, b ∈ l
    · refine .inl ⟨?_, ?_⟩
      · refine lpb_up T.length (fun _ => True) (by omega) trivial (fun j hj _ => .inl ⟨?_, trivial⟩) (fun _ => ⟨.inr (), by simp, by rw [w64_nat]⟩)
        simp only [Int.ofNat_lt, hj, decide_true, if_true, ix_at hj, Option.bind_some, has08_eq _ _ hlen]
        have h1 := hg _ (List.getElem_mem hj)
        have h2 := lv_nz hR _ ((hTm _).1 (List.getElem_mem hj)).1
        rw [if_neg (by simp [h1, h2]), w64_nat]
      · intro a ha
        rw [List.take_succ_eq_append_getElem hk, List.mem_append, List.mem_singleton] at ha
        rcases ha with ha | rfl
        · exact hP a ha
        · exact fun b h1 h2 => hg b ((hTm b).2 ⟨h2, h1⟩)
    · refine .inr ⟨.inl false, ?_, ?_⟩
      · have hg' : ∃ j, ∃ hj : j < T.length, T[j] ∉ l := by
          refine Classical.byContradiction fun q => hg fun b hb => Classical.byContradiction fun h2 => ?_
          obtain ⟨j, hj, e⟩ := List.mem_iff_getElem.1 hb
          exact q ⟨j, hj, by rw [e]; exact h2⟩
        obtain ⟨j, ⟨hj, j2⟩, hmin⟩ := exists_min hg'
        refine lpb_up T.length (fun i => i ≤ j) (by omega) (Nat.zero_le _) (fun i hi hP2 => ?_) (fun hP2 => by omega)
        simp only [Int.ofNat_lt, hi, decide_true, if_true, ix_at hi, Option.bind_some, has08_eq _ _ hlen]
        rcases Nat.lt_or_ge i j with q | q
        · refine .inl ⟨?_, q⟩
          have h1 : T[i] ∈ l := Classical.byContradiction fun q2 => by have := hmin i ⟨hi, q2⟩; omega
          have h2 := lv_nz hR _ ((hTm _).1 (List.getElem_mem hi)).1
          rw [if_neg (by simp [h1, h2]), w64_nat]
        · have : i = j := by omega
          subst this
          refine .inr ⟨.inl false, ?_, rfl⟩
          rw [if_pos (by simp [j2])]
      · simp only
        rw [decide_eq_false]
        intro q
        have := (hSm _).1 (List.getElem_mem hk)
        exact hg fun b hb => q _ this.2 this.1 b ((hTm b).1 hb).2 ((hTm b).1 hb).1
  · refine ⟨.inr (), by simp only [Int.lt_irrefl, decide_false, Bool.false_eq_true, if_false], ?_⟩
    simp only
    rw [decide_eq_true]
    exact fun a ha hal => hP a (by simpa using (hSm a).2 ⟨hal, ha⟩)
theorem cl_iff {l : List Int} (hl : LB l) : Cl s l ↔ ∀ a ∈ l, a ∈ lv s → ∀ b ∈ outs s a, b ∈ lv s → b ∈ l := by
  constructor
  · exact fun h a ha _ => h a ha
  · intro h a ha b hb
    by_cases q : a ∈ lv s
    · exact h a ha q b hb
    · rw [outs_no hR (hl a ha) q] at hb
      cases hb
end
end Go.Sh
namespace Go.Sh
set_option linter.unusedVariables false
set_option linter.unusedSimpArgs false
abbrev Tb := List hash_Place
abbrev hpl (p : hash_Place) : r10_Place := ⟨p.State, p.Key, p.Val⟩
def pt (t : Tb) (j : Nat) : hash_Place := t.getD j ⟨0, 0, 0⟩
theorem pt_lt {t : Tb} {j : Nat} (h : j < t.length) : pt t j = t[j] := by unfold pt; rw [List.getD_eq_getElem?_getD, List.getElem?_eq_getElem h]; rfl
theorem ix_pt {t : Tb} {j : Nat} (h : j < t.length) : ix t (j : Int) = some (pt t j) := by rw [ix_at h, pt_lt h]
theorem pt_set {t : Tb} {i : Nat} (h : i < t.length) (p : hash_Place) (j : Nat) : pt (t.set i p) j = if j = i then p else pt t j := by
  unfold pt
  rw [List.getD_eq_getElem?_getD, List.getD_eq_getElem?_getD, List.getElem?_set]
  by_cases e : i = j
  · subst e; simp [h]
  · rw [if_neg e, if_neg (Ne.symm e)]
def hm (n : Nat) (k : Int) : Nat := (w64 ((w64 (5 * k)) + 1) % (n : Int)).toNat
theorem hm_lt {n : Nat} (h : 1 ≤ n) (k : Int) : hm n k < n := by
  unfold hm
  have h1 := Int.emod_nonneg (w64 ((w64 (5 * k)) + 1)) (show (n : Int) ≠ 0 by omega)
  have h2 := Int.emod_lt_of_pos (w64 ((w64 (5 * k)) + 1)) (show (0 : Int) < n by omega)
  omega
theorem home_eq {n : Nat} (h : 1 ≤ n) (h2 : n ≤ 1000) (k : Int) : hash_Home n k = some (hm n k : Int) := by
  unfold hash_Home hm
  rw [if_neg (by simp; omega)]
  generalize w64 ((w64 (5 * k)) + 1) = a
  have hp := Int.emod_nonneg a (show (n : Int) ≠ 0 by omega)
  have hl := Int.emod_lt_of_pos a (show (0 : Int) < n by omega)
  unfold rem
  rw [if_neg (by omega), Option.bind_some, Int.toNat_of_nonneg hp]
  rw [Int.tmod_eq_emod]
  split
  · rw [show a % (n : Int) - ((0 : Nat) : Int) = a % n by simp, if_neg (by simp; omega)]
  · have : ((n : Int).natAbs : Int) = n := by simp
    rw [this]
    rw [if_pos (by simp; omega), w64_in (by omega) (by omega)]
    congr 1
    omega
def pos (n : Nat) (k : Int) (d : Nat) : Nat := (hm n k + d) % n
theorem pos_lt {n : Nat} (h : 1 ≤ n) (k : Int) (d : Nat) : pos n k d < n := Nat.mod_lt _ h
theorem upto8 {n : Nat} (h : 1 ≤ n) (h8 : n ≤ 8) : n = 1 ∨ n = 2 ∨ n = 3 ∨ n = 4 ∨ n = 5 ∨ n = 6 ∨ n = 7 ∨ n = 8 := by omega
theorem mod_surj {n m i : Nat} (h : 1 ≤ n) (h8 : n ≤ 8) (hm : m < n) (hi : i < n) : ∃ d, d < n ∧ (m + d) % n = i := by
  refine ⟨(i + n - m) % n, Nat.mod_lt _ h, ?_⟩
  rcases upto8 h h8 with rfl | rfl | rfl | rfl | rfl | rfl | rfl | rfl <;> omega
theorem mod_inj {n m d d' : Nat} (h : 1 ≤ n) (h8 : n ≤ 8) (hd : d < n) (hd' : d' < n) (e : (m + d) % n = (m + d') % n) : d = d' := by
  rcases upto8 h h8 with rfl | rfl | rfl | rfl | rfl | rfl | rfl | rfl <;> omega
theorem pos_surj {n : Nat} (h : 1 ≤ n) (h8 : n ≤ 8) (k : Int) {i : Nat} (hi : i < n) : ∃ d, d < n ∧ pos n k d = i := mod_surj h h8 (hm_lt h k) hi
theorem pos_inj {n : Nat} (h : 1 ≤ n) (h8 : n ≤ 8) {k : Int} {d d' : Nat} (hd : d < n) (hd' : d' < n) (e : pos n k d = pos n k d') : d = d' := mod_inj h h8 hd hd' e
structure HR (t : Tb) : Prop where
  l1 : 1 ≤ t.length
  l8 : t.length ≤ 8
  st : ∀ i, i < t.length → ((pt t i).State = 0 ∨ (pt t i).State = 1 ∨ (pt t i).State = 2) ∧ ((pt t i).State ≠ 1 → (pt t i).Key = 0 ∧ (pt t i).Val = 0)
  uq : ∀ i j, i < t.length → j < t.length → (pt t i).State = 1 → (pt t j).State = 1 → (pt t i).Key = (pt t j).Key → i = j
  rd : ∀ i, i < t.length → (pt t i).State = 1 → ∀ d, d < t.length → (∀ d', d' ≤ d → pos t.length (pt t i).Key d' ≠ i) → (pt t (pos t.length (pt t i).Key d)).State ≠ 0
def Fk (t : Tb) (k : Int) (i : Nat) : Prop := i < t.length ∧ (pt t i).State = 1 ∧ (pt t i).Key = k
instance (t : Tb) (k : Int) (i : Nat) : Decidable (Fk t k i) := by unfold Fk; infer_instance
theorem step_eq {n : Nat} (h : 1 ≤ n) (h2 : n ≤ 1000) (k : Int) {d : Nat} (hd : d < n) : rem (w64 ((hm n k : Int) + d)) n = some ((pos n k d : Nat) : Int) := by
  have := hm_lt h k
  rw [w64_in (by omega) (by omega), rem_pos (by omega) (by omega)]
  unfold pos
  simp [Int.natCast_emod]
theorem find_walk {t : Tb} (h1 : 1 ≤ t.length) (h8 : t.length ≤ 8) (k : Int) :
    (∃ d, d < t.length ∧ (∀ j, j < d → (pt t (pos t.length k j)).State ≠ 0 ∧ ¬ Fk t k (pos t.length k j)) ∧ Fk t k (pos t.length k d) ∧ hash_Find t k = some ((pos t.length k d : Nat) : Int)) ∨
    (∃ d, d ≤ t.length ∧ (∀ j, j < d → (pt t (pos t.length k j)).State ≠ 0 ∧ ¬ Fk t k (pos t.length k j)) ∧ (d = t.length ∨ (pt t (pos t.length k d)).State = 0) ∧ hash_Find t k = some (-1)) := by
  unfold hash_Find
  simp only [jn, hash_road, Option.bind_some]
  generalize hq : (lp (S := Int) (E := Int ⊕ Unit) _ 0) = q
  have body : ∀ d : Nat, d < t.length → (if (decide ((d : Int) < (t.length : Int))) then
        (hash_Home (t.length : Int) k).bind fun v14 =>
        (rem (w64 (v14 + d)) (t.length : Int)).bind fun v15 =>
        (ix t v15).bind fun v16 =>
        if (v16.State == 0) then
          some (.inr (.inr ()))
        else
        if ((v16.State == 1) && (v16.Key == k)) then
          some (.inr (.inl v15))
        else
        some (.inl (w64 ((d : Int) + 1)))
      else
      some (.inr (.inr ())) : Option (Int ⊕ (Int ⊕ Unit))) = if (pt t (pos t.length k d)).State = 0 then some (.inr (.inr ())) else if Fk t k (pos t.length k d) then some (.inr (.inl ((pos t.length k d : Nat) : Int))) else some (.inl ((d + 1 : Nat) : Int)) := fun d hd => by
    have hp := pos_lt h1 k d
    rw [if_pos (by simpa using hd), home_eq h1 (by omega), Option.bind_some, step_eq h1 (by omega) k hd, Option.bind_some, ix_pt hp, Option.bind_some, w64_nat (by omega)]
    by_cases a : (pt t (pos t.length k d)).State = 0
    · rw [if_pos (by simpa using a), if_pos a]
    · rw [if_neg (by simpa using a), if_neg a]
      by_cases b : Fk t k (pos t.length k d)
      · rw [if_pos (by simp [b.2.1, b.2.2]), if_pos b]
      · rw [if_neg (by simp; exact fun h1 h2 => b ⟨hp, h1, h2⟩), if_neg b]
  have key := lp_up (f := fun (s12 : Int) => if (decide (s12 < (t.length : Int))) then
        (hash_Home (t.length : Int) k).bind fun v14 =>
        (rem (w64 (v14 + s12)) (t.length : Int)).bind fun v15 =>
        (ix t v15).bind fun v16 =>
        if (v16.State == 0) then
          some (.inr (.inr ()))
        else
        if ((v16.State == 1) && (v16.Key == k)) then
          some (.inr (.inl v15))
        else
        some (.inl (w64 (s12 + 1)))
      else
      some (.inr (.inr ()))) t.length (fun d => ∀ j, j < d → (pt t (pos t.length k j)).State ≠ 0 ∧ ¬ Fk t k (pos t.length k j))
      (fun (e : Int ⊕ Unit) => (∃ d, d < t.length ∧ (∀ j, j < d → (pt t (pos t.length k j)).State ≠ 0 ∧ ¬ Fk t k (pos t.length k j)) ∧ Fk t k (pos t.length k d) ∧ e = .inl ((pos t.length k d : Nat) : Int)) ∨
        (∃ d, d ≤ t.length ∧ (∀ j, j < d → (pt t (pos t.length k j)).State ≠ 0 ∧ ¬ Fk t k (pos t.length k j)) ∧ (d = t.length ∨ (pt t (pos t.length k d)).State = 0) ∧ e = .inr ())) (by omega) (fun j hj => by omega)
      (fun d hd hP => by
        rw [body d hd]
        by_cases a : (pt t (pos t.length k d)).State = 0
        · rw [if_pos a]
          exact .inr ⟨_, rfl, .inr ⟨d, by omega, hP, .inr a, rfl⟩⟩
        · rw [if_neg a]
          by_cases b : Fk t k (pos t.length k d)
          · rw [if_pos b]
            exact .inr ⟨_, rfl, .inl ⟨d, hd, hP, b, rfl⟩⟩
          · rw [if_neg b]
            refine .inl ⟨rfl, fun j hj => ?_⟩
            rcases Nat.lt_or_ge j d with q | q
            · exact hP j q
            · have : j = d := by omega
              subst this; exact ⟨a, b⟩)
      (fun hP => ⟨.inr (), by simp, .inr ⟨t.length, Nat.le_refl _, hP, .inl rfl, rfl⟩⟩)
  obtain ⟨e, he, hQ⟩ := key
  rw [he] at hq
  subst hq
  rcases hQ with ⟨d, a1, a2, a3, rfl⟩ | ⟨d, a1, a2, a3, rfl⟩
  · exact .inl ⟨d, a1, a2, a3, rfl⟩
  · exact .inr ⟨d, a1, a2, a3, rfl⟩
theorem find_of {t : Tb} (hR : HR t) {k : Int} {i : Nat} (hi : Fk t k i) : hash_Find t k = some (i : Int) := by
  obtain ⟨di, hdi, hpi⟩ := pos_surj hR.l1 hR.l8 k hi.1
  have road : ∀ d, d < di → (pt t (pos t.length k d)).State ≠ 0 := fun d hd => by
    have := hR.rd i hi.1 hi.2.1 d (by omega) (fun d' hd' e => by
      rw [hi.2.2] at e
      have := pos_inj hR.l1 hR.l8 (by omega) hdi (e.trans hpi.symm)
      omega)
    rwa [hi.2.2] at this
  rcases find_walk hR.l1 hR.l8 k with ⟨d, a1, a2, a3, a4⟩ | ⟨d, a1, a2, a3, a4⟩
  · rw [a4, hR.uq _ i (pos_lt hR.l1 k d) hi.1 a3.2.1 hi.2.1 (by rw [a3.2.2, hi.2.2])]
  · exfalso
    rcases Nat.lt_or_ge di d with q | q
    · exact (a2 di q).2 (by rw [hpi]; exact hi)
    · rcases a3 with rfl | a3
      · omega
      · rcases Nat.lt_or_ge d di with q' | q'
        · exact road d q' a3
        · have : d = di := by omega
          subst this
          rw [hpi, hi.2.1] at a3
          cases a3
theorem find_no {t : Tb} (h1 : 1 ≤ t.length) (h8 : t.length ≤ 8) {k : Int} (hi : ∀ i, ¬ Fk t k i) : hash_Find t k = some (-1) := by
  rcases find_walk h1 h8 k with ⟨d, a1, a2, a3, a4⟩ | ⟨d, a1, a2, a3, a4⟩
  · exact absurd a3 (hi _)
  · exact a4
theorem fk_or (t : Tb) (k : Int) : (∃ i, Fk t k i) ∨ ∀ i, ¬ Fk t k i := by
  by_cases h : ∃ i, Fk t k i
  · exact .inl h
  · exact .inr fun i hi => h ⟨i, hi⟩
theorem with_set {t : Tb} {i : Nat} (h8 : t.length ≤ 1000) (hi : i < t.length) (p : hash_Place) : hash_with t (i : Int) p = some (t.set i p) := by
  unfold hash_with slices_Clone_hash_Place_hash_Place
  rw [app_nil (by omega) (by omega), Option.bind_some, ix_at hi, Option.bind_some, Int.toNat_natCast]
inductive PutR (t : Tb) (k v : Int) : Tb × Int → Prop
  | old (i : Nat) (hi : Fk t k i) : PutR t k v (t.set i ⟨1, k, v⟩, 0)
  | new (d : Nat) (hn : ∀ i, ¬ Fk t k i) (hd : d < t.length) (hb : ∀ j, j < d → (pt t (pos t.length k j)).State = 1) (hf : (pt t (pos t.length k d)).State ≠ 1) : PutR t k v (t.set (pos t.length k d) ⟨1, k, v⟩, 0)
  | full (hn : ∀ i, ¬ Fk t k i) (ha : ∀ i, i < t.length → (pt t i).State = 1) : PutR t k v (t, 8)
theorem put_eq {t : Tb} (hR : HR t) (k v : Int) : ∃ r, hash_Put t k v = some r ∧ PutR t k v r := by
  have h1 := hR.l1
  have h8 := hR.l8
  unfold hash_Put
  rcases fk_or t k with ⟨i, hi⟩ | hn
  · rw [find_of hR hi, Option.bind_some, if_pos (by simp), with_set (by omega) hi.1]
    exact ⟨_, rfl, .old i hi⟩
  · rw [find_no h1 h8 hn, Option.bind_some, if_neg (by decide)]
    simp only [jn, hash_road, Option.bind_some]
    have key := lp_up (f := fun (s15 : Int) =>
      if (decide (s15 < (t.length : Int))) then
        (hash_Home (t.length : Int) k).bind fun v17 =>
        (rem (w64 (v17 + s15)) (t.length : Int)).bind fun v18 =>
        (ix t v18).bind fun v19 =>
        if (v19.State != 1) then
          (hash_with t v18 (⟨1, k, v⟩ : hash_Place)).bind fun v20 =>
          some (Sum.inr (.inl (v20, (0 : Int))))
        else
        some (.inl (w64 (s15 + 1)))
      else
      some (.inr (.inr ()))) t.length (fun d => ∀ j, j < d → (pt t (pos t.length k j)).State = 1)
      (fun (e : (Tb × Int) ⊕ Unit) => (∃ r, e = .inl r ∧ PutR t k v r) ∨ (e = .inr () ∧ PutR t k v (t, 8))) (by omega) (fun j hj => by omega)
      (fun d hd hP => by
        have hp := pos_lt h1 k d
        rw [if_pos (by simpa using hd), home_eq h1 (by omega), Option.bind_some, step_eq h1 (by omega) k hd, Option.bind_some, ix_pt hp, Option.bind_some]
        by_cases a : (pt t (pos t.length k d)).State = 1
        · rw [if_neg (by simpa using a), w64_nat (by omega)]
          refine .inl ⟨rfl, fun j hj => ?_⟩
          rcases Nat.lt_or_ge j d with q | q
          · exact hP j q
          · have : j = d := by omega
            subst this; exact a
        · rw [if_pos (by simpa using a), with_set (by omega) hp, Option.bind_some]
          exact .inr ⟨_, rfl, .inl ⟨_, rfl, .new d hn hd hP a⟩⟩)
      (fun hP => ⟨.inr (), by simp, .inr ⟨rfl, .full hn fun i hi => by
        obtain ⟨d, hd, rfl⟩ := pos_surj h1 h8 k hi
        exact hP d hd⟩⟩)
    obtain ⟨e, he, hQ⟩ := key
    rw [he, Option.bind_some]
    rcases hQ with ⟨r, rfl, hr⟩ | ⟨rfl, hr⟩
    · exact ⟨r, rfl, hr⟩
    · exact ⟨_, rfl, hr⟩
theorem get_of {t : Tb} (hR : HR t) {k : Int} {i : Nat} (hi : Fk t k i) : hash_Get t k = some ((pt t i).Val, 0) := by
  unfold hash_Get
  rw [find_of hR hi, Option.bind_some, if_neg (by simp), ix_pt hi.1, Option.bind_some]
theorem get_no {t : Tb} (hR : HR t) {k : Int} (hi : ∀ i, ¬ Fk t k i) : hash_Get t k = some (0, 9) := by
  unfold hash_Get
  rw [find_no hR.l1 hR.l8 hi, Option.bind_some, if_pos (by decide)]
theorem drop_of {t : Tb} (hR : HR t) {k : Int} {i : Nat} (hi : Fk t k i) : hash_Drop t k = some (t.set i ⟨2, 0, 0⟩, (pt t i).Val, 0) := by
  have := hR.l8
  unfold hash_Drop
  rw [find_of hR hi, Option.bind_some, if_neg (by simp), with_set (by omega) hi.1, Option.bind_some, ix_pt hi.1, Option.bind_some]
theorem drop_no {t : Tb} (hR : HR t) {k : Int} (hi : ∀ i, ¬ Fk t k i) : hash_Drop t k = some (t, 0, 9) := by
  unfold hash_Drop
  rw [find_no hR.l1 hR.l8 hi, Option.bind_some, if_pos (by decide)]
theorem HR.set {t : Tb} (hR : HR t) {i : Nat} (hi : i < t.length) {p : hash_Place} (h0 : p.State = 1 ∨ p = ⟨2, 0, 0⟩)
    (hu : p.State = 1 → ∀ j, j ≠ i → ¬ Fk t p.Key j) (hr : p.State = 1 → ∀ d, d < t.length → (∀ d', d' ≤ d → pos t.length p.Key d' ≠ i) → (pt t (pos t.length p.Key d)).State ≠ 0) : HR (t.set i p) := by
  have hnz : p.State ≠ 0 := by
    rcases h0 with h | rfl
    · omega
    · simp
  refine ⟨by simpa using hR.l1, by simpa using hR.l8, fun j hj => ?_, fun j j' hj hj' s1 s2 hk => ?_, fun j hj s1 d hd hne => ?_⟩ <;> simp only [List.length_set] at *
  · rw [pt_set hi]
    split
    · rcases h0 with h | rfl
      · exact ⟨.inr (.inl h), fun q => absurd h q⟩
      · exact ⟨.inr (.inr rfl), fun _ => ⟨rfl, rfl⟩⟩
    · exact hR.st j hj
  · rw [pt_set hi] at s1 s2 hk
    rw [pt_set hi] at hk
    by_cases e1 : j = i <;> by_cases e2 : j' = i
    · rw [e1, e2]
    · rw [if_pos e1] at s1 hk
      rw [if_neg e2] at s2 hk
      exact absurd ⟨hj', s2, hk.symm⟩ (hu s1 j' e2)
    · rw [if_neg e1] at s1 hk
      rw [if_pos e2] at s2 hk
      exact absurd ⟨hj, s1, hk⟩ (hu s2 j e1)
    · rw [if_neg e1] at s1 hk
      rw [if_neg e2] at s2 hk
      exact hR.uq j j' hj hj' s1 s2 hk
  · simp only [pt_set hi] at s1 hne ⊢
    by_cases e1 : j = i
    · simp only [if_pos e1] at s1 hne ⊢
      split
      · exact hnz
      · exact hr s1 d hd (by rw [← e1]; exact hne)
    · simp only [if_neg e1] at s1 hne ⊢
      split
      · exact hnz
      · exact hR.rd j hj s1 d hd hne
theorem putR_right {t : Tb} (hR : HR t) {k v : Int} {r : Tb × Int} (h : PutR t k v r) : HR r.1 := by
  cases h with
  | old i hi =>
    refine hR.set hi.1 (.inl rfl) (fun _ j hj q => hj (hR.uq j i q.1 hi.1 q.2.1 hi.2.1 (q.2.2.trans hi.2.2.symm))) fun _ d hd hne => ?_
    have := hR.rd i hi.1 hi.2.1 d hd (by rw [hi.2.2]; exact hne)
    rwa [hi.2.2] at this
  | new d hn hd hb hf =>
    refine hR.set (pos_lt hR.l1 k d) (.inl rfl) (fun _ j _ => hn j) fun _ d' hd' hne => ?_
    rcases Nat.lt_or_ge d' d with q | q
    · have := hb d' q
      simp only
      omega
    · exact absurd rfl (hne d q)
  | full hn ha => exact hR
theorem dropR_right {t : Tb} (hR : HR t) {i : Nat} (hi : i < t.length) : HR (t.set i ⟨2, 0, 0⟩) := hR.set hi (.inr rfl) (fun q => by cases q) fun q => by cases q
end Go.Sh
namespace Go.Sh
set_option linter.unusedVariables false
set_option linter.unusedSimpArgs false
theorem ixm {t : Tb} {j : Nat} (h : j < t.length) : ix (t.map hpl) (j : Int) = some (hpl (pt t j)) := by rw [ix_map', ix_pt h]; rfl
theorem rfind_of {t : Tb} (h8 : t.length ≤ 1000) {k : Int} {i : Nat} (hi : Fk t k i) (hf : ∀ j, j < i → ¬ Fk t k j) : r10_Find (t.map hpl) k = some (i : Int) := by
  unfold r10_Find
  simp only [jn]
  refine lpb_up t.length (fun j => j ≤ i) (by omega) (Nat.zero_le _) (fun j hj hP => ?_) (fun hP => by have := hi.1; omega)
  rw [if_pos (by simpa using hj), ixm hj, Option.bind_some]
  by_cases e : j = i
  · subst e
    exact .inr ⟨.inl (j : Int), by rw [if_pos (by simp [hpl, hi.2.1, hi.2.2])], rfl⟩
  · have := hf j (by omega)
    refine .inl ⟨by rw [if_neg (by simp [hpl]; exact fun h1 h2 => this ⟨hj, h1, h2⟩), w64_nat (by omega)], by omega⟩
theorem rfind_no {t : Tb} (h8 : t.length ≤ 1000) {k : Int} (hf : ∀ j, ¬ Fk t k j) : r10_Find (t.map hpl) k = some (-1) := by
  unfold r10_Find
  simp only [jn]
  refine lpb_up t.length (fun j => True) (by omega) trivial (fun j hj hP => ?_) (fun hP => ⟨.inr (), by simp, rfl⟩)
  rw [if_pos (by simpa using hj), ixm hj, Option.bind_some]
  refine .inl ⟨by rw [if_neg (by simp [hpl]; exact fun h1 h2 => hf j ⟨hj, h1, h2⟩), w64_nat (by omega)], trivial⟩
theorem first_fk {t : Tb} {k : Int} (h : ∃ i, Fk t k i) : ∃ i, Fk t k i ∧ ∀ j, j < i → ¬ Fk t k j := by
  obtain ⟨i, h1, h2⟩ := exists_min h
  exact ⟨i, h1, fun j hj q => by have := h2 j q; omega⟩
theorem rhome_eq : r10_Home = hash_Home := rfl
theorem rnext {n : Nat} (h1 : 1 ≤ n) (h8 : n ≤ 8) (k : Int) (d : Nat) : rem (w64 (((pos n k d : Nat) : Int) + 1)) n = some ((pos n k (d + 1) : Nat) : Int) := by
  have := pos_lt h1 k d
  rw [w64_in (by omega) (by omega), rem_pos (by omega) (by omega)]
  unfold pos
  congr 1
  have : ((hm n k + d) % n + 1) % n = (hm n k + (d + 1)) % n := by rw [Nat.mod_add_mod]; rfl
  rw [← this]
  simp [Int.natCast_emod]
theorem pos_zero {n : Nat} (h1 : 1 ≤ n) (k : Int) : pos n k 0 = hm n k := by
  unfold pos
  rw [Nat.add_zero, Nat.mod_eq_of_lt (hm_lt h1 k)]
theorem rwalk {t : Tb} (h1 : 1 ≤ t.length) (h8 : t.length ≤ 8) (k : Int) {i di : Nat} (hi : i < t.length) (hdi : di < t.length) (hp : pos t.length k di = i) :
    ∃ e, lp (S := Int) (E := Bool ⊕ Unit) (fun (s41 : Int) =>
            if (s41 != (i : Int)) then
              (ix (t.map hpl) s41).bind fun v43 =>
              if (v43.State == 0) then
                some (.inr (.inl false))
              else
              (rem (w64 (s41 + 1)) (t.length : Int)).bind fun v44 =>
              some (.inl v44)
            else
            some (.inr (.inr ()))) (hm t.length k : Int) = some e ∧ ((e = .inr () ∧ ∀ d, d < di → (pt t (pos t.length k d)).State ≠ 0) ∨ (e = .inl false ∧ ∃ d, d < di ∧ (pt t (pos t.length k d)).State = 0)) := by
  rw [← pos_zero h1 k]
  refine lp_road (fun d => ((pos t.length k d : Nat) : Int)) di (fun d => ∀ d', d' < d → (pt t (pos t.length k d')).State ≠ 0) _ (by omega) (fun d' hd' => by omega) (fun d hd hP => ?_) (fun hP => ?_)
  · have hne : pos t.length k d ≠ i := fun e => by
      have := pos_inj h1 h8 (by omega) hdi (e.trans hp.symm)
      omega
    have hlt := pos_lt h1 k d
    rw [if_pos (by simp; omega), ixm hlt, Option.bind_some]
    by_cases a : (pt t (pos t.length k d)).State = 0
    · rw [if_pos (by simpa [hpl] using a)]
      exact .inr ⟨_, rfl, .inr ⟨rfl, d, hd, a⟩⟩
    · rw [if_neg (by simpa [hpl] using a), rnext h1 h8, Option.bind_some]
      refine .inl ⟨rfl, fun d' hd' => ?_⟩
      rcases Nat.lt_or_ge d' d with q | q
      · exact hP d' q
      · have : d' = d := by omega
        subst this; exact a
  · rw [if_neg (by simp; omega)]
    exact ⟨_, rfl, .inl ⟨rfl, hP⟩⟩
def Ok (t : Tb) (i : Nat) : Prop := ((pt t i).State = 0 ∨ (pt t i).State = 1 ∨ (pt t i).State = 2) ∧ ((pt t i).State ≠ 1 → (pt t i).Key = 0 ∧ (pt t i).Val = 0) ∧ ((pt t i).State = 1 → (∀ j, j < i → ¬ Fk t (pt t i).Key j) ∧ ∀ d, d < t.length → (∀ d', d' ≤ d → pos t.length (pt t i).Key d' ≠ i) → (pt t (pos t.length (pt t i).Key d)).State ≠ 0)
theorem hr_ok {t : Tb} (h1 : 1 ≤ t.length) (h8 : t.length ≤ 8) : HR t ↔ ∀ i, i < t.length → Ok t i := by
  constructor
  · intro hR i hi
    exact ⟨(hR.st i hi).1, (hR.st i hi).2, fun s => ⟨fun j hj q => by have := hR.uq j i q.1 hi q.2.1 s q.2.2; omega, hR.rd i hi s⟩⟩
  · intro hO
    refine ⟨h1, h8, fun i hi => ⟨(hO i hi).1, (hO i hi).2.1⟩, fun i j hi hj s1 s2 hk => ?_, fun i hi s => ((hO i hi).2.2 s).2⟩
    rcases Nat.lt_trichotomy i j with q | q | q
    · exact absurd ⟨hi, s1, hk⟩ (((hO j hj).2.2 s2).1 i q)
    · exact q
    · exact absurd ⟨hj, s2, hk.symm⟩ (((hO i hi).2.2 s1).1 j q)
theorem rright_eq (t : Tb) (h : t.length ≤ 1000) : ∃ b, r10_Right (t.map hpl) = some b ∧ (b = true ↔ HR t) := by
  unfold r10_Right
  rw [List.length_map]
  by_cases hl : 1 ≤ t.length ∧ t.length ≤ 8
  · obtain ⟨h1, h8⟩ := hl
    rw [if_neg (by simp; omega)]
    simp only [jn]
    suffices hs : ∀ (b : Bool), (b = true ↔ HR t) → _ = some b by
      by_cases q : HR t
      · exact ⟨true, hs true (by simp [q]), by simp [q]⟩
      · exact ⟨false, hs false (by simp [q]), by simp [q]⟩
    intro b hb
    refine lpb_up t.length (fun i => ∀ j, j < i → Ok t j) (by omega) (fun j hj => by omega) (fun i hi hP => ?_) (fun hP => ⟨.inr (), by simp, by
      simp only
      rw [hb.2 ((hr_ok h1 h8).2 hP)]⟩)
    have good : Ok t i → ∀ j, j < i + 1 → Ok t j := fun o j hj => by
      rcases Nat.lt_or_ge j i with q | q
      · exact hP j q
      · have : j = i := by omega
        subst this; exact o
    have bad : ¬ Ok t i → some false = some b := fun o => by
      have : b = false := by
        cases hbb : b with
        | false => rfl
        | true => exact absurd ((hr_ok h1 h8).1 (hb.1 hbb) i hi) o
      rw [this]
    rw [if_pos (by simpa using hi)]
    rw [ixm hi, Option.bind_some, w64_nat (by omega)]
    dsimp only [hpl]
    by_cases a : ((pt t i).State = 0 ∨ (pt t i).State = 1 ∨ (pt t i).State = 2) ∧ ((pt t i).State ≠ 1 → (pt t i).Key = 0 ∧ (pt t i).Val = 0)
    · rw [if_neg (by
        have a1 := a.1
        have a2 := a.2
        simp only [Bool.or_eq_true, Bool.and_eq_true, decide_eq_true_eq, bne_iff_ne, ne_eq, not_or, not_and]
        refine ⟨⟨by omega, by omega⟩, fun q => ?_⟩
        have := a2 q
        omega)]
      by_cases s : (pt t i).State = 1
      · rw [if_neg (by simpa using s)]
        obtain ⟨f, hf1, hf2⟩ := first_fk (t := t) (k := (pt t i).Key) ⟨i, hi, s, rfl⟩
        rw [rfind_of h hf1 hf2, Option.bind_some]
        by_cases e : f = i
        · rw [e] at hf2
          rw [if_neg (by simp [e]), rhome_eq, home_eq h1 (by omega), Option.bind_some]
          obtain ⟨di, hdi, hpi⟩ := pos_surj h1 h8 (pt t i).Key hi
          obtain ⟨e, he, hQ⟩ := rwalk h1 h8 (pt t i).Key hi hdi hpi
          rw [he, Option.bind_some]
          rcases hQ with ⟨rfl, q⟩ | ⟨rfl, d, hd, q⟩
          · refine .inl ⟨rfl, good ⟨a.1, a.2, fun _ => ⟨hf2, fun d hd hne => ?_⟩⟩⟩
            rcases Nat.lt_or_ge d di with q' | q'
            · exact q d q'
            · exact absurd hpi (hne di q')
          · refine .inr ⟨_, rfl, bad fun o => (o.2.2 s).2 d (by omega) (fun d' hd' e => ?_) q⟩
            have := pos_inj h1 h8 (by omega) hdi (e.trans hpi.symm)
            omega
        · rw [if_pos (by simp; omega)]
          refine .inr ⟨_, rfl, bad fun o => ?_⟩
          rcases Nat.lt_or_ge f i with q | q
          · exact (o.2.2 s).1 f q hf1
          · exact hf2 i (by omega) ⟨hi, s, rfl⟩
      · rw [if_pos (by simpa using s)]
        exact .inl ⟨rfl, good ⟨a.1, a.2, fun q => absurd q s⟩⟩
    · rw [if_pos (by
        simp only [Bool.or_eq_true, Bool.and_eq_true, decide_eq_true_eq, bne_iff_ne, ne_eq]
        omega)]
      exact .inr ⟨_, rfl, bad fun o => a ⟨o.1, o.2.1⟩⟩
  · rw [if_pos (by simp; omega)]
    exact ⟨false, rfl, ⟨fun q => (by cases q), fun hR => absurd ⟨hR.l1, hR.l8⟩ hl⟩⟩
end Go.Sh
namespace Go.Sh
set_option linter.unusedVariables false
set_option linter.unusedSimpArgs false
def Has (t : Tb) (k v : Int) : Prop := ∃ i, Fk t k i ∧ (pt t i).Val = v
theorem has_or (t : Tb) (k : Int) : (∃ v, Has t k v) ∨ ∀ v, ¬ Has t k v := by
  by_cases h : ∃ v, Has t k v
  · exact .inl h
  · exact .inr fun v hv => h ⟨v, hv⟩
theorem get_has {t : Tb} (hR : HR t) {k v : Int} (h : Has t k v) : hash_Get t k = some (v, 0) := by
  obtain ⟨i, a, rfl⟩ := h
  exact get_of hR a
theorem has_set {t : Tb} {i : Nat} (hi : i < t.length) {k v : Int} (p : hash_Place) (h : ∀ j, j ≠ i → Fk t p.Key j → p.State ≠ 1) (k' v' : Int) :
    Has (t.set i p) k' v' ↔ (p.State = 1 ∧ p.Key = k' ∧ p.Val = v') ∨ ∃ j, j ≠ i ∧ Fk t k' j ∧ (pt t j).Val = v' := by
  unfold Has Fk
  simp only [List.length_set, pt_set hi]
  constructor
  · rintro ⟨j, ⟨h1, h2, h3⟩, h4⟩
    by_cases e : j = i
    · rw [if_pos e] at h2 h3 h4; exact .inl ⟨h2, h3, h4⟩
    · rw [if_neg e] at h2 h3 h4; exact .inr ⟨j, e, ⟨h1, h2, h3⟩, h4⟩
  · rintro (⟨h1, h2, h3⟩ | ⟨j, e, ⟨h1, h2, h3⟩, h4⟩)
    · exact ⟨i, by simp [hi, h1, h2, h3]⟩
    · exact ⟨j, by simp [e, h1, h2, h3, h4]⟩
theorem put_has {t : Tb} (hR : HR t) {k v : Int} {r : Tb × Int} (h : PutR t k v r) (h0 : r.2 = 0) (k' v' : Int) : Has r.1 k' v' ↔ (k' = k ∧ v' = v) ∨ (k' ≠ k ∧ Has t k' v') := by
  cases h with
  | old i hi =>
    rw [has_set (k := k) (v := v) hi.1 _ (fun j hj q => absurd (hR.uq j i q.1 hi.1 q.2.1 hi.2.1 (q.2.2.trans hi.2.2.symm)) hj)]
    constructor
    · rintro (⟨_, rfl, rfl⟩ | ⟨j, e, h1, h2⟩)
      · exact .inl ⟨rfl, rfl⟩
      · refine .inr ⟨fun q => ?_, j, h1, h2⟩
        subst q
        exact e (hR.uq j i h1.1 hi.1 h1.2.1 hi.2.1 (h1.2.2.trans hi.2.2.symm))
    · rintro (⟨rfl, rfl⟩ | ⟨e, j, h1, h2⟩)
      · exact .inl ⟨rfl, rfl, rfl⟩
      · refine .inr ⟨j, fun q => ?_, h1, h2⟩
        subst q
        exact e (h1.2.2.symm.trans hi.2.2)
  | new d hn hd hb hf =>
    rw [has_set (k := k) (v := v) (pos_lt hR.l1 k d) _ (fun j hj q => absurd q (hn j))]
    constructor
    · rintro (⟨_, rfl, rfl⟩ | ⟨j, e, h1, h2⟩)
      · exact .inl ⟨rfl, rfl⟩
      · refine .inr ⟨fun q => ?_, j, h1, h2⟩
        subst q
        exact hn j h1
    · rintro (⟨rfl, rfl⟩ | ⟨e, j, h1, h2⟩)
      · exact .inl ⟨rfl, rfl, rfl⟩
      · refine .inr ⟨j, fun q => ?_, h1, h2⟩
        subst q
        exact hf h1.2.1
  | full hn ha => cases h0
theorem drop_has {t : Tb} (hR : HR t) {k : Int} {i : Nat} (hi : Fk t k i) (k' v' : Int) : Has (t.set i ⟨2, 0, 0⟩) k' v' ↔ k' ≠ k ∧ Has t k' v' := by
  rw [has_set (k := k) (v := 0) hi.1 _ (fun j hj q => by simp)]
  constructor
  · rintro (⟨h, _⟩ | ⟨j, e, h1, h2⟩)
    · cases h
    · refine ⟨fun q => ?_, j, h1, h2⟩
      subst q
      exact e (hR.uq j i h1.1 hi.1 h1.2.1 hi.2.1 (h1.2.2.trans hi.2.2.symm))
  · rintro ⟨e, j, h1, h2⟩
    refine .inr ⟨j, fun q => ?_, h1, h2⟩
    subst q
    exact e (h1.2.2.symm.trans hi.2.2)
def keys (t : Tb) : List Int := (t.filter (·.State == 1)).map (·.Key)
theorem filt_snoc' {α β : Type} (p : α → Bool) (f : α → β) (l : List α) (k : Nat) (h : k < l.length) : ((l.take (k + 1)).filter p).map f = ((l.take k).filter p).map f ++ (if p l[k] then [f l[k]] else []) := by
  rw [List.take_succ_eq_append_getElem h, List.filter_append, List.map_append]
  congr 1
  simp only [List.filter_cons, List.filter_nil]
  split <;> rfl
theorem keys_eq {t : Tb} (h : t.length ≤ 1000) : hash_Keys t = some (keys t) := by
  unfold hash_Keys keys
  simp only [jn]
  refine lpb_upS t.length (fun k l => l = ((t.take k).filter (·.State == 1)).map (·.Key)) (by omega) (by simp) ?_ (fun l hl => ⟨_, by simp; rfl, by rw [hl, List.take_length]⟩)
  rintro k l hk rfl
  left
  rw [filt_snoc' _ _ _ _ hk]
  rw [if_pos (by simpa using hk), ix_at hk, Option.bind_some, w64_nat (by omega)]
  have hle : (List.map (·.Key) (List.filter (·.State == 1) (List.take k t))).length ≤ 1000 := by
    rw [List.length_map]
    exact Nat.le_trans (List.length_filter_le ..) (by simp; omega)
  by_cases c : (t[k].State == 1) = true
  · rw [if_pos c, if_pos c, app_ok (by omega) (by simp only [List.length_cons, List.length_nil]; omega), Option.bind_some]
    exact ⟨_, rfl, rfl⟩
  · rw [if_neg c, if_neg c]
    exact ⟨_, rfl, by simp⟩
theorem rkeys_eq {t : Tb} (h : t.length ≤ 1000) : r10_Keys (t.map hpl) = some (keys t) := by
  unfold r10_Keys keys
  simp only [jn]
  refine lpb_upS t.length (fun k l => l = ((t.take k).filter (·.State == 1)).map (·.Key)) (by omega) (by simp) ?_ (fun l hl => ⟨_, by simp; rfl, by rw [hl, List.take_length]⟩)
  rintro k l hk rfl
  left
  rw [filt_snoc' _ _ _ _ hk]
  rw [if_pos (by simpa using hk), ix_map', ix_at hk, Option.map_some, Option.bind_some, w64_nat (by omega)]
  have hle : (List.map (·.Key) (List.filter (·.State == 1) (List.take k t))).length ≤ 1000 := by
    rw [List.length_map]
    exact Nat.le_trans (List.length_filter_le ..) (by simp; omega)
  by_cases c : (t[k].State == 1) = true
  · rw [if_pos (by simpa [hpl] using c), if_pos c, app_ok (by omega) (by simp only [List.length_cons, List.length_nil]; omega), Option.bind_some]
    exact ⟨_, rfl, rfl⟩
  · rw [if_neg (by simpa [hpl] using c), if_neg c]
    exact ⟨_, rfl, by simp⟩
theorem rfindR {t : Tb} (hR : HR t) (k : Int) : r10_Find (t.map hpl) k = hash_Find t k := by
  have h8 := hR.l8
  rcases fk_or t k with ⟨i, hi⟩ | hn
  · rw [find_of hR hi]
    obtain ⟨f, hf1, hf2⟩ := first_fk ⟨i, hi⟩
    rw [rfind_of (by omega) hf1 hf2, hR.uq f i hf1.1 hi.1 hf1.2.1 hi.2.1 (hf1.2.2.trans hi.2.2.symm)]
  · rw [find_no hR.l1 hR.l8 hn, rfind_no (by omega) hn]
theorem rgetR {t : Tb} (hR : HR t) (k : Int) : r10_Get (t.map hpl) k = hash_Get t k := by
  unfold r10_Get hash_Get
  rw [rfindR hR]
  rcases fk_or t k with ⟨i, hi⟩ | hn
  · rw [find_of hR hi, Option.bind_some, Option.bind_some, if_neg (by simp), if_neg (by simp), ixm hi.1, ix_pt hi.1]; rfl
  · rw [find_no hR.l1 hR.l8 hn]; rfl
end Go.Sh
namespace Go.Sh
set_option linter.unusedVariables false
set_option linter.unusedSimpArgs false
theorem keys_len (t : Tb) : (keys t).length = t.countP (·.State == 1) := by
  unfold keys
  rw [List.length_map, List.countP_eq_length_filter]
theorem keys_set {t : Tb} {i : Nat} (h : i < t.length) (p : hash_Place) : (keys (t.set i p)).length + (if (pt t i).State = 1 then 1 else 0) = (keys t).length + if p.State = 1 then 1 else 0 := by
  rw [keys_len, keys_len, List.countP_set h, pt_lt h]
  simp only [beq_iff_eq]
  have : (if t[i].State = 1 then 1 else 0) ≤ t.countP fun c => c.State == 1 := by
    split
    · rename_i e
      exact List.countP_pos_iff.2 ⟨t[i], List.getElem_mem h, by simpa using e⟩
    · exact Nat.zero_le _
  omega
structure TM {V : Type} (φ : V → Int → Prop) (t : Tb) (m : List (Int × V)) : Prop where
  R : HR t
  nd : (m.map (·.1)).Nodup
  len : (keys t).length = m.length
  has : ∀ k, (∀ v, Has t k v → ∃ u, mget m k = some u ∧ φ u v) ∧ ((mget m k).isSome = true → ∃ v, Has t k v)
theorem TM.some {V : Type} {φ : V → Int → Prop} {t : Tb} {m : List (Int × V)} (h : TM φ t m) (k : Int) : (∃ v u, Has t k v ∧ mget m k = some u ∧ φ u v) ∨ (mget m k = none ∧ ∀ v, ¬ Has t k v) := by
  rcases has_or t k with ⟨v, hv⟩ | hn
  · obtain ⟨u, h1, h2⟩ := (h.has k).1 v hv
    exact .inl ⟨v, u, hv, h1, h2⟩
  · refine .inr ⟨?_, hn⟩
    cases hq : mget m k with
    | none => rfl
    | some u =>
      obtain ⟨v, hv⟩ := (h.has k).2 (by rw [hq]; rfl)
      exact absurd hv (hn v)
theorem TM.drop {V : Type} {φ : V → Int → Prop} {t : Tb} {m : List (Int × V)} (h : TM φ t m) (k : Int) : (∃ r v u, hash_Drop t k = .some (r, v, 0) ∧ r.length = t.length ∧ mget m k = .some u ∧ φ u v ∧ TM φ r (mdel m k)) ∨ (hash_Drop t k = .some (t, 0, 9) ∧ mget m k = none ∧ mdel m k = m) := by
  rcases fk_or t k with ⟨i, hi⟩ | hn
  · left
    obtain ⟨u, h1, h2⟩ := (h.has k).1 _ ⟨i, hi, rfl⟩
    refine ⟨_, _, u, drop_of h.R hi, by simp, h1, h2, dropR_right h.R hi.1, (mdel_sub m k).nodup h.nd, ?_, fun k' => ?_⟩
    · have := keys_set hi.1 ⟨2, 0, 0⟩
      rw [if_pos hi.2.1, if_neg (by decide), h.len] at this
      rw [mdel_len, h1]
      simp only [Option.isSome_some, if_true]
      omega
    · have hh := drop_has h.R hi
      rw [mget_mdel h.nd]
      by_cases e : k' = k
      · subst e
        rw [if_pos rfl]
        exact ⟨fun w hw => absurd rfl ((hh _ _).1 hw).1, fun q => by cases q⟩
      · rw [if_neg e]
        refine ⟨fun w hw => (h.has k').1 w ((hh _ _).1 hw).2, fun q => ?_⟩
        obtain ⟨w, hw⟩ := (h.has k').2 q
        exact ⟨w, (hh _ _).2 ⟨e, hw⟩⟩
  · right
    have h1 : mget m k = none := by
      rcases h.some k with ⟨w, x, hw, _⟩ | ⟨q, _⟩
      · obtain ⟨i, hi, _⟩ := hw
        exact absurd hi (hn i)
      · exact q
    refine ⟨drop_no h.R hn, h1, ?_⟩
    have : ∀ (l : List (Int × V)), mget l k = none → mdel l k = l := by
      intro l
      induction l with
      | nil => intro _; rfl
      | cons p l ih =>
        intro q
        unfold mget at q
        unfold mdel
        by_cases e : k = p.1
        · rw [if_pos (by simpa using e)] at q; cases q
        · rw [if_neg (by simpa using e)] at q
          rw [if_neg (by simpa using e), ih q]
    exact this m h1
end Go.Sh
namespace Go.Sh
set_option linter.unusedVariables false
set_option linter.unusedSimpArgs false
abbrev pp (p : ephem_Pair) : r11_Pair := ⟨p.Key, p.Val⟩
def prs (t : Tb) : List ephem_Pair := (t.filter (·.State == 1)).map fun p => ⟨p.Key, p.Val⟩
theorem keys_prs (t : Tb) : keys t = (prs t).map (·.Key) := by
  unfold keys prs
  rw [List.map_map]
  rfl
theorem prs_len (t : Tb) : (prs t).length = (keys t).length := by rw [keys_prs, List.length_map]
theorem prs_le {t : Tb} (h : t.length ≤ 8) : (prs t).length ≤ 8 := by
  rw [prs_len, keys_len]
  exact Nat.le_trans List.countP_le_length h
theorem mem_prs {t : Tb} {p : ephem_Pair} : p ∈ prs t ↔ Has t p.Key p.Val := by
  unfold prs Has
  rw [List.mem_map]
  constructor
  · rintro ⟨q, hq, rfl⟩
    obtain ⟨h1, h2⟩ := List.mem_filter.1 hq
    obtain ⟨i, hi, rfl⟩ := List.getElem_of_mem h1
    refine ⟨i, ⟨hi, ?_, ?_⟩, ?_⟩ <;> rw [pt_lt hi]
    simpa using h2
  · rintro ⟨i, ⟨hi, h1, h2⟩, h3⟩
    rw [pt_lt hi] at h1 h2 h3
    refine ⟨t[i], List.mem_filter.2 ⟨List.getElem_mem hi, by simpa using h1⟩, ?_⟩
    cases p
    simp at h2 h3 ⊢
    exact ⟨h2, h3⟩
theorem prs_get {t : Tb} (hR : HR t) {j : Nat} (h : j < (prs t).length) : hash_Get t (prs t)[j].Key = some ((prs t)[j].Val, 0) := get_has hR (mem_prs.1 (List.getElem_mem h))
theorem bind3 {E R : Type} {x : Option E} {r : E} {κ : E → Option R} {y : Option R} (h : x = some r) (hy : κ r = y) : ((x.bind fun e => some e).bind κ) = y := by rw [h]; exact hy
theorem pairs_eq {t : Tb} (hR : HR t) : ephem_Pairs t = some (prs t) := by
  have h8 := hR.l8
  have hp := prs_le h8
  unfold ephem_Pairs ephem_gathered_ephem_Pair__ephem_pairs_1__ephem_Pairs_1 ephem_pairs ephem_Pairs_1
  simp only [jn, Option.bind_some]
  rw [keys_eq (by omega), Option.bind_some]
  refine bind3 (some_of (lp_upS (prs t).length (fun k l => l = (prs t).take k) (fun e => e = prs t) (by omega) (by simp) ?_ ?_)) rfl
  · rintro k l hk rfl
    refine .inl ⟨_, ?_, rfl⟩
    dsimp only
    rw [if_pos (by rw [← prs_len]; simpa using hk), ix_at (by rw [← prs_len]; exact hk), Option.bind_some]
    have e : (keys t)[k]'(by rw [← prs_len]; exact hk) = (prs t)[k].Key := by simp [keys_prs]
    rw [e, prs_get hR hk, Option.bind_some, if_pos (by trivial), app_ok (by omega) (by simp; omega), Option.bind_some, w64_nat (by omega), List.take_succ_eq_append_getElem hk]
  · rintro l rfl
    exact ⟨_, by rw [← prs_len]; simp; rfl, by simp⟩
theorem rpairs_eq {t : Tb} (hR : HR t) : r11_Pairs (t.map hpl) = some ((prs t).map pp) := by
  have h8 := hR.l8
  have hp := prs_le h8
  unfold r11_Pairs
  simp only [jn]
  rw [rkeys_eq (by omega), Option.bind_some]
  refine lpb_upS (prs t).length (fun k l => l = ((prs t).take k).map pp) (by omega) (by simp) ?_ (fun l hl => ⟨_, by rw [← prs_len]; simp; rfl, by rw [hl, List.take_length]⟩)
  rintro k l hk rfl
  refine .inl ⟨_, ?_, rfl⟩
  rw [if_pos (by rw [← prs_len]; simpa using hk), ix_at (by rw [← prs_len]; exact hk), Option.bind_some]
  have e : (keys t)[k]'(by rw [← prs_len]; exact hk) = (prs t)[k].Key := by simp [keys_prs]
  rw [e, rgetR hR, prs_get hR hk, Option.bind_some, app_ok (by omega) (by simp; omega), Option.bind_some, w64_nat (by omega), List.take_succ_eq_append_getElem hk, List.map_append]
  rfl
def own (t : Tb) (h : Int) : Nat := (prs t).countP fun p => (h != 0) && (p.Val == h)
end Go.Sh
namespace Go.Sh
set_option linter.unusedVariables false
set_option linter.unusedSimpArgs false
inductive FRch (s : store_Store) (t : Tb) (l : List Int) : Int → Prop
  | base {h : Int} : h ∈ l → h ∈ lv s → FRch s t l h
  | step {a b : Int} : FRch s t l a → b ∈ outs s a → b ∈ lv s → FRch s t l b
  | pair {k v : Int} : Has t k v → FRch s t l k → v ∈ lv s → FRch s t l v
open Classical in
noncomputable def frc (s : store_Store) (t : Tb) (l : List Int) : List Int := (lv s).filter fun h => decide (FRch s t l h)
open Classical in
noncomputable def fls (s : store_Store) (t : Tb) (l : List Int) : List Int := (lv s).filter fun h => decide (¬ FRch s t l h)
noncomputable def owd (s : store_Store) (t : Tb) (l : List Int) : List Int := ((prs t).filter fun p => decide (p.Key ∈ l ∧ p.Key ∈ lv s ∧ p.Val ∈ lv s)).map (·.Val)
def TB (t : Tb) : Prop := ∀ p ∈ t, p.Key ≤ 9223372036854775807 ∧ p.Val ≤ 9223372036854775807
def PCl (s : store_Store) (t : Tb) (l : List Int) : Prop := ∀ k v, Has t k v → k ∈ l → k ∈ lv s → v ∈ lv s → v ∈ l
theorem TB.has {t : Tb} (h : TB t) {k v : Int} (q : Has t k v) : k ≤ 9223372036854775807 ∧ v ≤ 9223372036854775807 := by
  obtain ⟨i, ⟨h1, _, h2⟩, h3⟩ := q
  rw [pt_lt h1] at h2 h3
  have := h _ (List.getElem_mem h1)
  rw [h2, h3] at this
  exact this
theorem FRch.live {s : store_Store} {t : Tb} {l : List Int} {h : Int} (q : FRch s t l h) : h ∈ lv s := by cases q <;> assumption
open Classical in
theorem frc_mem {s : store_Store} {t : Tb} {l : List Int} {h : Int} : h ∈ frc s t l ↔ FRch s t l h := by
  unfold frc
  rw [List.mem_filter]
  exact ⟨fun q => of_decide_eq_true q.2, fun q => ⟨q.live, decide_eq_true q⟩⟩
theorem frc_len {s : store_Store} (hR : RtR (sO s)) (t : Tb) (l : List Int) : (frc s t l).length ≤ 24 := Nat.le_trans (List.length_filter_le ..) (lv_len hR)
theorem fls_len {s : store_Store} (hR : RtR (sO s)) (t : Tb) (l : List Int) : (fls s t l).length ≤ 24 := Nat.le_trans (List.length_filter_le ..) (lv_len hR)
theorem frc_lb {s : store_Store} (hR : RtR (sO s)) (t : Tb) (l : List Int) : LB (frc s t l) := fun x hx => by have := lv_pos hR (frc_mem.1 hx).live; omega
theorem rcd_lb {s : store_Store} (hR : RtR (sO s)) (l : List Int) : LB (rcd s l) := fun x hx => by have := lv_pos hR (rcd_mem.1 hx).live; omega
theorem frc_cl (s : store_Store) (t : Tb) (l : List Int) : Cl s (frc s t l) := fun a ha b hb hl => frc_mem.2 (.step (frc_mem.1 ha) hb hl)
theorem frc_pcl (s : store_Store) (t : Tb) (l : List Int) : PCl s t (frc s t l) := fun k v h1 h2 _ h3 => frc_mem.2 (.pair h1 (frc_mem.1 h2) h3)
theorem FRch.least {s : store_Store} {t : Tb} {l m : List Int} (hc : Cl s m) (hp : PCl s t m) (hl : ∀ x ∈ l, x ∈ lv s → x ∈ m) {h : Int} (q : FRch s t l h) : h ∈ m := by
  induction q with
  | base h1 h2 => exact hl _ h1 h2
  | step _ h1 h2 ih => exact hc _ ih _ h1 h2
  | pair h1 h2 h3 ih => exact hp _ _ h1 ih h2.live h3
theorem FRch.mono {s : store_Store} {t u : Tb} {l m : List Int} (ht : ∀ k v, Has t k v → Has u k v) (hl : ∀ x ∈ l, x ∈ lv s → FRch s u m x) {h : Int} (q : FRch s t l h) : FRch s u m h := by
  induction q with
  | base h1 h2 => exact hl _ h1 h2
  | step _ h1 h2 ih => exact .step ih h1 h2
  | pair h1 _ h3 ih => exact .pair (ht _ _ h1) ih h3
theorem Rch.frch {s : store_Store} (t : Tb) {l : List Int} {h : Int} (q : Rch s l h) : FRch s t l h := by
  induction q with
  | base h1 h2 => exact .base h1 h2
  | step _ h1 h2 ih => exact .step ih h1 h2
theorem frc_congr {s : store_Store} {t u : Tb} {l m : List Int} (h : ∀ x, FRch s t l x ↔ FRch s u m x) : frc s t l = frc s u m := by
  unfold frc
  exact List.filter_congr fun x _ => decide_eq_decide.2 (h x)
theorem owd_mem {s : store_Store} {t : Tb} {l : List Int} {v : Int} : v ∈ owd s t l ↔ ∃ k, Has t k v ∧ k ∈ l ∧ k ∈ lv s ∧ v ∈ lv s := by
  unfold owd
  rw [List.mem_map]
  constructor
  · rintro ⟨p, hp, rfl⟩
    obtain ⟨h1, h2⟩ := List.mem_filter.1 hp
    exact ⟨p.Key, mem_prs.1 h1, of_decide_eq_true h2⟩
  · rintro ⟨k, h1, h2⟩
    exact ⟨⟨k, v⟩, List.mem_filter.2 ⟨mem_prs.2 h1, decide_eq_true h2⟩, rfl⟩
theorem owd_cl {s : store_Store} {t : Tb} {l : List Int} : (∀ v ∈ owd s t l, v ∈ l) ↔ PCl s t l := by
  constructor
  · exact fun h k v h1 h2 h3 h4 => h v (owd_mem.2 ⟨k, h1, h2, h3, h4⟩)
  · intro h v hv
    obtain ⟨k, h1, h2, h3, h4⟩ := owd_mem.1 hv
    exact h k v h1 h2 h3 h4
theorem owd_len {s : store_Store} {t : Tb} (hT : HR t) (l : List Int) : (owd s t l).length ≤ 8 := by
  unfold owd
  rw [List.length_map]
  exact Nat.le_trans (List.length_filter_le ..) (prs_le hT.l8)
theorem owd_lb {s : store_Store} (hR : RtR (sO s)) (t : Tb) (l : List Int) : LB (owd s t l) := fun x hx => by
  obtain ⟨_, _, _, _, h⟩ := owd_mem.1 hx
  have := lv_pos hR h
  omega
noncomputable def rnds (s : store_Store) (t : Tb) (l : List Int) : Nat → List Int
  | 0 => rcd s l
  | k + 1 => rcd s (rnds s t l k ++ owd s t (rnds s t l k))
section
variable {s : store_Store} {t : Tb} {l : List Int}
theorem rnds_succ (k : Nat) : rnds s t l (k + 1) = rcd s (rnds s t l k ++ owd s t (rnds s t l k)) := rfl
theorem rnds_rcd (k : Nat) : ∃ m, rnds s t l k = rcd s m := by
  cases k with
  | zero => exact ⟨_, rfl⟩
  | succ k => exact ⟨_, rfl⟩
theorem rnds_cl (k : Nat) : Cl s (rnds s t l k) := by
  obtain ⟨m, e⟩ := rnds_rcd (s := s) (t := t) (l := l) k
  rw [e]
  exact rcd_cl s m
theorem rnds_live (k : Nat) {x : Int} (h : x ∈ rnds s t l k) : x ∈ lv s := by
  obtain ⟨m, e⟩ := rnds_rcd (s := s) (t := t) (l := l) k
  rw [e] at h
  exact (rcd_mem.1 h).live
theorem rnds_inc (k : Nat) {x : Int} (h : x ∈ rnds s t l k) : x ∈ rnds s t l (k + 1) := rcd_mem.2 (.base (List.mem_append.2 (.inl h)) (rnds_live k h))
theorem rnds_base (k : Nat) : ∀ x ∈ l, x ∈ lv s → x ∈ rnds s t l k := by
  induction k with
  | zero => exact fun x h1 h2 => rcd_mem.2 (.base h1 h2)
  | succ k ih => exact fun x h1 h2 => rnds_inc k (ih x h1 h2)
theorem rnds_sub (k : Nat) : ∀ x ∈ rnds s t l k, FRch s t l x := by
  induction k with
  | zero => exact fun x h => (rcd_mem.1 h).frch t
  | succ k ih =>
    intro x h
    have := rcd_mem.1 h
    induction this with
    | base h1 h2 =>
      rcases List.mem_append.1 h1 with q | q
      · exact ih _ q
      · obtain ⟨k', q1, q2, q3, q4⟩ := owd_mem.1 q
        exact .pair q1 (ih _ q2) q4
    | step h0 h1 h2 ih2 => exact .step (ih2 (rcd_mem.2 h0)) h1 h2
theorem rnds_stop {k : Nat} (h : PCl s t (rnds s t l k)) : rnds s t l k = frc s t l := by
  obtain ⟨m, e⟩ := rnds_rcd (s := s) (t := t) (l := l) k
  have hm : ∀ x, Rch s m x ↔ FRch s t l x := fun x => by
    rw [← rcd_mem, ← e]
    exact ⟨rnds_sub k x, fun q => q.least (rnds_cl k) h (rnds_base k)⟩
  rw [e]
  unfold rcd frc
  exact List.filter_congr fun x _ => decide_eq_decide.2 (hm x)
theorem rnds_still {k : Nat} (h : PCl s t (rnds s t l k)) : rnds s t l (k + 1) = rnds s t l k := by
  obtain ⟨m, e⟩ := rnds_rcd (s := s) (t := t) (l := l) k
  rw [rnds_succ]
  have h' := owd_cl.2 h
  rw [e] at h' ⊢
  refine rcd_congr fun x => ⟨fun q => ?_, fun q => .base (List.mem_append.2 (.inl (rcd_mem.2 q))) q.live⟩
  refine q.mono fun y hy _ => ?_
  rcases List.mem_append.1 hy with c | c
  · exact rcd_mem.1 c
  · exact rcd_mem.1 (h' y c)
theorem rnds_grow {k : Nat} (h : ¬ PCl s t (rnds s t l k)) : ((prs t).filter fun p => decide (p.Val ∈ rnds s t l k)).length < ((prs t).filter fun p => decide (p.Val ∈ rnds s t l (k + 1))).length := by
  obtain ⟨v, hv, hn⟩ : ∃ v, v ∈ owd s t (rnds s t l k) ∧ v ∉ rnds s t l k := Classical.byContradiction fun q => h (owd_cl.1 fun v hv => Classical.byContradiction fun q2 => q ⟨v, hv, q2⟩)
  obtain ⟨k', h1, h2, h3, h4⟩ := owd_mem.1 hv
  refine filter_lt (fun p _ hp => ?_) ⟨k', v⟩ (mem_prs.2 h1) ?_ ?_
  · rw [decide_eq_true_iff] at hp ⊢
    exact rnds_inc k hp
  · rw [decide_eq_true_iff]
    exact rcd_mem.2 (.base (List.mem_append.2 (.inr hv)) h4)
  · exact decide_eq_false hn
theorem rnds_end (s : store_Store) (t : Tb) (l : List Int) : ∃ n, n ≤ (prs t).length ∧ PCl s t (rnds s t l n) ∧ ∀ j, j < n → ¬ PCl s t (rnds s t l j) := by
  have key : ∀ k, (∃ j, j ≤ k ∧ PCl s t (rnds s t l j)) ∨ k < ((prs t).filter fun p => decide (p.Val ∈ rnds s t l (k + 1))).length := by
    intro k
    induction k with
    | zero =>
      by_cases h : PCl s t (rnds s t l 0)
      · exact .inl ⟨0, Nat.le_refl _, h⟩
      · have := rnds_grow h
        exact .inr (by omega)
    | succ k ih =>
      rcases ih with ⟨j, h1, h2⟩ | ih
      · exact .inl ⟨j, by omega, h2⟩
      · by_cases h : PCl s t (rnds s t l (k + 1))
        · exact .inl ⟨k + 1, Nat.le_refl _, h⟩
        · have := rnds_grow h
          exact .inr (by omega)
  obtain ⟨j, h1, h2⟩ : ∃ j, j ≤ (prs t).length ∧ PCl s t (rnds s t l j) := by
    rcases key (prs t).length with q | q
    · exact q
    · have := List.length_filter_le (fun p : ephem_Pair => decide (p.Val ∈ rnds s t l ((prs t).length + 1))) (prs t)
      omega
  obtain ⟨n, hn, hmin⟩ := exists_min (p := fun j => PCl s t (rnds s t l j)) ⟨j, h2⟩
  exact ⟨n, Nat.le_trans (hmin j h2) h1, hn, fun i hi q => by have := hmin i q; omega⟩
end
noncomputable def rnd (s : store_Store) (t : Tb) (l : List Int) : Nat := Classical.choose (rnds_end s t l)
theorem rnd_le (s : store_Store) (t : Tb) (l : List Int) : rnd s t l ≤ (prs t).length := (Classical.choose_spec (rnds_end s t l)).1
theorem rnd_stop (s : store_Store) (t : Tb) (l : List Int) : PCl s t (rnds s t l (rnd s t l)) := (Classical.choose_spec (rnds_end s t l)).2.1
theorem rnd_min (s : store_Store) (t : Tb) (l : List Int) {j : Nat} (h : j < rnd s t l) : ¬ PCl s t (rnds s t l j) := (Classical.choose_spec (rnds_end s t l)).2.2 j h
theorem rnd_of {s : store_Store} {t : Tb} {l : List Int} {n : Nat} (h1 : PCl s t (rnds s t l n)) (h2 : ∀ j, j < n → ¬ PCl s t (rnds s t l j)) : rnd s t l = n := by
  rcases Nat.lt_trichotomy (rnd s t l) n with q | q | q
  · exact absurd (rnd_stop s t l) (h2 _ q)
  · exact q
  · exact absurd h1 (rnd_min s t l q)
section
variable {s : store_Store} (hR : RtR (sO s)) {t : Tb} (hT : HR t) (hTB : TB t)
include hR hT hTB
omit hT hTB in
theorem lives1_eq {h : Int} (hh : h ≤ 9223372036854775807) : fix_owed_1 h s = some (decide (h ∈ lv s)) := by
  obtain ⟨e, h1, h2⟩ := get_ob hR hh
  unfold fix_owed_1
  rw [h1, Option.bind_some]
  congr 1
  rw [Bool.eq_iff_iff, beq_iff_eq, decide_eq_true_iff]
  exact h2
omit hT hTB in
theorem lives12_eq {h : Int} (hh : h ≤ 9223372036854775807) : r12_lives (sO s) h = some (decide (h ∈ lv s)) := by
  obtain ⟨e, h1, h2⟩ := get_ob hR hh
  unfold r12_lives
  rw [get06 s (by have := rt_len hR; omega) hh, h1]
  simp only [Option.map_some, Option.bind_some]
  congr 1
  rw [Bool.eq_iff_iff, beq_iff_eq, decide_eq_true_iff]
  exact h2
theorem owed_eq {l : List Int} (hl : l.length ≤ 1000000) : fix_owed s t l = some (owd s t l) := by
  unfold fix_owed
  simp only [jn, pairs_eq hT, Option.bind_some]
  have h8 := prs_le hT.l8
  rw [lp_foldl ((prs t)) (fun b p => b ++ (if decide (p.Key ∈ l ∧ p.Key ∈ lv s ∧ p.Val ∈ lv s) then [p.Val] else [])) id (fun k b => b.length ≤ k) (by omega) (by simp) (fun k hk b hb => ?_) (fun b _ => ?_)]
  · simp only [Option.bind_some, id]
    rw [foldl_flat]
    congr 1
    unfold owd
    rw [List.nil_append]
    generalize prs t = P
    induction P with
    | nil => rfl
    | cons p P ih =>
      rw [List.flatMap_cons, List.filter_cons, ih]
      by_cases q : p.Key ∈ l ∧ p.Key ∈ lv s ∧ p.Val ∈ lv s
      · simp [q]
      · simp [q]
  · have hb' := hTB.has (mem_prs.1 (List.getElem_mem hk))
    simp only [Int.ofNat_lt, hk, decide_true, if_true, ix_at hk, Option.bind_some, contains_eq _ _ hl]
    rw [lives1_eq hR hb'.1, lives1_eq hR hb'.2]
    by_cases q1 : (prs t)[k].Key ∈ l
    · rw [decide_eq_true q1]
      simp only [beq_self_eq_true, onlyT, Option.bind_some, Bool.true_and]
      by_cases q2 : (prs t)[k].Key ∈ lv s
      · rw [decide_eq_true q2]
        simp only [beq_self_eq_true, onlyT, Option.bind_some, Bool.true_and]
        by_cases q3 : (prs t)[k].Val ∈ lv s
        · rw [if_pos (by simpa using q3), app_ok (by omega) (by simp; omega), Option.bind_some, w64_nat, if_pos (by simp [q1, q2, q3])]
          exact ⟨rfl, by simp; omega⟩
        · rw [if_neg (by simpa using q3), w64_nat, if_neg (by simp [q3]), List.append_nil]
          exact ⟨rfl, by omega⟩
      · rw [decide_eq_false q2]
        simp only [show ((false == true) : Bool) = false from rfl, onlyF, Option.bind_some, Bool.false_and, Bool.false_eq_true, if_false]
        rw [w64_nat, if_neg (by simp [q2]), List.append_nil]
        exact ⟨rfl, by omega⟩
    · rw [decide_eq_false q1]
      simp only [show ((false == true) : Bool) = false from rfl, onlyF, Option.bind_some, Bool.false_and, Bool.false_eq_true, if_false]
      rw [w64_nat, if_neg (by simp [q1]), List.append_nil]
      exact ⟨rfl, by omega⟩
  · simp only [Int.lt_irrefl, decide_false, Bool.false_eq_true, if_false]
    rfl
theorem held12_eq {l : List Int} (hl : l.length ≤ 1000000) : r12_held (sO s) (t.map hpl) l = some (owd s t l) := by
  unfold r12_held
  simp only [jn, rpairs_eq hT, Option.bind_some]
  have h8 := prs_le hT.l8
  rw [lp_foldl ((prs t)) (fun b p => b ++ (if decide (p.Key ∈ l ∧ p.Key ∈ lv s ∧ p.Val ∈ lv s) then [p.Val] else [])) id (fun k b => b.length ≤ k) (by omega) (by simp) (fun k hk b hb => ?_) (fun b _ => ?_)]
  · simp only [Option.bind_some, id]
    rw [foldl_flat]
    congr 1
    unfold owd
    rw [List.nil_append]
    generalize prs t = P
    induction P with
    | nil => rfl
    | cons p P ih =>
      rw [List.flatMap_cons, List.filter_cons, ih]
      by_cases q : p.Key ∈ l ∧ p.Key ∈ lv s ∧ p.Val ∈ lv s
      · simp [q]
      · simp [q]
  · have hb' := hTB.has (mem_prs.1 (List.getElem_mem hk))
    have hk' : k < ((prs t).map pp).length := by simpa using hk
    have eix : ix ((prs t).map pp) (k : Int) = some (pp (prs t)[k]) := by rw [ix_map', ix_at hk]; rfl
    simp only [List.length_map, Int.ofNat_lt, hk, decide_true, if_true, eix, Option.bind_some, has08_eq _ _ hl, pp]
    rw [lives12_eq hR hb'.1, lives12_eq hR hb'.2]
    simp only [Option.bind_some]
    by_cases q1 : (prs t)[k].Key ∈ lv s
    · rw [decide_eq_true q1]
      simp only [beq_self_eq_true, onlyT, Option.bind_some, Bool.true_and]
      have h0 := lv_nz hR _ q1
      by_cases q2 : (prs t)[k].Key ∈ l
      · rw [decide_eq_true (show (prs t)[k].Key ≠ 0 ∧ (prs t)[k].Key ∈ l from ⟨h0, q2⟩)]
        simp only [beq_self_eq_true, onlyT, Option.bind_some, Bool.true_and]
        by_cases q3 : (prs t)[k].Val ∈ lv s
        · rw [if_pos (by simpa using q3), app_ok (by omega) (by simp; omega), Option.bind_some, w64_nat, if_pos (by simp [q1, q2, q3])]
          exact ⟨rfl, by simp; omega⟩
        · rw [if_neg (by simpa using q3), w64_nat, if_neg (by simp [q3]), List.append_nil]
          exact ⟨rfl, by omega⟩
      · rw [decide_eq_false (show ¬ ((prs t)[k].Key ≠ 0 ∧ (prs t)[k].Key ∈ l) from fun q => q2 q.2)]
        simp only [show ((false == true) : Bool) = false from rfl, onlyF, Option.bind_some, Bool.false_and, Bool.false_eq_true, if_false]
        rw [w64_nat, if_neg (by simp [q2]), List.append_nil]
        exact ⟨rfl, by omega⟩
    · rw [decide_eq_false q1]
      simp only [show ((false == true) : Bool) = false from rfl, onlyF, Option.bind_some, Bool.false_and, Bool.false_eq_true, if_false]
      rw [w64_nat, if_neg (by simp [q1]), List.append_nil]
      exact ⟨rfl, by omega⟩
  · simp only [List.length_map, Int.lt_irrefl, decide_false, Bool.false_eq_true, if_false]
    rfl
theorem grown_eq (hF : FB s) {l : List Int} (hl : LB l) (hlen : l.length ≤ 1000000) : fix_grown s t l = some (frc s t l, (rnd s t l : Int)) := by
  unfold fix_grown
  rw [from_eq hR hF hl hlen, Option.bind_some]
  simp only [jn]
  have hn := rnd_le s t l
  have h8 := prs_le hT.l8
  have hstep : ∀ k, ∃ m, rnds s t l k = rcd s m := rnds_rcd
  refine lpb_road (p := fun k => (rnds s t l k, (k : Int))) rfl (rnd s t l) (fun _ => True) (by omega) trivial (fun k hk _ => .inl ⟨?_, trivial⟩) (fun _ => ?_)
  · obtain ⟨m, hm⟩ := hstep k
    have hlk : (rnds s t l k).length ≤ 24 := by rw [hm]; exact rcd_len hR m
    have hlb : LB (rnds s t l k) := by rw [hm]; exact rcd_lb hR m
    have hno := rnd_min s t l hk
    simp only
    rw [owed_eq hR hT hTB (by omega), Option.bind_some]
    have ho := owd_len (s := s) hT (rnds s t l k)
    obtain ⟨j, ⟨hj, hjn⟩, hmin⟩ := exists_min (p := fun j => ∃ hj : j < (owd s t (rnds s t l k)).length, (owd s t (rnds s t l k))[j] ∉ rnds s t l k) (by
      refine Classical.byContradiction fun q => hno (owd_cl.1 fun v hv => Classical.byContradiction fun q2 => ?_)
      obtain ⟨j, hj, e⟩ := List.mem_iff_getElem.1 hv
      exact q ⟨j, hj, by rw [e]; exact q2⟩)
    refine lpb_up (owd s t (rnds s t l k)).length (fun i => i ≤ j) (by omega) (Nat.zero_le _) (fun i hi hP => ?_) (fun hP => by omega)
    simp only [Int.ofNat_lt, hi, decide_true, if_true, ix_at hi, Option.bind_some]
    rw [contains_eq _ _ (by omega), Option.bind_some]
    rcases Nat.lt_or_ge i j with q | q
    · refine .inl ⟨?_, q⟩
      have : (owd s t (rnds s t l k))[i] ∈ rnds s t l k := Classical.byContradiction fun q2 => by have := hmin i ⟨hi, q2⟩; omega
      rw [if_neg (by simp [this]), w64_nat]
    · have : i = j := by omega
      subst this
      refine .inr ⟨.inl (rnds s t l (k + 1), ((k + 1 : Nat) : Int)), ?_, rfl⟩
      rw [if_pos (by simp [hjn]), app_ok (by omega) (by omega), Option.bind_some, from_eq hR hF (fun x hx => by
        rcases List.mem_append.1 hx with q | q
        · exact owd_lb hR t _ x q
        · exact hlb x q) (by simp; omega), Option.bind_some, w64_nat, rnds_succ]
      rw [rcd_congr (l := owd s t (rnds s t l k) ++ rnds s t l k) (m := rnds s t l k ++ owd s t (rnds s t l k)) fun x => ⟨fun q => q.mono fun y hy hyl => .base (List.mem_append.2 (List.mem_append.1 hy).symm) hyl, fun q => q.mono fun y hy hyl => .base (List.mem_append.2 (List.mem_append.1 hy).symm) hyl⟩]
  · have hst := rnd_stop s t l
    have hfr := rnds_stop hst
    refine ⟨(frc s t l, (rnd s t l : Int)), ?_, rfl⟩
    simp only
    rw [hfr] at hst ⊢
    have hfl := frc_len hR t l
    rw [owed_eq hR hT hTB (by omega), Option.bind_some]
    have ho := owd_len (s := s) hT (frc s t l)
    refine lpb_up (owd s t (frc s t l)).length (fun _ => True) (by omega) trivial (fun i hi _ => .inl ⟨?_, trivial⟩) (fun _ => ⟨.inr (), by simp, rfl⟩)
    have := owd_cl.2 hst _ (List.getElem_mem hi)
    simp only [Int.ofNat_lt, hi, decide_true, if_true, ix_at hi, Option.bind_some]
    rw [contains_eq _ _ (by omega), Option.bind_some, if_neg (by simp [this]), w64_nat]
theorem rounds12_eq {l : List Int} (hlen : l.length ≤ 1000000) : r12_rounds (sO s) (t.map hpl) l = some (frc s t l, (rnd s t l : Int)) := by
  unfold r12_rounds
  rw [from08_eq hR hlen, Option.bind_some]
  simp only [jn]
  have hn := rnd_le s t l
  have h8 := prs_le hT.l8
  have hone : ∀ k, r08_From (sO s) (rnds s t l k ++ owd s t (rnds s t l k)) = some (rnds s t l (k + 1)) ∧ (rnds s t l k).length ≤ 24 ∧ (owd s t (rnds s t l k)).length ≤ 8 ∧ r12_held (sO s) (t.map hpl) (rnds s t l k) = some (owd s t (rnds s t l k)) := fun k => by
    obtain ⟨m, hm⟩ := rnds_rcd (s := s) (t := t) (l := l) k
    have hlk : (rnds s t l k).length ≤ 24 := by rw [hm]; exact rcd_len hR m
    have ho := owd_len (s := s) hT (rnds s t l k)
    exact ⟨by rw [from08_eq hR (by simp; omega), rnds_succ], hlk, ho, held12_eq hR hT hTB (by omega)⟩
  refine lpb_road (p := fun k => (rnds s t l k, (k : Int))) rfl (rnd s t l) (fun _ => True) (by omega) trivial (fun k hk _ => .inl ⟨?_, trivial⟩) (fun _ => ?_)
  · obtain ⟨h1, h2, h3, h4⟩ := hone k
    obtain ⟨_, h2', _, _⟩ := hone (k + 1)
    have hne : rnds s t l (k + 1) ≠ rnds s t l k := fun e => by
      have := rnds_grow (rnd_min s t l hk)
      rw [e] at this
      omega
    simp only
    rw [if_pos (by simp; omega), app_nil (by omega) (by omega), Option.bind_some, h4, Option.bind_some, app_ok (by omega) (by omega), Option.bind_some, h1, Option.bind_some, Ints_eq _ _ (by omega), Option.bind_some, if_neg (by simpa using hne), w64_nat]
  · obtain ⟨h1, h2, h3, h4⟩ := hone (rnd s t l)
    obtain ⟨_, h2', _, _⟩ := hone (rnd s t l + 1)
    have hst := rnd_stop s t l
    refine ⟨.inl (frc s t l, (rnd s t l : Int)), ?_, rfl⟩
    simp only
    rw [if_pos (by simp; omega), app_nil (by omega) (by omega), Option.bind_some, h4, Option.bind_some, app_ok (by omega) (by omega), Option.bind_some, h1, Option.bind_some, Ints_eq _ _ (by omega), Option.bind_some, if_pos (by simpa using rnds_still hst), rnds_stop hst]
theorem ffrom_eq (hF : FB s) {l : List Int} (hl : LB l) (hlen : l.length ≤ 1000000) : fix_From s t l = some (frc s t l) := by
  unfold fix_From
  rw [grown_eq hR hT hTB hF hl hlen]
  rfl
theorem frounds_eq (hF : FB s) {l : List Int} (hl : LB l) (hlen : l.length ≤ 1000000) : fix_Rounds s t l = some (rnd s t l : Int) := by
  unfold fix_Rounds
  rw [grown_eq hR hT hTB hF hl hlen]
  rfl
theorem ffrom12_eq {l : List Int} (hlen : l.length ≤ 1000000) : r12_From (sO s) (t.map hpl) l = some (frc s t l) := by
  unfold r12_From
  rw [rounds12_eq hR hT hTB hlen]
  rfl
theorem frounds12_eq {l : List Int} (hlen : l.length ≤ 1000000) : r12_Rounds (sO s) (t.map hpl) l = some (rnd s t l : Int) := by
  unfold r12_Rounds
  rw [rounds12_eq hR hT hTB hlen]
  rfl
omit hT hTB hR in
theorem rch_frc {l : List Int} {x : Int} : Rch s (frc s t l) x ↔ FRch s t l x := by
  constructor
  · intro q
    exact frc_mem.1 (Rch.least (frc_cl s t l) (fun x h _ => h) q)
  · exact fun q => .base (frc_mem.2 q) q.live
theorem flost_eq (hF : FB s) {l : List Int} (hl : LB l) (hlen : l.length ≤ 1000000) : fix_Lost s t l = some (fls s t l) := by
  unfold fix_Lost
  rw [ffrom_eq hR hT hTB hF hl hlen, Option.bind_some, lost_eq hR hF (frc_lb hR t l) (by have := frc_len hR t l; omega), Option.bind_some]
  congr 1
  unfold lst fls
  exact List.filter_congr fun x _ => decide_eq_decide.2 (not_congr rch_frc)
open Classical in
theorem flost12_eq {l : List Int} (hlen : l.length ≤ 1000000) : r12_Lost (sO s) (t.map hpl) l = some (fls s t l) := by
  unfold r12_Lost
  have h24 := lv_len hR
  have hfl := frc_len hR t l
  rw [ffrom12_eq hR hT hTB hlen, Option.bind_some, live06 hR, Option.bind_some]
  simp only [jn]
  rw [lp_foldl (lv s) (fun acc x => if decide (¬ FRch s t l x) then acc ++ [x] else acc) id (fun k acc => acc.length ≤ k) (by omega) (by simp) (fun k hk acc hb => ?_) (fun b _ => ?_)]
  · simp only [Option.bind_some, id]
    rw [foldl_filter]
    rfl
  · simp only [Int.ofNat_lt, hk, decide_true, if_true, ix_at hk, Option.bind_some]
    rw [has08_eq _ _ (by omega), Option.bind_some]
    have h0 := lv_nz hR _ (List.getElem_mem hk)
    by_cases q : FRch s t l (lv s)[k]
    · have e : (lv s)[k] ∈ frc s t l := frc_mem.2 q
      rw [if_neg (by simp [e, h0]), if_neg (by simpa using q), w64_nat]
      exact ⟨rfl, by omega⟩
    · have e : (lv s)[k] ∉ frc s t l := fun h => q (frc_mem.1 h)
      rw [if_pos (by simp [e]), if_pos (by simpa using q), app_ok (by omega) (by simp; omega), Option.bind_some, w64_nat]
      exact ⟨rfl, by simp; omega⟩
  · simp only [Int.lt_irrefl, decide_false, Bool.false_eq_true, if_false]
    rfl
open Classical in
theorem fclosed_eq (hF : FB s) {l : List Int} (hl : LB l) (hlen : l.length ≤ 1000000) : fix_Closed s t l = some (decide (Cl s l ∧ PCl s t l)) := by
  unfold fix_Closed
  rw [closed_eq hR hF hl hlen, Option.bind_some, owed_eq hR hT hTB hlen]
  by_cases hc : Cl s l
  · rw [decide_eq_true hc]
    simp only [beq_self_eq_true, onlyT, Option.bind_some, Bool.true_and]
    have ho := owd_len (s := s) hT l
    have : ∃ r : Int, slices_IndexFunc_int_int__fix_Closed_1 (owd s t l) l = some r ∧ (0 ≤ r ↔ ¬ PCl s t l) := by
      unfold slices_IndexFunc_int_int__fix_Closed_1 fix_Closed_1
      simp only [jn]
      by_cases hp : PCl s t l
      · refine ⟨-1, ?_, by simp [hp]⟩
        refine lpb_up (owd s t l).length (fun _ => True) (by omega) trivial (fun i hi _ => .inl ⟨?_, trivial⟩) (fun _ => ⟨.inr (), by simp, rfl⟩)
        have := owd_cl.2 hp _ (List.getElem_mem hi)
        simp only [Int.ofNat_lt, hi, decide_true, if_true, ix_at hi, Option.bind_some]
        rw [contains_eq _ _ hlen, Option.bind_some, Option.bind_some, if_neg (by simp [this]), w64_nat]
      · obtain ⟨j, ⟨hj, hjn⟩, hmin⟩ := exists_min (p := fun j => ∃ hj : j < (owd s t l).length, (owd s t l)[j] ∉ l) (by
          refine Classical.byContradiction fun q => hp (owd_cl.1 fun v hv => Classical.byContradiction fun q2 => ?_)
          obtain ⟨j, hj, e⟩ := List.mem_iff_getElem.1 hv
          exact q ⟨j, hj, by rw [e]; exact q2⟩)
        refine ⟨(j : Int), ?_, by simp [hp]⟩
        refine lpb_up (owd s t l).length (fun i => i ≤ j) (by omega) (Nat.zero_le _) (fun i hi hP => ?_) (fun hP => by omega)
        simp only [Int.ofNat_lt, hi, decide_true, if_true, ix_at hi, Option.bind_some]
        rw [contains_eq _ _ hlen, Option.bind_some, Option.bind_some]
        rcases Nat.lt_or_ge i j with q | q
        · have : (owd s t l)[i] ∈ l := Classical.byContradiction fun q2 => by have := hmin i ⟨hi, q2⟩; omega
          exact .inl ⟨by rw [if_neg (by simp [this]), w64_nat], q⟩
        · have : i = j := by omega
          subst this
          exact .inr ⟨.inl (i : Int), by rw [if_pos (by simp [hjn])], rfl⟩
    obtain ⟨r, h1, h2⟩ := this
    unfold slices_ContainsFunc_int_int__fix_Closed_1
    rw [h1]
    simp only [Option.bind_some]
    congr 1
    rw [Bool.eq_iff_iff, Bool.not_eq_true', decide_eq_false_iff_not, decide_eq_true_iff]
    constructor
    · exact fun q => ⟨hc, Classical.byContradiction fun q2 => q (h2.2 q2)⟩
    · exact fun q q2 => h2.1 q2 q.2
  · rw [decide_eq_false hc, decide_eq_false (fun q => hc q.1)]
    rfl
open Classical in
theorem fclosed12_eq {l : List Int} (hl : LB l) (hlen : l.length ≤ 1000000) : r12_Closed (sO s) (t.map hpl) l = some (decide (Cl s l ∧ PCl s t l)) := by
  unfold r12_Closed
  rw [held12_eq hR hT hTB hlen, Option.bind_some]
  simp only [jn]
  have ho := owd_len (s := s) hT l
  have hnz : ∀ i (hi : i < (owd s t l).length), (owd s t l)[i] ≠ 0 := fun i hi => by
    obtain ⟨_, _, _, _, h⟩ := owd_mem.1 (List.getElem_mem hi)
    exact lv_nz hR _ h
  by_cases hp : PCl s t l
  · refine lpb_up (owd s t l).length (fun _ => True) (by omega) trivial (fun i hi _ => .inl ⟨?_, trivial⟩) (fun _ => ⟨.inr (), by simp, ?_⟩)
    · have := owd_cl.2 hp _ (List.getElem_mem hi)
      simp only [Int.ofNat_lt, hi, decide_true, if_true, ix_at hi, Option.bind_some]
      rw [has08_eq _ _ hlen, Option.bind_some, if_neg (by simp [this, hnz i hi]), w64_nat]
    · simp only
      rw [closed08_eq hR hlen, Option.bind_some]
      congr 1
      rw [decide_eq_decide, ← cl_iff hR hl]
      exact ⟨fun q => ⟨q, hp⟩, fun q => q.1⟩
  · obtain ⟨j, ⟨hj, hjn⟩, hmin⟩ := exists_min (p := fun j => ∃ hj : j < (owd s t l).length, (owd s t l)[j] ∉ l) (by
      refine Classical.byContradiction fun q => hp (owd_cl.1 fun v hv => Classical.byContradiction fun q2 => ?_)
      obtain ⟨j, hj, e⟩ := List.mem_iff_getElem.1 hv
      exact q ⟨j, hj, by rw [e]; exact q2⟩)
    rw [decide_eq_false (fun q : Cl s l ∧ PCl s t l => hp q.2)]
    refine lpb_up (owd s t l).length (fun i => i ≤ j) (by omega) (Nat.zero_le _) (fun i hi hP => ?_) (fun hP => by omega)
    simp only [Int.ofNat_lt, hi, decide_true, if_true, ix_at hi, Option.bind_some]
    rw [has08_eq _ _ hlen, Option.bind_some]
    rcases Nat.lt_or_ge i j with q | q
    · have : (owd s t l)[i] ∈ l := Classical.byContradiction fun q2 => by have := hmin i ⟨hi, q2⟩; omega
      exact .inl ⟨by rw [if_neg (by simp [this, hnz i hi]), w64_nat], q⟩
    · have : i = j := by omega
      subst this
      exact .inr ⟨.inl false, by rw [if_pos (by simp [hjn])], rfl⟩
end
end Go.Sh
namespace Go.Sh
set_option linter.unusedVariables false
set_option linter.unusedSimpArgs false
theorem its12 (s : store_Store) (h : s.S.Cells.length ≤ 30) : w12_its s = some (sO s) := by
  unfold w12_its
  simp only [jn, w12_obj, Option.bind_some]
  have e := lp_collect (b := 80) cO s.S.Cells (by omega) (by omega)
  simp only [cO, oo] at e
  rw [e]
  rfl
theorem small12 (s : store_Store) : w12_small s = some (decide (Sm s)) := by
  unfold w12_small
  simp only [jn]
  refine lpb_up (min s.S.Cells.length 30) (fun k => ∀ j (h : j < s.S.Cells.length), j < k → s.S.Cells[j].Val.Fields.length ≤ 10) (by omega) (fun _ _ h => by omega) (fun k hk hP => ?_) (fun hP => ?_)
  · have hk1 : k < s.S.Cells.length := by omega
    have hk2 : k < 30 := by omega
    have hc : ((decide ((k : Int) < (s.S.Cells.length : Int))) && (decide ((k : Int) < 30))) = true := by simp; omega
    by_cases g : s.S.Cells[k].Val.Fields.length ≤ 10
    · refine .inl ⟨?_, fun j h hj => ?_⟩
      · rw [hc]
        simp only [if_true, ix_at hk1, Option.bind_some]
        rw [if_neg (by simp; omega), w64_nat]
      · rcases Nat.lt_or_ge j k with q | q
        · exact hP j h q
        · have : j = k := by omega
          subst this; exact g
    · refine .inr ⟨.inl false, ?_, ?_⟩
      · rw [hc]
        simp only [if_true, ix_at hk1, Option.bind_some]
        rw [if_pos (by simp; omega)]
      · simp only
        rw [decide_eq_false (fun q : Sm s => g (q.2 k hk1))]
  · refine ⟨.inr (), ?_, ?_⟩
    · rw [show ((decide (((min s.S.Cells.length 30 : Nat) : Int) < (s.S.Cells.length : Int))) && (decide (((min s.S.Cells.length 30 : Nat) : Int) < 30))) = false by
        rcases Nat.lt_or_ge s.S.Cells.length 30 with q | q
        · simp; omega
        · simp; omega]
      rfl
    · simp only
      congr 1
      rw [decide_eq_decide]
      constructor
      · intro q
        exact ⟨by omega, fun i h => hP i h (by omega)⟩
      · intro q
        have := q.1
        omega
theorem right12 (s : store_Store) : ∃ b, w12_right s = some b ∧ (b = true ↔ StR s) := by
  unfold w12_right
  rw [small12, Option.bind_some]
  by_cases h : Sm s ∧ s.Serial < 1000000000
  · rw [show (decide (Sm s) && decide (s.Serial < 1000000000)) = true by simp [h.1, h.2]]
    simp only [beq_self_eq_true, onlyT, its12 s h.1.1, Option.bind_some, Bool.true_and]
    obtain ⟨b, h1, h2⟩ := Right06 (sO s) (by have := h.1.1; simp [sO]; omega)
    rw [h1, Option.bind_some]
    refine ⟨b, rfl, h2.trans ⟨fun q => ⟨q, h.2, h.1.2⟩, fun q => q.rt⟩⟩
  · rw [show (decide (Sm s) && decide (s.Serial < 1000000000)) = false by
      rw [Bool.and_eq_false_iff, decide_eq_false_iff_not, decide_eq_false_iff_not]; exact Decidable.not_and_iff_or_not.1 h]
    refine ⟨false, by simp [onlyIf], ?_⟩
    simp only [Bool.false_eq_true, false_iff]
    intro q
    exact h ⟨⟨by have := q.rt.len; simp [sO] at this; omega, q.fl⟩, q.big⟩
end Go.Sh
namespace Go.Sh
set_option linter.unusedVariables false
set_option linter.unusedSimpArgs false
theorem tab12 (t : Tb) (h : t.length ≤ 1000) : w12_tab t = some (t.map hpl) := by
  unfold w12_tab
  simp only [jn]
  have e := lp_collect (b := 24) hpl t (by omega) (by omega)
  simp only [hpl] at e
  rw [e]
  rfl
theorem even12 (t : Tb) : ∃ b, w12_even t = some b ∧ (b = true ↔ HR t) := by
  unfold w12_even
  by_cases h : t.length ≤ 8
  · have hd : decide ((t.length : Int) ≤ 8) = true := by simp; omega
    rw [hd]
    obtain ⟨b, hb, hbR⟩ := rright_eq t (by omega)
    simp only [onlyIf, beq_self_eq_true, if_true, tab12 t (by omega), Option.bind_some, hb, Bool.true_and]
    exact ⟨b, rfl, hbR⟩
  · have hd : decide ((t.length : Int) ≤ 8) = false := by simp; omega
    rw [hd]
    exact ⟨false, by simp [onlyIf], ⟨fun q => (by cases q), fun hR => absurd hR.l8 h⟩⟩
end Go.Sh
namespace Go.Sh
set_option linter.unusedVariables false
set_option linter.unusedSimpArgs false
theorem hr_of {t : Tb} (h1 : t.length ≤ 1000) (h : r10_Right (t.map hpl) = some true) : HR t := by
  obtain ⟨b, q1, q2⟩ := rright_eq t h1
  rw [h] at q1
  exact q2.1 (Option.some.inj q1).symm
abbrev S12 : store_Store := ⟨⟨[⟨1, 0, ⟨1, 0, 0, -1, false, [0]⟩⟩, ⟨1, 0, ⟨2, 0, 0, -1, false, [0]⟩⟩, ⟨1, 0, ⟨3, 0, 0, -1, false, [0]⟩⟩, ⟨1, 0, ⟨4, 0, 0, -1, false, [0]⟩⟩, ⟨0, 0, z0⟩], 3⟩, 4⟩
abbrev t12 : Tb := [⟨0, 0, 0⟩, ⟨0, 0, 0⟩, ⟨0, 0, 0⟩, ⟨1, 2, 3⟩, ⟨0, 0, 0⟩, ⟨1, 4, 4⟩, ⟨1, 1, 2⟩, ⟨0, 0, 0⟩]
open Classical in
theorem shown12 : w12_shown = some true := by
  have a1 : store_New 5 3 = some ⟨⟨[⟨0, 0, z0⟩, ⟨0, 0, z0⟩, ⟨0, 0, z0⟩, ⟨0, 0, z0⟩, ⟨0, 0, z0⟩], 3⟩, 0⟩ := by kernel_rfl
  have a2 : lp (S := Int × store_Store) (E := store_Store) (fun ((s23, s24) : Int × store_Store) =>
      if (decide (s23 < 4)) then
        (store_Make s24 1 (-1)).bind fun v27 =>
        some (.inl (w64 (s23 + 1), v27.1))
      else
      some (.inr s24)) (0, ⟨⟨[⟨0, 0, z0⟩, ⟨0, 0, z0⟩, ⟨0, 0, z0⟩, ⟨0, 0, z0⟩, ⟨0, 0, z0⟩], 3⟩, 0⟩) = some S12 := by kernel_rfl
  have a3 : hash_New 8 = some [⟨0, 0, 0⟩, ⟨0, 0, 0⟩, ⟨0, 0, 0⟩, ⟨0, 0, 0⟩, ⟨0, 0, 0⟩, ⟨0, 0, 0⟩, ⟨0, 0, 0⟩, ⟨0, 0, 0⟩] := by kernel_rfl
  have a4 : ephem_Set [⟨0, 0, 0⟩, ⟨0, 0, 0⟩, ⟨0, 0, 0⟩, ⟨0, 0, 0⟩, ⟨0, 0, 0⟩, ⟨0, 0, 0⟩, ⟨0, 0, 0⟩, ⟨0, 0, 0⟩] 1 2 = some ([⟨0, 0, 0⟩, ⟨0, 0, 0⟩, ⟨0, 0, 0⟩, ⟨0, 0, 0⟩, ⟨0, 0, 0⟩, ⟨0, 0, 0⟩, ⟨1, 1, 2⟩, ⟨0, 0, 0⟩], 0, 0) := by kernel_rfl
  have a5 : ephem_Set [⟨0, 0, 0⟩, ⟨0, 0, 0⟩, ⟨0, 0, 0⟩, ⟨0, 0, 0⟩, ⟨0, 0, 0⟩, ⟨0, 0, 0⟩, ⟨1, 1, 2⟩, ⟨0, 0, 0⟩] 2 3 = some ([⟨0, 0, 0⟩, ⟨0, 0, 0⟩, ⟨0, 0, 0⟩, ⟨1, 2, 3⟩, ⟨0, 0, 0⟩, ⟨0, 0, 0⟩, ⟨1, 1, 2⟩, ⟨0, 0, 0⟩], 0, 0) := by kernel_rfl
  have a6 : ephem_Set [⟨0, 0, 0⟩, ⟨0, 0, 0⟩, ⟨0, 0, 0⟩, ⟨1, 2, 3⟩, ⟨0, 0, 0⟩, ⟨0, 0, 0⟩, ⟨1, 1, 2⟩, ⟨0, 0, 0⟩] 4 4 = some (t12, 0, 0) := by kernel_rfl
  have hR : RtR (sO S12) := rtR_of (by decide) (by kernel_rfl)
  have hT : HR t12 := hr_of (by decide) (by kernel_rfl)
  have hF : FB S12 := by
    intro c hc x hx
    simp only [List.mem_cons, List.not_mem_nil, or_false] at hc
    rcases hc with rfl | rfl | rfl | rfl | rfl
    all_goals first | (cases hx; done) | (simp only [List.mem_cons, List.not_mem_nil, or_false] at hx; omega)
  have hTB : TB t12 := by
    intro p hp
    simp only [List.mem_cons, List.not_mem_nil, or_false] at hp
    rcases hp with rfl | rfl | rfl | rfl | rfl | rfl | rfl | rfl <;> exact ⟨by decide, by decide⟩
  have hl : lv S12 = [1, 2, 3, 4] := lv_of hR (by rw [show hnds 0 S12.S.Cells = [1, 2, 3, 4] from by decide]) (by decide)
  have ho : ∀ x ∈ lv S12, outs S12 x = [] := by
    intro x hx
    rw [hl] at hx
    simp only [List.mem_cons, List.not_mem_nil, or_false] at hx
    rcases hx with rfl | rfl | rfl | rfl <;> kernel_rfl
  have hcl : ∀ l : List Int, LB l → Cl S12 l := fun l hlb a ha b hb _ => by
    by_cases q : a ∈ lv S12
    · rw [ho a q] at hb; cases hb
    · rw [outs_no hR (hlb a ha) q] at hb; cases hb
  have hr : ∀ l : List Int, rcd S12 l = [1, 2, 3, 4].filter fun x => decide (x ∈ l) := fun l => by
    unfold rcd
    rw [hl]
    refine List.filter_congr fun x hx => decide_eq_decide.2 ⟨fun q => ?_, fun q => .base q (by rw [hl]; exact hx)⟩
    cases q with
    | base h1 _ => exact h1
    | step h0 h1 _ => rw [ho _ h0.live] at h1; cases h1
  have hw : ∀ l : List Int, owd S12 t12 l = (([⟨2, 3⟩, ⟨4, 4⟩, ⟨1, 2⟩] : List ephem_Pair).filter fun p => decide (p.Key ∈ l)).map (·.Val) := fun l => by
    unfold owd
    rw [show prs t12 = [⟨2, 3⟩, ⟨4, 4⟩, ⟨1, 2⟩] from by kernel_rfl]
    congr 1
    refine List.filter_congr fun p hp => decide_eq_decide.2 ⟨fun q => q.1, fun q => ⟨q, ?_⟩⟩
    rw [hl]
    simp only [List.mem_cons, List.not_mem_nil, or_false] at hp
    rcases hp with rfl | rfl | rfl <;> simp
  have r0 : rnds S12 t12 [1] 0 = [1] := by
    show rcd S12 [1] = _
    rw [hr]
    simp
  have w0 : owd S12 t12 [1] = [2] := by rw [hw]; simp
  have r1 : rnds S12 t12 [1] 1 = [1, 2] := by
    rw [rnds_succ, r0, w0, hr]
    simp
  have w1 : owd S12 t12 [1, 2] = [3, 2] := by rw [hw]; simp
  have r2 : rnds S12 t12 [1] 2 = [1, 2, 3] := by
    rw [rnds_succ, r1, w1, hr]
    simp
  have w2 : owd S12 t12 [1, 2, 3] = [3, 2] := by rw [hw]; simp
  have p2 : PCl S12 t12 [1, 2, 3] := owd_cl.1 (by rw [w2]; simp)
  have p1 : ¬ PCl S12 t12 [1, 2] := fun q => by
    have := owd_cl.2 q 3 (by rw [w1]; simp)
    simp at this
  have p0 : ¬ PCl S12 t12 [1] := fun q => by
    have := owd_cl.2 q 2 (by rw [w0]; simp)
    simp at this
  have hn : rnd S12 t12 [1] = 2 := rnd_of (by rw [r2]; exact p2) (fun j hj => by
    match j, hj with
    | 0, _ => rw [r0]; exact p0
    | 1, _ => rw [r1]; exact p1)
  have hf : frc S12 t12 [1] = [1, 2, 3] := by
    rw [← r2, rnds_stop (by rw [r2]; exact p2)]
  have hs : fls S12 t12 [1] = [4] := by
    have : fls S12 t12 [1] = (lv S12).filter fun x => decide (x ∉ ([1, 2, 3] : List Int)) := by
      unfold fls
      refine List.filter_congr fun x _ => ?_
      rw [← hf, decide_eq_decide, frc_mem]
    rw [this, hl]
    decide
  have hn0 : rnd S12 t12 [] = 0 := rnd_of (by
    show PCl S12 t12 (rcd S12 [])
    rw [hr]
    intro k v _ h2
    simp at h2) (fun j hj => by omega)
  have lb1 : LB [1] := fun x hx => by simp at hx; omega
  have lb0 : LB [] := fun x hx => by cases hx
  have lb3 : LB [1, 2, 3] := fun x hx => by simp at hx; omega
  have lb2 : LB [1, 2] := fun x hx => by simp at hx; omega
  have f1 := ffrom_eq hR hT hTB hF lb1 (by simp)
  have f2 := flost_eq hR hT hTB hF lb1 (by simp)
  have f3 := frounds_eq hR hT hTB hF lb1 (by simp)
  have f4 := frounds_eq hR hT hTB hF lb0 (by simp)
  have f5 := fclosed_eq hR hT hTB hF lb3 (by simp)
  have f6 := fclosed_eq hR hT hTB hF lb2 (by simp)
  rw [hf] at f1
  rw [hs] at f2
  rw [hn] at f3
  rw [hn0] at f4
  rw [decide_eq_true ⟨hcl _ lb3, p2⟩] at f5
  rw [decide_eq_false (fun q => p1 q.2)] at f6
  unfold w12_shown
  rw [a1, Option.bind_some]
  simp only [jn]
  rw [show lp _ _ = _ from a2, Option.bind_some, a3, Option.bind_some, a4, Option.bind_some]
  dsimp only
  rw [a5, Option.bind_some]
  dsimp only
  rw [a6, Option.bind_some]
  dsimp only
  rw [f1, Option.bind_some, f2, Option.bind_some, f3, f4, f5, f6]
  rfl
theorem gate12 {s : store_Store} {t : Tb} {c : Bool} {r : Option Bool} (h : StR s → HR t → c = true → r = some true) :
    ((w12_right s).bind fun v1 => (onlyIf ((!v1) == false) false (w12_even t)).bind fun v2 => (onlyIf ((((!v1) || (!v2)) || !c) == false) false w12_shown).bind fun v3 => if ((((!v1) || (!v2)) || !c) || (!v3)) then (w12_shown).bind fun v4 => some v4 else r) = some true := by
  obtain ⟨v, hv, hR⟩ := right12 s
  obtain ⟨b, hb, hT⟩ := even12 t
  rw [hv, Option.bind_some, shown12, hb]
  cases v
  · simp [onlyIf]
  · cases b
    · simp [onlyIf]
    · cases c
      · simp [onlyIf]
      · simp only [Bool.not_true, Bool.or_self, beq_self_eq_true, onlyT, Option.bind_some, Bool.false_eq_true, if_false]
        exact h (hR.1 rfl) (hT.1 rfl) rfl
theorem not50 (l : List Int) : decide ((l.length : Int) > 50) = !decide (l.length ≤ 50) := by rw [← decide_not, decide_eq_decide]; omega
theorem not50b (l m : List Int) (x : Bool) : ((x || decide ((l.length : Int) > 50)) || decide ((m.length : Int) > 50)) = (x || !decide (l.length ≤ 50 ∧ m.length ≤ 50)) := by
  rw [Bool.or_assoc]; congr 1
  rw [Bool.eq_iff_iff]; simp; omega
section
variable (s : store_Store) (hF : FB s) (t : Tb) (hTB : TB t)
include hF hTB
theorem fixTells {l : List Int} (hl : LB l) : w12_FixTells s t l = some true := by
  unfold w12_FixTells
  rw [not50]
  refine gate12 fun hS hT hc => ?_
  have hR := hS.rt
  have hc : l.length ≤ 50 := of_decide_eq_true hc
  have h1 := frc_len hR t l
  have h2 := fls_len hR t l
  rw [its12 s (by have := rt_len hR; omega), Option.bind_some, tab12 t (by have := hT.l8; omega), Option.bind_some, ffrom_eq hR hT hTB hF hl (by omega), Option.bind_some, ffrom12_eq hR hT hTB (by omega), Option.bind_some, Ints_eq _ _ (by omega), Option.bind_some, decide_eq_true rfl]
  simp only [beq_self_eq_true, onlyT]
  rw [flost_eq hR hT hTB hF hl (by omega), Option.bind_some, flost12_eq hR hT hTB (by omega), Option.bind_some, Ints_eq _ _ (by omega), Option.bind_some, decide_eq_true rfl]
  simp only [beq_self_eq_true, onlyT, Bool.and_self]
  rw [fclosed_eq hR hT hTB hF hl (by omega), Option.bind_some, fclosed12_eq hR hT hTB hl (by omega), Option.bind_some]
  simp only [beq_self_eq_true, onlyT, Bool.and_self]
  rw [frounds_eq hR hT hTB hF hl (by omega), Option.bind_some, frounds12_eq hR hT hTB (by omega), Option.bind_some]
  simp
omit hF hTB in
theorem two_loops {r l m all : List Int} (hr : r.length ≤ 1000) (hl : l.length ≤ 1000) (hm : m.length ≤ 1000) (ha : all.length ≤ 1000) (h0 : ∀ x ∈ all, x ≠ 0) (hr0 : ∀ x ∈ r, x ≠ 0) (h1 : ∀ x ∈ all, x ∈ l → tms r x = 1) (P : Prop) [Decidable P] (h2 : P → (∀ x ∈ all, x ∈ l → x ∈ m) → ∀ x ∈ r, x ∈ m) :
    ((lp (S := Bool × Int) (E := Bool ⊕ Bool) (fun ((s42, s43) : Bool × Int) =>
      if (decide (s43 < (all.length : Int))) then
          (ix all s43).bind fun v52 =>
          (r07_Times l v52).bind fun v53 =>
          if (decide (v53 > 0)) then
            (r07_Times r v52).bind fun v54 =>
            if (v54 != 1) then
              some (.inr (.inl false))
            else
            (onlyIf (s42 == true) 0 (r07_Times m v52)).bind fun v55 =>
            some (.inl ((s42 && (decide (v55 > 0))), w64 (s43 + 1)))
          else
          some (.inl (s42, w64 (s43 + 1)))
      else
      some (.inr (.inr s42))) (decide P, 0)).bind fun e41 =>
    match e41 with
    | .inl w => some w
    | .inr w => 
      (lp (S := Int) (E := Bool ⊕ Unit) (fun (s37 : Int) =>
        if (decide (s37 < (r.length : Int))) then
          (onlyIf (w == true) (0 : Int) (ix r s37)).bind fun v39 =>
          (onlyIf (w == true) 0 (r07_Times m v39)).bind fun v40 =>
          if (w && (v40 == 0)) then
            some (.inr (.inl false))
          else
          some (.inl (w64 (s37 + 1)))
        else
        some (.inr (.inr ()))) 0).bind fun e36 =>
      match e36 with
      | .inl w => some w
      | .inr w => some true) = some true := by
  refine lpb_ind (s0 := ((decide P, 0) : Bool × Int)) (fun q => ∃ k : Nat, q.2 = (k : Int) ∧ k ≤ all.length ∧ (q.1 = true ↔ P ∧ ∀ x ∈ all.take k, x ∈ l → x ∈ m)) (fun q => all.length - q.2.toNat) ⟨0, rfl, Nat.zero_le _, by simp⟩ (by show all.length - _ < _; omega) ?_
  rintro ⟨b, _⟩ ⟨k, rfl, hk, hb⟩
  simp only at hb
  rcases Nat.lt_or_ge k all.length with hk | hk'
  · left
    have hx := List.getElem_mem hk
    have hx0 := h0 _ hx
    have htk : ∀ x, x ∈ all.take (k + 1) ↔ x ∈ all.take k ∨ x = all[k] := fun x => by rw [List.take_succ_eq_append_getElem hk, List.mem_append, List.mem_singleton]
    simp only [Int.ofNat_lt, hk, decide_true, if_true, ix_at hk, Option.bind_some]
    rw [times07_eq _ _ (by omega), Option.bind_some]
    by_cases q : all[k] ∈ l
    · have : 0 < tms l all[k] := tms_pos.2 ⟨hx0, q⟩
      rw [if_pos (by simpa using this), times07_eq _ _ (by omega), Option.bind_some, h1 _ hx q, if_neg (by simp), times07_eq _ _ (by omega), w64_nat]
      have e : (onlyIf (b == true) 0 (some (tms m all[k] : Int))) = some (if b then (tms m all[k] : Int) else 0) := by cases b <;> rfl
      rw [e, Option.bind_some]
      refine ⟨_, rfl, ⟨k + 1, rfl, hk, ?_⟩, by show all.length - ((k + 1 : Nat) : Int).toNat < all.length - (k : Int).toNat; omega⟩
      simp only
      cases b
      · simp only [Bool.false_and, Bool.false_eq_true, false_iff]
        intro q3
        exact absurd (hb.2 ⟨q3.1, fun x hx => q3.2 x ((htk x).2 (.inl hx))⟩) (by decide)
      · obtain ⟨b1, b2⟩ := hb.1 rfl
        simp only [Bool.true_and, if_true, decide_eq_true_iff]
        constructor
        · intro q3
          refine ⟨b1, fun x hx => ?_⟩
          rcases (htk x).1 hx with hx | rfl
          · exact b2 x hx
          · exact fun _ => (tms_pos.1 (by omega)).2
        · intro q3
          have := tms_pos.2 ⟨hx0, q3.2 _ ((htk _).2 (.inr rfl)) q⟩
          omega
    · have : ¬ 0 < tms l all[k] := fun h => q (tms_pos.1 h).2
      rw [if_neg (by simpa using this), w64_nat]
      refine ⟨_, rfl, ⟨k + 1, rfl, hk, ?_⟩, by show all.length - ((k + 1 : Nat) : Int).toNat < all.length - (k : Int).toNat; omega⟩
      simp only
      rw [hb]
      constructor
      · rintro ⟨q1, q2⟩
        refine ⟨q1, fun x hx => ?_⟩
        rcases (htk x).1 hx with hx | rfl
        · exact q2 x hx
        · exact fun h => absurd h q
      · rintro ⟨q1, q2⟩
        exact ⟨q1, fun x hx => q2 x ((htk x).2 (.inl hx))⟩
  · right
    have : k = all.length := by omega
    subst this
    refine ⟨.inr b, by simp only [Int.lt_irrefl, decide_false, Bool.false_eq_true, if_false], ?_⟩
    simp only
    cases b
    · refine lpb_up r.length (fun _ => True) (by omega) trivial (fun j hj _ => .inl ⟨?_, trivial⟩) (fun _ => ⟨.inr (), by simp, rfl⟩)
      simp only [Int.ofNat_lt, hj, decide_true, if_true, show ((false == true) : Bool) = false from rfl, onlyF, Option.bind_some, Bool.false_and, Bool.false_eq_true, if_false]
      rw [w64_nat]
    · obtain ⟨b1, b2⟩ := hb.1 rfl
      rw [List.take_length] at b2
      refine lpb_up r.length (fun _ => True) (by omega) trivial (fun j hj _ => .inl ⟨?_, trivial⟩) (fun _ => ⟨.inr (), by simp, rfl⟩)
      have hj2 := List.getElem_mem hj
      have := tms_pos.2 ⟨hr0 _ hj2, h2 b1 b2 _ hj2⟩
      simp only [Int.ofNat_lt, hj, decide_true, if_true, beq_self_eq_true, onlyT, ix_at hj, Option.bind_some]
      rw [times07_eq _ _ (by omega), Option.bind_some, if_neg (by simp; omega), w64_nat]
open Classical in
theorem fixLeast {l m : List Int} (hl : LB l) (hm : LB m) : w12_FixLeast s t l m = some true := by
  unfold w12_FixLeast
  simp only [not50b]
  refine gate12 fun hS hT hc => ?_
  have hR := hS.rt
  obtain ⟨hc1, hc2⟩ : l.length ≤ 50 ∧ m.length ≤ 50 := of_decide_eq_true hc
  have h1 := frc_len hR t l
  have h24 := lv_len hR
  have hb := frc_lb hR t l
  rw [its12 s (by have := rt_len hR; omega), Option.bind_some, ffrom_eq hR hT hTB hF hl (by omega), Option.bind_some, tab12 t (by have := hT.l8; omega), show decide (((frc s t l).length : Int) > 24) = false by simp; omega]
  simp only [beq_self_eq_true, onlyT, Option.bind_some]
  rw [fclosed12_eq hR hT hTB hb (by omega), Option.bind_some, decide_eq_true ⟨frc_cl s t l, frc_pcl s t l⟩, if_neg (by simp), live06 hR, Option.bind_some, fclosed12_eq hR hT hTB hm (by omega), Option.bind_some]
  simp only [jn]
  refine two_loops (r := frc s t l) (l := l) (m := m) (all := lv s) (by omega) (by omega) (by omega) (by omega) (lv_nz hR) (fun x hx => lv_nz hR x (frc_mem.1 hx).live) (fun x hx hxl => ?_) (Cl s m ∧ PCl s t m) (fun hP h x hx => (frc_mem.1 hx).least hP.1 hP.2 fun y hy hyl => h y hyl hy)
  have := count_filter_nodup (lv_nodup hR) (fun h => decide (FRch s t l h)) x
  unfold tms frc
  rw [if_neg (lv_nz hR x hx), this, if_pos ⟨hx, decide_eq_true (.base hxl hx)⟩]
omit hF hTB in
theorem rnd_none {l : List Int} (h : ∀ k v, Has t k v → ¬ Rch s l k) : frc s t l = rcd s l ∧ rnd s t l = 0 := by
  have hp : PCl s t (rnds s t l 0) := fun k v h1 h2 _ _ => absurd (rcd_mem.1 (show k ∈ rcd s l from h2)) (h k v h1)
  exact ⟨(rnds_stop hp).symm, rnd_of hp fun j hj => by omega⟩
theorem fixPlain {l : List Int} (hl : LB l) : w12_FixPlain s t l = some true := by
  unfold w12_FixPlain
  rw [not50]
  refine gate12 fun hS hT hc => ?_
  have hR := hS.rt
  have hc : l.length ≤ 50 := of_decide_eq_true hc
  have h1 := rcd_len hR l
  have h3 := frc_len hR t l
  have h8 := prs_le hT.l8
  have hnew : hash_New 8 = some [⟨0, 0, 0⟩, ⟨0, 0, 0⟩, ⟨0, 0, 0⟩, ⟨0, 0, 0⟩, ⟨0, 0, 0⟩, ⟨0, 0, 0⟩, ⟨0, 0, 0⟩, ⟨0, 0, 0⟩] := by kernel_rfl
  have hTn : HR [⟨0, 0, 0⟩, ⟨0, 0, 0⟩, ⟨0, 0, 0⟩, ⟨0, 0, 0⟩, ⟨0, 0, 0⟩, ⟨0, 0, 0⟩, ⟨0, 0, 0⟩, ⟨0, 0, 0⟩] := hr_of (by decide) (by kernel_rfl)
  have hTBn : TB [⟨0, 0, 0⟩, ⟨0, 0, 0⟩, ⟨0, 0, 0⟩, ⟨0, 0, 0⟩, ⟨0, 0, 0⟩, ⟨0, 0, 0⟩, ⟨0, 0, 0⟩, ⟨0, 0, 0⟩] := by
    intro p hp
    simp only [List.mem_cons, List.not_mem_nil, or_false, or_self] at hp
    subst hp
    exact ⟨by decide, by decide⟩
  have hnp : ∀ k v, ¬ Has [⟨0, 0, 0⟩, ⟨0, 0, 0⟩, ⟨0, 0, 0⟩, ⟨0, 0, 0⟩, ⟨0, 0, 0⟩, ⟨0, 0, 0⟩, ⟨0, 0, 0⟩, ⟨0, 0, 0⟩] k v := fun k v q => by
    have := mem_prs (p := ⟨k, v⟩).2 q
    rw [show prs [⟨0, 0, 0⟩, ⟨0, 0, 0⟩, ⟨0, 0, 0⟩, ⟨0, 0, 0⟩, ⟨0, 0, 0⟩, ⟨0, 0, 0⟩, ⟨0, 0, 0⟩, ⟨0, 0, 0⟩] = [] from by kernel_rfl] at this
    cases this
  have hfn : frc s [⟨0, 0, 0⟩, ⟨0, 0, 0⟩, ⟨0, 0, 0⟩, ⟨0, 0, 0⟩, ⟨0, 0, 0⟩, ⟨0, 0, 0⟩, ⟨0, 0, 0⟩, ⟨0, 0, 0⟩] l = rcd s l := (rnd_none s _ fun k v q => absurd q (hnp k v)).1
  rw [from_eq hR hF hl (by omega), Option.bind_some, pairs_eq hT, Option.bind_some]
  simp only [jn]
  refine lpb_ind (s0 := ((true, 0) : Bool × Int)) (fun q => ∃ k : Nat, q.2 = (k : Int) ∧ k ≤ (prs t).length ∧ (q.1 = true ↔ ∀ p ∈ (prs t).take k, ¬ Rch s l p.Key)) (fun q => (prs t).length - q.2.toNat) ⟨0, rfl, Nat.zero_le _, by simp⟩ (by show (prs t).length - _ < _; omega) ?_
  rintro ⟨b, _⟩ ⟨k, rfl, hk, hb⟩
  simp only at hb
  rcases Nat.lt_or_ge k (prs t).length with hk | hk'
  · left
    have htk : ∀ x, x ∈ (prs t).take (k + 1) ↔ x ∈ (prs t).take k ∨ x = (prs t)[k] := fun x => by rw [List.take_succ_eq_append_getElem hk, List.mem_append, List.mem_singleton]
    simp only [Int.ofNat_lt, hk, decide_true, if_true, ix_at hk]
    rw [w64_nat]
    have hx : 0 < tms (rcd s l) (prs t)[k].Key ↔ Rch s l (prs t)[k].Key := by
      rw [tms_pos, rcd_mem]
      exact ⟨fun q => q.2, fun q => ⟨lv_nz hR _ q.live, q⟩⟩
    cases b
    · refine ⟨_, rfl, ⟨k + 1, rfl, hk, ?_⟩, by show (prs t).length - ((k + 1 : Nat) : Int).toNat < (prs t).length - (k : Int).toNat; omega⟩
      simp only [Bool.false_and, Bool.false_eq_true, false_iff]
      intro q
      exact absurd (hb.2 fun p hp => q p ((htk p).2 (.inl hp))) (by decide)
    · simp only [beq_self_eq_true, onlyT, Option.bind_some, Bool.true_and]
      rw [times07_eq _ _ (by omega), Option.bind_some]
      refine ⟨_, rfl, ⟨k + 1, rfl, hk, ?_⟩, by show (prs t).length - ((k + 1 : Nat) : Int).toNat < (prs t).length - (k : Int).toNat; omega⟩
      simp only [beq_iff_eq]
      constructor
      · intro q p hp
        rcases (htk p).1 hp with hp | rfl
        · exact hb.1 rfl p hp
        · exact fun q2 => by have := hx.2 q2; omega
      · intro q
        have := q _ ((htk _).2 (.inr rfl))
        have : ¬ 0 < tms (rcd s l) (prs t)[k].Key := fun q2 => this (hx.1 q2)
        omega
  · right
    have : k = (prs t).length := by omega
    subst this
    refine ⟨b, by simp only [Int.lt_irrefl, decide_false, Bool.false_eq_true, if_false], ?_⟩
    rw [hnew, Option.bind_some, ffrom_eq hR hTn hTBn hF hl (by omega), Option.bind_some, hfn, Ints_eq _ _ (by omega), Option.bind_some, decide_eq_true rfl]
    cases b
    · rfl
    · obtain ⟨e1, e2⟩ := rnd_none s t (l := l) fun k v q => hb.1 rfl ⟨k, v⟩ (by rw [List.take_length]; exact mem_prs.2 q)
      simp only [Bool.not_true, beq_self_eq_true, Bool.and_self, onlyT]
      rw [ffrom_eq hR hT hTB hF hl (by omega), Option.bind_some, e1, Ints_eq _ _ (by omega), Option.bind_some, decide_eq_true rfl]
      simp only [beq_self_eq_true, Bool.and_self, onlyT]
      rw [frounds_eq hR hT hTB hF hl (by omega), Option.bind_some, e2]
      rfl
open Classical in
theorem fixTwice {l : List Int} (hl : LB l) : w12_FixTwice s t l = some true := by
  unfold w12_FixTwice
  rw [not50]
  refine gate12 fun hS hT hc => ?_
  have hR := hS.rt
  have hc : l.length ≤ 50 := of_decide_eq_true hc
  have h1 := frc_len hR t l
  have hb := frc_lb hR t l
  have e1 : frc s t (frc s t l) = frc s t l := frc_congr fun x => ⟨fun q => q.mono (fun _ _ h => h) fun y hy _ => frc_mem.1 hy, fun q => .base (frc_mem.2 q) q.live⟩
  have e2 : rcd s (frc s t l) = frc s t l := by
    unfold rcd
    conv => rhs; unfold frc
    exact List.filter_congr fun x _ => decide_eq_decide.2 rch_frc
  have e3 : rnd s t (frc s t l) = 0 := rnd_of (by
    show PCl s t (rcd s (frc s t l))
    rw [e2]
    exact frc_pcl s t l) fun j hj => by omega
  rw [ffrom_eq hR hT hTB hF hl (by omega), Option.bind_some, ffrom_eq hR hT hTB hF hb (by omega), Option.bind_some, e1, Ints_eq _ _ (by omega), Option.bind_some, decide_eq_true rfl]
  simp only [beq_self_eq_true, onlyT]
  rw [from_eq hR hF hb (by omega), Option.bind_some, e2, Ints_eq _ _ (by omega), Option.bind_some, decide_eq_true rfl]
  simp only [beq_self_eq_true, onlyT, Bool.and_self]
  rw [frounds_eq hR hT hTB hF hb (by omega), Option.bind_some, e3]
  rw [show ((((0 : Nat) : Int) == 0) : Bool) = true from rfl]
  simp only [beq_self_eq_true, onlyT, Bool.and_self]
  rw [fclosed_eq hR hT hTB hF hb (by omega), Option.bind_some, decide_eq_true ⟨frc_cl s t l, frc_pcl s t l⟩]
  rfl
end
theorem set_more {t : Tb} (hT : HR t) {k v : Int} (hn : ∀ i, ¬ Fk t k i) : ∃ r, ephem_Set t k v = some r ∧ HR r.1 ∧ (∀ k' v', Has t k' v' → Has r.1 k' v') ∧ ∀ k' v', Has r.1 k' v' → Has t k' v' ∨ (k' = k ∧ v' = v) := by
  unfold ephem_Set
  by_cases hk : k = 0
  · rw [if_pos (by simpa using hk)]
    exact ⟨_, rfl, hT, fun _ _ h => h, fun _ _ h => .inl h⟩
  · rw [if_neg (by simpa using hk), get_no hT hn, Option.bind_some]
    by_cases hv : v = 0
    · rw [if_pos (by simpa using hv), drop_no hT hn, Option.bind_some]
      exact ⟨_, rfl, hT, fun _ _ h => h, fun _ _ h => .inl h⟩
    · rw [if_neg (by simpa using hv)]
      obtain ⟨r, hr, hp⟩ := put_eq hT k v
      rw [hr, Option.bind_some]
      by_cases h0 : r.2 = 0
      · rw [if_neg (by simpa using h0)]
        refine ⟨_, rfl, putR_right hT hp, fun k' v' h => (put_has hT hp h0 k' v').2 (.inr ⟨fun e => ?_, h⟩), fun k' v' h => ?_⟩
        · obtain ⟨i, hi, _⟩ := h
          exact hn i (e ▸ hi)
        · rcases (put_has hT hp h0 k' v').1 h with q | q
          · exact .inr q
          · exact .inl q.2
      · rw [if_pos (by simpa using h0)]
        exact ⟨_, rfl, hT, fun _ _ h => h, fun _ _ h => .inl h⟩
theorem tb_has {t : Tb} (hT : HR t) (h : ∀ k v, Has t k v → k ≤ 9223372036854775807 ∧ v ≤ 9223372036854775807) : TB t := by
  intro p hp
  obtain ⟨i, hi, rfl⟩ := List.getElem_of_mem hp
  by_cases q : (pt t i).State = 1
  · have := h (pt t i).Key (pt t i).Val ⟨i, ⟨hi, q, rfl⟩, rfl⟩
    rwa [pt_lt hi] at this
  · have := (hT.st i hi).2 q
    rw [pt_lt hi] at this
    omega
theorem set_any {t : Tb} (hT : HR t) (hTB : TB t) {k v : Int} (hk : k ≤ 9223372036854775807) (hv : v ≤ 9223372036854775807) : ∃ r, ephem_Set t k v = some r ∧ HR r.1 ∧ TB r.1 := by
  rcases fk_or t k with ⟨i, hi⟩ | hn
  · unfold ephem_Set
    by_cases hk0 : k = 0
    · rw [if_pos (by simpa using hk0)]
      exact ⟨_, rfl, hT, hTB⟩
    · rw [if_neg (by simpa using hk0), get_of hT hi, Option.bind_some]
      by_cases hv0 : v = 0
      · rw [if_pos (by simpa using hv0), drop_of hT hi, Option.bind_some]
        refine ⟨_, rfl, dropR_right hT hi.1, tb_has (dropR_right hT hi.1) fun k' v' h => hTB.has ((drop_has hT hi k' v').1 h).2⟩
      · rw [if_neg (by simpa using hv0)]
        obtain ⟨r, hr, hp⟩ := put_eq hT k v
        rw [hr, Option.bind_some]
        by_cases h0 : r.2 = 0
        · rw [if_neg (by simpa using h0)]
          refine ⟨_, rfl, putR_right hT hp, tb_has (putR_right hT hp) fun k' v' h => ?_⟩
          rcases (put_has hT hp h0 k' v').1 h with ⟨rfl, rfl⟩ | q
          · exact ⟨hk, hv⟩
          · exact hTB.has q.2
        · rw [if_pos (by simpa using h0)]
          exact ⟨_, rfl, hT, hTB⟩
  · obtain ⟨r, h1, h2, _, h4⟩ := set_more hT (v := v) hn
    refine ⟨r, h1, h2, tb_has h2 fun k' v' h => ?_⟩
    rcases h4 k' v' h with q | ⟨rfl, rfl⟩
    · exact hTB.has q
    · exact ⟨hk, hv⟩
theorem fixMore (s : store_Store) (hF : FB s) (t : Tb) (hTB : TB t) {l m : List Int} (hl : LB l) (hm : LB m) {key val : Int} (hk : key ≤ 9223372036854775807) (hv : val ≤ 9223372036854775807) : w12_FixMore s t l m key val = some true := by
  unfold w12_FixMore
  simp only [not50b]
  refine gate12 fun hS hT hc => ?_
  have hR := hS.rt
  obtain ⟨hc1, hc2⟩ : l.length ≤ 50 ∧ m.length ≤ 50 := of_decide_eq_true hc
  have hlm : LB (l ++ m) := fun x hx => by
    rcases List.mem_append.1 hx with q | q
    · exact hl x q
    · exact hm x q
  have h1 := frc_len hR t l
  have h2 := fls_len hR t l
  have h3 := frc_len hR t (l ++ m)
  have h24 := lv_len hR
  have hn8 := prs_le hT.l8
  have hrn := rnd_le s t l
  obtain ⟨u, u1, u2, u3⟩ := set_any hT hTB hk hv
  have h4 := frc_len hR u.1 l
  have hsum : (lv s).length = (frc s t l).length + (fls s t l).length := by
    rw [filter_split (fun h => (open Classical in decide (FRch s t l h))) (lv s)]
    unfold frc fls
    congr 2
    refine List.filter_congr fun x _ => ?_
    rw [Bool.eq_iff_iff]
    simp
  have hsub : ∀ x ∈ frc s t l, 0 < tms (frc s t (l ++ m)) x := fun x hx => by
    have hx := frc_mem.1 hx
    exact tms_pos.2 ⟨lv_nz hR _ hx.live, frc_mem.2 (hx.mono (fun _ _ h => h) fun y hy hyl => .base (List.mem_append.2 (.inl hy)) hyl)⟩
  obtain ⟨g, g1, g2⟩ : ∃ g, ephem_Get t key = some g ∧ (g.2 ≠ 0 → ∀ x ∈ frc s t l, 0 < tms (frc s u.1 l) x) := by
    unfold ephem_Get
    rcases fk_or t key with ⟨i, hi⟩ | hn
    · exact ⟨_, by rw [get_of hT hi]; rfl, fun q => absurd rfl q⟩
    · refine ⟨_, by rw [get_no hT hn]; rfl, fun _ x hx => ?_⟩
      obtain ⟨r, r1, _, r3, _⟩ := set_more hT (v := val) hn
      rw [u1] at r1
      cases r1
      have hx := frc_mem.1 hx
      exact tms_pos.2 ⟨lv_nz hR _ hx.live, frc_mem.2 (hx.mono r3 fun y hy hyl => .base hy hyl)⟩
  rw [ffrom_eq hR hT hTB hF hl (by omega), Option.bind_some, app_nil (by omega) (by omega), Option.bind_some, app_ok (by omega) (by omega), Option.bind_some, ffrom_eq hR hT hTB hF hlm (by simp; omega), Option.bind_some, g1, Option.bind_some, u1, Option.bind_some, ffrom_eq hR u2 u3 hF hl (by omega), Option.bind_some]
  simp only [jn]
  refine lpb_up (frc s t l).length (fun _ => True) (by omega) trivial (fun k hk _ => .inl ⟨?_, trivial⟩) (fun _ => ⟨.inr (), by simp, ?_⟩)
  · have hx := List.getElem_mem hk
    have p1 := hsub _ hx
    have hcc : ((decide ((k : Int) < ((frc s t l).length : Int))) && (decide ((k : Int) < 30))) = true := by simp; omega
    rw [hcc]
    simp only [if_true, ix_at hk, Option.bind_some]
    rw [times07_eq _ _ (by omega), Option.bind_some, times07_eq _ _ (by omega)]
    have e1 : (((tms (frc s t (l ++ m)) (frc s t l)[k] : Nat) : Int) == 0) = false := by simp; omega
    rw [e1]
    by_cases q : g.2 = 0
    · have e2 : (g.2 != 0) = false := by simpa using q
      rw [e2]
      simp only [show ((false == true) : Bool) = false from rfl, Bool.and_false, onlyF, Option.bind_some, Bool.false_and, Bool.or_self, Bool.false_eq_true, if_false]
      rw [w64_nat]
    · have e2 : (g.2 != 0) = true := by simpa using q
      have p2 := g2 q _ hx
      rw [e2]
      simp only [beq_self_eq_true, Bool.and_self, onlyT, Option.bind_some, Bool.true_and, Bool.false_or]
      rw [if_neg (by simp; omega), w64_nat]
  · simp only
    rw [frounds_eq hR hT hTB hF hl (by omega), Option.bind_some, pairs_eq hT, Option.bind_some, show decide (((rnd s t l : Nat) : Int) ≤ ((prs t).length : Int)) = true by simp; omega]
    simp only [beq_self_eq_true, onlyT]
    rw [flost_eq hR hT hTB hF hl (by omega), Option.bind_some, its12 s (by have := rt_len hR; omega), Option.bind_some, live06 hR, Option.bind_some, w64_in (by omega) (by omega)]
    simp
    omega
end Go.Sh
