/-
  Several texts of one kind, one behind the other.
-/
import Derived.Test.YtpnajadblhkomaaG7Sh
import Derived.Test.YtpnajadblhkomaaSh1
namespace Go.Sh
set_option linter.unusedVariables false

/-- A handle that names a slot and a generation. -/
def Hnd (h : Int) : Prop := 1 ≤ h ∧ (h - 1) % 32 < 24 ∧ (h - 1) / 32 ≤ 9
instance (h : Int) : Decidable (Hnd h) := by unfold Hnd; infer_instance

theorem hnd_le {h : Int} (q : Hnd h) : 1 ≤ h ∧ h ≤ 320 := by unfold Hnd at q; omega

theorem handle_Pack_eq {i g : Int} (h1 : 0 ≤ i) (h2 : i < 24) (h3 : 0 ≤ g) (h4 : g ≤ 9) : handle_Pack i g = some (1 + i + 32 * g) := by
  unfold handle_Pack
  rw [if_neg (by simp; omega)]
  rw [show w64 (i * 1) = i by rw [w64_def]; omega, show w64 (1 + i) = 1 + i by rw [w64_def]; omega, show w64 (g * 32) = 32 * g by rw [w64_def]; omega, show w64 (1 + i + 32 * g) = 1 + i + 32 * g by rw [w64_def]; omega]

theorem r01_Pack_eq {i g : Int} : r01_Pack i g = some (if 0 ≤ i ∧ i < 24 ∧ 0 ≤ g ∧ g ≤ 9 then 1 + i + 32 * g else 0) := by
  unfold r01_Pack
  split
  · rename_i h; rw [if_neg (by simp at h; omega)]
  · rename_i h
    have h : 0 ≤ i ∧ i < 24 ∧ 0 ≤ g ∧ g ≤ 9 := by simp at h; omega
    rw [if_pos h]
    rw [show w64 (1 + i) = 1 + i by rw [w64_def]; omega, show w64 (32 * g) = 32 * g by rw [w64_def]; omega, show w64 (1 + i + 32 * g) = 1 + i + 32 * g by rw [w64_def]; omega]

theorem handle_parts_eq {h : Int} (hh : h ≤ 9223372036854775807) : handle_parts h = some (if Hnd h then ((h - 1) % 32, (h - 1) / 32, true) else (-1, -1, false)) := by
  unfold handle_parts
  split
  · rename_i q
    rw [if_neg (by unfold Hnd; simp at q; omega)]
  · rename_i q
    have q : 1 ≤ h := by simpa using q
    rw [w64_in (n := h - 1), rem_pos (by omega) (by omega), Option.bind_some, quo_pos (by omega) (by omega) (by omega), Option.bind_some, quo_pos (by omega) (by omega) (by omega), Option.bind_some, Int.ediv_one]
    split
    · rename_i q2
      rw [if_neg (by unfold Hnd; simp at q2; omega)]
    · rename_i q2
      rw [if_pos (by unfold Hnd; simp at q2; omega)]

theorem handle_Slot_eq {h : Int} (hh : h ≤ 9223372036854775807) : handle_Slot h = some (if Hnd h then (h - 1) % 32 else -1) := by
  unfold handle_Slot
  rw [handle_parts_eq hh, Option.bind_some]
  split <;> rfl
theorem handle_Gen_eq {h : Int} (hh : h ≤ 9223372036854775807) : handle_Gen h = some (if Hnd h then (h - 1) / 32 else -1) := by
  unfold handle_Gen
  rw [handle_parts_eq hh, Option.bind_some]
  split <;> rfl

theorem r01_Valid_eq {h : Int} : r01_Valid h = some (decide (Hnd h)) := by
  unfold r01_Valid
  split
  · rename_i q
    rw [decide_eq_false (by unfold Hnd; simp at q; omega)]
  · rename_i q
    have q : 1 ≤ h ∧ h ≤ 400 := by simp at q; omega
    rw [w64_in (n := h - 1), rem_pos (by omega) (by omega), Option.bind_some, quo_pos (by omega) (by omega) (by omega), Option.bind_some, r01_Pack_eq, Option.bind_some]
    congr 1
    by_cases k : Hnd h
    · rw [decide_eq_true k, if_pos (by unfold Hnd at k; omega)]
      simp; omega
    · rw [decide_eq_false k, if_neg (by unfold Hnd at k; omega)]
      simp; omega
theorem r01_Slot_eq {h : Int} : r01_Slot h = some (if Hnd h then (h - 1) % 32 else -1) := by
  unfold r01_Slot
  rw [r01_Valid_eq, Option.bind_some]
  by_cases k : Hnd h
  · have := hnd_le k
    rw [decide_eq_true k, if_neg (by simp), if_pos k, w64_in (n := h - 1), rem_pos (by omega) (by omega), Option.bind_some]
  · rw [decide_eq_false k, if_pos (by simp), if_neg k]
theorem r01_Gen_eq {h : Int} : r01_Gen h = some (if Hnd h then (h - 1) / 32 else -1) := by
  unfold r01_Gen
  rw [r01_Valid_eq, Option.bind_some]
  by_cases k : Hnd h
  · have := hnd_le k
    rw [decide_eq_true k, if_neg (by simp), if_pos k, w64_in (n := h - 1), quo_pos (by omega) (by omega) (by omega), Option.bind_some]
  · rw [decide_eq_false k, if_pos (by simp), if_neg k]
end Go.Sh

namespace Go.Sh
set_option linter.unusedVariables false
set_option linter.unusedSimpArgs false

abbrev z0 : store_Obj := ⟨0, 0, 0, 0, false, []⟩

/-- The handle finds the cell of that place. -/
def FndO (s : slab_Slab_store_Obj) (h : Int) (i : Nat) : Prop := ∃ hi : i < s.Cells.length, Hnd h ∧ (h - 1) % 32 = i ∧ s.Cells[i].Gen = (h - 1) / 32 ∧ (s.Cells[i].State = 1 ∨ s.Cells[i].State = 2)

theorem find_cases_o (s : slab_Slab_store_Obj) {h : Int} (hh : h ≤ 9223372036854775807) :
    (∃ i, FndO s h i ∧ slab_Find_store_Obj s h = some ((i : Int), 0)) ∨ ((∀ i, ¬ FndO s h i) ∧ slab_Find_store_Obj s h = some (-1, if h = 0 then 2 else 3)) := by
  unfold slab_Find_store_Obj
  by_cases h0 : h = 0
  · right
    subst h0
    exact ⟨fun i ⟨_, h1, _⟩ => by unfold Hnd at h1; omega, by simp⟩
  · rw [if_neg (by simpa using h0), handle_Slot_eq hh, Option.bind_some, if_neg h0]
    by_cases hd : Hnd h
    · rw [if_pos hd]
      have hd' := hd
      unfold Hnd at hd'
      obtain ⟨k, hk⟩ : ∃ k : Nat, (h - 1) % 32 = k := ⟨((h - 1) % 32).toNat, by omega⟩
      rw [hk]
      by_cases hl : k < s.Cells.length
      · rw [if_neg (by simp; omega), ix_at hl, Option.bind_some, handle_Gen_eq hh, Option.bind_some, if_pos hd]
        by_cases g : s.Cells[k].Gen = (h - 1) / 32 ∧ (s.Cells[k].State = 1 ∨ s.Cells[k].State = 2)
        · left
          refine ⟨k, ⟨hl, hd, hk, g⟩, ?_⟩
          rw [if_neg]
          simp; omega
        · right
          refine ⟨fun i ⟨hi, _, h2, h3⟩ => ?_, ?_⟩
          · have : i = k := by omega
            subst this; exact g h3
          · rw [if_pos]
            simp; omega
      · right
        refine ⟨fun i ⟨hi, _, h2, h3⟩ => by omega, ?_⟩
        rw [if_pos (by simp; omega)]
    · right
      refine ⟨fun i ⟨hi, h1, _⟩ => hd h1, ?_⟩
      rw [if_neg hd, if_pos (by simp)]

theorem find_of_o {s : slab_Slab_store_Obj} {h : Int} {i : Nat} (hf : FndO s h i) : slab_Find_store_Obj s h = some ((i : Int), 0) := by
  have hh := hnd_le hf.2.1
  rcases find_cases_o s (h := h) (by omega) with ⟨j, h1, h2⟩ | ⟨h1, _⟩
  · obtain ⟨_, _, e1, _⟩ := hf
    obtain ⟨_, _, e2, _⟩ := h1
    have : i = j := by omega
    subst this; exact h2
  · exact absurd hf (h1 i)
theorem find_no_o {s : slab_Slab_store_Obj} {h : Int} (hh : h ≤ 9223372036854775807) (hf : ∀ i, ¬ FndO s h i) : slab_Find_store_Obj s h = some (-1, if h = 0 then 2 else 3) := by
  rcases find_cases_o s hh with ⟨j, h1, _⟩ | ⟨_, h2⟩
  · exact absurd h1 (hf j)
  · exact h2

theorem err_ne_o (h : Int) : (if h = 0 then 2 else 3 : Int) ≠ 0 := by split <;> omega

theorem get_of_o {s : slab_Slab_store_Obj} {h : Int} {i : Nat} (hf : FndO s h i) : ∃ hi : i < s.Cells.length, slab_Get_store_Obj s h = some (if s.Cells[i].State = 2 then (z0, 3) else (s.Cells[i].Val, 0)) := by
  refine ⟨hf.1, ?_⟩
  unfold slab_Get_store_Obj
  rw [find_of_o hf, Option.bind_some, if_neg (by simp), ix_at hf.1, Option.bind_some]
  split <;> rename_i q
  · rw [if_pos (by simpa using q)]
  · rw [if_neg (by simpa using q)]
theorem get_no_o {s : slab_Slab_store_Obj} {h : Int} (hh : h ≤ 9223372036854775807) (hf : ∀ i, ¬ FndO s h i) : slab_Get_store_Obj s h = some (z0, if h = 0 then 2 else 3) := by
  unfold slab_Get_store_Obj
  rw [find_no_o hh hf, Option.bind_some, if_pos (by simpa using err_ne_o h)]

end Go.Sh

namespace Go.Sh
set_option linter.unusedVariables false
set_option linter.unusedSimpArgs false

def oo (o : store_Obj) : r06_Obj := ⟨o.Serial, o.Strong, o.Weak, o.Prog, o.Started, o.Fields⟩

def cO (c : slab_Cell_store_Obj) : r06_Cell := ⟨c.State, c.Gen, oo c.Val⟩

def sO (s : store_Store) : r06_Store := ⟨s.S.Cells.map cO, s.S.Last, s.Serial⟩

def Sm (s : store_Store) : Prop := s.S.Cells.length ≤ 30 ∧ ∀ i (h : i < s.S.Cells.length), s.S.Cells[i].Val.Fields.length ≤ 10

instance (s : store_Store) : Decidable (Sm s) := by unfold Sm; infer_instance

def plc (i : Nat) (c : r06_Cell) : r03_Cell := ⟨c.State, c.Gen, (i : Int)⟩

def pl (t : r06_Store) : r03_Slab := ⟨t.Cells.mapIdx plc, t.Last⟩

theorem plain06 (t : r06_Store) (h : t.Cells.length ≤ 1000) : r06_Plain t = some (pl t) := by
  unfold r06_Plain
  simp only [jn]
  refine lpb_upS t.Cells.length (fun k acc => acc = (t.Cells.mapIdx plc).take k) (by omega) (by simp) (fun k acc hk hP => ?_) (fun acc hP => ?_)
  · subst hP
    refine .inl ⟨_, ?_, rfl⟩
    simp only [Int.ofNat_lt, hk, decide_true, if_true, ix_at hk, Option.bind_some]
    rw [app_ok (by omega) (by simp; omega), Option.bind_some, w64_nat]
    have e : (t.Cells.mapIdx plc).take (k + 1) = (t.Cells.mapIdx plc).take k ++ [plc k t.Cells[k]] := by
      rw [List.take_add_one, List.getElem?_eq_getElem (by simpa using hk)]
      simp
    rw [e]
    rfl
  · subst hP
    rw [List.take_of_length_le (by simp)]
    exact ⟨t.Cells.mapIdx plc, by simp only [Int.lt_irrefl, decide_false, Bool.false_eq_true, if_false], rfl⟩

theorem Right03 (s : r03_Slab) : r03_Right s = some (decide (s.Cells.length ≤ 24 ∧ 0 ≤ s.Last ∧ s.Last ≤ 9 ∧ ∀ i (h : i < s.Cells.length), 0 ≤ s.Cells[i].State ∧ s.Cells[i].State ≤ 3 ∧ 0 ≤ s.Cells[i].Gen ∧ s.Cells[i].Gen ≤ s.Last)) := by
  unfold r03_Right
  split
  · rename_i q
    rw [decide_eq_false (by simp at q; omega)]
  · rename_i q
    have q : s.Cells.length ≤ 24 ∧ 0 ≤ s.Last ∧ s.Last ≤ 9 := by simp at q; omega
    simp only [jn]
    refine lpb_up s.Cells.length (fun k => ∀ j (h : j < s.Cells.length), j < k → 0 ≤ s.Cells[j].State ∧ s.Cells[j].State ≤ 3 ∧ 0 ≤ s.Cells[j].Gen ∧ s.Cells[j].Gen ≤ s.Last) (by omega) (fun _ _ h => by omega) (fun k hk hP => ?_) (fun hP => ?_)
    · by_cases g : 0 ≤ s.Cells[k].State ∧ s.Cells[k].State ≤ 3 ∧ 0 ≤ s.Cells[k].Gen ∧ s.Cells[k].Gen ≤ s.Last
      · refine .inl ⟨?_, fun j h hj => ?_⟩
        · simp only [Int.ofNat_lt, hk, decide_true, if_true, ix_at hk, Option.bind_some]
          rw [if_neg (by simp; omega), w64_nat]
        · rcases Nat.lt_or_ge j k with q' | q'
          · exact hP j h q'
          · have : j = k := by omega
            subst this; exact g
      · refine .inr ⟨.inl false, ?_, ?_⟩
        · simp only [Int.ofNat_lt, hk, decide_true, if_true, ix_at hk, Option.bind_some]
          rw [if_pos (by simp; omega)]
        · simp only
          rw [decide_eq_false (fun q' => g (q'.2.2.2 k hk))]
    · refine ⟨.inr (), by simp, ?_⟩
      simp only
      rw [decide_eq_true ⟨q.1, q.2.1, q.2.2, fun i h => hP i h h⟩]

/-- A place that holds an object. -/
def Thr (c : r06_Cell) : Prop := c.State = 1 ∨ c.State = 2

instance (c : r06_Cell) : Decidable (Thr c) := by unfold Thr; infer_instance

theorem there06 (c : r06_Cell) : r06_there c = some (decide (Thr c)) := by
  unfold r06_there
  congr 1
  rw [Bool.eq_iff_iff, decide_eq_true_iff, Bool.or_eq_true, beq_iff_eq, beq_iff_eq]
  rfl

def ObOK (t : r06_Store) (o : r06_Obj) : Prop := 1 ≤ o.Serial ∧ o.Serial ≤ t.Serial ∧ 0 ≤ o.Strong ∧ 0 ≤ o.Weak ∧ -1 ≤ o.Prog ∧ o.Prog ≤ 5 ∧ o.Fields.length ≤ 4

def ObNo (o : r06_Obj) : Prop := o.Serial = 0 ∧ o.Strong = 0 ∧ o.Weak = 0 ∧ o.Prog = 0 ∧ o.Started = false ∧ o.Fields.length = 0

/-- A store that is right, as the document has it. -/
structure RtR (t : r06_Store) : Prop where
  len : t.Cells.length ≤ 24
  l0 : 0 ≤ t.Last
  l9 : t.Last ≤ 9
  ser : 0 ≤ t.Serial
  cell : ∀ i (h : i < t.Cells.length), 0 ≤ t.Cells[i].State ∧ t.Cells[i].State ≤ 3 ∧ 0 ≤ t.Cells[i].Gen ∧ t.Cells[i].Gen ≤ t.Last
  no : ∀ i (h : i < t.Cells.length), ¬ Thr t.Cells[i] → ObNo t.Cells[i].Val
  ok : ∀ i (h : i < t.Cells.length), Thr t.Cells[i] → ObOK t t.Cells[i].Val
  dif : ∀ i (h : i < t.Cells.length) k (hk : k < i), Thr t.Cells[i] → Thr t.Cells[k] → t.Cells[k].Val.Serial ≠ t.Cells[i].Val.Serial

/-- One cell of it. -/
def CeOK (t : r06_Store) (i : Nat) (h : i < t.Cells.length) : Prop :=
  (¬ Thr t.Cells[i] → ObNo t.Cells[i].Val) ∧ (Thr t.Cells[i] → ObOK t t.Cells[i].Val) ∧ ∀ k (hk : k < i), Thr t.Cells[i] → Thr t.Cells[k] → t.Cells[k].Val.Serial ≠ t.Cells[i].Val.Serial

theorem Right06 (t : r06_Store) (hl : t.Cells.length ≤ 1000) : ∃ b, r06_Right t = some b ∧ (b = true ↔ RtR t) := by
  unfold r06_Right
  rw [plain06 t hl, Option.bind_some, Right03, Option.bind_some]
  by_cases hR : (pl t).Cells.length ≤ 24 ∧ 0 ≤ (pl t).Last ∧ (pl t).Last ≤ 9 ∧ ∀ i (h : i < (pl t).Cells.length), 0 ≤ (pl t).Cells[i].State ∧ (pl t).Cells[i].State ≤ 3 ∧ 0 ≤ (pl t).Cells[i].Gen ∧ (pl t).Cells[i].Gen ≤ (pl t).Last
  · by_cases hs : 0 ≤ t.Serial
    · rw [decide_eq_true hR]
      rw [if_neg (by simp; omega)]
      simp only [jn]
      have hcell : ∀ i (h : i < t.Cells.length), 0 ≤ t.Cells[i].State ∧ t.Cells[i].State ≤ 3 ∧ 0 ≤ t.Cells[i].Gen ∧ t.Cells[i].Gen ≤ t.Last := fun i h => by
        have := hR.2.2.2 i (by simpa [pl] using h)
        simpa [pl, plc] using this
      have key : (∀ i (h : i < t.Cells.length), CeOK t i h) ↔ RtR t := by
        constructor
        · intro q
          exact ⟨by simpa [pl] using hR.1, hR.2.1, hR.2.2.1, hs, hcell, fun i h => (q i h).1, fun i h => (q i h).2.1, fun i h => (q i h).2.2⟩
        · intro q i h
          exact ⟨q.no i h, q.ok i h, q.dif i h⟩
      by_cases hall : ∀ i (h : i < t.Cells.length), CeOK t i h
      · refine ⟨true, ?_, by simpa using key.1 hall⟩
        refine lpb_up t.Cells.length (fun _ => True) (by omega) trivial (fun k hk _ => .inl ⟨?_, trivial⟩) (fun _ => ⟨.inr (), by simp, rfl⟩)
        obtain ⟨q1, q2, q3⟩ := hall k hk
        simp only [Int.ofNat_lt, hk, decide_true, if_true, ix_at hk, Option.bind_some, there06]
        by_cases ht : Thr t.Cells[k]
        · rw [decide_eq_true ht]
          obtain ⟨o1, o2, o3, o4, o5, o6, o7⟩ := q2 ht
          rw [if_neg (by simp), if_neg (by simp; omega)]
          refine lpb_up k (fun _ => True) (by omega) trivial (fun j hj _ => .inl ⟨?_, trivial⟩) (fun _ => ⟨.inr (), by simp, by rw [w64_nat]⟩)
          have hj' : j < t.Cells.length := by omega
          simp only [Int.ofNat_lt, hj, decide_true, if_true, ix_at hj', Option.bind_some, there06]
          rw [if_neg (by simp only [Bool.and_eq_true, decide_eq_true_eq, beq_iff_eq, not_and]; exact fun a => q3 j hj ht a), w64_nat]
        · rw [decide_eq_false ht]
          obtain ⟨o1, o2, o3, o4, o5, o6⟩ := q1 ht
          rw [if_pos (by simp), if_neg (by simp [o1, o2, o3, o4, o5, o6]), w64_nat]
      · refine ⟨false, ?_, by simpa using fun q => hall (key.2 q)⟩
        obtain ⟨i, ⟨hi, hbad⟩, hmin⟩ := exists_min (p := fun i => ∃ h : i < t.Cells.length, ¬ CeOK t i h) (by
          have := Classical.not_forall.1 hall
          obtain ⟨i, q⟩ := this
          obtain ⟨h, q⟩ := Classical.not_forall.1 q
          exact ⟨i, h, q⟩)
        refine lpb_up t.Cells.length (fun k => k ≤ i) (by omega) (by omega) (fun k hk hP => ?_) (fun hP => by omega)
        simp only [Int.ofNat_lt, hk, decide_true, if_true, ix_at hk, Option.bind_some, there06]
        rcases Nat.lt_or_ge k i with g | g
        · refine .inl ⟨?_, g⟩
          have hok : CeOK t k hk := Classical.byContradiction fun q => by have := hmin k ⟨hk, q⟩; omega
          obtain ⟨q1, q2, q3⟩ := hok
          by_cases ht : Thr t.Cells[k]
          · rw [decide_eq_true ht]
            obtain ⟨o1, o2, o3, o4, o5, o6, o7⟩ := q2 ht
            rw [if_neg (by simp), if_neg (by simp; omega)]
            refine lpb_up k (fun _ => True) (by omega) trivial (fun j hj _ => .inl ⟨?_, trivial⟩) (fun _ => ⟨.inr (), by simp, by rw [w64_nat]⟩)
            have hj' : j < t.Cells.length := by omega
            simp only [Int.ofNat_lt, hj, decide_true, if_true, ix_at hj', Option.bind_some, there06]
            rw [if_neg (by simp only [Bool.and_eq_true, decide_eq_true_eq, beq_iff_eq, not_and]; exact fun a => q3 j hj ht a), w64_nat]
          · rw [decide_eq_false ht]
            obtain ⟨o1, o2, o3, o4, o5, o6⟩ := q1 ht
            rw [if_pos (by simp), if_neg (by simp [o1, o2, o3, o4, o5, o6]), w64_nat]
        · have : k = i := by omega
          subst this
          refine .inr ⟨.inl false, ?_, rfl⟩
          by_cases ht : Thr t.Cells[k]
          · rw [decide_eq_true ht]
            rw [if_neg (by simp)]
            by_cases ho : ObOK t t.Cells[k].Val
            · have ho' := ho
              obtain ⟨o1, o2, o3, o4, o5, o6, o7⟩ := ho'
              rw [if_neg (by simp; omega)]
              -- an earlier one has the serial
              have : ∃ j, j < k ∧ ∃ h : j < t.Cells.length, Thr t.Cells[j] ∧ t.Cells[j].Val.Serial = t.Cells[k].Val.Serial := Classical.byContradiction fun q => hbad ⟨fun n => absurd ht n, fun _ => ho, fun j hj _ h2 h3 => q ⟨j, hj, by omega, h2, h3⟩⟩
              obtain ⟨j, ⟨hj, hj', h2, h3⟩, hjm⟩ := exists_min this
              refine lpb_up k (fun m => m ≤ j) (by omega) (by omega) (fun m hm hP2 => ?_) (fun hP2 => by omega)
              have hm' : m < t.Cells.length := by omega
              simp only [Int.ofNat_lt, hm, decide_true, if_true, ix_at hm', Option.bind_some, there06]
              rcases Nat.lt_or_ge m j with g2 | g2
              · refine .inl ⟨?_, g2⟩
                rw [if_neg (by
                  simp only [Bool.and_eq_true, decide_eq_true_eq, beq_iff_eq, not_and]
                  intro a b
                  have := hjm m ⟨by omega, hm', a, b⟩
                  omega), w64_nat]
              · have : m = j := by omega
                subst this
                refine .inr ⟨.inl false, ?_, rfl⟩
                rw [if_pos (by simp only [Bool.and_eq_true, decide_eq_true_eq, beq_iff_eq]; exact ⟨h2, h3⟩)]
            · rw [if_pos (by
                unfold ObOK at ho
                simp only [Bool.or_eq_true, decide_eq_true_eq]
                omega)]
          · rw [decide_eq_false ht]
            rw [if_pos (by simp)]
            have hno : ¬ ObNo t.Cells[k].Val := fun q => hbad ⟨fun _ => q, fun n => absurd n ht, fun j hj h1 _ => absurd h1 ht⟩
            rw [if_pos (by
              unfold ObNo at hno
              simp only [Bool.or_eq_true, bne_iff_ne, ne_eq]
              cases hst : t.Cells[k].Val.Started
              · simp only [hst, true_and, Bool.false_eq_true, or_false] at hno ⊢
                omega
              · simp)]
    · refine ⟨false, ?_, by simp; exact fun q => hs q.ser⟩
      rw [if_pos (by simp; omega)]
  · refine ⟨false, ?_, ?_⟩
    · rw [decide_eq_false hR, if_pos (by simp)]
    · simp only [Bool.false_eq_true, false_iff]
      intro q
      exact hR ⟨by simpa [pl] using q.len, q.l0, q.l9, fun i h => by have := q.cell i (by simpa [pl] using h); simpa [pl, plc] using this⟩

/-- A store that is right, and small. -/
structure StR (s : store_Store) : Prop where
  rt : RtR (sO s)
  big : s.Serial < 1000000000
  fl : ∀ i (h : i < s.S.Cells.length), s.S.Cells[i].Val.Fields.length ≤ 10
end Go.Sh

namespace Go.Sh
set_option linter.unusedVariables false
set_option linter.unusedSimpArgs false

theorem sortBy_spec {c : Int → Int → Option Int} {xs : List Int} (key : Int → Int) (hc : ∀ x y, ∃ r, c x y = some r ∧ (r < 0 ↔ key x < key y)) (hl : xs.length < 4611686018427387904) :
    ∃ ys, sortBy c xs = some ys ∧ ys.Perm xs ∧ ys.Pairwise (fun a b => key a ≤ key b) := by
  have hlt : ∀ x y, Go.Proofs.ltOf (fun x y => (c x y).getD 0) x y = decide (key x < key y) := fun x y => by
    obtain ⟨r, h1, h2⟩ := hc x y
    show decide ((c x y).getD 0 < 0) = _
    rw [h1, Option.getD_some]
    exact decide_eq_decide.2 h2
  have hO : Go.Sort.SWO (Go.Proofs.ltOf fun x y => (c x y).getD 0) := by
    refine ⟨fun x => ?_, fun x y z => ?_, fun x y z => ?_⟩
    · rw [hlt]; simp
    · rw [hlt, hlt, hlt]; simp; omega
    · rw [hlt, hlt, hlt]; simp; omega
  have hcond : (∀ x y, (c x y).isSome = true) ∧ Go.Sort.SWO (Go.Proofs.ltOf fun x y => (c x y).getD 0) ∧ xs.length < 4611686018427387904 := ⟨fun x y => by
    obtain ⟨r, h1, _⟩ := hc x y
    rw [h1]; rfl, hO, hl⟩
  unfold sortBy
  rw [if_pos hcond]
  refine ⟨_, rfl, ?_⟩
  obtain ⟨⟨p1, p2, p3⟩, p4⟩ := Go.Sort.pdq_sorts (Go.Proofs.ltOf fun x y => (c x y).getD 0) hO xs.toArray 0 xs.length (Go.Lib.bitLen xs.length) true true (Nat.zero_le _) (by simp) (Or.inl rfl)
  generalize Go.Sort.pdq (Go.Proofs.ltOf fun x y => (c x y).getD 0) xs.toArray 0 xs.length (Go.Lib.bitLen xs.length) true true = d at p1 p2 p3 p4 ⊢
  have hs : d.size = xs.length := by simpa using p1
  refine ⟨?_, ?_⟩
  · have e1 : d.extract 0 xs.length = d := by rw [← hs]; exact Array.extract_size
    have e2 : xs.toArray.extract 0 xs.length = xs.toArray := by
      simp
    rw [e1, e2] at p3
    simpa using p3
  · rw [List.pairwise_iff_getElem]
    intro i j hi hj hij
    have hi' : i < d.size := by simpa using hi
    have hj' : j < d.size := by simpa using hj
    have := p4 i j (Nat.zero_le _) hij (by omega)
    rw [hlt, getElem!_pos d j hj', getElem!_pos d i hi'] at this
    have := of_decide_eq_false this
    simp only [Array.getElem_toList]
    omega

/-- The handles of those that live, in the order of their places. -/
def hnds : Nat → List slab_Cell_store_Obj → List Int
  | _, [] => []
  | k, c :: r => (if c.State = 1 then [1 + (k : Int) + 32 * c.Gen] else []) ++ hnds (k + 1) r

theorem hnds_snoc (c : slab_Cell_store_Obj) : ∀ (k : Nat) (xs : List slab_Cell_store_Obj), hnds k (xs ++ [c]) = hnds k xs ++ (if c.State = 1 then [1 + ((k + xs.length : Nat) : Int) + 32 * c.Gen] else [])
  | k, [] => by simp [hnds]
  | k, x :: r => by
    simp only [List.cons_append, hnds, hnds_snoc c (k + 1) r, List.append_assoc, List.length_cons]
    rw [show k + 1 + r.length = k + (r.length + 1) by omega]

theorem hnds_len : ∀ (k : Nat) (xs : List slab_Cell_store_Obj), (hnds k xs).length ≤ xs.length
  | _, [] => by simp [hnds]
  | k, c :: r => by
    have := hnds_len (k + 1) r
    simp only [hnds, List.length_append, List.length_cons]
    split <;> simp <;> omega

theorem hnds_mem {h : Int} : ∀ {k : Nat} {xs : List slab_Cell_store_Obj}, h ∈ hnds k xs ↔ ∃ i, ∃ hi : i < xs.length, xs[i].State = 1 ∧ h = 1 + ((k + i : Nat) : Int) + 32 * xs[i].Gen
  | k, [] => by simp [hnds]
  | k, c :: r => by
    simp only [hnds, List.mem_append, hnds_mem (k := k + 1) (xs := r)]
    constructor
    · rintro (q | ⟨i, hi, q1, q2⟩)
      · by_cases hc : c.State = 1
        · rw [if_pos hc] at q
          exact ⟨0, by simp, by simpa using hc, by simpa using q⟩
        · rw [if_neg hc] at q
          cases q
      · exact ⟨i + 1, by simpa using hi, by simpa using q1, by simp only [List.getElem_cons_succ]; rw [q2, show k + 1 + i = k + (i + 1) by omega]⟩
    · rintro ⟨i, hi, q1, q2⟩
      cases i with
      | zero =>
        left
        simp only [List.getElem_cons_zero] at q1 q2
        rw [if_pos q1]
        simp [q2]
      | succ i =>
        right
        simp only [List.getElem_cons_succ] at q1 q2
        exact ⟨i, by simpa using hi, q1, by rw [q2, show k + 1 + i = k + (i + 1) by omega]⟩

/-- The serial of what a handle's slot holds. -/
def sk (cs : List slab_Cell_store_Obj) (h : Int) : Int := match cs[((h - 1) % 32).toNat]? with
  | some c => c.Val.Serial
  | none => 0

theorem sk_hd {cs : List slab_Cell_store_Obj} {i : Nat} {g : Int} (h : i < cs.length) (h32 : cs.length ≤ 32) : sk cs (1 + (i : Int) + 32 * g) = cs[i].Val.Serial := by
  unfold sk
  have : ((1 + (i : Int) + 32 * g - 1) % 32).toNat = i := by omega
  rw [this, List.getElem?_eq_getElem h]

/-- What is asked of a slab so that all that follows is told of it. -/
structure Slb (cs : List slab_Cell_store_Obj) : Prop where
  len : cs.length ≤ 24
  gen : ∀ i (h : i < cs.length), 0 ≤ cs[i].Gen ∧ cs[i].Gen ≤ 9

theorem live_spec {s : store_Store} (hR : Slb s.S.Cells) : ∃ l, store_Live s = some l ∧ l.Perm (hnds 0 s.S.Cells) ∧ l.Pairwise (fun a b => sk s.S.Cells a ≤ sk s.S.Cells b) := by
  have hlen := hR.len
  unfold store_Live
  simp only [jn]
  have hh := hnds_len 0 s.S.Cells
  -- the loop
  have hloop : ∃ e : List (Int × Int) × List Int, lp (S := Int × (List (Int × Int)) × (List Int)) (E := ((List (Int × Int)) × (List Int))) (fun ((s23, s24, s25) : Int × (List (Int × Int)) × (List Int)) =>
      if (decide (s23 < (s.S.Cells.length : Int))) then
        ((ix s.S.Cells s23).bind fun v35 =>
          if (v35.State == 1) then
            (handle_Pack s23 v35.Gen).bind fun v36 =>
            (app 8 s25 [v36]).bind fun v37 =>
            some (.inl (w64 (s23 + 1), (mput s24 v36 v35.Val.Serial), v37))
          else
          some (.inl (w64 (s23 + 1), s24, s25)))
      else
      some (.inr (s24, s25))) (0, [], []) = some e ∧ e.2 = hnds 0 s.S.Cells ∧ ∀ h ∈ e.2, mget e.1 h = some (sk s.S.Cells h) := by
    refine lp_upS (T := List (Int × Int) × List Int) s.S.Cells.length (fun k e => e.2 = hnds 0 (s.S.Cells.take k) ∧ ∀ h ∈ e.2, mget e.1 h = some (sk s.S.Cells h)) (fun e : List (Int × Int) × List Int => e.2 = hnds 0 s.S.Cells ∧ ∀ h ∈ e.2, mget e.1 h = some (sk s.S.Cells h)) (by omega) ⟨by simp [hnds], by simp⟩ (fun k e hk hP => ?_) (fun e hP => ?_)
    · obtain ⟨h1, h2⟩ := hP
      obtain ⟨m, l⟩ := e
      simp only at h1 h2
      left
      have hc := hR.gen k hk
      have hl : l.length ≤ 24 := by rw [h1]; have := hnds_len 0 (s.S.Cells.take k); simp at this; omega
      have et : s.S.Cells.take (k + 1) = s.S.Cells.take k ++ [s.S.Cells[k]] := by rw [List.take_add_one, List.getElem?_eq_getElem hk]; rfl
      have el : (s.S.Cells.take k).length = k := by simp; omega
      by_cases q : s.S.Cells[k].State = 1
      · refine ⟨(mput m (1 + (k : Int) + 32 * s.S.Cells[k].Gen) s.S.Cells[k].Val.Serial, l ++ [1 + (k : Int) + 32 * s.S.Cells[k].Gen]), ?_, ?_, ?_⟩
        · simp only [Int.ofNat_lt, hk, decide_true, if_true, ix_at hk, Option.bind_some, q, beq_self_eq_true]
          rw [handle_Pack_eq (by omega) (by omega) hc.1 hc.2, Option.bind_some, app_ok (by omega) (by simp; omega), Option.bind_some, w64_nat]
        · simp only
          rw [et, hnds_snoc, if_pos q, el, h1, Nat.zero_add]
        · intro h hh
          simp only [List.mem_append, List.mem_singleton] at hh ⊢
          rw [mget_mput]
          rcases hh with hh | rfl
          · split
            · rename_i e; rw [e, sk_hd hk (by omega)]
            · exact h2 h hh
          · rw [if_pos rfl, sk_hd hk (by omega)]
      · refine ⟨(m, l), ?_, ?_, h2⟩
        · simp only [Int.ofNat_lt, hk, decide_true, if_true, ix_at hk, Option.bind_some]
          rw [if_neg (by simpa using q), w64_nat]
        · simp only
          rw [et, hnds_snoc, if_neg q, h1, List.append_nil]
    · obtain ⟨h1, h2⟩ := hP
      obtain ⟨m, l⟩ := e
      refine ⟨(m, l), by simp only [Int.lt_irrefl, decide_false, Bool.false_eq_true, if_false], ?_, h2⟩
      simpa using h1
  obtain ⟨⟨m, l⟩, e1, e2, e3⟩ := hloop
  rw [show lp _ _ = _ from e1, Option.bind_some]
  simp only at e2 e3 ⊢
  subst e2
  obtain ⟨ys, q1, q2, q3⟩ := sortBy_spec (c := fun p q => store_Live_1 p q m) (xs := hnds 0 s.S.Cells) (fun h => (mget m h).getD 0) (fun x y => by
    unfold store_Live_1 cmp_Compare_int cmp_isNaN_int
    simp only [Option.bind_some, bne_self_eq_false, Bool.false_eq_true, if_false]
    generalize (mget m x).getD 0 = a
    generalize (mget m y).getD 0 = b
    by_cases h1 : a < b
    · rw [decide_eq_true h1]; exact ⟨-1, rfl, by simp [h1]⟩
    · rw [decide_eq_false h1]
      by_cases h2 : a > b
      · rw [decide_eq_true h2]; exact ⟨1, rfl, by simp [h1]⟩
      · rw [decide_eq_false h2]; exact ⟨0, rfl, by simp [h1]⟩) (by omega)
  refine ⟨ys, by rw [q1]; rfl, q2, q3.imp_of_mem fun {a b} ha hb hab => ?_⟩
  rw [e3 a (q2.mem_iff.1 ha), e3 b (q2.mem_iff.1 hb)] at hab
  simpa using hab

/-- Two lists of the same things, in order by keys that are all different, are one. -/
theorem sorted_one {key : Int → Int} : ∀ {l m : List Int}, l.Perm m → l.Pairwise (fun a b => key a ≤ key b) → m.Pairwise (fun a b => key a ≤ key b) → (∀ a ∈ l, ∀ b ∈ l, key a = key b → a = b) → l = m
  | [], m, hp, _, _, _ => (List.nil_perm.1 hp).symm
  | a :: l, [], hp, _, _, _ => by simp at hp
  | a :: l, b :: m, hp, h1, h2, hk => by
    have ha := List.pairwise_cons.1 h1
    have hb := List.pairwise_cons.1 h2
    have e : a = b := by
      have m1 : b ∈ a :: l := hp.mem_iff.2 (List.mem_cons_self ..)
      have m2 : a ∈ b :: m := hp.mem_iff.1 (List.mem_cons_self ..)
      rcases List.mem_cons.1 m1 with q | q
      · exact q.symm
      · rcases List.mem_cons.1 m2 with q' | q'
        · exact q'
        · exact hk a (List.mem_cons_self ..) b m1 (Int.le_antisymm (ha.1 b q) (hb.1 a q'))
    subst e
    rw [sorted_one (List.perm_cons a |>.1 hp) ha.2 hb.2 fun x hx y hy => hk x (List.mem_cons_of_mem _ hx) y (List.mem_cons_of_mem _ hy)]
end Go.Sh

namespace Go.Sh
set_option linter.unusedVariables false
set_option linter.unusedSimpArgs false

theorem Ints_eq (a b : List Int) (ha : a.length < 4611686018427387904) : r02_Ints a b = some (decide (a = b)) := by
  unfold r02_Ints
  by_cases hl : a.length = b.length
  · rw [if_neg (by simp [hl])]
    simp only [jn]
    refine lpb_up a.length (fun k => ∀ j (h1 : j < a.length) (h2 : j < b.length), j < k → a[j] = b[j]) ha (fun _ _ _ h => by omega) (fun k hk hP => ?_) (fun hP => ?_)
    · have hk2 : k < b.length := by omega
      simp only [Int.ofNat_lt, hk, decide_true, if_true, ix_at hk, ix_at hk2, Option.bind_some]
      by_cases e : a[k] = b[k]
      · refine .inl ⟨?_, fun j h1 h2 hj => ?_⟩
        · rw [if_neg (by simpa using e), w64_nat]
        · rcases Nat.lt_or_ge j k with q | q
          · exact hP j h1 h2 q
          · have : j = k := by omega
            subst this; exact e
      · refine .inr ⟨.inl false, by rw [if_pos (by simpa using e)], ?_⟩
        simp only
        rw [decide_eq_false (fun q => e (by subst q; rfl))]
    · refine ⟨.inr (), by simp, ?_⟩
      simp only
      rw [decide_eq_true (List.ext_getElem hl fun i h1 h2 => hP i h1 h2 h1)]
  · rw [if_pos (by rw [bne_iff_ne]; omega)]
    rw [decide_eq_false (fun q => hl (by rw [q]))]

theorem sO_len (s : store_Store) : (sO s).Cells.length = s.S.Cells.length := by simp [sO]

theorem sO_ix (s : store_Store) (i : Int) : ix (sO s).Cells i = (ix s.S.Cells i).map cO := ix_map' cO s.S.Cells i

theorem pl_len (t : r06_Store) : (pl t).Cells.length = t.Cells.length := by simp [pl]

theorem pl_at {t : r06_Store} {k : Nat} (h : k < t.Cells.length) : ix (pl t).Cells k = some (plc k t.Cells[k]) := by
  rw [ix_at (by simpa [pl] using h)]
  simp [pl]

theorem find06 (s : store_Store) {h : Int} (hh : h ≤ 9223372036854775807) : r03_Find (pl (sO s)) h = slab_Find_store_Obj s.S h := by
  unfold r03_Find slab_Find_store_Obj
  rw [r01_Slot_eq, handle_Slot_eq hh, r01_Gen_eq, handle_Gen_eq hh]
  simp only [Option.bind_some, pl_len, sO_len]
  generalize (if Hnd h then (h - 1) % 32 else -1 : Int) = v
  generalize (if Hnd h then (h - 1) / 32 else -1 : Int) = g
  split
  · rfl
  · split
    · rfl
    · rename_i q
      have q : 0 ≤ v ∧ v < s.S.Cells.length := by simp at q; omega
      obtain ⟨k, rfl⟩ : ∃ k : Nat, v = k := ⟨v.toNat, by omega⟩
      have hk : k < s.S.Cells.length := by omega
      rw [pl_at (by rw [sO_len]; exact hk), ix_at hk]
      simp only [Option.bind_some, plc, sO, List.getElem_map, cO]

end Go.Sh

namespace Go.Sh
set_option linter.unusedVariables false
set_option linter.unusedSimpArgs false

theorem rt_len {s : store_Store} (h : RtR (sO s)) : s.S.Cells.length ≤ 24 := by have := h.len; rwa [sO_len] at this

theorem rt_cell {s : store_Store} (h : RtR (sO s)) (i : Nat) (hi : i < s.S.Cells.length) : 0 ≤ s.S.Cells[i].State ∧ s.S.Cells[i].State ≤ 3 ∧ 0 ≤ s.S.Cells[i].Gen ∧ s.S.Cells[i].Gen ≤ s.S.Last := by
  have := h.cell i (by rw [sO_len]; exact hi)
  simpa [sO, cO] using this

theorem rt_slb {s : store_Store} (h : RtR (sO s)) : Slb s.S.Cells := ⟨rt_len h, fun i hi => by have := rt_cell h i hi; have h9 : s.S.Last ≤ 9 := h.l9; omega⟩

theorem rt_ok {s : store_Store} (h : RtR (sO s)) (i : Nat) (hi : i < s.S.Cells.length) (ht : s.S.Cells[i].State = 1 ∨ s.S.Cells[i].State = 2) : ObOK (sO s) (oo s.S.Cells[i].Val) := by
  have := h.ok i (by rw [sO_len]; exact hi)
  simp only [sO, List.getElem_map, cO, Thr] at this
  exact this ht

theorem rt_dif {s : store_Store} (h : RtR (sO s)) {i j : Nat} (hi : i < s.S.Cells.length) (hj : j < s.S.Cells.length) (a : s.S.Cells[i].State = 1 ∨ s.S.Cells[i].State = 2) (b : s.S.Cells[j].State = 1 ∨ s.S.Cells[j].State = 2) (e : s.S.Cells[i].Val.Serial = s.S.Cells[j].Val.Serial) : i = j := by
  have key : ∀ i (hi : i < s.S.Cells.length) j (hj : j < i), (s.S.Cells[i].State = 1 ∨ s.S.Cells[i].State = 2) → (s.S.Cells[j].State = 1 ∨ s.S.Cells[j].State = 2) → s.S.Cells[j].Val.Serial ≠ s.S.Cells[i].Val.Serial := fun i hi j hj a b => by
    have := h.dif i (by rw [sO_len]; exact hi) j hj
    simp only [sO, List.getElem_map, cO, Thr, oo] at this
    exact this a b
  rcases Nat.lt_trichotomy i j with q | q | q
  · exact absurd e (key j hj i q b a)
  · exact q
  · exact absurd e.symm (key i hi j q a b)

/-- What a handle of one that lives is. -/
theorem hnds_fnd {s : store_Store} (hR : RtR (sO s)) {x : Int} (hx : x ∈ hnds 0 s.S.Cells) : ∃ i, ∃ hi : i < s.S.Cells.length, s.S.Cells[i].State = 1 ∧ x = 1 + (i : Int) + 32 * s.S.Cells[i].Gen ∧ FndO s.S x i ∧ sk s.S.Cells x = s.S.Cells[i].Val.Serial ∧ store_Get s x = some (s.S.Cells[i].Val, 0) := by
  obtain ⟨i, hi, h1, h2⟩ := hnds_mem.1 hx
  rw [Nat.zero_add] at h2
  have hl := (rt_len hR)
  have hc := (rt_slb hR).gen i hi
  have hf : FndO s.S x i := ⟨hi, by unfold Hnd; omega, by omega, by omega, .inl h1⟩
  refine ⟨i, hi, h1, h2, hf, by rw [h2]; exact sk_hd hi (by omega), ?_⟩
  obtain ⟨_, e⟩ := get_of_o hf
  unfold store_Get
  rw [e, if_neg (by omega)]
  rfl

theorem fnd_hnds {s : store_Store} {x : Int} {i : Nat} (hf : FndO s.S x i) (h1 : ∀ hi : i < s.S.Cells.length, s.S.Cells[i].State = 1) : x ∈ hnds 0 s.S.Cells := by
  obtain ⟨hi, q1, q2, q3, _⟩ := hf
  refine hnds_mem.2 ⟨i, hi, h1 hi, ?_⟩
  unfold Hnd at q1
  rw [Nat.zero_add]
  omega

theorem sk_inj {s : store_Store} (hR : RtR (sO s)) {x y : Int} (hx : x ∈ hnds 0 s.S.Cells) (hy : y ∈ hnds 0 s.S.Cells) (e : sk s.S.Cells x = sk s.S.Cells y) : x = y := by
  obtain ⟨i, hi, a1, a2, _, a4, _⟩ := hnds_fnd hR hx
  obtain ⟨j, hj, b1, b2, _, b4, _⟩ := hnds_fnd hR hy
  have := (rt_dif hR) hi hj (.inl a1) (.inl b1) (by rw [← a4, ← b4]; exact e)
  subst this
  rw [a2, b2]

theorem hnds_nodup : ∀ (k : Nat) (cs : List slab_Cell_store_Obj), k + cs.length ≤ 32 → (hnds k cs).Nodup
  | _, [], _ => List.nodup_nil
  | k, c :: r, h => by
    simp only [List.length_cons] at h
    unfold hnds
    rw [List.nodup_append]
    refine ⟨by split <;> simp, hnds_nodup (k + 1) r (by omega), fun a ha b hb e => ?_⟩
    split at ha
    · simp only [List.mem_singleton] at ha
      subst ha; subst e
      obtain ⟨i, hi, h1, h2⟩ := hnds_mem.1 hb
      have : ((1 + (k : Int) + 32 * c.Gen) - 1) % 32 = ((1 + ((k + 1 + i : Nat) : Int) + 32 * r[i].Gen) - 1) % 32 := by rw [h2]
      omega
    · cases ha

/-- Those that live, in order. -/
theorem live_of {s : store_Store} (hR : RtR (sO s)) : ∃ l, store_Live s = some l ∧ l.Perm (hnds 0 s.S.Cells) ∧ l.Pairwise (fun a b => sk s.S.Cells a < sk s.S.Cells b) := by
  obtain ⟨l, h1, h2, h3⟩ := live_spec (rt_slb hR)
  refine ⟨l, h1, h2, ?_⟩
  have hn : l.Nodup := h2.nodup_iff.2 (hnds_nodup 0 _ (by have := (rt_len hR); omega))
  have := List.Pairwise.and h3 hn
  refine this.imp_of_mem fun {a b} ha hb ⟨q1, q2⟩ => ?_
  rcases Int.lt_or_eq_of_le q1 with q | q
  · exact q
  · exact absurd (sk_inj hR (h2.mem_iff.1 ha) (h2.mem_iff.1 hb) q) q2
end Go.Sh

namespace Go.Sh
set_option linter.unusedVariables false
set_option linter.unusedSimpArgs false

end Go.Sh

namespace Go.Sh
set_option linter.unusedVariables false
set_option linter.unusedSimpArgs false

/-- Those that live, in order. -/
noncomputable def lv (s : store_Store) : List Int := (store_Live s).getD []
/-- The object of a handle. -/
def ob (s : store_Store) (h : Int) : store_Obj := ((store_Get s h).getD (z0, 0)).1
/-- What an object names. -/
def outs (s : store_Store) (h : Int) : List Int := nz (ob s h).Fields
/-- All that stands in fields is a number of the machine. -/
def FB (s : store_Store) : Prop := ∀ c ∈ s.S.Cells, ∀ x ∈ c.Val.Fields, x ≤ 9223372036854775807

section
variable {s : store_Store} (hR : RtR (sO s))
include hR
theorem lv_spec : store_Live s = some (lv s) ∧ (lv s).Perm (hnds 0 s.S.Cells) ∧ (lv s).Pairwise (fun a b => sk s.S.Cells a < sk s.S.Cells b) := by
  obtain ⟨l, h1, h2, h3⟩ := live_of hR
  have : lv s = l := by unfold lv; rw [h1]; rfl
  rw [this]
  exact ⟨h1, h2, h3⟩
theorem lv_live : store_Live s = some (lv s) := (lv_spec hR).1
theorem lv_mem {h : Int} : h ∈ lv s ↔ h ∈ hnds 0 s.S.Cells := (lv_spec hR).2.1.mem_iff
theorem lv_len : (lv s).length ≤ 24 := by
  rw [(lv_spec hR).2.1.length_eq]
  exact Nat.le_trans (hnds_len 0 s.S.Cells) (rt_len hR)
theorem lv_nodup : (lv s).Nodup := (lv_spec hR).2.1.nodup_iff.2 (hnds_nodup 0 _ (by have := (rt_len hR); omega))
theorem lv_get {h : Int} (hh : h ∈ lv s) : store_Get s h = some (ob s h, 0) := by
  obtain ⟨i, hi, _, _, _, _, e⟩ := hnds_fnd hR ((lv_mem hR).1 hh)
  unfold ob
  rw [e]
  rfl
theorem lv_fnd {h : Int} (hh : h ∈ lv s) : ∃ i, ∃ hi : i < s.S.Cells.length, s.S.Cells[i].State = 1 ∧ h = 1 + (i : Int) + 32 * s.S.Cells[i].Gen ∧ FndO s.S h i ∧ ob s h = s.S.Cells[i].Val := by
  obtain ⟨i, hi, h1, h2, h3, _, e⟩ := hnds_fnd hR ((lv_mem hR).1 hh)
  refine ⟨i, hi, h1, h2, h3, ?_⟩
  unfold ob
  rw [e]
  rfl
theorem lv_pos {h : Int} (hh : h ∈ lv s) : 1 ≤ h ∧ h ≤ 320 := by
  obtain ⟨i, hi, _, _, hf, _⟩ := lv_fnd hR hh
  exact hnd_le hf.2.1
theorem lv_no {h : Int} (hh : h ≤ 9223372036854775807) (hn : h ∉ lv s) : ∃ e, e ≠ 0 ∧ store_Get s h = some (z0, e) := by
  rcases find_cases_o s.S hh with ⟨i, hf, _⟩ | ⟨hf, _⟩
  · obtain ⟨hi, e⟩ := get_of_o hf
    unfold store_Get
    rw [e]
    by_cases h2 : s.S.Cells[i].State = 2
    · rw [if_pos h2]; exact ⟨3, by decide, rfl⟩
    · exact absurd ((lv_mem hR).2 (fnd_hnds hf fun _ => hf.2.2.2.2.resolve_right h2)) hn
  · unfold store_Get
    rw [get_no_o hh hf]
    exact ⟨_, err_ne_o h, rfl⟩
theorem ob_no {h : Int} (hh : h ≤ 9223372036854775807) (hn : h ∉ lv s) : ob s h = z0 := by
  obtain ⟨e, _, h1⟩ := lv_no hR hh hn
  unfold ob
  rw [h1]
  rfl
theorem get_ob {h : Int} (hh : h ≤ 9223372036854775807) : ∃ e, store_Get s h = some (ob s h, e) ∧ (e = 0 ↔ h ∈ lv s) := by
  by_cases q : h ∈ lv s
  · exact ⟨0, lv_get hR q, by simp [q]⟩
  · obtain ⟨e, h0, h1⟩ := lv_no hR hh q
    refine ⟨e, ?_, by simp [h0, q]⟩
    rw [h1, ob_no hR hh q]
theorem outs_no {h : Int} (hh : h ≤ 9223372036854775807) (hn : h ∉ lv s) : outs s h = [] := by
  unfold outs
  rw [ob_no hR hh hn]
  rfl
theorem ob_flen (h : Int) (hh : h ≤ 9223372036854775807) : (ob s h).Fields.length ≤ 4 := by
  by_cases q : h ∈ lv s
  · obtain ⟨i, hi, h1, _, _, e⟩ := lv_fnd hR q
    rw [e]
    exact (rt_ok hR i hi (.inl h1)).2.2.2.2.2.2
  · rw [ob_no hR hh q]
    exact Nat.zero_le _
theorem outs_len (h : Int) (hh : h ≤ 9223372036854775807) : (outs s h).length ≤ 4 := Nat.le_trans (nz_len _) (ob_flen hR h hh)
theorem outs_le (hF : FB s) {h x : Int} (hh : h ≤ 9223372036854775807) (hx : x ∈ outs s h) : x ≤ 9223372036854775807 := by
  by_cases q : h ∈ lv s
  · obtain ⟨i, hi, h1, _, _, e⟩ := lv_fnd hR q
    unfold outs at hx
    rw [e] at hx
    exact hF _ (List.getElem_mem hi) x (nz_mem.1 hx).1
  · rw [outs_no hR hh q] at hx
    cases hx
end
theorem outs_nz {s : store_Store} {h x : Int} (hx : x ∈ outs s h) : x ≠ 0 := (nz_mem.1 hx).2

theorem get06 (s : store_Store) (hl : s.S.Cells.length ≤ 1000) {h : Int} (hh : h ≤ 9223372036854775807) : r06_Get (sO s) h = (store_Get s h).map fun p => (oo p.1, p.2) := by
  unfold r06_Get store_Get slab_Get_store_Obj r03_Get
  rw [plain06 _ (by rw [sO_len]; exact hl), Option.bind_some, find06 s hh]
  rcases find_cases_o s.S hh with ⟨i, hf, e⟩ | ⟨hf, e⟩
  · rw [e]
    have hi := hf.1
    simp only [Option.bind_some, bne_self_eq_false, Bool.false_eq_true, if_false]
    rw [pl_at (by rw [sO_len]; exact hi), ix_at hi]
    simp only [Option.bind_some, plc, sO, List.getElem_map, cO]
    split
    · rfl
    · simp only [Option.bind_some, bne_self_eq_false, Bool.false_eq_true, if_false]
      rw [ix_at (by simpa using hi)]
      simp [cO, oo]
  · rw [e]
    simp only [Option.bind_some]
    have hne : ((if h = 0 then 2 else 3 : Int) != 0) = true := by simpa using err_ne_o h
    simp only [hne, if_true, Option.bind_some]
    rfl
end Go.Sh

namespace Go.Sh
set_option linter.unusedVariables false
set_option linter.unusedSimpArgs false

theorem sorted06 {s : store_Store} (hR : RtR (sO s)) {l : List Int} (hl : ∀ x ∈ l, x ∈ lv s) (hn : l.length ≤ 100) :
    ∃ m, r06_Sorted (sO s) l = some m ∧ m.Perm l ∧ m.Pairwise (fun a b => sk s.S.Cells a ≤ sk s.S.Cells b) := by
  have hfind : ∀ x ∈ l, ∃ i : Nat, ∃ hi : i < s.S.Cells.length, r03_Find (pl (sO s)) x = some ((i : Int), 0) ∧ s.S.Cells[i].Val.Serial = sk s.S.Cells x := fun x hx => by
    obtain ⟨i, hi, _, _, hf, h4, _⟩ := hnds_fnd hR ((lv_mem hR).1 (hl x hx))
    refine ⟨i, hi, ?_, h4.symm⟩
    rw [find06 s (by have := hnd_le hf.2.1; omega), find_of_o hf]
  unfold r06_Sorted
  rw [app_nil (by omega) (by omega), Option.bind_some]
  simp only [jn]
  -- keys by place
  let K : List Int → Nat → Int := fun o a => sk s.S.Cells (o.getD a 0)
  have hplain := plain06 (sO s) (by rw [sO_len]; have := rt_len hR; omega)
  -- the inner loop
  have inner : ∀ (n : Nat) (o : List Int), n < l.length → o.Perm l → (∀ a b, a < b → b ≤ n → b ≠ n → K o a ≤ K o b) →
      ∃ o', lp (S := Int × (List Int)) (E := (List Int)) (fun ((s58, s59) : Int × (List Int)) =>
            if (decide (s58 > 0)) then
              (r06_Plain (sO s)).bind fun v62 =>
              (ix s59 (w64 (s58 - 1))).bind fun v63 =>
              (r03_Find v62 v63).bind fun v64 =>
              (ix s59 s58).bind fun v65 =>
              (r03_Find v62 v65).bind fun v66 =>
              (onlyIf (((decide (v64.1 < 0)) || (decide (v66.1 < 0))) == false) (⟨0, 0, ⟨0, 0, 0, 0, false, []⟩⟩ : r06_Cell) (ix (sO s).Cells v64.1)).bind fun v67 =>
              (onlyIf (((decide (v64.1 < 0)) || (decide (v66.1 < 0))) == false) (⟨0, 0, ⟨0, 0, 0, 0, false, []⟩⟩ : r06_Cell) (ix (sO s).Cells v66.1)).bind fun v68 =>
              if (((decide (v64.1 < 0)) || (decide (v66.1 < 0))) || (decide (v67.Val.Serial ≤ v68.Val.Serial))) then
                some (.inr s59)
              else
              (ix (s59.set (s58).toNat v63) (w64 (s58 - 1))).bind fun v69 =>
              some (.inl (w64 (s58 - 1), ((s59.set (s58).toNat v63).set (w64 (s58 - 1)).toNat v65)))
            else
            some (.inr s59)) ((n : Int), o) = some o' ∧ o'.Perm l ∧ ∀ a b, a < b → b ≤ n → K o' a ≤ K o' b := by
    intro n o hn' hp hk
    have hbn : (n : Int).toNat < 4611686018427387904 := by rw [Int.toNat_natCast]; omega
    refine lp_ind (s0 := ((n : Int), o)) (fun q => ∃ k : Nat, q.1 = (k : Int) ∧ k ≤ n ∧ q.2.Perm l ∧ ∀ a b, a < b → b ≤ n → b ≠ k → K q.2 a ≤ K q.2 b) (fun o' => o'.Perm l ∧ ∀ a b, a < b → b ≤ n → K o' a ≤ K o' b) (fun q => q.1.toNat) ⟨n, rfl, Nat.le_refl _, hp, hk⟩ hbn ?_
    rintro ⟨_, o⟩ ⟨k, rfl, hkn, hp, hk⟩
    simp only at hp hk ⊢
    have hol : o.length = l.length := hp.length_eq
    rcases Nat.eq_zero_or_pos k with rfl | hpos
    · right
      refine ⟨o, by rw [if_neg (by simp)], hp, fun a b h1 h2 => hk a b h1 h2 (by omega)⟩
    · obtain ⟨j, rfl⟩ : ∃ j, k = j + 1 := ⟨k - 1, by omega⟩
      have hj1 : j + 1 < o.length := by omega
      have hj : j < o.length := by omega
      have ew : w64 (((j + 1 : Nat) : Int) - 1) = (j : Int) := by rw [w64_in (by omega) (by omega)]; omega
      obtain ⟨ia, hia, fa, ka⟩ := hfind o[j] (hp.mem_iff.1 (List.getElem_mem hj))
      obtain ⟨ib, hib, fb, kb⟩ := hfind o[j + 1] (hp.mem_iff.1 (List.getElem_mem hj1))
      have ea : ix (sO s).Cells (ia : Int) = some (cO s.S.Cells[ia]) := by rw [sO_ix, ix_at hia]; rfl
      have eb : ix (sO s).Cells (ib : Int) = some (cO s.S.Cells[ib]) := by rw [sO_ix, ix_at hib]; rfl
      have hneg : ((decide ((ia : Int) < 0)) || (decide ((ib : Int) < 0))) = false := by simp
      have hpos' : decide (((j + 1 : Nat) : Int) > 0) = true := by simp
      simp only [hpos', if_true, hplain, ew, ix_at hj, ix_at hj1, Option.bind_some, fa, fb, hneg, beq_self_eq_true, onlyT, ea, eb, Bool.false_or, cO, oo, ka, kb, Int.toNat_natCast]
      have Kj : K o j = sk s.S.Cells o[j] := by simp [K, List.getD, List.getElem?_eq_getElem hj]
      have Kj1 : K o (j + 1) = sk s.S.Cells o[j + 1] := by simp [K, List.getD, List.getElem?_eq_getElem hj1]
      by_cases hle : sk s.S.Cells o[j] ≤ sk s.S.Cells o[j + 1]
      · right
        refine ⟨o, by rw [if_pos (by simpa using hle)], hp, fun a b h1 h2 => ?_⟩
        by_cases e : b = j + 1
        · subst e
          rcases Nat.lt_or_ge a j with q | q
          · have := hk a j q (by omega) (by omega)
            omega
          · have : a = j := by omega
            subst this
            omega
        · exact hk a b h1 h2 e
      · left
        refine ⟨_, by rw [if_neg (by simpa using hle), ix_at (by simpa using hj)]; rfl, ⟨j, rfl, by omega, ?_, fun a b h1 h2 h3 => ?_⟩, by show (j : Int).toNat < ((j + 1 : Nat) : Int).toNat; omega⟩
        · exact (List.set_set_perm hj1 hj).trans hp
        · have hK : ∀ c, K ((o.set (j + 1) o[j]).set j o[j + 1]) c = if c = j then K o (j + 1) else if c = j + 1 then K o j else K o c := fun c => by
            simp only [K, List.getD, List.getElem?_set, List.length_set]
            by_cases c1 : c = j
            · subst c1; simp [hj, List.getElem?_eq_getElem hj1]
            · by_cases c2 : c = j + 1
              · subst c2; simp [hj1, List.getElem?_eq_getElem hj]
              · rw [if_neg (by omega), if_neg (by omega), if_neg c1, if_neg c2]
          show K ((o.set (j + 1) o[j]).set ((j : Nat) : Int).toNat o[j + 1]) a ≤ K ((o.set (j + 1) o[j]).set ((j : Nat) : Int).toNat o[j + 1]) b
          rw [Int.toNat_natCast, hK, hK]
          by_cases a1 : a = j
          · subst a1
            rw [if_pos rfl]
            by_cases b2 : b = a + 1
            · subst b2
              rw [if_neg (by omega), if_pos rfl]
              omega
            · rw [if_neg (by omega), if_neg b2]
              exact hk (a + 1) b (by omega) h2 b2
          · rw [if_neg a1]
            by_cases a2 : a = j + 1
            · subst a2
              rw [if_pos rfl, if_neg (by omega), if_neg (by omega)]
              exact hk j b (by omega) h2 (by omega)
            · rw [if_neg a2, if_neg h3]
              by_cases b2 : b = j + 1
              · subst b2
                rw [if_pos rfl]
                exact hk a j (by omega) (by omega) (by omega)
              · rw [if_neg b2]
                exact hk a b h1 h2 b2
  have outer : ∃ m, (lp (S := Int × (List Int)) (E := (List Int)) (fun ((s38, s39) : Int × (List Int)) =>
      if (decide (s38 < (s39.length : Int))) then
          (lp (S := Int × (List Int)) (E := (List Int)) (fun ((s58, s59) : Int × (List Int)) =>
            if (decide (s58 > 0)) then
              (r06_Plain (sO s)).bind fun v62 =>
              (ix s59 (w64 (s58 - 1))).bind fun v63 =>
              (r03_Find v62 v63).bind fun v64 =>
              (ix s59 s58).bind fun v65 =>
              (r03_Find v62 v65).bind fun v66 =>
              (onlyIf (((decide (v64.1 < 0)) || (decide (v66.1 < 0))) == false) (⟨0, 0, ⟨0, 0, 0, 0, false, []⟩⟩ : r06_Cell) (ix (sO s).Cells v64.1)).bind fun v67 =>
              (onlyIf (((decide (v64.1 < 0)) || (decide (v66.1 < 0))) == false) (⟨0, 0, ⟨0, 0, 0, 0, false, []⟩⟩ : r06_Cell) (ix (sO s).Cells v66.1)).bind fun v68 =>
              if (((decide (v64.1 < 0)) || (decide (v66.1 < 0))) || (decide (v67.Val.Serial ≤ v68.Val.Serial))) then
                some (.inr s59)
              else
              (ix (s59.set (s58).toNat v63) (w64 (s58 - 1))).bind fun v69 =>
              some (.inl (w64 (s58 - 1), ((s59.set (s58).toNat v63).set (w64 (s58 - 1)).toNat v65)))
            else
            some (.inr s59)) (s38, s39)).bind fun e57 =>
          some (.inl (w64 (s38 + 1), e57))
      else
      some (.inr s39)) (1, l)) = some m ∧ m.Perm l ∧ m.Pairwise (fun a b => sk s.S.Cells a ≤ sk s.S.Cells b) := by
    have hb1 : l.length + 1 - (1 : Int).toNat < 4611686018427387904 := by omega
    refine lp_ind (s0 := ((1 : Int), l)) (fun q => ∃ k : Nat, q.1 = (k : Int) ∧ (k ≤ l.length ∨ k = 1) ∧ 1 ≤ k ∧ q.2.Perm l ∧ ∀ a b, a < b → b < k → K q.2 a ≤ K q.2 b) (fun (o' : List Int) => o'.Perm l ∧ o'.Pairwise (fun a b => sk s.S.Cells a ≤ sk s.S.Cells b)) (fun q => l.length + 1 - q.1.toNat) ⟨1, rfl, .inr rfl, by omega, List.Perm.refl _, fun a b h1 h2 => by omega⟩ hb1 ?_
    rintro ⟨_, o⟩ ⟨k, rfl, hkl, hk1, hp, hk⟩
    simp only at hp hk ⊢
    have hol : o.length = l.length := hp.length_eq
    rcases Nat.lt_or_ge k l.length with h1 | h1
    · left
      obtain ⟨o', e1, e2, e3⟩ := inner k o h1 hp fun a b x1 x2 x3 => hk a b x1 (by omega)
      refine ⟨(((k + 1 : Nat) : Int), o'), ?_, ⟨k + 1, rfl, by omega, by omega, e2, fun a b x1 x2 => e3 a b x1 (by omega)⟩, by show l.length + 1 - ((k + 1 : Nat) : Int).toNat < l.length + 1 - (k : Int).toNat; omega⟩
      rw [if_pos (by simp; omega), e1, Option.bind_some, w64_nat (by omega)]
    · right
      refine ⟨o, by rw [if_neg (by simp; omega)], hp, ?_⟩
      rw [List.pairwise_iff_getElem]
      intro i j hi hj hij
      have := hk i j hij (by omega)
      simpa [K, List.getD, List.getElem?_eq_getElem hi, List.getElem?_eq_getElem hj] using this
  obtain ⟨m, e1, e2, e3⟩ := outer
  exact ⟨m, by rw [show lp _ _ = _ from e1]; rfl, e2, e3⟩

theorem live06 {s : store_Store} (hR : RtR (sO s)) : r06_Live (sO s) = some (lv s) := by
  have hlen := rt_len hR
  unfold r06_Live
  simp only [jn]
  have hloop : lp (S := Int × (List Int)) (E := (List Int)) (fun ((s18, s19) : Int × (List Int)) =>
      if (decide (s18 < ((sO s).Cells.length : Int))) then
          (ix (sO s).Cells s18).bind fun v27 =>
          if (v27.State == 1) then
            (r01_Pack s18 v27.Gen).bind fun v28 =>
            (app 8 s19 [v28]).bind fun v29 =>
            some (.inl (w64 (s18 + 1), v29))
          else
          some (.inl (w64 (s18 + 1), s19))
      else
      some (.inr s19)) (0, []) = some (hnds 0 s.S.Cells) := by
    refine some_of (lp_upS (T := List Int) s.S.Cells.length (fun k l => l = hnds 0 (s.S.Cells.take k)) (fun e => e = hnds 0 s.S.Cells) (by omega) (by simp [hnds]) (fun k l hk hP => ?_) (fun l hP => ?_))
    · subst hP
      left
      have hc := (rt_slb hR).gen k hk
      have hl := hnds_len 0 (s.S.Cells.take k)
      have et : s.S.Cells.take (k + 1) = s.S.Cells.take k ++ [s.S.Cells[k]] := by rw [List.take_add_one, List.getElem?_eq_getElem hk]; rfl
      have el : (s.S.Cells.take k).length = k := by simp; omega
      refine ⟨_, ?_, rfl⟩
      simp only [sO_len, Int.ofNat_lt, hk, decide_true, if_true, sO_ix, ix_at hk, Option.map_some, Option.bind_some, cO]
      rw [et, hnds_snoc, el, Nat.zero_add]
      by_cases q : s.S.Cells[k].State = 1
      · rw [if_pos (by simpa using q), if_pos q, r01_Pack_eq, Option.bind_some, if_pos (by omega), app_ok (by omega) (by simp; omega), Option.bind_some, w64_nat]
      · rw [if_neg (by simpa using q), if_neg q, w64_nat, List.append_nil]
    · subst hP
      refine ⟨_, by simp only [sO_len, Int.lt_irrefl, decide_false, Bool.false_eq_true, if_false]; rfl, by simp⟩
  rw [show lp _ _ = _ from hloop, Option.bind_some]
  obtain ⟨m, h1, h2, h3⟩ := sorted06 hR (l := hnds 0 s.S.Cells) (fun x hx => (lv_mem hR).2 hx) (by have := hnds_len 0 s.S.Cells; omega)
  rw [h1, Option.bind_some]
  congr 1
  obtain ⟨_, l2, l3⟩ := lv_spec hR
  exact sorted_one (key := sk s.S.Cells) (h2.trans l2.symm) h3 (l3.imp fun h => by omega) fun a ha b hb e => sk_inj hR (h2.mem_iff.1 ha) (h2.mem_iff.1 hb) e
end Go.Sh

namespace Go.Sh
set_option linter.unusedVariables false
set_option linter.unusedSimpArgs false

theorem names_eq (v : List Int) (h : v.length ≤ 1000000) : vec_Names v = some (nz v) := by
  unfold vec_Names vec_named
  simp only [jn, Option.bind_some]
  rw [lp_foldl v (fun b x => if x != 0 then b ++ [x] else b) id (fun k b => b.length ≤ k) (by omega) (by simp) (fun k hk b hb => ?_) (fun b _ => ?_)]
  · simp only [Option.bind_some, id]
    rw [foldl_filter]
    rfl
  · simp only [Int.ofNat_lt, hk, decide_true, if_true, ix_at hk, Option.bind_some]
    by_cases q : (v[k] != 0) = true
    · rw [if_pos (by simpa using q), if_pos q, app_ok (by omega) (by simp; omega), Option.bind_some, w64_nat]
      exact ⟨rfl, by simp; omega⟩
    · rw [if_neg (by simpa using q), if_neg q, w64_nat]
      exact ⟨rfl, by omega⟩
  · simp only [Int.lt_irrefl, decide_false, Bool.false_eq_true, if_false]
    rfl

theorem names05_eq (v : List Int) (h : v.length ≤ 1000000) : r05_Names v = some (nz v) := by
  unfold r05_Names
  simp only [jn]
  rw [lp_foldl v (fun b x => if x != 0 then b ++ [x] else b) id (fun k b => b.length ≤ k) (by omega) (by simp) (fun k hk b hb => ?_) (fun b _ => ?_)]
  · simp only [Option.bind_some, id]
    rw [foldl_filter]
    rfl
  · simp only [Int.ofNat_lt, hk, decide_true, if_true, ix_at hk, Option.bind_some]
    by_cases q : (v[k] != 0) = true
    · rw [if_pos q, if_pos q, app_ok (by omega) (by simp; omega), Option.bind_some, w64_nat]
      exact ⟨rfl, by simp; omega⟩
    · rw [if_neg q, if_neg q, w64_nat]
      exact ⟨rfl, by omega⟩
  · simp only [Int.lt_irrefl, decide_false, Bool.false_eq_true, if_false]
    rfl

theorem times07_eq (l : List Int) (h : Int) (hl : l.length ≤ 1000000) : r07_Times l h = some (tms l h : Int) := by
  unfold r07_Times
  simp only [jn]
  rw [lp_foldlR l (fun (b : Int) x => if (x == h && h != 0) then b + 1 else b) id (fun k b => 0 ≤ b ∧ b ≤ k) (by omega) (by simp) (fun k hk b hb => ?_) (fun b _ => ?_)]
  · simp only [Option.bind_some, id]
    rw [foldl_count]
    simp
  · simp only [Int.ofNat_lt, hk, decide_true, if_true, ix_at hk, Option.bind_some]
    by_cases q : (l[k] == h && h != 0) = true
    · rw [if_pos q, if_pos q, w64_nat, w64_in (n := b + 1) (by omega) (by omega)]
      exact ⟨rfl, by omega⟩
    · rw [if_neg q, if_neg q, w64_nat]
      exact ⟨rfl, by omega⟩
  · simp only [Int.lt_irrefl, decide_false, Bool.false_eq_true, if_false]
    rfl

theorem count_eq (l : List Int) (h : Int) (hl : l.length ≤ 1000000) : vec_Count l h = some (tms l h : Int) := by
  unfold vec_Count vec_named
  simp only [jn, Option.bind_some]
  rw [lp_foldl l (fun (b : Int) x => if (x == h && h != 0) then b + 1 else b) id (fun k b => 0 ≤ b ∧ b ≤ k) (by omega) (by simp) (fun k hk b hb => ?_) (fun b _ => ?_)]
  · simp only [Option.bind_some, id]
    rw [foldl_count]
    simp
  · simp only [Int.ofNat_lt, hk, decide_true, if_true, ix_at hk, Option.bind_some, Bool.and_false, Bool.false_eq_true, if_false]
    by_cases q0 : l[k] = 0
    · have e1 : ((l[k] != 0) == true) = false := by simp [q0]
      have e2 : (l[k] == h && h != 0) = false := by rw [Bool.eq_false_iff]; simp only [ne_eq, Bool.and_eq_true, beq_iff_eq, bne_iff_ne]; omega
      rw [e1, e2, w64_nat]
      exact ⟨rfl, by simp; omega⟩
    · have e1 : ((l[k] != 0) == true) = true := by simp [q0]
      rw [e1, if_pos rfl]
      by_cases q : l[k] = h
      · have e2 : (l[k] == h && h != 0) = true := by simp only [Bool.and_eq_true, beq_iff_eq, bne_iff_ne]; omega
        rw [e2, if_pos (by simpa using q), if_pos rfl, w64_nat, w64_in (n := b + 1) (by omega) (by omega)]
        exact ⟨rfl, by omega⟩
      · have e2 : (l[k] == h && h != 0) = false := by rw [Bool.eq_false_iff]; simp only [ne_eq, Bool.and_eq_true, beq_iff_eq, bne_iff_ne]; omega
        rw [e2, if_neg (by simpa using q), w64_nat]
        exact ⟨rfl, by simp; omega⟩
  · simp only [Int.lt_irrefl, decide_false, Bool.false_eq_true, if_false]
    rfl

theorem times_eq (l : List Int) (h : Int) (hl : l.length ≤ 1000000) : refs_Times l h = some (tms l h : Int) := by
  unfold refs_Times
  rw [count_eq l h hl]
  rfl

/-- How often one is named. -/
noncomputable def inn (s : store_Store) (h : Int) : Nat := ((lv s).map fun x => tms (outs s x) h).sum
/-- By whom one is named. -/
noncomputable def bys (s : store_Store) (h : Int) : List Int := (lv s).filter fun x => decide (0 < tms (outs s x) h)
/-- Names of nobody. -/
noncomputable def dng (s : store_Store) : List Int := (lv s).flatMap fun x => (outs s x).filter fun y => decide (y ∉ lv s)

theorem lv_in {s : store_Store} (hR : RtR (sO s)) {k : Nat} (hk : k < (lv s).length) : (lv s)[k] ≤ 9223372036854775807 := by
  have := lv_pos hR (List.getElem_mem hk)
  omega

section
variable {s : store_Store} (hR : RtR (sO s))
include hR
theorem out_eq {h : Int} (hh : h ≤ 9223372036854775807) : refs_Out s h = some (outs s h) := by
  obtain ⟨e, h1, _⟩ := get_ob hR hh
  unfold refs_Out
  rw [h1, Option.bind_some, names_eq _ (by have := ob_flen hR h hh; simp only; omega)]
  rfl
theorem out07_eq {h : Int} (hh : h ≤ 9223372036854775807) : r07_Out (sO s) h = some (outs s h) := by
  unfold r07_Out
  rw [get06 s (by have := rt_len hR; omega) hh]
  obtain ⟨e, h1, h2⟩ := get_ob hR hh
  rw [h1]
  simp only [Option.map_some, Option.bind_some]
  by_cases q : e = 0
  · subst q
    rw [if_neg (by simp), names05_eq _ (by have := ob_flen hR h hh; simp only [oo]; omega)]
    rfl
  · rw [if_pos (by simpa using q), outs_no hR hh (fun q' => q (h2.2 q'))]

theorem inn_le (h : Int) : inn s h ≤ 96 := by
  have := sum_le (fun x => tms (outs s x) h) 4 (lv s) fun x hx => Nat.le_trans (tms_le _ _) (outs_len hR x (by have := lv_pos hR hx; omega))
  have := lv_len hR
  unfold inn
  omega

theorem in_eq (h : Int) : refs_In s h = some (inn s h : Int) := by
  unfold refs_In refs_edges
  simp only [jn, Option.bind_some]
  rw [show store_Live s = _ from lv_live hR, Option.bind_some]
  have hl := lv_len hR
  rw [lp_foldl (lv s) (fun (b : Int) x => b + (tms (outs s x) h : Int)) id (fun k b => 0 ≤ b ∧ b ≤ 4 * k) (by omega) (by simp) (fun k hk b hb => ?_) (fun b _ => ?_)]
  · simp only [Option.bind_some, id]
    have := foldl_sumN (fun x => tms (outs s x) h) (lv s) 0
    rw [show ((0 : Nat) : Int) = 0 from rfl] at this
    rw [this, Nat.zero_add]
    rfl
  · have ho := out_eq hR (lv_in hR hk)
    have hol := outs_len hR _ (lv_in hR hk)
    have ht := tms_le (outs s (lv s)[k]) h
    simp only [Int.ofNat_lt, hk, decide_true, if_true, ix_at hk, Option.bind_some, ho]
    rw [lp_foldl (outs s (lv s)[k]) (fun (b : Int) x => if (x == h && h != 0) then b + 1 else b) id (fun j c => b ≤ c ∧ c ≤ b + j) (by omega) (by simp) (fun j hj c hc => ?_) (fun c _ => ?_)]
    · simp only [Option.bind_some, id]
      rw [foldl_count, w64_nat]
      exact ⟨rfl, by omega⟩
    · simp only [Int.ofNat_lt, hj, decide_true, if_true, ix_at hj, Option.bind_some]
      have hne := outs_nz (List.getElem_mem hj)
      by_cases q : (outs s (lv s)[k])[j] = h
      · have e2 : ((outs s (lv s)[k])[j] == h && h != 0) = true := by simp only [Bool.and_eq_true, beq_iff_eq, bne_iff_ne]; omega
        rw [e2, if_pos (by simpa using q), if_pos rfl, w64_nat, w64_in (n := c + 1) (by omega) (by omega)]
        exact ⟨rfl, by omega⟩
      · have e2 : ((outs s (lv s)[k])[j] == h && h != 0) = false := by rw [Bool.eq_false_iff]; simp only [ne_eq, Bool.and_eq_true, beq_iff_eq, bne_iff_ne]; omega
        rw [e2, if_neg (by simpa using q), w64_nat]
        exact ⟨rfl, by simp; omega⟩
    · simp only [Int.lt_irrefl, decide_false, Bool.false_eq_true, if_false]
      rfl
  · simp only [Int.lt_irrefl, decide_false, Bool.false_eq_true, if_false]
    rfl

theorem in07_eq (h : Int) : r07_In (sO s) h = some (inn s h : Int) := by
  unfold r07_In
  simp only [jn, live06 hR, Option.bind_some]
  have hl := lv_len hR
  rw [lp_foldlR (lv s) (fun (b : Int) x => b + (tms (outs s x) h : Int)) id (fun k b => 0 ≤ b ∧ b ≤ 4 * k) (by omega) (by simp) (fun k hk b hb => ?_) (fun b _ => ?_)]
  · simp only [Option.bind_some, id]
    have := foldl_sumN (fun x => tms (outs s x) h) (lv s) 0
    rw [show ((0 : Nat) : Int) = 0 from rfl] at this
    rw [this, Nat.zero_add]
    rfl
  · have hol := outs_len hR _ (lv_in hR hk)
    have ht := tms_le (outs s (lv s)[k]) h
    simp only [Int.ofNat_lt, hk, decide_true, if_true, ix_at hk, Option.bind_some, out07_eq hR (lv_in hR hk)]
    rw [times07_eq _ _ (by omega), Option.bind_some, w64_nat, w64_in (by omega) (by omega)]
    exact ⟨rfl, by omega⟩
  · simp only [Int.lt_irrefl, decide_false, Bool.false_eq_true, if_false]
    rfl

theorem by_eq (h : Int) : refs_By s h = some (bys s h) := by
  unfold refs_By refs_edges
  simp only [jn, Option.bind_some]
  rw [show store_Live s = _ from lv_live hR, Option.bind_some]
  have hl := lv_len hR
  rw [lp_foldl (lv s) (fun b x => if decide (0 < tms (outs s x) h) then b ++ [x] else b) id (fun k b => b.length ≤ k ∧ ∀ y ∈ b, y ∈ (lv s).take k) (by omega) (by simp) (fun k hk b hb => ?_) (fun b _ => ?_)]
  · simp only [Option.bind_some, id]
    rw [foldl_filter]
    rfl
  · obtain ⟨hb, hm⟩ := hb
    have ho := out_eq hR (lv_in hR hk)
    have hol := outs_len hR _ (lv_in hR hk)
    have hnot : (lv s)[k] ∉ b := fun q => by
      have h1 := hm _ q
      have h2 := lv_nodup hR
      obtain ⟨j, hj, e⟩ := List.mem_iff_getElem.1 h1
      rw [List.getElem_take] at e
      have hjk : j < k := by simp at hj; omega
      exact (List.pairwise_iff_getElem.1 h2 j k (by omega) hk hjk) e
    simp only [Int.ofNat_lt, hk, decide_true, if_true, ix_at hk, Option.bind_some, ho]
    have inner : lp (S := Int × (List Int)) (E := (List Int)) (fun ((s66, s67) : Int × (List Int)) =>
            if (decide (s66 < ((outs s (lv s)[k]).length : Int))) then
              (ix (outs s (lv s)[k]) s66).bind fun v70 =>
                (onlyIf (((v70 != h) == false) && ((decide ((s67.length : Int) > 0)) == true)) (0 : Int) (ix s67 (w64 ((s67.length : Int) - 1)))).bind fun v75 =>
                if ((v70 != h) || ((decide ((s67.length : Int) > 0)) && (v75 == (lv s)[k]))) then
                  some (.inl (w64 (s66 + 1), s67))
                else
                (app 8 s67 [(lv s)[k]]).bind fun v76 =>
                some (.inl (w64 (s66 + 1), v76))
            else
            some (.inr s67)) (0, b) = some (if decide (0 < tms (outs s (lv s)[k]) h) then b ++ [(lv s)[k]] else b) := by
      refine some_of (lp_upS (T := List Int) (outs s (lv s)[k]).length (fun j c => c = if h ∈ (outs s (lv s)[k]).take j then b ++ [(lv s)[k]] else b) (fun e => e = _) (by omega) (by simp) (fun j c hj hP => ?_) (fun c hP => ?_))
      · subst hP
        left
        have hmem : h ∈ (outs s (lv s)[k]).take (j + 1) ↔ h ∈ (outs s (lv s)[k]).take j ∨ h = (outs s (lv s)[k])[j] := by
          rw [List.take_succ_eq_append_getElem hj, List.mem_append, List.mem_singleton]
        refine ⟨_, ?_, rfl⟩
        simp only [Int.ofNat_lt, hj, decide_true, if_true, ix_at hj, Option.bind_some]
        by_cases q : (outs s (lv s)[k])[j] = h
        · have e1 : ((outs s (lv s)[k])[j] != h) = false := by simp [q]
          rw [e1]
          by_cases q2 : h ∈ (outs s (lv s)[k]).take j
          · rw [if_pos q2, if_pos (hmem.2 (.inl q2))]
            have hlen : ((b ++ [(lv s)[k]]).length : Int) > 0 := by rw [List.length_append, List.length_singleton]; omega
            have hix : ix (b ++ [(lv s)[k]]) (w64 (((b ++ [(lv s)[k]]).length : Int) - 1)) = some (lv s)[k] := by
              rw [List.length_append, List.length_singleton, show w64 (((b.length + 1 : Nat) : Int) - 1) = (b.length : Int) by rw [w64_def]; omega, ix_nat]
              simp
            rw [decide_eq_true hlen]
            simp only [beq_self_eq_true, Bool.and_self, onlyT, hix, Option.bind_some, Bool.false_or, if_true]
            rw [w64_nat (by omega)]
          · rw [if_neg q2, if_pos (hmem.2 (.inr q.symm))]
            have e3 : ∀ v : Int, (decide ((b.length : Int) > 0) && (if hb : 0 < b.length then b[b.length - 1] else v) == (lv s)[k]) = false := fun v => by
              by_cases hb0 : 0 < b.length
              · rw [dif_pos hb0, Bool.and_eq_false_iff]
                right
                rw [beq_eq_false_iff_ne]
                intro e
                exact hnot (e ▸ List.getElem_mem _)
              · rw [decide_eq_false (by omega)]; rfl
            have e4 : (onlyIf ((false == false) && (decide ((b.length : Int) > 0) == true)) (0 : Int) (ix b (w64 ((b.length : Int) - 1)))) = some (if hb : 0 < b.length then b[b.length - 1] else 0) := by
              by_cases hb0 : 0 < b.length
              · rw [decide_eq_true (by omega), dif_pos hb0]
                simp only [beq_self_eq_true, Bool.and_self, onlyT]
                rw [show w64 ((b.length : Int) - 1) = ((b.length - 1 : Nat) : Int) by rw [w64_def]; omega, ix_at (by omega)]
              · rw [decide_eq_false (by omega), dif_neg hb0]
                rfl
            rw [e4, Option.bind_some, Bool.false_or, e3, if_neg (by simp), app_ok (by omega) (by simp; omega), Option.bind_some, w64_nat (by omega)]
        · have e1 : ((outs s (lv s)[k])[j] != h) = true := by simpa using q
          rw [e1]
          simp only [show ((true == false) : Bool) = false from rfl, Bool.false_and, onlyF, Option.bind_some, Bool.true_or, if_true]
          rw [w64_nat (by omega)]
          by_cases q2 : h ∈ (outs s (lv s)[k]).take j
          · rw [if_pos q2, if_pos (hmem.2 (.inl q2))]
          · rw [if_neg q2, if_neg (fun q' => (hmem.1 q').elim q2 fun e => q e.symm)]
      · subst hP
        refine ⟨_, by simp only [Int.lt_irrefl, decide_false, Bool.false_eq_true, if_false]; rfl, ?_⟩
        rw [List.take_length]
        by_cases q : h ∈ outs s (lv s)[k]
        · rw [if_pos q, if_pos (by simpa using tms_pos.2 ⟨outs_nz q, q⟩)]
        · rw [if_neg q, if_neg (by simpa using fun q' => q (tms_pos.1 q').2)]
    rw [show lp _ _ = _ from inner, Option.bind_some, w64_nat]
    refine ⟨rfl, ?_, fun y hy => ?_⟩
    · split
      · simp; omega
      · omega
    · rw [List.take_succ_eq_append_getElem hk, List.mem_append]
      split at hy
      · rcases List.mem_append.1 hy with q | q
        · exact .inl (hm y q)
        · exact .inr q
      · exact .inl (hm y hy)
  · simp only [Int.lt_irrefl, decide_false, Bool.false_eq_true, if_false]
    rfl

theorem by07_eq (h : Int) : r07_By (sO s) h = some (bys s h) := by
  unfold r07_By
  simp only [jn, live06 hR, Option.bind_some]
  have hl := lv_len hR
  rw [lp_foldl (lv s) (fun b x => if decide (0 < tms (outs s x) h) then b ++ [x] else b) id (fun k b => b.length ≤ k) (by omega) (by simp) (fun k hk b hb => ?_) (fun b _ => ?_)]
  · simp only [Option.bind_some, id]
    rw [foldl_filter]
    rfl
  · have hol := outs_len hR _ (lv_in hR hk)
    simp only [Int.ofNat_lt, hk, decide_true, if_true, ix_at hk, Option.bind_some, out07_eq hR (lv_in hR hk)]
    rw [times07_eq _ _ (by omega), Option.bind_some]
    by_cases q : 0 < tms (outs s (lv s)[k]) h
    · rw [if_pos (by simpa using q), if_pos (by simpa using q), app_ok (by omega) (by simp; omega), Option.bind_some, w64_nat]
      exact ⟨rfl, by simp; omega⟩
    · rw [if_neg (by simpa using q), if_neg (by simpa using q), w64_nat]
      exact ⟨rfl, by omega⟩
  · simp only [Int.lt_irrefl, decide_false, Bool.false_eq_true, if_false]
    rfl
end
end Go.Sh

namespace Go.Sh
set_option linter.unusedVariables false
set_option linter.unusedSimpArgs false
section
variable {s : store_Store} (hR : RtR (sO s)) (hF : FB s)
include hR hF

theorem dangling_eq : refs_Dangling s = some (dng s) := by
  unfold refs_Dangling refs_edges
  simp only [jn, Option.bind_some]
  rw [show store_Live s = _ from lv_live hR, Option.bind_some]
  have hl := lv_len hR
  rw [lp_foldl (lv s) (fun b x => b ++ (outs s x).filter fun y => decide (y ∉ lv s)) id (fun k b => b.length ≤ 4 * k) (by omega) (by simp) (fun k hk b hb => ?_) (fun b _ => ?_)]
  · simp only [Option.bind_some, id]
    rw [foldl_flat]
    rfl
  · have ho := out_eq hR (lv_in hR hk)
    have hol := outs_len hR _ (lv_in hR hk)
    simp only [Int.ofNat_lt, hk, decide_true, if_true, ix_at hk, Option.bind_some, ho]
    rw [lp_foldl (outs s (lv s)[k]) (fun b x => if decide (x ∉ lv s) then b ++ [x] else b) id (fun j c => c.length ≤ b.length + j) (by omega) (by simp) (fun j hj c hc => ?_) (fun c _ => ?_)]
    · simp only [Option.bind_some, id]
      rw [foldl_filter, w64_nat]
      refine ⟨rfl, ?_⟩
      have := List.length_filter_le (fun y => decide (y ∉ lv s)) (outs s (lv s)[k])
      simp only [List.length_append]
      omega
    · obtain ⟨e, h1, h2⟩ := get_ob hR (outs_le hR hF (lv_in hR hk) (List.getElem_mem hj))
      simp only [Int.ofNat_lt, hj, decide_true, if_true, ix_at hj, Option.bind_some, h1]
      by_cases q : e = 0
      · rw [if_neg (by simpa using q), if_neg (by simpa using h2.1 q), w64_nat]
        exact ⟨rfl, by omega⟩
      · rw [if_pos (by simpa using q), if_pos (by simpa using fun q' => q (h2.2 q')), app_ok (by omega) (by simp; omega), Option.bind_some, w64_nat]
        exact ⟨rfl, by simp; omega⟩
    · simp only [Int.lt_irrefl, decide_false, Bool.false_eq_true, if_false]
      rfl
  · simp only [Int.lt_irrefl, decide_false, Bool.false_eq_true, if_false]
    rfl

theorem dangling07_eq : r07_Dangling (sO s) = some (dng s) := by
  unfold r07_Dangling
  simp only [jn, live06 hR, Option.bind_some]
  have hl := lv_len hR
  rw [lp_foldl (lv s) (fun b x => b ++ (outs s x).filter fun y => decide (y ∉ lv s)) id (fun k b => b.length ≤ 4 * k) (by omega) (by simp) (fun k hk b hb => ?_) (fun b _ => ?_)]
  · simp only [Option.bind_some, id]
    rw [foldl_flat]
    rfl
  · have hol := outs_len hR _ (lv_in hR hk)
    simp only [Int.ofNat_lt, hk, decide_true, if_true, ix_at hk, Option.bind_some, out07_eq hR (lv_in hR hk)]
    rw [lp_foldl (outs s (lv s)[k]) (fun b x => if decide (x ∉ lv s) then b ++ [x] else b) id (fun j c => c.length ≤ b.length + j) (by omega) (by simp) (fun j hj c hc => ?_) (fun c _ => ?_)]
    · simp only [Option.bind_some, id]
      rw [foldl_filter, w64_nat]
      refine ⟨rfl, ?_⟩
      have := List.length_filter_le (fun y => decide (y ∉ lv s)) (outs s (lv s)[k])
      simp only [List.length_append]
      omega
    · have hle := outs_le hR hF (lv_in hR hk) (List.getElem_mem hj)
      obtain ⟨e, h1, h2⟩ := get_ob hR hle
      simp only [Int.ofNat_lt, hj, decide_true, if_true, ix_at hj, Option.bind_some]
      rw [get06 s (by have := rt_len hR; omega) hle, h1]
      simp only [Option.map_some, Option.bind_some]
      by_cases q : e = 0
      · rw [if_neg (by simpa using q), if_neg (by simpa using h2.1 q), w64_nat]
        exact ⟨rfl, by omega⟩
      · rw [if_pos (by simpa using q), if_pos (by simpa using fun q' => q (h2.2 q')), app_ok (by omega) (by simp; omega), Option.bind_some, w64_nat]
        exact ⟨rfl, by simp; omega⟩
    · simp only [Int.lt_irrefl, decide_false, Bool.false_eq_true, if_false]
      rfl
  · simp only [Int.lt_irrefl, decide_false, Bool.false_eq_true, if_false]
    rfl
end

theorem sum_comm {α β : Type} (g : α → β → Nat) (l : List α) : ∀ (m : List β), (l.map fun x => (m.map fun y => g x y).sum).sum = (m.map fun y => (l.map fun x => g x y).sum).sum := by
  intro m
  induction l with
  | nil =>
    simp only [List.map_nil, List.sum_nil]
    induction m with
    | nil => rfl
    | cons y m ih => simp only [List.map_cons, List.sum_cons, ← ih, Nat.add_zero]
  | cons x l ih =>
    simp only [List.map_cons, List.sum_cons, ih]
    clear ih
    induction m with
    | nil => rfl
    | cons y m ih =>
      simp only [List.map_cons, List.sum_cons]
      omega

theorem sum_tms {l : List Int} (hn : l.Nodup) (h0 : (0 : Int) ∉ l) : ∀ (m : List Int), (l.map fun h => tms m h).sum = (m.filter fun y => decide (y ∈ l)).length
  | [] => by
    have : ∀ l : List Int, (l.map fun h => tms [] h).sum = 0 := fun l => by
      induction l with
      | nil => rfl
      | cons x l ih => rw [List.map_cons, List.sum_cons, ih]; simp [tms]
    simp [this]
  | y :: m => by
    have ih := sum_tms hn h0 m
    have e : (l.map fun h => tms (y :: m) h).sum = (l.map fun h => tms m h).sum + (if y ∈ l then 1 else 0) := by
      clear ih
      induction l with
      | nil => simp
      | cons x l ihl =>
        rw [List.nodup_cons] at hn
        have := ihl hn.2 (fun q => h0 (List.mem_cons_of_mem _ q))
        simp only [List.map_cons, List.sum_cons, this]
        have hx : x ≠ 0 := fun q => h0 (q ▸ List.mem_cons_self ..)
        have ex : tms (y :: m) x = tms m x + (if y = x then 1 else 0) := by
          unfold tms
          rw [if_neg hx, if_neg hx, List.count_cons]
          simp
        rw [ex]
        by_cases q : y = x
        · subst q
          rw [if_pos rfl, if_neg hn.1, if_pos (List.mem_cons_self ..)]
          omega
        · rw [if_neg q]
          by_cases q2 : y ∈ l
          · rw [if_pos q2, if_pos (List.mem_cons_of_mem _ q2)]; omega
          · rw [if_neg q2, if_neg (fun q3 => (List.mem_cons.1 q3).elim q q2)]; omega
    rw [e, ih]
    by_cases q : y ∈ l
    · simp [q]
    · simp [q]

theorem filter_split {α : Type} (p : α → Bool) : ∀ l : List α, l.length = (l.filter p).length + (l.filter fun x => !p x).length
  | [] => rfl
  | x :: l => by
    have := filter_split p l
    by_cases h : p x
    · simp [h]; omega
    · simp [h]; omega

/-- As many names go out as come in, and as dangle. -/
theorem names_sum {s : store_Store} (hR : RtR (sO s)) : ((lv s).map fun x => (outs s x).length).sum = ((lv s).map fun x => inn s x).sum + (dng s).length := by
  unfold inn dng
  rw [sum_comm (fun x y => tms (outs s y) x) (lv s) (lv s)]
  have h0 : (0 : Int) ∉ lv s := fun q => by have := lv_pos hR q; omega
  simp only [sum_tms (lv_nodup hR) h0]
  generalize lv s = m
  have key : ∀ l : List Int, (l.map fun x => (outs s x).length).sum = (l.map fun x => ((outs s x).filter fun y => decide (y ∈ m)).length).sum + (l.flatMap fun x => (outs s x).filter fun y => decide (y ∉ m)).length := by
    intro l
    induction l with
    | nil => rfl
    | cons x l ih =>
      simp only [List.map_cons, List.sum_cons, List.flatMap_cons, List.length_append]
      have := filter_split (fun y => decide (y ∈ m)) (outs s x)
      simp only [← decide_not] at this
      omega
  exact key m

theorem lv_of {s : store_Store} (hR : RtR (sO s)) {l : List Int} (hp : l.Perm (hnds 0 s.S.Cells)) (hs : l.Pairwise (fun a b => sk s.S.Cells a < sk s.S.Cells b)) : lv s = l := by
  obtain ⟨_, l2, l3⟩ := lv_spec hR
  exact sorted_one (key := sk s.S.Cells) (l2.trans hp.symm) (l3.imp fun h => by omega) (hs.imp fun h => by omega) fun a ha b hb e => sk_inj hR (l2.mem_iff.1 ha) (l2.mem_iff.1 hb) e

theorem rtR_of {s : store_Store} (h1 : s.S.Cells.length ≤ 1000) (h : r06_Right (sO s) = some true) : RtR (sO s) := by
  obtain ⟨b, q1, q2⟩ := Right06 (sO s) (by rw [sO_len]; exact h1)
  rw [h] at q1
  exact q2.1 (Option.some.inj q1).symm
end Go.Sh

namespace Go.Sh
set_option linter.unusedVariables false
set_option linter.unusedSimpArgs false

theorem its07 (s : store_Store) (h : s.S.Cells.length ≤ 30) : w07_its s = some (sO s) := by
  unfold w07_its
  simp only [jn, w07_obj, Option.bind_some]
  have e := lp_collect (b := 80) cO s.S.Cells (by omega) (by omega)
  simp only [cO, oo] at e
  rw [e]
  rfl

theorem small07 (s : store_Store) : w07_small s = some (decide (Sm s)) := by
  unfold w07_small
  simp only [jn]
  refine lpb_up (min s.S.Cells.length 30) (fun k => ∀ j (h : j < s.S.Cells.length), j < k → s.S.Cells[j].Val.Fields.length ≤ 10) (by omega) (fun _ _ h => by omega) (fun k hk hP => ?_) (fun hP => ?_)
  · have hk1 : k < s.S.Cells.length := by omega
    have hk2 : k < 30 := by omega
    have hc : ((decide ((k : Int) < (s.S.Cells.length : Int))) && (decide ((k : Int) < 30))) = true := by simp; omega
    by_cases g : s.S.Cells[k].Val.Fields.length ≤ 10
    · refine .inl ⟨?_, fun j h hj => ?_⟩
      · rw [hc]
        simp only [if_true, ix_at hk1, Option.bind_some]
        rw [if_neg (by simp; omega), w64_nat]
      · rcases Nat.lt_or_ge j k with q | q
        · exact hP j h q
        · have : j = k := by omega
          subst this; exact g
    · refine .inr ⟨.inl false, ?_, ?_⟩
      · rw [hc]
        simp only [if_true, ix_at hk1, Option.bind_some]
        rw [if_pos (by simp; omega)]
      · simp only
        rw [decide_eq_false (fun q : Sm s => g (q.2 k hk1))]
  · refine ⟨.inr (), ?_, ?_⟩
    · rw [show ((decide (((min s.S.Cells.length 30 : Nat) : Int) < (s.S.Cells.length : Int))) && (decide (((min s.S.Cells.length 30 : Nat) : Int) < 30))) = false by
        rcases Nat.lt_or_ge s.S.Cells.length 30 with q | q
        · simp; omega
        · simp; omega]
      rfl
    · simp only
      congr 1
      rw [decide_eq_decide]
      constructor
      · intro q
        exact ⟨by omega, fun i h => hP i h (by omega)⟩
      · intro q
        have := q.1
        omega

theorem right07 (s : store_Store) : ∃ b, w07_right s = some b ∧ (b = true ↔ StR s) := by
  unfold w07_right
  rw [small07, Option.bind_some]
  by_cases h : Sm s ∧ s.Serial < 1000000000
  · rw [show (decide (Sm s) && decide (s.Serial < 1000000000)) = true by simp [h.1, h.2]]
    simp only [beq_self_eq_true, onlyT, its07 s h.1.1, Option.bind_some, Bool.true_and]
    obtain ⟨b, h1, h2⟩ := Right06 (sO s) (by have := h.1.1; simp [sO]; omega)
    rw [h1, Option.bind_some]
    refine ⟨b, rfl, h2.trans ⟨fun q => ⟨q, h.2, h.1.2⟩, fun q => q.rt⟩⟩
  · rw [show (decide (Sm s) && decide (s.Serial < 1000000000)) = false by
      rw [Bool.and_eq_false_iff, decide_eq_false_iff_not, decide_eq_false_iff_not]; exact Decidable.not_and_iff_or_not.1 h]
    refine ⟨false, by simp [onlyIf], ?_⟩
    simp only [Bool.false_eq_true, false_iff]
    intro q
    exact h ⟨⟨by have := q.rt.len; simp [sO] at this; omega, q.fl⟩, q.big⟩
end Go.Sh

namespace Go.Sh
set_option linter.unusedVariables false
set_option linter.unusedSimpArgs false

/-- The store that is shown. -/
abbrev S7 : store_Store := ⟨⟨[⟨1, 0, ⟨1, 0, 0, -1, false, [2, 0, 2]⟩⟩, ⟨1, 0, ⟨2, 0, 0, -1, false, [99]⟩⟩, ⟨0, 0, z0⟩], 3⟩, 2⟩

theorem shown07 : w07_shown = some true := by
  have a1 : store_New 3 3 = some ⟨⟨[⟨0, 0, z0⟩, ⟨0, 0, z0⟩, ⟨0, 0, z0⟩], 3⟩, 0⟩ := by kernel_rfl
  have a2 : store_Make ⟨⟨[⟨0, 0, z0⟩, ⟨0, 0, z0⟩, ⟨0, 0, z0⟩], 3⟩, 0⟩ 3 (-1) = some (⟨⟨[⟨1, 0, ⟨1, 0, 0, -1, false, [0, 0, 0]⟩⟩, ⟨0, 0, z0⟩, ⟨0, 0, z0⟩], 3⟩, 1⟩, 1, 0) := by kernel_rfl
  have a3 : store_Make ⟨⟨[⟨1, 0, ⟨1, 0, 0, -1, false, [0, 0, 0]⟩⟩, ⟨0, 0, z0⟩, ⟨0, 0, z0⟩], 3⟩, 1⟩ 1 (-1) = some (⟨⟨[⟨1, 0, ⟨1, 0, 0, -1, false, [0, 0, 0]⟩⟩, ⟨1, 0, ⟨2, 0, 0, -1, false, [0]⟩⟩, ⟨0, 0, z0⟩], 3⟩, 2⟩, 2, 0) := by kernel_rfl
  have a4 : store_Put ⟨⟨[⟨1, 0, ⟨1, 0, 0, -1, false, [0, 0, 0]⟩⟩, ⟨1, 0, ⟨2, 0, 0, -1, false, [0]⟩⟩, ⟨0, 0, z0⟩], 3⟩, 2⟩ 1 0 2 = some (⟨⟨[⟨1, 0, ⟨1, 0, 0, -1, false, [2, 0, 0]⟩⟩, ⟨1, 0, ⟨2, 0, 0, -1, false, [0]⟩⟩, ⟨0, 0, z0⟩], 3⟩, 2⟩, 0) := by kernel_rfl
  have a5 : store_Put ⟨⟨[⟨1, 0, ⟨1, 0, 0, -1, false, [2, 0, 0]⟩⟩, ⟨1, 0, ⟨2, 0, 0, -1, false, [0]⟩⟩, ⟨0, 0, z0⟩], 3⟩, 2⟩ 1 2 2 = some (⟨⟨[⟨1, 0, ⟨1, 0, 0, -1, false, [2, 0, 2]⟩⟩, ⟨1, 0, ⟨2, 0, 0, -1, false, [0]⟩⟩, ⟨0, 0, z0⟩], 3⟩, 2⟩, 0) := by kernel_rfl
  have a6 : store_Put ⟨⟨[⟨1, 0, ⟨1, 0, 0, -1, false, [2, 0, 2]⟩⟩, ⟨1, 0, ⟨2, 0, 0, -1, false, [0]⟩⟩, ⟨0, 0, z0⟩], 3⟩, 2⟩ 2 0 99 = some (S7, 0) := by kernel_rfl
  have hR : RtR (sO S7) := rtR_of (by decide) (by kernel_rfl)
  have hF : FB S7 := by
    intro c hc x hx
    simp only [List.mem_cons, List.not_mem_nil, or_false] at hc
    rcases hc with rfl | rfl | rfl
    · simp only [List.mem_cons, List.not_mem_nil, or_false] at hx
      omega
    · simp only [List.mem_cons, List.not_mem_nil, or_false] at hx
      omega
    · cases hx
  have hl : lv S7 = [1, 2] := lv_of hR (by rw [show hnds 0 S7.S.Cells = [1, 2] from by decide]) (by decide)
  have o1 : outs S7 1 = [2, 2] := by kernel_rfl
  have o2 : outs S7 2 = [99] := by kernel_rfl
  have i2 : refs_In S7 2 = some 2 := by
    rw [in_eq hR, inn, hl]
    simp only [List.map_cons, List.map_nil, o1, o2]
    rfl
  have i1 : refs_In S7 1 = some 0 := by
    rw [in_eq hR, inn, hl]
    simp only [List.map_cons, List.map_nil, o1, o2]
    rfl
  have b2 : refs_By S7 2 = some [1] := by
    rw [by_eq hR, bys, hl]
    have e1 : decide (0 < tms (outs S7 1) 2) = true := by rw [o1]; rfl
    have e2 : decide (0 < tms (outs S7 2) 2) = false := by rw [o2]; rfl
    simp only [List.filter_cons, List.filter_nil, e1, e2, if_true, Bool.false_eq_true, if_false]
  have d2 : refs_Dangling S7 = some [99] := by
    rw [dangling_eq hR hF, dng, hl]
    simp only [List.flatMap_cons, List.flatMap_nil, o1, o2]
    rfl
  unfold w07_shown
  rw [a1, Option.bind_some, a2, Option.bind_some]
  dsimp only
  rw [a3, Option.bind_some]
  dsimp only
  rw [a4, Option.bind_some, a5, Option.bind_some]
  dsimp only
  rw [a6, Option.bind_some]
  dsimp only
  rw [out_eq hR (by omega), Option.bind_some, d2, Option.bind_some, o1, i2, i1, b2, times_eq _ _ (by decide), times_eq _ _ (by decide)]
  rfl

theorem refsTell (s : store_Store) (hF : FB s) {h : Int} (hh : h ≤ 9223372036854775807) (l : List Int) : w07_RefsTell s h l = some true := by
  unfold w07_RefsTell
  obtain ⟨b, hb, hR⟩ := right07 s
  rw [hb, Option.bind_some, shown07]
  by_cases hg : b = true ∧ l.length ≤ 100
  · obtain ⟨rfl, hl⟩ := hg
    have hR := (hR.1 rfl).rt
    rw [show ((!true) || decide ((l.length : Int) > 100)) = false by simp; omega]
    simp only [beq_self_eq_true, onlyT, Option.bind_some, Bool.not_true, Bool.or_self, Bool.false_eq_true, if_false]
    have h1 := outs_len hR h hh
    have h2 : (bys s h).length ≤ 24 := Nat.le_trans (List.length_filter_le ..) (lv_len hR)
    rw [its07 s (by have := rt_len hR; omega), Option.bind_some, out_eq hR hh, Option.bind_some, out07_eq hR hh, Option.bind_some, Ints_eq _ _ (by omega), Option.bind_some, decide_eq_true rfl]
    simp only [beq_self_eq_true, onlyT, in_eq hR, in07_eq hR, by_eq hR, by07_eq hR, Option.bind_some, Bool.and_self]
    rw [Ints_eq _ _ (by omega), Option.bind_some, decide_eq_true rfl]
    simp only [beq_self_eq_true, onlyT, Option.bind_some, Bool.and_self]
    rw [times_eq _ _ (by omega), Option.bind_some, times07_eq _ _ (by omega), Option.bind_some]
    simp only [beq_self_eq_true, onlyT, Option.bind_some, Bool.and_self]
    have h3 : (dng s).length ≤ 96 := by
      unfold dng
      rw [List.length_flatMap]
      have := sum_le (fun x => ((outs s x).filter fun y => decide (y ∉ lv s)).length) 4 (lv s) fun x hx => Nat.le_trans (List.length_filter_le ..) (outs_len hR x (by have := lv_pos hR hx; omega))
      have := lv_len hR
      omega
    rw [dangling_eq hR hF, Option.bind_some, dangling07_eq hR hF, Option.bind_some, Ints_eq _ _ (by omega), Option.bind_some, decide_eq_true rfl]
    rfl
  · have hc : ((!b) || decide ((l.length : Int) > 100)) = true := by
      cases b
      · rfl
      · have : ¬ l.length ≤ 100 := fun q => hg ⟨rfl, q⟩
        simp; omega
    rw [hc]
    simp [onlyIf]

theorem refsSums (s : store_Store) (hF : FB s) : w07_RefsSums s = some true := by
  unfold w07_RefsSums
  obtain ⟨b, hb, hR⟩ := right07 s
  rw [hb, Option.bind_some, shown07]
  cases b with
  | false => simp [onlyIf]
  | true =>
    have hR := (hR.1 rfl).rt
    simp only [Bool.not_true, beq_self_eq_true, onlyT, Option.bind_some, Bool.or_self, Bool.false_eq_true, if_false]
    rw [its07 s (by have := rt_len hR; omega), Option.bind_some, live06 hR, Option.bind_some]
    simp only [jn]
    have hl := lv_len hR
    refine lpb_road (p := fun k => (((((lv s).take k).map fun x => (outs s x).length).sum : Int), ((((lv s).take k).map fun x => inn s x).sum : Int), (k : Int))) (by simp) (lv s).length (fun _ => True) (by omega) trivial (fun k hk _ => .inl ⟨?_, trivial⟩) (fun _ => ?_)
    · simp only [Int.ofNat_lt, hk, decide_true, if_true, ix_at hk, Option.bind_some, out_eq hR (lv_in hR hk), in_eq hR]
      have h1 := sum_le (fun x => (outs s x).length) 4 ((lv s).take k) fun x hx => outs_len hR x (by have := lv_pos hR (List.mem_of_mem_take hx); omega)
      have h2 := sum_le (fun x => inn s x) 96 ((lv s).take k) fun x hx => inn_le hR x
      have h3 := outs_len hR _ (lv_in hR hk)
      have h4 := inn_le hR (lv s)[k]
      have h5 : ((lv s).take k).length ≤ 24 := by simp; omega
      rw [w64_nat, List.take_succ_eq_append_getElem hk]
      simp only [List.map_append, List.map_cons, List.map_nil, List.sum_append, List.sum_cons, List.sum_nil, Nat.add_zero]
      rw [w64_in (by omega) (by omega), w64_in (by omega) (by omega)]
      simp only [Int.natCast_add]
    · refine ⟨((((lv s).map fun x => (outs s x).length).sum : Int), (((lv s).map fun x => inn s x).sum : Int)), by simp, ?_⟩
      simp only
      rw [dangling_eq hR hF, Option.bind_some]
      have e := names_sum hR
      have h1 := sum_le (fun x => (outs s x).length) 4 (lv s) fun x hx => outs_len hR x (by have := lv_pos hR hx; omega)
      rw [w64_in (by omega) (by omega), e]
      simp

theorem refsBoth (s : store_Store) {a : Int} (ha : a ≤ 9223372036854775807) (h : Int) : w07_RefsBoth s a h = some true := by
  unfold w07_RefsBoth
  obtain ⟨b, hb, hR⟩ := right07 s
  rw [hb, Option.bind_some, shown07]
  cases b with
  | false => simp [onlyIf]
  | true =>
    have hR := (hR.1 rfl).rt
    simp only [Bool.not_true, beq_self_eq_true, onlyT, Option.bind_some, Bool.or_self, Bool.false_eq_true, if_false]
    have hl := lv_len hR
    have h1 := outs_len hR a ha
    have h2 : (bys s h).length ≤ 24 := Nat.le_trans (List.length_filter_le ..) (lv_len hR)
    rw [by_eq hR, Option.bind_some, out_eq hR ha, Option.bind_some, times_eq _ _ (by omega), Option.bind_some, times_eq _ _ (by omega), Option.bind_some]
    have e1 : (tms (bys s h) a : Int) = if (1 : Int) < (tms (outs s a) h : Int) then 1 else (tms (outs s a) h : Int) := by
      by_cases q : a ∈ lv s
      · have ha0 : a ≠ 0 := by have := lv_pos hR q; omega
        have : tms (bys s h) a = if a ∈ lv s ∧ decide (0 < tms (outs s a) h) = true then 1 else 0 := by
          have := count_filter_nodup (lv_nodup hR) (fun x => decide (0 < tms (outs s x) h)) a
          unfold tms bys
          rw [if_neg ha0]
          exact this
        rw [this]
        by_cases q2 : 0 < tms (outs s a) h
        · rw [if_pos ⟨q, by simpa using q2⟩]; split <;> omega
        · rw [if_neg (fun q3 => q2 (by simpa using q3.2))]; split <;> omega
      · rw [outs_no hR ha q]
        have : tms (bys s h) a = 0 := by
          have : ¬ 0 < tms (bys s h) a := fun q2 => q (List.mem_filter.1 (tms_pos.1 q2).2).1
          omega
        rw [this]
        simp [tms]
    have e2 : (bys s h).length ≤ inn s h ∧ ((0 < (bys s h).length) ↔ 0 < inn s h) := by
      unfold bys inn
      generalize lv s = m
      induction m with
      | nil => simp
      | cons x m ih =>
        simp only [List.filter_cons, List.map_cons, List.sum_cons]
        by_cases q : 0 < tms (outs s x) h
        · rw [if_pos (by simpa using q)]
          simp only [List.length_cons]
          omega
        · rw [if_neg (by simpa using q)]
          omega
    rw [e1]
    simp only [beq_self_eq_true, onlyT, in_eq hR, Option.bind_some, Bool.true_and]
    rw [show decide (((bys s h).length : Int) ≤ (inn s h : Int)) = true by simp; omega]
    simp only [beq_self_eq_true, onlyT, Option.bind_some, Bool.true_and, Option.some.injEq, beq_iff_eq, decide_eq_decide]
    omega

theorem refsTimes (l m : List Int) (h : Int) : w07_RefsTimes l m h = some true := by
  unfold w07_RefsTimes
  rw [shown07]
  by_cases hg : l.length ≤ 100 ∧ m.length ≤ 100
  · obtain ⟨h1, h2⟩ := hg
    rw [show (decide ((l.length : Int) > 100) || decide ((m.length : Int) > 100)) = false by simp; omega]
    simp only [beq_self_eq_true, onlyT, Option.bind_some, Bool.not_true, Bool.or_self, Bool.false_eq_true, if_false]
    rw [app_nil (by omega) (by omega), Option.bind_some, app_ok (by omega) (by omega), Option.bind_some, times_eq _ _ (by simp; omega), Option.bind_some, times_eq _ _ (by omega), Option.bind_some, times_eq _ _ (by omega), Option.bind_some]
    have t1 := tms_le l h
    have t2 := tms_le m h
    rw [w64_in (by omega) (by omega), tms_append]
    have e1 : (((tms l h + tms m h : Nat) : Int) == (tms l h : Int) + (tms m h : Int)) = true := by simp
    have e2 : ((h != 0) || ((tms l h : Int) == 0)) = true := by
      by_cases q : h = 0
      · subst q; simp [tms]
      · simp [q]
    rw [e1, e2]
    by_cases q : h = 0
    · subst q; simp [onlyIf]
    · have e3 : (h == 0) = false := by simpa using q
      rw [e3]
      simp only [beq_self_eq_true, Bool.and_self, onlyT]
      rw [times_eq _ _ (by simp), Option.bind_some]
      have : tms [h, 0, h] h = 2 := by
        unfold tms
        rw [if_neg q, List.count_cons, List.count_cons, List.count_cons]
        have q' : ¬ (0 : Int) = h := fun e => q e.symm
        simp [q, q']
      rw [this]
      rfl
  · rw [show (decide ((l.length : Int) > 100) || decide ((m.length : Int) > 100)) = true by simp; omega]
    simp [onlyIf]
end Go.Sh
