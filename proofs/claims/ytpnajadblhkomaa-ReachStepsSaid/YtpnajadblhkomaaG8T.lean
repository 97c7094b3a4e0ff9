/-
  Several texts of one kind, one behind the other.
-/
import Derived.Test.YtpnajadblhkomaaG8Sh
import Derived.Test.YtpnajadblhkomaaG8Sh1
namespace Go.Sh
set_option linter.unusedVariables false
def Hnd (h : Int) : Prop := 1 ≤ h ∧ (h - 1) % 32 < 24 ∧ (h - 1) / 32 ≤ 9
instance (h : Int) : Decidable (Hnd h) := by unfold Hnd; infer_instance
theorem hnd_le {h : Int} (q : Hnd h) : 1 ≤ h ∧ h ≤ 320 := by unfold Hnd at q; omega
theorem handle_Pack_eq {i g : Int} (h1 : 0 ≤ i) (h2 : i < 24) (h3 : 0 ≤ g) (h4 : g ≤ 9) : handle_Pack i g = some (1 + i + 32 * g) := by
  unfold handle_Pack
  rw [if_neg (by simp; omega)]
  rw [show w64 (i * 1) = i by rw [w64_def]; omega, show w64 (1 + i) = 1 + i by rw [w64_def]; omega, show w64 (g * 32) = 32 * g by rw [w64_def]; omega, show w64 (1 + i + 32 * g) = 1 + i + 32 * g by rw [w64_def]; omega]
theorem r01_Pack_eq {i g : Int} : r01_Pack i g = some (if 0 ≤ i ∧ i < 24 ∧ 0 ≤ g ∧ g ≤ 9 then 1 + i + 32 * g else 0) := by
  unfold r01_Pack
  split
  · rename_i h; rw [if_neg (by simp at h; omega)]
  · rename_i h
    have h : 0 ≤ i ∧ i < 24 ∧ 0 ≤ g ∧ g ≤ 9 := by simp at h; omega
    rw [if_pos h]
    rw [show w64 (1 + i) = 1 + i by rw [w64_def]; omega, show w64 (32 * g) = 32 * g by rw [w64_def]; omega, show w64 (1 + i + 32 * g) = 1 + i + 32 * g by rw [w64_def]; omega]
theorem handle_parts_eq {h : Int} (hh : h ≤ 9223372036854775807) : handle_parts h = some (if Hnd h then ((h - 1) % 32, (h - 1) / 32, true) else (-1, -1, false)) := by
  unfold handle_parts
  split
  · rename_i q
    rw [if_neg (by unfold Hnd; simp at q; omega)]
  · rename_i q
    have q : 1 ≤ h := by simpa using q
    rw [w64_in (n := h - 1), rem_pos (by omega) (by omega), Option.bind_some, quo_pos (by omega) (by omega) (by omega), Option.bind_some, quo_pos (by omega) (by omega) (by omega), Option.bind_some, Int.ediv_one]
    split
    · rename_i q2
      rw [if_neg (by unfold Hnd; simp at q2; omega)]
    · rename_i q2
      rw [if_pos (by unfold Hnd; simp at q2; omega)]
theorem handle_Slot_eq {h : Int} (hh : h ≤ 9223372036854775807) : handle_Slot h = some (if Hnd h then (h - 1) % 32 else -1) := by
  unfold handle_Slot
  rw [handle_parts_eq hh, Option.bind_some]
  split <;> rfl
theorem handle_Gen_eq {h : Int} (hh : h ≤ 9223372036854775807) : handle_Gen h = some (if Hnd h then (h - 1) / 32 else -1) := by
  unfold handle_Gen
  rw [handle_parts_eq hh, Option.bind_some]
  split <;> rfl
theorem r01_Valid_eq {h : Int} : r01_Valid h = some (decide (Hnd h)) := by
  unfold r01_Valid
  split
  · rename_i q
    rw [decide_eq_false (by unfold Hnd; simp at q; omega)]
  · rename_i q
    have q : 1 ≤ h ∧ h ≤ 400 := by simp at q; omega
    rw [w64_in (n := h - 1), rem_pos (by omega) (by omega), Option.bind_some, quo_pos (by omega) (by omega) (by omega), Option.bind_some, r01_Pack_eq, Option.bind_some]
    congr 1
    by_cases k : Hnd h
    · rw [decide_eq_true k, if_pos (by unfold Hnd at k; omega)]
      simp; omega
    · rw [decide_eq_false k, if_neg (by unfold Hnd at k; omega)]
      simp; omega
theorem r01_Slot_eq {h : Int} : r01_Slot h = some (if Hnd h then (h - 1) % 32 else -1) := by
  unfold r01_Slot
  rw [r01_Valid_eq, Option.bind_some]
  by_cases k : Hnd h
  · have := hnd_le k
    rw [decide_eq_true k, if_neg (by simp), if_pos k, w64_in (n := h - 1), rem_pos (by omega) (by omega), Option.bind_some]
  · rw [decide_eq_false k, if_pos (by simp), if_neg k]
theorem r01_Gen_eq {h : Int} : r01_Gen h = some (if Hnd h then (h - 1) / 32 else -1) := by
  unfold r01_Gen
  rw [r01_Valid_eq, Option.bind_some]
  by_cases k : Hnd h
  · have := hnd_le k
    rw [decide_eq_true k, if_neg (by simp), if_pos k, w64_in (n := h - 1), quo_pos (by omega) (by omega) (by omega), Option.bind_some]
  · rw [decide_eq_false k, if_pos (by simp), if_neg k]
end Go.Sh
namespace Go.Sh
set_option linter.unusedVariables false
set_option linter.unusedSimpArgs false
abbrev z0 : store_Obj := ⟨0, 0, 0, 0, false, []⟩
def FndO (s : slab_Slab_store_Obj) (h : Int) (i : Nat) : Prop := ∃ hi : i < s.Cells.length, Hnd h ∧ (h - 1) % 32 = i ∧ s.Cells[i].Gen = (h - 1) / 32 ∧ (s.Cells[i].State = 1 ∨ s.Cells[i].State = 2)
theorem find_cases_o (s : slab_Slab_store_Obj) {h : Int} (hh : h ≤ 9223372036854775807) :
    (∃ i, FndO s h i ∧ slab_Find_store_Obj s h = some ((i : Int), 0)) ∨ ((∀ i, ¬ FndO s h i) ∧ slab_Find_store_Obj s h = some (-1, if h = 0 then 2 else 3)) := by
  unfold slab_Find_store_Obj
  by_cases h0 : h = 0
  · right
    subst h0
    exact ⟨fun i ⟨_, h1, _⟩ => by unfold Hnd at h1; omega, by simp⟩
  · rw [if_neg (by simpa using h0), handle_Slot_eq hh, Option.bind_some, if_neg h0]
    by_cases hd : Hnd h
    · rw [if_pos hd]
      have hd' := hd
      unfold Hnd at hd'
      obtain ⟨k, hk⟩ : ∃ k : Nat, (h - 1) % 32 = k := ⟨((h - 1) % 32).toNat, by omega⟩
      rw [hk]
      by_cases hl : k < s.Cells.length
      · rw [if_neg (by simp; omega), ix_at hl, Option.bind_some, handle_Gen_eq hh, Option.bind_some, if_pos hd]
        by_cases g : s.Cells[k].Gen = (h - 1) / 32 ∧ (s.Cells[k].State = 1 ∨ s.Cells[k].State = 2)
        · left
          refine ⟨k, ⟨hl, hd, hk, g⟩, ?_⟩
          rw [if_neg]
          simp; omega
        · right
          refine ⟨fun i ⟨hi, _, h2, h3⟩ => ?_, ?_⟩
          · have : i = k := by omega
            subst this; exact g h3
          · rw [if_pos]
            simp; omega
      · right
        refine ⟨fun i ⟨hi, _, h2, h3⟩ => by omega, ?_⟩
        rw [if_pos (by simp; omega)]
    · right
      refine ⟨fun i ⟨hi, h1, _⟩ => hd h1, ?_⟩
      rw [if_neg hd, if_pos (by simp)]
theorem find_of_o {s : slab_Slab_store_Obj} {h : Int} {i : Nat} (hf : FndO s h i) : slab_Find_store_Obj s h = some ((i : Int), 0) := by
  have hh := hnd_le hf.2.1
  rcases find_cases_o s (h := h) (by omega) with ⟨j, h1, h2⟩ | ⟨h1, _⟩
  · obtain ⟨_, _, e1, _⟩ := hf
    obtain ⟨_, _, e2, _⟩ := h1
    have : i = j := by omega
    subst this; exact h2
  · exact absurd hf (h1 i)
theorem find_no_o {s : slab_Slab_store_Obj} {h : Int} (hh : h ≤ 9223372036854775807) (hf : ∀ i, ¬ FndO s h i) : slab_Find_store_Obj s h = some (-1, if h = 0 then 2 else 3) := by
  rcases find_cases_o s hh with ⟨j, h1, _⟩ | ⟨_, h2⟩
  · exact absurd h1 (hf j)
  · exact h2
theorem err_ne_o (h : Int) : (if h = 0 then 2 else 3 : Int) ≠ 0 := by split <;> omega
theorem get_of_o {s : slab_Slab_store_Obj} {h : Int} {i : Nat} (hf : FndO s h i) : ∃ hi : i < s.Cells.length, slab_Get_store_Obj s h = some (if s.Cells[i].State = 2 then (z0, 3) else (s.Cells[i].Val, 0)) := by
  refine ⟨hf.1, ?_⟩
  unfold slab_Get_store_Obj
  rw [find_of_o hf, Option.bind_some, if_neg (by simp), ix_at hf.1, Option.bind_some]
  split <;> rename_i q
  · rw [if_pos (by simpa using q)]
  · rw [if_neg (by simpa using q)]
theorem get_no_o {s : slab_Slab_store_Obj} {h : Int} (hh : h ≤ 9223372036854775807) (hf : ∀ i, ¬ FndO s h i) : slab_Get_store_Obj s h = some (z0, if h = 0 then 2 else 3) := by
  unfold slab_Get_store_Obj
  rw [find_no_o hh hf, Option.bind_some, if_pos (by simpa using err_ne_o h)]
end Go.Sh
namespace Go.Sh
set_option linter.unusedVariables false
set_option linter.unusedSimpArgs false
def oo (o : store_Obj) : r06_Obj := ⟨o.Serial, o.Strong, o.Weak, o.Prog, o.Started, o.Fields⟩
def cO (c : slab_Cell_store_Obj) : r06_Cell := ⟨c.State, c.Gen, oo c.Val⟩
def sO (s : store_Store) : r06_Store := ⟨s.S.Cells.map cO, s.S.Last, s.Serial⟩
def Sm (s : store_Store) : Prop := s.S.Cells.length ≤ 30 ∧ ∀ i (h : i < s.S.Cells.length), s.S.Cells[i].Val.Fields.length ≤ 10
instance (s : store_Store) : Decidable (Sm s) := by unfold Sm; infer_instance
def plc (i : Nat) (c : r06_Cell) : r03_Cell := ⟨c.State, c.Gen, (i : Int)⟩
def pl (t : r06_Store) : r03_Slab := ⟨t.Cells.mapIdx plc, t.Last⟩
theorem plain06 (t : r06_Store) (h : t.Cells.length ≤ 1000) : r06_Plain t = some (pl t) := by
  unfold r06_Plain
  simp only [jn]
  refine lpb_upS t.Cells.length (fun k acc => acc = (t.Cells.mapIdx plc).take k) (by omega) (by simp) (fun k acc hk hP => ?_) (fun acc hP => ?_)
  · subst hP
    refine .inl ⟨_, ?_, rfl⟩
    simp only [Int.ofNat_lt, hk, decide_true, if_true, ix_at hk, Option.bind_some]
    rw [app_ok (by omega) (by simp; omega), Option.bind_some, w64_nat]
    have e : (t.Cells.mapIdx plc).take (k + 1) = (t.Cells.mapIdx plc).take k ++ [plc k t.Cells[k]] := by
      rw [List.take_add_one, List.getElem?_eq_getElem (by simpa using hk)]
      simp
    rw [e]
    rfl
  · subst hP
    rw [List.take_of_length_le (by simp)]
    exact ⟨t.Cells.mapIdx plc, by simp only [Int.lt_irrefl, decide_false, Bool.false_eq_true, if_false], rfl⟩
theorem Right03 (s : r03_Slab) : r03_Right s = some (decide (s.Cells.length ≤ 24 ∧ 0 ≤ s.Last ∧ s.Last ≤ 9 ∧ ∀ i (h : i < s.Cells.length), 0 ≤ s.Cells[i].State ∧ s.Cells[i].State ≤ 3 ∧ 0 ≤ s.Cells[i].Gen ∧ s.Cells[i].Gen ≤ s.Last)) := by
  unfold r03_Right
  split
  · rename_i q
    rw [decide_eq_false (by simp at q; omega)]
  · rename_i q
    have q : s.Cells.length ≤ 24 ∧ 0 ≤ s.Last ∧ s.Last ≤ 9 := by simp at q; omega
    simp only [jn]
    refine lpb_up s.Cells.length (fun k => ∀ j (h : j < s.Cells.length), j < k → 0 ≤ s.Cells[j].State ∧ s.Cells[j].State ≤ 3 ∧ 0 ≤ s.Cells[j].Gen ∧ s.Cells[j].Gen ≤ s.Last) (by omega) (fun _ _ h => by omega) (fun k hk hP => ?_) (fun hP => ?_)
    · by_cases g : 0 ≤ s.Cells[k].State ∧ s.Cells[k].State ≤ 3 ∧ 0 ≤ s.Cells[k].Gen ∧ s.Cells[k].Gen ≤ s.Last
      · refine .inl ⟨?_, fun j h hj => ?_⟩
        · simp only [Int.ofNat_lt, hk, decide_true, if_true, ix_at hk, Option.bind_some]
          rw [if_neg (by simp; omega), w64_nat]
        · rcases Nat.lt_or_ge j k with q' | q'
          · exact hP j h q'
          · have : j = k := by omega
            subst this; exact g
      · refine .inr ⟨.inl false, ?_, ?_⟩
        · simp only [Int.ofNat_lt, hk, decide_true, if_true, ix_at hk, Option.bind_some]
          rw [if_pos (by simp; omega)]
        · simp only
          rw [decide_eq_false (fun q' => g (q'.2.2.2 k hk))]
    · refine ⟨.inr (), by simp, ?_⟩
      simp only
      rw [decide_eq_true ⟨q.1, q.2.1, q.2.2, fun i h => hP i h h⟩]
def Thr (c : r06_Cell) : Prop := c.State = 1 ∨ c.State = 2
instance (c : r06_Cell) : Decidable (Thr c) := by unfold Thr; infer_instance
theorem there06 (c : r06_Cell) : r06_there c = some (decide (Thr c)) := by
  unfold r06_there
  congr 1
  rw [Bool.eq_iff_iff, decide_eq_true_iff, Bool.or_eq_true, beq_iff_eq, beq_iff_eq]
  rfl
def ObOK (t : r06_Store) (o : r06_Obj) : Prop := 1 ≤ o.Serial ∧ o.Serial ≤ t.Serial ∧ 0 ≤ o.Strong ∧ 0 ≤ o.Weak ∧ -1 ≤ o.Prog ∧ o.Prog ≤ 5 ∧ o.Fields.length ≤ 4
def ObNo (o : r06_Obj) : Prop := o.Serial = 0 ∧ o.Strong = 0 ∧ o.Weak = 0 ∧ o.Prog = 0 ∧ o.Started = false ∧ o.Fields.length = 0
structure RtR (t : r06_Store) : Prop where
  len : t.Cells.length ≤ 24
  l0 : 0 ≤ t.Last
  l9 : t.Last ≤ 9
  ser : 0 ≤ t.Serial
  cell : ∀ i (h : i < t.Cells.length), 0 ≤ t.Cells[i].State ∧ t.Cells[i].State ≤ 3 ∧ 0 ≤ t.Cells[i].Gen ∧ t.Cells[i].Gen ≤ t.Last
  no : ∀ i (h : i < t.Cells.length), ¬ Thr t.Cells[i] → ObNo t.Cells[i].Val
  ok : ∀ i (h : i < t.Cells.length), Thr t.Cells[i] → ObOK t t.Cells[i].Val
  dif : ∀ i (h : i < t.Cells.length) k (hk : k < i), Thr t.Cells[i] → Thr t.Cells[k] → t.Cells[k].Val.Serial ≠ t.Cells[i].Val.Serial
def CeOK (t : r06_Store) (i : Nat) (h : i < t.Cells.length) : Prop :=
  (¬ Thr t.Cells[i] → ObNo t.Cells[i].Val) ∧ (Thr t.Cells[i] → ObOK t t.Cells[i].Val) ∧ ∀ k (hk : k < i), Thr t.Cells[i] → Thr t.Cells[k] → t.Cells[k].Val.Serial ≠ t.Cells[i].Val.Serial
theorem Right06 (t : r06_Store) (hl : t.Cells.length ≤ 1000) : ∃ b, r06_Right t = some b ∧ (b = true ↔ RtR t) := by
  unfold r06_Right
  rw [plain06 t hl, Option.bind_some, Right03, Option.bind_some]
  by_cases hR : (pl t).Cells.length ≤ 24 ∧ 0 ≤ (pl t).Last ∧ (pl t).Last ≤ 9 ∧ ∀ i (h : i < (pl t).Cells.length), 0 ≤ (pl t).Cells[i].State ∧ (pl t).Cells[i].State ≤ 3 ∧ 0 ≤ (pl t).Cells[i].Gen ∧ (pl t).Cells[i].Gen ≤ (pl t).Last
  · by_cases hs : 0 ≤ t.Serial
    · rw [decide_eq_true hR]
      rw [if_neg (by simp; omega)]
      simp only [jn]
      have hcell : ∀ i (h : i < t.Cells.length), 0 ≤ t.Cells[i].State ∧ t.Cells[i].State ≤ 3 ∧ 0 ≤ t.Cells[i].Gen ∧ t.Cells[i].Gen ≤ t.Last := fun i h => by
        have := hR.2.2.2 i (by simpa [pl] using h)
        simpa [pl, plc] using this
      have key : (∀ i (h : i < t.Cells.length), CeOK t i h) ↔ RtR t := by
        constructor
        · intro q
          exact ⟨by simpa [pl] using hR.1, hR.2.1, hR.2.2.1, hs, hcell, fun i h => (q i h).1, fun i h => (q i h).2.1, fun i h => (q i h).2.2⟩
        · intro q i h
          exact ⟨q.no i h, q.ok i h, q.dif i h⟩
      by_cases hall : ∀ i (h : i < t.Cells.length), CeOK t i h
      · refine ⟨true, ?_, by simpa using key.1 hall⟩
        refine lpb_up t.Cells.length (fun _ => True) (by omega) trivial (fun k hk _ => .inl ⟨?_, trivial⟩) (fun _ => ⟨.inr (), by simp, rfl⟩)
        obtain ⟨q1, q2, q3⟩ := hall k hk
        simp only [Int.ofNat_lt, hk, decide_true, if_true, ix_at hk, Option.bind_some, there06]
        by_cases ht : Thr t.Cells[k]
        · rw [decide_eq_true ht]
          obtain ⟨o1, o2, o3, o4, o5, o6, o7⟩ := q2 ht
          rw [if_neg (by simp), if_neg (by simp; omega)]
          refine lpb_up k (fun _ => True) (by omega) trivial (fun j hj _ => .inl ⟨?_, trivial⟩) (fun _ => ⟨.inr (), by simp, by rw [w64_nat]⟩)
          have hj' : j < t.Cells.length := by omega
          simp only [Int.ofNat_lt, hj, decide_true, if_true, ix_at hj', Option.bind_some, there06]
          rw [if_neg (by simp only [Bool.and_eq_true, decide_eq_true_eq, beq_iff_eq, not_and]; exact fun a => q3 j hj ht a), w64_nat]
        · rw [decide_eq_false ht]
          obtain ⟨o1, o2, o3, o4, o5, o6⟩ := q1 ht
          rw [if_pos (by simp), if_neg (by simp [o1, o2, o3, o4, o5, o6]), w64_nat]
      · refine ⟨false, ?_, by simpa using fun q => hall (key.2 q)⟩
        obtain ⟨i, ⟨hi, hbad⟩, hmin⟩ := exists_min (p := fun i => ∃ h : i < t.Cells.length, ¬ CeOK t i h) (by
          have := Classical.not_forall.1 hall
          obtain ⟨i, q⟩ := this
          obtain ⟨h, q⟩ := Classical.not_forall.1 q
          exact ⟨i, h, q⟩)
        refine lpb_up t.Cells.length (fun k => k ≤ i) (by omega) (by omega) (fun k hk hP => ?_) (fun hP => by omega)
        simp only [Int.ofNat_lt, hk, decide_true, if_true, ix_at hk, Option.bind_some, there06]
        rcases Nat.lt_or_ge k i with g | g
        · refine .inl ⟨?_, g⟩
          have hok : CeOK t k hk := Classical.byContradiction fun q => by have := hmin k ⟨hk, q⟩; omega
          obtain ⟨q1, q2, q3⟩ := hok
          by_cases ht : Thr t.Cells[k]
          · rw [decide_eq_true ht]
            obtain ⟨o1, o2, o3, o4, o5, o6, o7⟩ := q2 ht
            rw [if_neg (by simp), if_neg (by simp; omega)]
            refine lpb_up k (fun _ => True) (by omega) trivial (fun j hj _ => .inl ⟨?_, trivial⟩) (fun _ => ⟨.inr (), by simp, by rw [w64_nat]⟩)
            have hj' : j < t.Cells.length := by omega
            simp only [Int.ofNat_lt, hj, decide_true, if_true, ix_at hj', Option.bind_some, there06]
            rw [if_neg (by simp only [Bool.and_eq_true, decide_eq_true_eq, beq_iff_eq, not_and]; exact fun a => q3 j hj ht a), w64_nat]
          · rw [decide_eq_false ht]
            obtain ⟨o1, o2, o3, o4, o5, o6⟩ := q1 ht
            rw [if_pos (by simp), if_neg (by simp [o1, o2, o3, o4, o5, o6]), w64_nat]
        · have : k = i := by omega
          subst this
          refine .inr ⟨.inl false, ?_, rfl⟩
          by_cases ht : Thr t.Cells[k]
          · rw [decide_eq_true ht]
            rw [if_neg (by simp)]
            by_cases ho : ObOK t t.Cells[k].Val
            · have ho' := ho
              obtain ⟨o1, o2, o3, o4, o5, o6, o7⟩ := ho'
              rw [if_neg (by simp; omega)]
              have : ∃ j, j < k ∧ ∃ h : j < t.Cells.length, Thr t.Cells[j] ∧ t.Cells[j].Val.Serial = t.Cells[k].Val.Serial := Classical.byContradiction fun q => hbad ⟨fun n => absurd ht n, fun _ => ho, fun j hj _ h2 h3 => q ⟨j, hj, by omega, h2, h3⟩⟩
              obtain ⟨j, ⟨hj, hj', h2, h3⟩, hjm⟩ := exists_min this
              refine lpb_up k (fun m => m ≤ j) (by omega) (by omega) (fun m hm hP2 => ?_) (fun hP2 => by omega)
              have hm' : m < t.Cells.length := by omega
              simp only [Int.ofNat_lt, hm, decide_true, if_true, ix_at hm', Option.bind_some, there06]
              rcases Nat.lt_or_ge m j with g2 | g2
              · refine .inl ⟨?_, g2⟩
                rw [if_neg (by
                  simp only [Bool.and_eq_true, decide_eq_true_eq, beq_iff_eq, not_and]
                  intro a b
                  have := hjm m ⟨by omega, hm', a, b⟩
                  omega), w64_nat]
              · have : m = j := by omega
                subst this
                refine .inr ⟨.inl false, ?_, rfl⟩
                rw [if_pos (by simp only [Bool.and_eq_true, decide_eq_true_eq, beq_iff_eq]; exact ⟨h2, h3⟩)]
            · rw [if_pos (by
                unfold ObOK at ho
                simp only [Bool.or_eq_true, decide_eq_true_eq]
                omega)]
          · rw [decide_eq_false ht]
            rw [if_pos (by simp)]
            have hno : ¬ ObNo t.Cells[k].Val := fun q => hbad ⟨fun _ => q, fun n => absurd n ht, fun j hj h1 _ => absurd h1 ht⟩
            rw [if_pos (by
              unfold ObNo at hno
              simp only [Bool.or_eq_true, bne_iff_ne, ne_eq]
              cases hst : t.Cells[k].Val.Started
              · simp only [hst, true_and, Bool.false_eq_true, or_false] at hno ⊢
                omega
              · simp)]
    · refine ⟨false, ?_, by simp; exact fun q => hs q.ser⟩
      rw [if_pos (by simp; omega)]
  · refine ⟨false, ?_, ?_⟩
    · rw [decide_eq_false hR, if_pos (by simp)]
    · simp only [Bool.false_eq_true, false_iff]
      intro q
      exact hR ⟨by simpa [pl] using q.len, q.l0, q.l9, fun i h => by have := q.cell i (by simpa [pl] using h); simpa [pl, plc] using this⟩
structure StR (s : store_Store) : Prop where
  rt : RtR (sO s)
  big : s.Serial < 1000000000
  fl : ∀ i (h : i < s.S.Cells.length), s.S.Cells[i].Val.Fields.length ≤ 10
end Go.Sh
namespace Go.Sh
set_option linter.unusedVariables false
set_option linter.unusedSimpArgs false
theorem sortBy_spec {c : Int → Int → Option Int} {xs : List Int} (key : Int → Int) (hc : ∀ x y, ∃ r, c x y = some r ∧ (r < 0 ↔ key x < key y)) (hl : xs.length < 4611686018427387904) :
    ∃ ys, sortBy c xs = some ys ∧ ys.Perm xs ∧ ys.Pairwise (fun a b => key a ≤ key b) := by
  have hlt : ∀ x y, Go.Proofs.ltOf (fun x y => (c x y).getD 0) x y = decide (key x < key y) := fun x y => by
    obtain ⟨r, h1, h2⟩ := hc x y
    show decide ((c x y).getD 0 < 0) = _
    rw [h1, Option.getD_some]
    exact decide_eq_decide.2 h2
  have hO : Go.Sort.SWO (Go.Proofs.ltOf fun x y => (c x y).getD 0) := by
    refine ⟨fun x => ?_, fun x y z => ?_, fun x y z => ?_⟩
    · rw [hlt]; simp
    · rw [hlt, hlt, hlt]; simp; omega
    · rw [hlt, hlt, hlt]; simp; omega
  have hcond : (∀ x y, (c x y).isSome = true) ∧ Go.Sort.SWO (Go.Proofs.ltOf fun x y => (c x y).getD 0) ∧ xs.length < 4611686018427387904 := ⟨fun x y => by
    obtain ⟨r, h1, _⟩ := hc x y
    rw [h1]; rfl, hO, hl⟩
  unfold sortBy
  rw [if_pos hcond]
  refine ⟨_, rfl, ?_⟩
  obtain ⟨⟨p1, p2, p3⟩, p4⟩ := Go.Sort.pdq_sorts (Go.Proofs.ltOf fun x y => (c x y).getD 0) hO xs.toArray 0 xs.length (Go.Lib.bitLen xs.length) true true (Nat.zero_le _) (by simp) (Or.inl rfl)
  generalize Go.Sort.pdq (Go.Proofs.ltOf fun x y => (c x y).getD 0) xs.toArray 0 xs.length (Go.Lib.bitLen xs.length) true true = d at p1 p2 p3 p4 ⊢
  have hs : d.size = xs.length := by simpa using p1
  refine ⟨?_, ?_⟩
  · have e1 : d.extract 0 xs.length = d := by rw [← hs]; exact Array.extract_size
    have e2 : xs.toArray.extract 0 xs.length = xs.toArray := by
      simp
    rw [e1, e2] at p3
    simpa using p3
  · rw [List.pairwise_iff_getElem]
    intro i j hi hj hij
    have hi' : i < d.size := by simpa using hi
    have hj' : j < d.size := by simpa using hj
    have := p4 i j (Nat.zero_le _) hij (by omega)
    rw [hlt, getElem!_pos d j hj', getElem!_pos d i hi'] at this
    have := of_decide_eq_false this
    simp only [Array.getElem_toList]
    omega
def hnds : Nat → List slab_Cell_store_Obj → List Int
  | _, [] => []
  | k, c :: r => (if c.State = 1 then [1 + (k : Int) + 32 * c.Gen] else []) ++ hnds (k + 1) r
theorem hnds_snoc (c : slab_Cell_store_Obj) : ∀ (k : Nat) (xs : List slab_Cell_store_Obj), hnds k (xs ++ [c]) = hnds k xs ++ (if c.State = 1 then [1 + ((k + xs.length : Nat) : Int) + 32 * c.Gen] else [])
  | k, [] => by simp [hnds]
  | k, x :: r => by
    simp only [List.cons_append, hnds, hnds_snoc c (k + 1) r, List.append_assoc, List.length_cons]
    rw [show k + 1 + r.length = k + (r.length + 1) by omega]
theorem hnds_len : ∀ (k : Nat) (xs : List slab_Cell_store_Obj), (hnds k xs).length ≤ xs.length
  | _, [] => by simp [hnds]
  | k, c :: r => by
    have := hnds_len (k + 1) r
    simp only [hnds, List.length_append, List.length_cons]
    split <;> simp <;> omega
theorem hnds_mem {h : Int} : ∀ {k : Nat} {xs : List slab_Cell_store_Obj}, h ∈ hnds k xs ↔ ∃ i, ∃ hi : i < xs.length, xs[i].State = 1 ∧ h = 1 + ((k + i : Nat) : Int) + 32 * xs[i].Gen
  | k, [] => by simp [hnds]
  | k, c :: r => by
    simp only [hnds, List.mem_append, hnds_mem (k := k + 1) (xs := r)]
    constructor
    · rintro (q | ⟨i, hi, q1, q2⟩)
      · by_cases hc : c.State = 1
        · rw [if_pos hc] at q
          exact ⟨0, by simp, by simpa using hc, by simpa using q⟩
        · rw [if_neg hc] at q
          cases q
      · exact ⟨i + 1, by simpa using hi, by simpa using q1, by simp only [List.getElem_cons_succ]; rw [q2, show k + 1 + i = k + (i + 1) by omega]⟩
    · rintro ⟨i, hi, q1, q2⟩
      cases i with
      | zero =>
        left
        simp only [List.getElem_cons_zero] at q1 q2
        rw [if_pos q1]
        simp [q2]
      | succ i =>
        right
        simp only [List.getElem_cons_succ] at q1 q2
        exact ⟨i, by simpa using hi, q1, by rw [q2, show k + 1 + i = k + (i + 1) by omega]⟩
def sk (cs : List slab_Cell_store_Obj) (h : Int) : Int := match cs[((h - 1) % 32).toNat]? with
  | some c => c.Val.Serial
  | none => 0
theorem sk_hd {cs : List slab_Cell_store_Obj} {i : Nat} {g : Int} (h : i < cs.length) (h32 : cs.length ≤ 32) : sk cs (1 + (i : Int) + 32 * g) = cs[i].Val.Serial := by
  unfold sk
  have : ((1 + (i : Int) + 32 * g - 1) % 32).toNat = i := by omega
  rw [this, List.getElem?_eq_getElem h]
structure Slb (cs : List slab_Cell_store_Obj) : Prop where
  len : cs.length ≤ 24
  gen : ∀ i (h : i < cs.length), 0 ≤ cs[i].Gen ∧ cs[i].Gen ≤ 9
theorem live_spec {s : store_Store} (hR : Slb s.S.Cells) : ∃ l, store_Live s = some l ∧ l.Perm (hnds 0 s.S.Cells) ∧ l.Pairwise (fun a b => sk s.S.Cells a ≤ sk s.S.Cells b) := by
  have hlen := hR.len
  unfold store_Live
  simp only [jn]
  have hh := hnds_len 0 s.S.Cells
  have hloop : ∃ e : List (Int × Int) × List Int, lp (S := Int × (List (Int × Int)) × (List Int)) (E := ((List (Int × Int)) × (List Int))) (fun ((s23, s24, s25) : Int × (List (Int × Int)) × (List Int)) =>
      if (decide (s23 < (s.S.Cells.length : Int))) then
        ((ix s.S.Cells s23).bind fun v35 =>
          if (v35.State == 1) then
            (handle_Pack s23 v35.Gen).bind fun v36 =>
            (app 8 s25 [v36]).bind fun v37 =>
            some (.inl (w64 (s23 + 1), (mput s24 v36 v35.Val.Serial), v37))
          else
          some (.inl (w64 (s23 + 1), s24, s25)))
      else
      some (.inr (s24, s25))) (0, [], []) = some e ∧ e.2 = hnds 0 s.S.Cells ∧ ∀ h ∈ e.2, mget e.1 h = some (sk s.S.Cells h) := by
    refine lp_upS (T := List (Int × Int) × List Int) s.S.Cells.length (fun k e => e.2 = hnds 0 (s.S.Cells.take k) ∧ ∀ h ∈ e.2, mget e.1 h = some (sk s.S.Cells h)) (fun e : List (Int × Int) × List Int => e.2 = hnds 0 s.S.Cells ∧ ∀ h ∈ e.2, mget e.1 h = some (sk s.S.Cells h)) (by omega) ⟨by simp [hnds], by simp⟩ (fun k e hk hP => ?_) (fun e hP => ?_)
    · obtain ⟨h1, h2⟩ := hP
      obtain ⟨m, l⟩ := e
      simp only at h1 h2
      left
      have hc := hR.gen k hk
      have hl : l.length ≤ 24 := by rw [h1]; have := hnds_len 0 (s.S.Cells.take k); simp at this; omega
      have et : s.S.Cells.take (k + 1) = s.S.Cells.take k ++ [s.S.Cells[k]] := by rw [List.take_add_one, List.getElem?_eq_getElem hk]; rfl
      have el : (s.S.Cells.take k).length = k := by simp; omega
      by_cases q : s.S.Cells[k].State = 1
      · refine ⟨(mput m (1 + (k : Int) + 32 * s.S.Cells[k].Gen) s.S.Cells[k].Val.Serial, l ++ [1 + (k : Int) + 32 * s.S.Cells[k].Gen]), ?_, ?_, ?_⟩
        · simp only [Int.ofNat_lt, hk, decide_true, if_true, ix_at hk, Option.bind_some, q, beq_self_eq_true]
          rw [handle_Pack_eq (by omega) (by omega) hc.1 hc.2, Option.bind_some, app_ok (by omega) (by simp; omega), Option.bind_some, w64_nat]
        · simp only
          rw [et, hnds_snoc, if_pos q, el, h1, Nat.zero_add]
        · intro h hh
          simp only [List.mem_append, List.mem_singleton] at hh ⊢
          rw [mget_mput]
          rcases hh with hh | rfl
          · split
            · rename_i e; rw [e, sk_hd hk (by omega)]
            · exact h2 h hh
          · rw [if_pos rfl, sk_hd hk (by omega)]
      · refine ⟨(m, l), ?_, ?_, h2⟩
        · simp only [Int.ofNat_lt, hk, decide_true, if_true, ix_at hk, Option.bind_some]
          rw [if_neg (by simpa using q), w64_nat]
        · simp only
          rw [et, hnds_snoc, if_neg q, h1, List.append_nil]
    · obtain ⟨h1, h2⟩ := hP
      obtain ⟨m, l⟩ := e
      refine ⟨(m, l), by simp only [Int.lt_irrefl, decide_false, Bool.false_eq_true, if_false], ?_, h2⟩
      simpa using h1
  obtain ⟨⟨m, l⟩, e1, e2, e3⟩ := hloop
  rw [show lp _ _ = _ from e1, Option.bind_some]
  simp only at e2 e3 ⊢
  subst e2
  obtain ⟨ys, q1, q2, q3⟩ := sortBy_spec (c := fun p q => store_Live_1 p q m) (xs := hnds 0 s.S.Cells) (fun h => (mget m h).getD 0) (fun x y => by
    unfold store_Live_1 cmp_Compare_int cmp_isNaN_int
    simp only [Option.bind_some, bne_self_eq_false, Bool.false_eq_true, if_false]
    generalize (mget m x).getD 0 = a
    generalize (mget m y).getD 0 = b
    by_cases h1 : a < b
    · rw [decide_eq_true h1]; exact ⟨-1, rfl, by simp [h1]⟩
    · rw [decide_eq_false h1]
      by_cases h2 : a > b
      · rw [decide_eq_true h2]; exact ⟨1, rfl, by simp [h1]⟩
      · rw [decide_eq_false h2]; exact ⟨0, rfl, by simp [h1]⟩) (by omega)
  refine ⟨ys, by rw [q1]; rfl, q2, q3.imp_of_mem fun {a b} ha hb hab => ?_⟩
  rw [e3 a (q2.mem_iff.1 ha), e3 b (q2.mem_iff.1 hb)] at hab
  simpa using hab
theorem sorted_one {key : Int → Int} : ∀ {l m : List Int}, l.Perm m → l.Pairwise (fun a b => key a ≤ key b) → m.Pairwise (fun a b => key a ≤ key b) → (∀ a ∈ l, ∀ b ∈ l, key a = key b → a = b) → l = m
  | [], m, hp, _, _, _ => (List.nil_perm.1 hp).symm
  | a :: l, [], hp, _, _, _ => by simp at hp
  | a :: l, b :: m, hp, h1, h2, hk => by
    have ha := List.pairwise_cons.1 h1
    have hb := List.pairwise_cons.1 h2
    have e : a = b := by
      have m1 : b ∈ a :: l := hp.mem_iff.2 (List.mem_cons_self ..)
      have m2 : a ∈ b :: m := hp.mem_iff.1 (List.mem_cons_self ..)
      rcases List.mem_cons.1 m1 with q | q
      · exact q.symm
      · rcases List.mem_cons.1 m2 with q' | q'
        · exact q'
        · exact hk a (List.mem_cons_self ..) b m1 (Int.le_antisymm (ha.1 b q) (hb.1 a q'))
    subst e
    rw [sorted_one (List.perm_cons a |>.1 hp) ha.2 hb.2 fun x hx y hy => hk x (List.mem_cons_of_mem _ hx) y (List.mem_cons_of_mem _ hy)]
end Go.Sh
namespace Go.Sh
set_option linter.unusedVariables false
set_option linter.unusedSimpArgs false
theorem Ints_eq (a b : List Int) (ha : a.length < 4611686018427387904) : r02_Ints a b = some (decide (a = b)) := by
  unfold r02_Ints
  by_cases hl : a.length = b.length
  · rw [if_neg (by simp [hl])]
    simp only [jn]
    refine lpb_up a.length (fun k => ∀ j (h1 : j < a.length) (h2 : j < b.length), j < k → a[j] = b[j]) ha (fun _ _ _ h => by omega) (fun k hk hP => ?_) (fun hP => ?_)
    · have hk2 : k < b.length := by omega
      simp only [Int.ofNat_lt, hk, decide_true, if_true, ix_at hk, ix_at hk2, Option.bind_some]
      by_cases e : a[k] = b[k]
      · refine .inl ⟨?_, fun j h1 h2 hj => ?_⟩
        · rw [if_neg (by simpa using e), w64_nat]
        · rcases Nat.lt_or_ge j k with q | q
          · exact hP j h1 h2 q
          · have : j = k := by omega
            subst this; exact e
      · refine .inr ⟨.inl false, by rw [if_pos (by simpa using e)], ?_⟩
        simp only
        rw [decide_eq_false (fun q => e (by subst q; rfl))]
    · refine ⟨.inr (), by simp, ?_⟩
      simp only
      rw [decide_eq_true (List.ext_getElem hl fun i h1 h2 => hP i h1 h2 h1)]
  · rw [if_pos (by rw [bne_iff_ne]; omega)]
    rw [decide_eq_false (fun q => hl (by rw [q]))]
theorem sO_len (s : store_Store) : (sO s).Cells.length = s.S.Cells.length := by simp [sO]
theorem sO_ix (s : store_Store) (i : Int) : ix (sO s).Cells i = (ix s.S.Cells i).map cO := ix_map' cO s.S.Cells i
theorem pl_len (t : r06_Store) : (pl t).Cells.length = t.Cells.length := by simp [pl]
theorem pl_at {t : r06_Store} {k : Nat} (h : k < t.Cells.length) : ix (pl t).Cells k = some (plc k t.Cells[k]) := by
  rw [ix_at (by simpa [pl] using h)]
  simp [pl]
theorem find06 (s : store_Store) {h : Int} (hh : h ≤ 9223372036854775807) : r03_Find (pl (sO s)) h = slab_Find_store_Obj s.S h := by
  unfold r03_Find slab_Find_store_Obj
  rw [r01_Slot_eq, handle_Slot_eq hh, r01_Gen_eq, handle_Gen_eq hh]
  simp only [Option.bind_some, pl_len, sO_len]
  generalize (if Hnd h then (h - 1) % 32 else -1 : Int) = v
  generalize (if Hnd h then (h - 1) / 32 else -1 : Int) = g
  split
  · rfl
  · split
    · rfl
    · rename_i q
      have q : 0 ≤ v ∧ v < s.S.Cells.length := by simp at q; omega
      obtain ⟨k, rfl⟩ : ∃ k : Nat, v = k := ⟨v.toNat, by omega⟩
      have hk : k < s.S.Cells.length := by omega
      rw [pl_at (by rw [sO_len]; exact hk), ix_at hk]
      simp only [Option.bind_some, plc, sO, List.getElem_map, cO]
end Go.Sh
namespace Go.Sh
set_option linter.unusedVariables false
set_option linter.unusedSimpArgs false
theorem rt_len {s : store_Store} (h : RtR (sO s)) : s.S.Cells.length ≤ 24 := by have := h.len; rwa [sO_len] at this
theorem rt_cell {s : store_Store} (h : RtR (sO s)) (i : Nat) (hi : i < s.S.Cells.length) : 0 ≤ s.S.Cells[i].State ∧ s.S.Cells[i].State ≤ 3 ∧ 0 ≤ s.S.Cells[i].Gen ∧ s.S.Cells[i].Gen ≤ s.S.Last := by
  have := h.cell i (by rw [sO_len]; exact hi)
  simpa [sO, cO] using this
theorem rt_slb {s : store_Store} (h : RtR (sO s)) : Slb s.S.Cells := ⟨rt_len h, fun i hi => by have := rt_cell h i hi; have h9 : s.S.Last ≤ 9 := h.l9; omega⟩
theorem rt_ok {s : store_Store} (h : RtR (sO s)) (i : Nat) (hi : i < s.S.Cells.length) (ht : s.S.Cells[i].State = 1 ∨ s.S.Cells[i].State = 2) : ObOK (sO s) (oo s.S.Cells[i].Val) := by
  have := h.ok i (by rw [sO_len]; exact hi)
  simp only [sO, List.getElem_map, cO, Thr] at this
  exact this ht
theorem rt_dif {s : store_Store} (h : RtR (sO s)) {i j : Nat} (hi : i < s.S.Cells.length) (hj : j < s.S.Cells.length) (a : s.S.Cells[i].State = 1 ∨ s.S.Cells[i].State = 2) (b : s.S.Cells[j].State = 1 ∨ s.S.Cells[j].State = 2) (e : s.S.Cells[i].Val.Serial = s.S.Cells[j].Val.Serial) : i = j := by
  have key : ∀ i (hi : i < s.S.Cells.length) j (hj : j < i), (s.S.Cells[i].State = 1 ∨ s.S.Cells[i].State = 2) → (s.S.Cells[j].State = 1 ∨ s.S.Cells[j].State = 2) → s.S.Cells[j].Val.Serial ≠ s.S.Cells[i].Val.Serial := fun i hi j hj a b => by
    have := h.dif i (by rw [sO_len]; exact hi) j hj
    simp only [sO, List.getElem_map, cO, Thr, oo] at this
    exact this a b
  rcases Nat.lt_trichotomy i j with q | q | q
  · exact absurd e (key j hj i q b a)
  · exact q
  · exact absurd e.symm (key i hi j q a b)
theorem hnds_fnd {s : store_Store} (hR : RtR (sO s)) {x : Int} (hx : x ∈ hnds 0 s.S.Cells) : ∃ i, ∃ hi : i < s.S.Cells.length, s.S.Cells[i].State = 1 ∧ x = 1 + (i : Int) + 32 * s.S.Cells[i].Gen ∧ FndO s.S x i ∧ sk s.S.Cells x = s.S.Cells[i].Val.Serial ∧ store_Get s x = some (s.S.Cells[i].Val, 0) := by
  obtain ⟨i, hi, h1, h2⟩ := hnds_mem.1 hx
  rw [Nat.zero_add] at h2
  have hl := (rt_len hR)
  have hc := (rt_slb hR).gen i hi
  have hf : FndO s.S x i := ⟨hi, by unfold Hnd; omega, by omega, by omega, .inl h1⟩
  refine ⟨i, hi, h1, h2, hf, by rw [h2]; exact sk_hd hi (by omega), ?_⟩
  obtain ⟨_, e⟩ := get_of_o hf
  unfold store_Get
  rw [e, if_neg (by omega)]
  rfl
theorem fnd_hnds {s : store_Store} {x : Int} {i : Nat} (hf : FndO s.S x i) (h1 : ∀ hi : i < s.S.Cells.length, s.S.Cells[i].State = 1) : x ∈ hnds 0 s.S.Cells := by
  obtain ⟨hi, q1, q2, q3, _⟩ := hf
  refine hnds_mem.2 ⟨i, hi, h1 hi, ?_⟩
  unfold Hnd at q1
  rw [Nat.zero_add]
  omega
theorem sk_inj {s : store_Store} (hR : RtR (sO s)) {x y : Int} (hx : x ∈ hnds 0 s.S.Cells) (hy : y ∈ hnds 0 s.S.Cells) (e : sk s.S.Cells x = sk s.S.Cells y) : x = y := by
  obtain ⟨i, hi, a1, a2, _, a4, _⟩ := hnds_fnd hR hx
  obtain ⟨j, hj, b1, b2, _, b4, _⟩ := hnds_fnd hR hy
  have := (rt_dif hR) hi hj (.inl a1) (.inl b1) (by rw [← a4, ← b4]; exact e)
  subst this
  rw [a2, b2]
theorem hnds_nodup : ∀ (k : Nat) (cs : List slab_Cell_store_Obj), k + cs.length ≤ 32 → (hnds k cs).Nodup
  | _, [], _ => List.nodup_nil
  | k, c :: r, h => by
    simp only [List.length_cons] at h
    unfold hnds
    rw [List.nodup_append]
    refine ⟨by split <;> simp, hnds_nodup (k + 1) r (by omega), fun a ha b hb e => ?_⟩
    split at ha
    · simp only [List.mem_singleton] at ha
      subst ha; subst e
      obtain ⟨i, hi, h1, h2⟩ := hnds_mem.1 hb
      have : ((1 + (k : Int) + 32 * c.Gen) - 1) % 32 = ((1 + ((k + 1 + i : Nat) : Int) + 32 * r[i].Gen) - 1) % 32 := by rw [h2]
      omega
    · cases ha
theorem live_of {s : store_Store} (hR : RtR (sO s)) : ∃ l, store_Live s = some l ∧ l.Perm (hnds 0 s.S.Cells) ∧ l.Pairwise (fun a b => sk s.S.Cells a < sk s.S.Cells b) := by
  obtain ⟨l, h1, h2, h3⟩ := live_spec (rt_slb hR)
  refine ⟨l, h1, h2, ?_⟩
  have hn : l.Nodup := h2.nodup_iff.2 (hnds_nodup 0 _ (by have := (rt_len hR); omega))
  have := List.Pairwise.and h3 hn
  refine this.imp_of_mem fun {a b} ha hb ⟨q1, q2⟩ => ?_
  rcases Int.lt_or_eq_of_le q1 with q | q
  · exact q
  · exact absurd (sk_inj hR (h2.mem_iff.1 ha) (h2.mem_iff.1 hb) q) q2
end Go.Sh
namespace Go.Sh
set_option linter.unusedVariables false
set_option linter.unusedSimpArgs false
end Go.Sh
namespace Go.Sh
set_option linter.unusedVariables false
set_option linter.unusedSimpArgs false
noncomputable def lv (s : store_Store) : List Int := (store_Live s).getD []
def ob (s : store_Store) (h : Int) : store_Obj := ((store_Get s h).getD (z0, 0)).1
def outs (s : store_Store) (h : Int) : List Int := nz (ob s h).Fields
def FB (s : store_Store) : Prop := ∀ c ∈ s.S.Cells, ∀ x ∈ c.Val.Fields, x ≤ 9223372036854775807
section
variable {s : store_Store} (hR : RtR (sO s))
include hR
theorem lv_spec : store_Live s = some (lv s) ∧ (lv s).Perm (hnds 0 s.S.Cells) ∧ (lv s).Pairwise (fun a b => sk s.S.Cells a < sk s.S.Cells b) := by
  obtain ⟨l, h1, h2, h3⟩ := live_of hR
  have : lv s = l := by unfold lv; rw [h1]; rfl
  rw [this]
  exact ⟨h1, h2, h3⟩
theorem lv_live : store_Live s = some (lv s) := (lv_spec hR).1
theorem lv_mem {h : Int} : h ∈ lv s ↔ h ∈ hnds 0 s.S.Cells := (lv_spec hR).2.1.mem_iff
theorem lv_len : (lv s).length ≤ 24 := by
  rw [(lv_spec hR).2.1.length_eq]
  exact Nat.le_trans (hnds_len 0 s.S.Cells) (rt_len hR)
theorem lv_nodup : (lv s).Nodup := (lv_spec hR).2.1.nodup_iff.2 (hnds_nodup 0 _ (by have := (rt_len hR); omega))
theorem lv_get {h : Int} (hh : h ∈ lv s) : store_Get s h = some (ob s h, 0) := by
  obtain ⟨i, hi, _, _, _, _, e⟩ := hnds_fnd hR ((lv_mem hR).1 hh)
  unfold ob
  rw [e]
  rfl
theorem lv_fnd {h : Int} (hh : h ∈ lv s) : ∃ i, ∃ hi : i < s.S.Cells.length, s.S.Cells[i].State = 1 ∧ h = 1 + (i : Int) + 32 * s.S.Cells[i].Gen ∧ FndO s.S h i ∧ ob s h = s.S.Cells[i].Val := by
  obtain ⟨i, hi, h1, h2, h3, _, e⟩ := hnds_fnd hR ((lv_mem hR).1 hh)
  refine ⟨i, hi, h1, h2, h3, ?_⟩
  unfold ob
  rw [e]
  rfl
theorem lv_pos {h : Int} (hh : h ∈ lv s) : 1 ≤ h ∧ h ≤ 320 := by
  obtain ⟨i, hi, _, _, hf, _⟩ := lv_fnd hR hh
  exact hnd_le hf.2.1
theorem lv_no {h : Int} (hh : h ≤ 9223372036854775807) (hn : h ∉ lv s) : ∃ e, e ≠ 0 ∧ store_Get s h = some (z0, e) := by
  rcases find_cases_o s.S hh with ⟨i, hf, _⟩ | ⟨hf, _⟩
  · obtain ⟨hi, e⟩ := get_of_o hf
    unfold store_Get
    rw [e]
    by_cases h2 : s.S.Cells[i].State = 2
    · rw [if_pos h2]; exact ⟨3, by decide, rfl⟩
    · exact absurd ((lv_mem hR).2 (fnd_hnds hf fun _ => hf.2.2.2.2.resolve_right h2)) hn
  · unfold store_Get
    rw [get_no_o hh hf]
    exact ⟨_, err_ne_o h, rfl⟩
theorem ob_no {h : Int} (hh : h ≤ 9223372036854775807) (hn : h ∉ lv s) : ob s h = z0 := by
  obtain ⟨e, _, h1⟩ := lv_no hR hh hn
  unfold ob
  rw [h1]
  rfl
theorem get_ob {h : Int} (hh : h ≤ 9223372036854775807) : ∃ e, store_Get s h = some (ob s h, e) ∧ (e = 0 ↔ h ∈ lv s) := by
  by_cases q : h ∈ lv s
  · exact ⟨0, lv_get hR q, by simp [q]⟩
  · obtain ⟨e, h0, h1⟩ := lv_no hR hh q
    refine ⟨e, ?_, by simp [h0, q]⟩
    rw [h1, ob_no hR hh q]
theorem outs_no {h : Int} (hh : h ≤ 9223372036854775807) (hn : h ∉ lv s) : outs s h = [] := by
  unfold outs
  rw [ob_no hR hh hn]
  rfl
theorem ob_flen (h : Int) (hh : h ≤ 9223372036854775807) : (ob s h).Fields.length ≤ 4 := by
  by_cases q : h ∈ lv s
  · obtain ⟨i, hi, h1, _, _, e⟩ := lv_fnd hR q
    rw [e]
    exact (rt_ok hR i hi (.inl h1)).2.2.2.2.2.2
  · rw [ob_no hR hh q]
    exact Nat.zero_le _
theorem outs_len (h : Int) (hh : h ≤ 9223372036854775807) : (outs s h).length ≤ 4 := Nat.le_trans (nz_len _) (ob_flen hR h hh)
theorem outs_le (hF : FB s) {h x : Int} (hh : h ≤ 9223372036854775807) (hx : x ∈ outs s h) : x ≤ 9223372036854775807 := by
  by_cases q : h ∈ lv s
  · obtain ⟨i, hi, h1, _, _, e⟩ := lv_fnd hR q
    unfold outs at hx
    rw [e] at hx
    exact hF _ (List.getElem_mem hi) x (nz_mem.1 hx).1
  · rw [outs_no hR hh q] at hx
    cases hx
end
theorem get06 (s : store_Store) (hl : s.S.Cells.length ≤ 1000) {h : Int} (hh : h ≤ 9223372036854775807) : r06_Get (sO s) h = (store_Get s h).map fun p => (oo p.1, p.2) := by
  unfold r06_Get store_Get slab_Get_store_Obj r03_Get
  rw [plain06 _ (by rw [sO_len]; exact hl), Option.bind_some, find06 s hh]
  rcases find_cases_o s.S hh with ⟨i, hf, e⟩ | ⟨hf, e⟩
  · rw [e]
    have hi := hf.1
    simp only [Option.bind_some, bne_self_eq_false, Bool.false_eq_true, if_false]
    rw [pl_at (by rw [sO_len]; exact hi), ix_at hi]
    simp only [Option.bind_some, plc, sO, List.getElem_map, cO]
    split
    · rfl
    · simp only [Option.bind_some, bne_self_eq_false, Bool.false_eq_true, if_false]
      rw [ix_at (by simpa using hi)]
      simp [cO, oo]
  · rw [e]
    simp only [Option.bind_some]
    have hne : ((if h = 0 then 2 else 3 : Int) != 0) = true := by simpa using err_ne_o h
    simp only [hne, if_true, Option.bind_some]
    rfl
end Go.Sh
namespace Go.Sh
set_option linter.unusedVariables false
set_option linter.unusedSimpArgs false
theorem sorted06 {s : store_Store} (hR : RtR (sO s)) {l : List Int} (hl : ∀ x ∈ l, x ∈ lv s) (hn : l.length ≤ 100) :
    ∃ m, r06_Sorted (sO s) l = some m ∧ m.Perm l ∧ m.Pairwise (fun a b => sk s.S.Cells a ≤ sk s.S.Cells b) := by
  have hfind : ∀ x ∈ l, ∃ i : Nat, ∃ hi : i < s.S.Cells.length, r03_Find (pl (sO s)) x = some ((i : Int), 0) ∧ s.S.Cells[i].Val.Serial = sk s.S.Cells x := fun x hx => by
    obtain ⟨i, hi, _, _, hf, h4, _⟩ := hnds_fnd hR ((lv_mem hR).1 (hl x hx))
    refine ⟨i, hi, ?_, h4.symm⟩
    rw [find06 s (by have := hnd_le hf.2.1; omega), find_of_o hf]
  unfold r06_Sorted
  rw [app_nil (by omega) (by omega), Option.bind_some]
  simp only [jn]
  let K : List Int → Nat → Int := fun o a => sk s.S.Cells (o.getD a 0)
  have hplain := plain06 (sO s) (by rw [sO_len]; have := rt_len hR; omega)
  have inner : ∀ (n : Nat) (o : List Int), n < l.length → o.Perm l → (∀ a b, a < b → b ≤ n → b ≠ n → K o a ≤ K o b) →
      ∃ o', lp (S := Int × (List Int)) (E := (List Int)) (fun ((s58, s59) : Int × (List Int)) =>
            if (decide (s58 > 0)) then
              (r06_Plain (sO s)).bind fun v62 =>
              (ix s59 (w64 (s58 - 1))).bind fun v63 =>
              (r03_Find v62 v63).bind fun v64 =>
              (ix s59 s58).bind fun v65 =>
              (r03_Find v62 v65).bind fun v66 =>
              (onlyIf (((decide (v64.1 < 0)) || (decide (v66.1 < 0))) == false) (⟨0, 0, ⟨0, 0, 0, 0, false, []⟩⟩ : r06_Cell) (ix (sO s).Cells v64.1)).bind fun v67 =>
              (onlyIf (((decide (v64.1 < 0)) || (decide (v66.1 < 0))) == false) (⟨0, 0, ⟨0, 0, 0, 0, false, []⟩⟩ : r06_Cell) (ix (sO s).Cells v66.1)).bind fun v68 =>
              if (((decide (v64.1 < 0)) || (decide (v66.1 < 0))) || (decide (v67.Val.Serial ≤ v68.Val.Serial))) then
                some (.inr s59)
              else
              (ix (s59.set (s58).toNat v63) (w64 (s58 - 1))).bind fun v69 =>
              some (.inl (w64 (s58 - 1), ((s59.set (s58).toNat v63).set (w64 (s58 - 1)).toNat v65)))
            else
            some (.inr s59)) ((n : Int), o) = some o' ∧ o'.Perm l ∧ ∀ a b, a < b → b ≤ n → K o' a ≤ K o' b := by
    intro n o hn' hp hk
    have hbn : (n : Int).toNat < 4611686018427387904 := by rw [Int.toNat_natCast]; omega
    refine lp_ind (s0 := ((n : Int), o)) (fun q => ∃ k : Nat, q.1 = (k : Int) ∧ k ≤ n ∧ q.2.Perm l ∧ ∀ a b, a < b → b ≤ n → b ≠ k → K q.2 a ≤ K q.2 b) (fun o' => o'.Perm l ∧ ∀ a b, a < b → b ≤ n → K o' a ≤ K o' b) (fun q => q.1.toNat) ⟨n, rfl, Nat.le_refl _, hp, hk⟩ hbn ?_
    rintro ⟨_, o⟩ ⟨k, rfl, hkn, hp, hk⟩
    simp only at hp hk ⊢
    have hol : o.length = l.length := hp.length_eq
    rcases Nat.eq_zero_or_pos k with rfl | hpos
    · right
      refine ⟨o, by rw [if_neg (by simp)], hp, fun a b h1 h2 => hk a b h1 h2 (by omega)⟩
    · obtain ⟨j, rfl⟩ : ∃ j, k = j + 1 := ⟨k - 1, by omega⟩
      have hj1 : j + 1 < o.length := by omega
      have hj : j < o.length := by omega
      have ew : w64 (((j + 1 : Nat) : Int) - 1) = (j : Int) := by rw [w64_in (by omega) (by omega)]; omega
      obtain ⟨ia, hia, fa, ka⟩ := hfind o[j] (hp.mem_iff.1 (List.getElem_mem hj))
      obtain ⟨ib, hib, fb, kb⟩ := hfind o[j + 1] (hp.mem_iff.1 (List.getElem_mem hj1))
      have ea : ix (sO s).Cells (ia : Int) = some (cO s.S.Cells[ia]) := by rw [sO_ix, ix_at hia]; rfl
      have eb : ix (sO s).Cells (ib : Int) = some (cO s.S.Cells[ib]) := by rw [sO_ix, ix_at hib]; rfl
      have hneg : ((decide ((ia : Int) < 0)) || (decide ((ib : Int) < 0))) = false := by simp
      have hpos' : decide (((j + 1 : Nat) : Int) > 0) = true := by simp
      simp only [hpos', if_true, hplain, ew, ix_at hj, ix_at hj1, Option.bind_some, fa, fb, hneg, beq_self_eq_true, onlyT, ea, eb, Bool.false_or, cO, oo, ka, kb, Int.toNat_natCast]
      have Kj : K o j = sk s.S.Cells o[j] := by simp [K, List.getD, List.getElem?_eq_getElem hj]
      have Kj1 : K o (j + 1) = sk s.S.Cells o[j + 1] := by simp [K, List.getD, List.getElem?_eq_getElem hj1]
      by_cases hle : sk s.S.Cells o[j] ≤ sk s.S.Cells o[j + 1]
      · right
        refine ⟨o, by rw [if_pos (by simpa using hle)], hp, fun a b h1 h2 => ?_⟩
        by_cases e : b = j + 1
        · subst e
          rcases Nat.lt_or_ge a j with q | q
          · have := hk a j q (by omega) (by omega)
            omega
          · have : a = j := by omega
            subst this
            omega
        · exact hk a b h1 h2 e
      · left
        refine ⟨_, by rw [if_neg (by simpa using hle), ix_at (by simpa using hj)]; rfl, ⟨j, rfl, by omega, ?_, fun a b h1 h2 h3 => ?_⟩, by show (j : Int).toNat < ((j + 1 : Nat) : Int).toNat; omega⟩
        · exact (List.set_set_perm hj1 hj).trans hp
        · have hK : ∀ c, K ((o.set (j + 1) o[j]).set j o[j + 1]) c = if c = j then K o (j + 1) else if c = j + 1 then K o j else K o c := fun c => by
            simp only [K, List.getD, List.getElem?_set, List.length_set]
            by_cases c1 : c = j
            · subst c1; simp [hj, List.getElem?_eq_getElem hj1]
            · by_cases c2 : c = j + 1
              · subst c2; simp [hj1, List.getElem?_eq_getElem hj]
              · rw [if_neg (by omega), if_neg (by omega), if_neg c1, if_neg c2]
          show K ((o.set (j + 1) o[j]).set ((j : Nat) : Int).toNat o[j + 1]) a ≤ K ((o.set (j + 1) o[j]).set ((j : Nat) : Int).toNat o[j + 1]) b
          rw [Int.toNat_natCast, hK, hK]
          by_cases a1 : a = j
          · subst a1
            rw [if_pos rfl]
            by_cases b2 : b = a + 1
            · subst b2
              rw [if_neg (by omega), if_pos rfl]
              omega
            · rw [if_neg (by omega), if_neg b2]
              exact hk (a + 1) b (by omega) h2 b2
          · rw [if_neg a1]
            by_cases a2 : a = j + 1
            · subst a2
              rw [if_pos rfl, if_neg (by omega), if_neg (by omega)]
              exact hk j b (by omega) h2 (by omega)
            · rw [if_neg a2, if_neg h3]
              by_cases b2 : b = j + 1
              · subst b2
                rw [if_pos rfl]
                exact hk a j (by omega) (by omega) (by omega)
              · rw [if_neg b2]
                exact hk a b h1 h2 b2
  have outer : ∃ m, (lp (S := Int × (List Int)) (E := (List Int)) (fun ((s38, s39) : Int × (List Int)) =>
      if (decide (s38 < (s39.length : Int))) then
          (lp (S := Int × (List Int)) (E := (List Int)) (fun ((s58, s59) : Int × (List Int)) =>
            if (decide (s58 > 0)) then
              (r06_Plain (sO s)).bind fun v62 =>
              (ix s59 (w64 (s58 - 1))).bind fun v63 =>
              (r03_Find v62 v63).bind fun v64 =>
              (ix s59 s58).bind fun v65 =>
              (r03_Find v62 v65).bind fun v66 =>
              (onlyIf (((decide (v64.1 < 0)) || (decide (v66.1 < 0))) == false) (⟨0, 0, ⟨0, 0, 0, 0, false, []⟩⟩ : r06_Cell) (ix (sO s).Cells v64.1)).bind fun v67 =>
              (onlyIf (((decide (v64.1 < 0)) || (decide (v66.1 < 0))) == false) (⟨0, 0, ⟨0, 0, 0, 0, false, []⟩⟩ : r06_Cell) (ix (sO s).Cells v66.1)).bind fun v68 =>
              if (((decide (v64.1 < 0)) || (decide (v66.1 < 0))) || (decide (v67.Val.Serial ≤ v68.Val.Serial))) then
                some (.inr s59)
              else
              (ix (s59.set (s58).toNat v63) (w64 (s58 - 1))).bind fun v69 =>
              some (.inl (w64 (s58 - 1), ((s59.set (s58).toNat v63).set (w64 (s58 - 1)).toNat v65)))
            else
            some (.inr s59)) (s38, s39)).bind fun e57 =>
          some (.inl (w64 (s38 + 1), e57))
      else
      some (.inr s39)) (1, l)) = some m ∧ m.Perm l ∧ m.Pairwise (fun a b => sk s.S.Cells a ≤ sk s.S.Cells b) := by
    have hb1 : l.length + 1 - (1 : Int).toNat < 4611686018427387904 := by omega
    refine lp_ind (s0 := ((1 : Int), l)) (fun q => ∃ k : Nat, q.1 = (k : Int) ∧ (k ≤ l.length ∨ k = 1) ∧ 1 ≤ k ∧ q.2.Perm l ∧ ∀ a b, a < b → b < k → K q.2 a ≤ K q.2 b) (fun (o' : List Int) => o'.Perm l ∧ o'.Pairwise (fun a b => sk s.S.Cells a ≤ sk s.S.Cells b)) (fun q => l.length + 1 - q.1.toNat) ⟨1, rfl, .inr rfl, by omega, List.Perm.refl _, fun a b h1 h2 => by omega⟩ hb1 ?_
    rintro ⟨_, o⟩ ⟨k, rfl, hkl, hk1, hp, hk⟩
    simp only at hp hk ⊢
    have hol : o.length = l.length := hp.length_eq
    rcases Nat.lt_or_ge k l.length with h1 | h1
    · left
      obtain ⟨o', e1, e2, e3⟩ := inner k o h1 hp fun a b x1 x2 x3 => hk a b x1 (by omega)
      refine ⟨(((k + 1 : Nat) : Int), o'), ?_, ⟨k + 1, rfl, by omega, by omega, e2, fun a b x1 x2 => e3 a b x1 (by omega)⟩, by show l.length + 1 - ((k + 1 : Nat) : Int).toNat < l.length + 1 - (k : Int).toNat; omega⟩
      rw [if_pos (by simp; omega), e1, Option.bind_some, w64_nat (by omega)]
    · right
      refine ⟨o, by rw [if_neg (by simp; omega)], hp, ?_⟩
      rw [List.pairwise_iff_getElem]
      intro i j hi hj hij
      have := hk i j hij (by omega)
      simpa [K, List.getD, List.getElem?_eq_getElem hi, List.getElem?_eq_getElem hj] using this
  obtain ⟨m, e1, e2, e3⟩ := outer
  exact ⟨m, by rw [show lp _ _ = _ from e1]; rfl, e2, e3⟩
theorem live06 {s : store_Store} (hR : RtR (sO s)) : r06_Live (sO s) = some (lv s) := by
  have hlen := rt_len hR
  unfold r06_Live
  simp only [jn]
  have hloop : lp (S := Int × (List Int)) (E := (List Int)) (fun ((s18, s19) : Int × (List Int)) =>
      if (decide (s18 < ((sO s).Cells.length : Int))) then
          (ix (sO s).Cells s18).bind fun v27 =>
          if (v27.State == 1) then
            (r01_Pack s18 v27.Gen).bind fun v28 =>
            (app 8 s19 [v28]).bind fun v29 =>
            some (.inl (w64 (s18 + 1), v29))
          else
          some (.inl (w64 (s18 + 1), s19))
      else
      some (.inr s19)) (0, []) = some (hnds 0 s.S.Cells) := by
    refine some_of (lp_upS (T := List Int) s.S.Cells.length (fun k l => l = hnds 0 (s.S.Cells.take k)) (fun e => e = hnds 0 s.S.Cells) (by omega) (by simp [hnds]) (fun k l hk hP => ?_) (fun l hP => ?_))
    · subst hP
      left
      have hc := (rt_slb hR).gen k hk
      have hl := hnds_len 0 (s.S.Cells.take k)
      have et : s.S.Cells.take (k + 1) = s.S.Cells.take k ++ [s.S.Cells[k]] := by rw [List.take_add_one, List.getElem?_eq_getElem hk]; rfl
      have el : (s.S.Cells.take k).length = k := by simp; omega
      refine ⟨_, ?_, rfl⟩
      simp only [sO_len, Int.ofNat_lt, hk, decide_true, if_true, sO_ix, ix_at hk, Option.map_some, Option.bind_some, cO]
      rw [et, hnds_snoc, el, Nat.zero_add]
      by_cases q : s.S.Cells[k].State = 1
      · rw [if_pos (by simpa using q), if_pos q, r01_Pack_eq, Option.bind_some, if_pos (by omega), app_ok (by omega) (by simp; omega), Option.bind_some, w64_nat]
      · rw [if_neg (by simpa using q), if_neg q, w64_nat, List.append_nil]
    · subst hP
      refine ⟨_, by simp only [sO_len, Int.lt_irrefl, decide_false, Bool.false_eq_true, if_false]; rfl, by simp⟩
  rw [show lp _ _ = _ from hloop, Option.bind_some]
  obtain ⟨m, h1, h2, h3⟩ := sorted06 hR (l := hnds 0 s.S.Cells) (fun x hx => (lv_mem hR).2 hx) (by have := hnds_len 0 s.S.Cells; omega)
  rw [h1, Option.bind_some]
  congr 1
  obtain ⟨_, l2, l3⟩ := lv_spec hR
  exact sorted_one (key := sk s.S.Cells) (h2.trans l2.symm) h3 (l3.imp fun h => by omega) fun a ha b hb e => sk_inj hR (h2.mem_iff.1 ha) (h2.mem_iff.1 hb) e
end Go.Sh
namespace Go.Sh
set_option linter.unusedVariables false
set_option linter.unusedSimpArgs false
theorem names_eq (v : List Int) (h : v.length ≤ 1000000) : vec_Names v = some (nz v) := by
  unfold vec_Names vec_named
  simp only [jn, Option.bind_some]
  rw [lp_foldl v (fun b x => if x != 0 then b ++ [x] else b) id (fun k b => b.length ≤ k) (by omega) (by simp) (fun k hk b hb => ?_) (fun b _ => ?_)]
  · simp only [Option.bind_some, id]
    rw [foldl_filter]
    rfl
  · simp only [Int.ofNat_lt, hk, decide_true, if_true, ix_at hk, Option.bind_some]
    by_cases q : (v[k] != 0) = true
    · rw [if_pos (by simpa using q), if_pos q, app_ok (by omega) (by simp; omega), Option.bind_some, w64_nat]
      exact ⟨rfl, by simp; omega⟩
    · rw [if_neg (by simpa using q), if_neg q, w64_nat]
      exact ⟨rfl, by omega⟩
  · simp only [Int.lt_irrefl, decide_false, Bool.false_eq_true, if_false]
    rfl
theorem names05_eq (v : List Int) (h : v.length ≤ 1000000) : r05_Names v = some (nz v) := by
  unfold r05_Names
  simp only [jn]
  rw [lp_foldl v (fun b x => if x != 0 then b ++ [x] else b) id (fun k b => b.length ≤ k) (by omega) (by simp) (fun k hk b hb => ?_) (fun b _ => ?_)]
  · simp only [Option.bind_some, id]
    rw [foldl_filter]
    rfl
  · simp only [Int.ofNat_lt, hk, decide_true, if_true, ix_at hk, Option.bind_some]
    by_cases q : (v[k] != 0) = true
    · rw [if_pos q, if_pos q, app_ok (by omega) (by simp; omega), Option.bind_some, w64_nat]
      exact ⟨rfl, by simp; omega⟩
    · rw [if_neg q, if_neg q, w64_nat]
      exact ⟨rfl, by omega⟩
  · simp only [Int.lt_irrefl, decide_false, Bool.false_eq_true, if_false]
    rfl
theorem times07_eq (l : List Int) (h : Int) (hl : l.length ≤ 1000000) : r07_Times l h = some (tms l h : Int) := by
  unfold r07_Times
  simp only [jn]
  rw [lp_foldlR l (fun (b : Int) x => if (x == h && h != 0) then b + 1 else b) id (fun k b => 0 ≤ b ∧ b ≤ k) (by omega) (by simp) (fun k hk b hb => ?_) (fun b _ => ?_)]
  · simp only [Option.bind_some, id]
    rw [foldl_count]
    simp
  · simp only [Int.ofNat_lt, hk, decide_true, if_true, ix_at hk, Option.bind_some]
    by_cases q : (l[k] == h && h != 0) = true
    · rw [if_pos q, if_pos q, w64_nat, w64_in (n := b + 1) (by omega) (by omega)]
      exact ⟨rfl, by omega⟩
    · rw [if_neg q, if_neg q, w64_nat]
      exact ⟨rfl, by omega⟩
  · simp only [Int.lt_irrefl, decide_false, Bool.false_eq_true, if_false]
    rfl
section
variable {s : store_Store} (hR : RtR (sO s))
include hR
theorem out_eq {h : Int} (hh : h ≤ 9223372036854775807) : refs_Out s h = some (outs s h) := by
  obtain ⟨e, h1, _⟩ := get_ob hR hh
  unfold refs_Out
  rw [h1, Option.bind_some, names_eq _ (by have := ob_flen hR h hh; simp only; omega)]
  rfl
theorem out07_eq {h : Int} (hh : h ≤ 9223372036854775807) : r07_Out (sO s) h = some (outs s h) := by
  unfold r07_Out
  rw [get06 s (by have := rt_len hR; omega) hh]
  obtain ⟨e, h1, h2⟩ := get_ob hR hh
  rw [h1]
  simp only [Option.map_some, Option.bind_some]
  by_cases q : e = 0
  · subst q
    rw [if_neg (by simp), names05_eq _ (by have := ob_flen hR h hh; simp only [oo]; omega)]
    rfl
  · rw [if_pos (by simpa using q), outs_no hR hh (fun q' => q (h2.2 q'))]
end
end Go.Sh
namespace Go.Sh
set_option linter.unusedVariables false
set_option linter.unusedSimpArgs false
section
variable {s : store_Store} (hR : RtR (sO s)) (hF : FB s)
include hR hF
end
theorem filter_split {α : Type} (p : α → Bool) : ∀ l : List α, l.length = (l.filter p).length + (l.filter fun x => !p x).length
  | [] => rfl
  | x :: l => by
    have := filter_split p l
    by_cases h : p x
    · simp [h]; omega
    · simp [h]; omega
theorem lv_of {s : store_Store} (hR : RtR (sO s)) {l : List Int} (hp : l.Perm (hnds 0 s.S.Cells)) (hs : l.Pairwise (fun a b => sk s.S.Cells a < sk s.S.Cells b)) : lv s = l := by
  obtain ⟨_, l2, l3⟩ := lv_spec hR
  exact sorted_one (key := sk s.S.Cells) (l2.trans hp.symm) (l3.imp fun h => by omega) (hs.imp fun h => by omega) fun a ha b hb e => sk_inj hR (l2.mem_iff.1 ha) (l2.mem_iff.1 hb) e
theorem rtR_of {s : store_Store} (h1 : s.S.Cells.length ≤ 1000) (h : r06_Right (sO s) = some true) : RtR (sO s) := by
  obtain ⟨b, q1, q2⟩ := Right06 (sO s) (by rw [sO_len]; exact h1)
  rw [h] at q1
  exact q2.1 (Option.some.inj q1).symm
end Go.Sh
namespace Go.Sh
set_option linter.unusedVariables false
set_option linter.unusedSimpArgs false
inductive Rch (s : store_Store) (l : List Int) : Int → Prop
  | base {h : Int} : h ∈ l → h ∈ lv s → Rch s l h
  | step {a b : Int} : Rch s l a → b ∈ outs s a → b ∈ lv s → Rch s l b
open Classical in
noncomputable def rcd (s : store_Store) (l : List Int) : List Int := (lv s).filter fun h => decide (Rch s l h)
open Classical in
noncomputable def lst (s : store_Store) (l : List Int) : List Int := (lv s).filter fun h => decide (¬ Rch s l h)
def Cl (s : store_Store) (l : List Int) : Prop := ∀ a ∈ l, ∀ b ∈ outs s a, b ∈ lv s → b ∈ l
def LB (l : List Int) : Prop := ∀ x ∈ l, x ≤ 9223372036854775807
theorem Rch.live {s : store_Store} {l : List Int} {h : Int} (q : Rch s l h) : h ∈ lv s := by cases q <;> assumption
open Classical in
theorem rcd_mem {s : store_Store} {l : List Int} {h : Int} : h ∈ rcd s l ↔ Rch s l h := by
  unfold rcd
  rw [List.mem_filter]
  exact ⟨fun q => of_decide_eq_true q.2, fun q => ⟨q.live, decide_eq_true q⟩⟩
theorem rcd_len {s : store_Store} (hR : RtR (sO s)) (l : List Int) : (rcd s l).length ≤ 24 := Nat.le_trans (List.length_filter_le ..) (lv_len hR)
theorem lst_len {s : store_Store} (hR : RtR (sO s)) (l : List Int) : (lst s l).length ≤ 24 := Nat.le_trans (List.length_filter_le ..) (lv_len hR)
theorem rcd_cl (s : store_Store) (l : List Int) : Cl s (rcd s l) := fun a ha b hb hl => rcd_mem.2 (.step (rcd_mem.1 ha) hb hl)
theorem Rch.least {s : store_Store} {l m : List Int} (hc : Cl s m) (hl : ∀ x ∈ l, x ∈ lv s → x ∈ m) {h : Int} (q : Rch s l h) : h ∈ m := by
  induction q with
  | base h1 h2 => exact hl _ h1 h2
  | step _ h1 h2 ih => exact hc _ ih _ h1 h2
theorem Rch.mono {s : store_Store} {l m : List Int} (hl : ∀ x ∈ l, x ∈ lv s → Rch s m x) {h : Int} (q : Rch s l h) : Rch s m h := by
  induction q with
  | base h1 h2 => exact hl _ h1 h2
  | step _ h1 h2 ih => exact .step ih h1 h2
theorem rcd_congr {s : store_Store} {l m : List Int} (h : ∀ x, Rch s l x ↔ Rch s m x) : rcd s l = rcd s m := by
  unfold rcd
  exact List.filter_congr fun x _ => decide_eq_decide.2 (h x)
theorem lst_congr {s : store_Store} {l m : List Int} (h : ∀ x, Rch s l x ↔ Rch s m x) : lst s l = lst s m := by
  unfold lst
  exact List.filter_congr fun x _ => decide_eq_decide.2 (not_congr (h x))
theorem filter_lt {α : Type} {p q : α → Bool} : ∀ {l : List α}, (∀ x ∈ l, p x = true → q x = true) → ∀ x ∈ l, q x = true → p x = false → (l.filter p).length < (l.filter q).length
  | [], _, x, hx, _, _ => by cases hx
  | y :: l, h, x, hx, h1, h2 => by
    have hle : (l.filter p).length ≤ (l.filter q).length := by
      have h' : ∀ x ∈ l, p x = true → q x = true := fun x hx => h x (List.mem_cons_of_mem _ hx)
      clear h hx
      induction l with
      | nil => simp
      | cons z l ih =>
        have := ih fun x hx => h' x (List.mem_cons_of_mem _ hx)
        have hz := h' z (List.mem_cons_self ..)
        simp only [List.filter_cons]
        by_cases a : p z = true
        · rw [if_pos a, if_pos (hz a)]; simp only [List.length_cons]; omega
        · rw [if_neg a]; split <;> (try simp only [List.length_cons]) <;> omega
    rcases List.mem_cons.1 hx with rfl | hx'
    · simp only [List.filter_cons, h1, h2, if_true, Bool.false_eq_true, if_false, List.length_cons]
      omega
    · have := filter_lt (fun x hx => h x (List.mem_cons_of_mem _ hx)) x hx' h1 h2
      have hy := h y (List.mem_cons_self ..)
      simp only [List.filter_cons]
      by_cases a : p y = true
      · rw [if_pos a, if_pos (hy a)]; simp only [List.length_cons]; omega
      · rw [if_neg a]; split <;> (try simp only [List.length_cons]) <;> omega
theorem nodup_le {l m : List Int} (hn : l.Nodup) (h : ∀ x ∈ l, x ∈ m) : l.length ≤ m.length := by
  induction l generalizing m with
  | nil => simp
  | cons x l ih =>
    rw [List.nodup_cons] at hn
    have hx := h x (List.mem_cons_self ..)
    have := ih (m := m.erase x) hn.2 fun y hy => (List.mem_erase_of_ne (fun e => hn.1 (by subst e; exact hy))).2 (h y (List.mem_cons_of_mem _ hy))
    rw [List.length_erase_of_mem hx] at this
    have : 0 < m.length := List.length_pos_of_mem hx
    simp only [List.length_cons]
    omega
section
variable {s : store_Store} (hR : RtR (sO s))
include hR
theorem isLive_eq {h : Int} (hh : h ≤ 9223372036854775807) : reach_isLive s h = some (decide (h ∈ lv s)) := by
  obtain ⟨e, h1, h2⟩ := get_ob hR hh
  unfold reach_isLive
  rw [h1, Option.bind_some]
  congr 1
  rw [Bool.eq_iff_iff, beq_iff_eq, decide_eq_true_iff]
  exact h2
abbrev Mk (m : List (Int × Bool)) (x : Int) : Prop := (mget m x).getD false = true
noncomputable def unm (s : store_Store) (m : List (Int × Bool)) : Nat := ((lv s).filter fun x => !(mget m x).getD false).length
omit hR in
theorem mk_put (m : List (Int × Bool)) (x y : Int) : Mk (mput m x true) y ↔ y = x ∨ Mk m y := by
  unfold Mk
  rw [mget_mput]
  by_cases q : y = x
  · simp [q]
  · simp [q]
omit hR in
theorem unm_put {m : List (Int × Bool)} {x : Int} (hx : x ∈ lv s) (hm : ¬ Mk m x) : unm s (mput m x true) < unm s m := by
  unfold unm
  refine filter_lt (fun y _ h => ?_) x hx (by simpa [Mk] using hm) ?_
  · by_cases q : Mk m y
    · have := (mk_put m x y).2 (.inr q)
      unfold Mk at this
      rw [this] at h
      cases h
    · simpa [Mk] using q
  · have := (mk_put m x x).2 (.inl rfl)
    unfold Mk at this
    rw [this]; rfl
structure Srch (s : store_Store) (l : List Int) (q : queue_Queue_int) (m : List (Int × Bool)) : Prop where
  nd : q.L.Nodup
  cap : q.Cap = ((lv s).length : Int)
  mkd : ∀ x ∈ q.L, Mk m x
  rc : ∀ x, Mk m x → Rch s l x
omit hR in
theorem Srch.room {l : List Int} {q : queue_Queue_int} {m : List (Int × Bool)} (h : Srch s l q m) {x : Int} (hx : x ∈ lv s) (hm : ¬ Mk m x) : q.L.length < (lv s).length := by
  have : (x :: q.L).length ≤ (lv s).length := nodup_le (List.nodup_cons.2 ⟨fun k => hm (h.mkd x k), h.nd⟩) fun y hy => by
    rcases List.mem_cons.1 hy with rfl | k
    · exact hx
    · exact (h.rc y (h.mkd y k)).live
  simp only [List.length_cons] at this
  omega
omit hR in
theorem push_eq {q : queue_Queue_int} {x : Int} (h : (q.L.length : Int) < q.Cap) (h2 : q.L.length ≤ 1000) : queue_Push_int q x = some (⟨q.L ++ [x], q.Cap⟩, 0) := by
  unfold queue_Push_int queue_Len_int queue_part_int
  rw [Option.bind_some, if_neg (by simp; omega)]
  have := cut_ok (xs := q.L) (i := 0) (j := q.L.length) (by omega) (Nat.le_refl _)
  rw [show ((0 : Nat) : Int) = 0 from rfl] at this
  rw [this]
  simp only [List.take_length, List.drop_zero, Option.bind_some]
  rw [app_ok (by omega) (by simp; omega)]
  rfl
omit hR in
theorem pop_eq {x : Int} {r : List Int} {c : Int} (h2 : r.length ≤ 1000) : queue_Pop_int ⟨x :: r, c⟩ = some (⟨r, c⟩, x, 0) := by
  unfold queue_Pop_int queue_Drain_int queue_Len_int queue_part_int
  simp only [Option.bind_some, List.length_cons]
  have e : (if (if (((r.length + 1 : Nat) : Int)) < 1 then (((r.length + 1 : Nat) : Int)) else 1) > 0 then (if (((r.length + 1 : Nat) : Int)) < 1 then (((r.length + 1 : Nat) : Int)) else 1) else 0 : Int) = ((1 : Nat) : Int) := by
    rw [if_neg (show ¬ (((r.length + 1 : Nat) : Int) < 1) by omega)]
    rfl
  rw [e]
  have h1 := cut_ok (xs := x :: r) (i := 0) (j := 1) (by omega) (by simp)
  have h3 := cut_ok (xs := x :: r) (i := 1) (j := r.length + 1) (by omega) (by simp)
  rw [show ((0 : Nat) : Int) = 0 from rfl] at h1
  rw [h1, h3]
  simp only [Option.bind_some]
  have e1 : List.drop 0 (List.take 1 (x :: r)) = [x] := by simp
  have e2 : List.drop 1 (List.take (r.length + 1) (x :: r)) = r := by simp
  rw [e1, e2]
  rfl
abbrev pushB (s : store_Store) (xs : List Int) : Int × queue_Queue_int × (List (Int × Bool)) → Option ((Int × queue_Queue_int × (List (Int × Bool))) ⊕ (queue_Queue_int × (List (Int × Bool)))) :=
  fun (s114, s115, s116) =>
      if (decide (s114 < (xs.length : Int))) then
          (ix xs s114).bind fun v126 =>
          (reach_isLive s v126).bind fun v127 =>
          if (v127 == true) then
            if (!((mget s116 v126).getD (false : Bool))) then
              (queue_Push_int s115 v126).bind fun v128 =>
              some (.inl (w64 (s114 + 1), v128.1, (mput s116 v126 true)))
            else
            some (.inl (w64 (s114 + 1), s115, s116))
          else
          some (.inl (w64 (s114 + 1), s115, s116))
      else
      some (.inr (s115, s116))
theorem push_spec {l xs : List Int} {q : queue_Queue_int} {m : List (Int × Bool)} (hxs : LB xs) (hlen : xs.length ≤ 1000000) (h0 : Srch s l q m) (hr : ∀ x ∈ xs, x ∈ lv s → Rch s l x) :
    ∃ q' m', lp (pushB s xs) (0, q, m) = some (q', m') ∧ Srch s l q' m' ∧ (∀ x, Mk m' x ↔ Mk m x ∨ x ∈ xs ∧ x ∈ lv s) ∧ (∀ x, Mk m' x → Mk m x ∨ x ∈ q'.L) ∧ (∀ x ∈ q.L, x ∈ q'.L) ∧ 2 * unm s m' + q'.L.length ≤ 2 * unm s m + q.L.length := by
  have := lp_upS (f := pushB s xs) (t0 := (q, m)) xs.length (fun k t => Srch s l t.1 t.2 ∧ (∀ x, Mk t.2 x ↔ Mk m x ∨ x ∈ xs.take k ∧ x ∈ lv s) ∧ (∀ x, Mk t.2 x → Mk m x ∨ x ∈ t.1.L) ∧ (∀ x ∈ q.L, x ∈ t.1.L) ∧ 2 * unm s t.2 + t.1.L.length ≤ 2 * unm s m + q.L.length)
    (fun t => Srch s l t.1 t.2 ∧ (∀ x, Mk t.2 x ↔ Mk m x ∨ x ∈ xs ∧ x ∈ lv s) ∧ (∀ x, Mk t.2 x → Mk m x ∨ x ∈ t.1.L) ∧ (∀ x ∈ q.L, x ∈ t.1.L) ∧ 2 * unm s t.2 + t.1.L.length ≤ 2 * unm s m + q.L.length) (by omega)
    ⟨h0, fun x => by simp, fun x h => .inl h, fun x h => h, Nat.le_refl _⟩ (fun k t hk hP => ?_) (fun t hP => ?_)
  · obtain ⟨⟨q', m'⟩, h1, h2⟩ := this
    exact ⟨q', m', h1, h2⟩
  · obtain ⟨q1, m1⟩ := t
    obtain ⟨p1, p2, p3, p4, p5⟩ := hP
    simp only at p1 p2 p3 p4 p5
    left
    have hle := hxs _ (List.getElem_mem hk)
    have ht : ∀ x, x ∈ xs.take (k + 1) ↔ x ∈ xs.take k ∨ x = xs[k] := fun x => by rw [List.take_succ_eq_append_getElem hk, List.mem_append, List.mem_singleton]
    simp only [pushB, Int.ofNat_lt, hk, decide_true, if_true, ix_at hk, Option.bind_some, isLive_eq hR hle]
    by_cases hv : xs[k] ∈ lv s
    · rw [if_pos (by simpa using hv)]
      by_cases hm : Mk m1 xs[k]
      · rw [if_neg (by rw [show (mget m1 xs[k]).getD false = true from hm]; decide), w64_nat]
        refine ⟨(q1, m1), rfl, p1, fun x => ?_, p3, p4, p5⟩
        rw [p2, ht]
        constructor
        · rintro (a | ⟨a, b⟩)
          · exact .inl a
          · exact .inr ⟨.inl a, b⟩
        · rintro (a | ⟨a | rfl, b⟩)
          · exact .inl a
          · exact .inr ⟨a, b⟩
          · exact (p2 _).1 hm
      · have hm' : (mget m1 xs[k]).getD false = false := by simpa [Mk] using hm
        have hroom := p1.room hv hm
        have hl24 := lv_len hR
        rw [if_pos (by rw [hm']; decide), push_eq (by rw [p1.cap]; omega) (by omega), Option.bind_some, w64_nat]
        refine ⟨(⟨q1.L ++ [xs[k]], q1.Cap⟩, mput m1 xs[k] true), rfl, ⟨?_, p1.cap, fun x hx => ?_, fun x hx => ?_⟩, fun x => ?_, fun x hx => ?_, fun x hx => ?_, ?_⟩
        · simp only
          rw [List.nodup_append]
          refine ⟨p1.nd, by simp, fun a ha b hb e => ?_⟩
          rw [List.mem_singleton] at hb
          subst hb; subst e
          exact hm (p1.mkd _ ha)
        · simp only [List.mem_append, List.mem_singleton] at hx
          rw [mk_put]
          rcases hx with a | a
          · exact .inr (p1.mkd x a)
          · exact .inl a
        · rcases (mk_put m1 xs[k] x).1 hx with rfl | a
          · exact hr _ (List.getElem_mem hk) hv
          · exact p1.rc x a
        · simp only
          rw [mk_put, p2, ht]
          constructor
          · rintro (rfl | a | ⟨a, b⟩)
            · exact .inr ⟨.inr rfl, hv⟩
            · exact .inl a
            · exact .inr ⟨.inl a, b⟩
          · rintro (a | ⟨a | a, b⟩)
            · exact .inr (.inl a)
            · exact .inr (.inr ⟨a, b⟩)
            · exact .inl a
        · simp only [List.mem_append, List.mem_singleton]
          rcases (mk_put m1 xs[k] x).1 hx with a | a
          · exact .inr (.inr a)
          · rcases p3 x a with b | b
            · exact .inl b
            · exact .inr (.inl b)
        · simp only [List.mem_append]
          exact .inl (p4 x hx)
        · have := unm_put hv hm
          simp only [List.length_append, List.length_singleton]
          omega
    · rw [if_neg (by simpa using hv), w64_nat]
      refine ⟨(q1, m1), rfl, p1, fun x => ?_, p3, p4, p5⟩
      rw [p2, ht]
      constructor
      · rintro (a | ⟨a, b⟩)
        · exact .inl a
        · exact .inr ⟨.inl a, b⟩
      · rintro (a | ⟨a | rfl, b⟩)
        · exact .inl a
        · exact .inr ⟨a, b⟩
        · exact absurd b hv
  · obtain ⟨q1, m1⟩ := t
    refine ⟨(q1, m1), ?_, ?_⟩
    · simp only [pushB, Int.lt_irrefl, decide_false, Bool.false_eq_true, if_false]
    · simpa using hP
theorem spread_eq (hF : FB s) {l : List Int} (hl : LB l) (hlen : l.length ≤ 1000000) : ∃ m, reach_spread s l = some m ∧ ∀ x, Mk m x ↔ Rch s l x := by
  unfold reach_spread queue_New_int
  simp only [jn, lv_live hR, Option.bind_some]
  have h24 := lv_len hR
  obtain ⟨q0, m0, e0, i0, i1, i2, i3, i4⟩ := push_spec hR (l := l) (xs := l) (q := ⟨[], ((lv s).length : Int)⟩) (m := []) hl hlen ⟨List.nodup_nil, rfl, (fun x hx => by cases hx), (fun x hx => by simp [Mk, mget] at hx)⟩ (fun x h1 h2 => .base h1 h2)
  rw [show lp _ _ = _ from e0, Option.bind_some]
  simp only
  have hu : unm s [] ≤ 24 := Nat.le_trans (List.length_filter_le ..) h24
  obtain ⟨m, h1, h2⟩ := lp_ind (s0 := (q0, m0)) (f := fun ((s70, s71) : queue_Queue_int × (List (Int × Bool))) =>
        (queue_Len_int s70).bind fun v74 =>
        if (decide (v74 > 0)) then
          (queue_Pop_int s70).bind fun v75 =>
          (refs_Out s v75.2.1).bind fun v76 =>
            (lp (pushB s v76) (0, v75.1, s71)).bind fun e97 =>
            (some (.inl (e97.1, e97.2)) : Option ((queue_Queue_int × List (Int × Bool)) ⊕ List (Int × Bool)))
        else
        some (.inr s71)) (fun t => Srch s l t.1 t.2 ∧ (∀ x ∈ l, x ∈ lv s → Mk t.2 x) ∧ ∀ a, Mk t.2 a → a ∈ t.1.L ∨ ∀ b ∈ outs s a, b ∈ lv s → Mk t.2 b) (fun m => ∀ x, Mk m x ↔ Rch s l x) (fun t => 2 * unm s t.2 + t.1.L.length)
      ⟨i0, fun x h1 h2 => (i1 x).2 (.inr ⟨h1, h2⟩), fun a ha => .inl ((i2 a ha).resolve_left (by simp [Mk, mget]))⟩ (by show 2 * unm s m0 + q0.L.length < _; simp only [List.length_nil] at i4; omega) (by
      rintro ⟨q, m⟩ ⟨p1, p2, p3⟩
      simp only at p1 p2 p3 ⊢
      have hq := nodup_le p1.nd fun x hx => (p1.rc x (p1.mkd x hx)).live
      unfold queue_Len_int
      rw [Option.bind_some]
      cases hqL : q.L with
      | nil =>
        right
        refine ⟨m, by rw [if_neg (by simp)], fun x => ⟨p1.rc x, fun h => ?_⟩⟩
        induction h with
        | base a b => exact p2 _ a b
        | step _ a b ih =>
          rcases p3 _ ih with c | c
          · rw [hqL] at c; cases c
          · exact c _ a b
      | cons a r =>
        left
        have hqe : q = ⟨a :: r, q.Cap⟩ := by rw [← hqL]
        have hal : a ∈ lv s := (p1.rc a (p1.mkd a (by rw [hqL]; exact List.mem_cons_self ..))).live
        have ha : a ≤ 9223372036854775807 := by have := lv_pos hR hal; omega
        have hnd := p1.nd
        rw [hqL] at hnd hq
        simp only [List.length_cons] at hq
        obtain ⟨q', m', e1, j0, j1, j2, j3, j4⟩ := push_spec hR (l := l) (xs := outs s a) (q := ⟨r, q.Cap⟩) (m := m) (fun x hx => outs_le hR hF ha hx) (by have := outs_len hR a ha; omega) ⟨(List.nodup_cons.1 hnd).2, p1.cap, fun x hx => p1.mkd x (by rw [hqL]; exact List.mem_cons_of_mem _ hx), p1.rc⟩ (fun x h1 h2 => .step (p1.rc a (p1.mkd a (by rw [hqL]; exact List.mem_cons_self ..))) h1 h2)
        refine ⟨(q', m'), ?_, ⟨j0, fun x h1 h2 => (j1 x).2 (.inl (p2 x h1 h2)), fun b hb => ?_⟩, ?_⟩
        · rw [if_pos (by simp), hqe, pop_eq (by omega), Option.bind_some]
          simp only
          rw [out_eq hR ha, Option.bind_some, e1, Option.bind_some]
        · simp only at hb ⊢
          rcases j2 b hb with c | c
          · rcases p3 b c with d | d
            · rw [hqL] at d
              rcases List.mem_cons.1 d with rfl | d
              · exact .inr fun y h1 h2 => (j1 y).2 (.inr ⟨h1, h2⟩)
              · exact .inl (j3 b d)
            · exact .inr fun y h1 h2 => (j1 y).2 (.inl (d y h1 h2))
          · exact .inl c
        · show 2 * unm s m' + q'.L.length < 2 * unm s m + (a :: r).length
          simp only [List.length_cons] at j4 ⊢
          omega)
  refine ⟨m, ?_, h2⟩
  rw [show lp _ _ = _ from h1]
  rfl
end
end Go.Sh
namespace Go.Sh
set_option linter.unusedVariables false
set_option linter.unusedSimpArgs false
theorem index_eq (l : List Int) (x : Int) (hl : l.length ≤ 1000000) : ∃ r : Int, slices_Index_int_int l x = some r ∧ (0 ≤ r ↔ x ∈ l) := by
  unfold slices_Index_int_int
  simp only [jn]
  by_cases h : x ∈ l
  · obtain ⟨i, hi, e⟩ := List.mem_iff_getElem.1 h
    obtain ⟨j, ⟨hj, ej⟩, hmin⟩ := exists_min (p := fun i => ∃ hi : i < l.length, l[i] = x) ⟨i, hi, e⟩
    refine ⟨(j : Int), ?_, by simp [h]⟩
    refine lpb_up l.length (fun k => k ≤ j) (by omega) (Nat.zero_le _) (fun k hk hP => ?_) (fun hP => by omega)
    simp only [Int.ofNat_lt, hk, decide_true, if_true, ix_at hk, Option.bind_some]
    rcases Nat.lt_or_ge k j with q | q
    · refine .inl ⟨?_, q⟩
      rw [if_neg (by
        rw [beq_iff_eq]
        intro e
        have := hmin k ⟨hk, e.symm⟩
        omega), w64_nat]
    · have : k = j := by omega
      subst this
      exact .inr ⟨_, by rw [if_pos (by simpa using ej.symm)], rfl⟩
  · refine ⟨-1, ?_, by simp [h]⟩
    refine lpb_up l.length (fun k => True) (by omega) trivial (fun k hk hP => .inl ⟨?_, trivial⟩) (fun hP => ⟨.inr (), by simp, rfl⟩)
    simp only [Int.ofNat_lt, hk, decide_true, if_true, ix_at hk, Option.bind_some]
    rw [if_neg (by
      rw [beq_iff_eq]
      intro e
      exact h (e ▸ List.getElem_mem hk)), w64_nat]
theorem contains_eq (l : List Int) (x : Int) (hl : l.length ≤ 1000000) : slices_Contains_int_int l x = some (decide (x ∈ l)) := by
  obtain ⟨r, h1, h2⟩ := index_eq l x hl
  unfold slices_Contains_int_int
  rw [h1, Option.bind_some]
  congr 1
  exact decide_eq_decide.2 h2
theorem has08_eq (l : List Int) (x : Int) (hl : l.length ≤ 1000000) : r08_Has l x = some (decide (x ≠ 0 ∧ x ∈ l)) := by
  unfold r08_Has
  rw [times07_eq l x hl, Option.bind_some]
  congr 1
  rw [decide_eq_decide, ← tms_pos]
  omega
open Classical in
theorem those_eq (all l : List Int) (b : Bool) (ha : all.length ≤ 1000000) (hl : l.length ≤ 1000000) (h0 : ∀ x ∈ all, x ≠ 0) : r08_those all l b = some (all.filter fun x => decide (x ∈ l) == b) := by
  unfold r08_those
  simp only [jn]
  rw [lp_foldl all (fun acc x => if decide (x ∈ l) == b then acc ++ [x] else acc) id (fun k acc => acc.length ≤ k) (by omega) (by simp) (fun k hk acc hb => ?_) (fun b _ => ?_)]
  · simp only [Option.bind_some, id]
    rw [foldl_filter]
    rfl
  · simp only [Int.ofNat_lt, hk, decide_true, if_true, ix_at hk, Option.bind_some, has08_eq _ _ hl]
    have e : decide (all[k] ≠ 0 ∧ all[k] ∈ l) = decide (all[k] ∈ l) := decide_eq_decide.2 ⟨fun q => q.2, fun q => ⟨h0 _ (List.getElem_mem hk), q⟩⟩
    rw [e]
    by_cases q : (decide (all[k] ∈ l) == b) = true
    · rw [if_pos q, if_pos q, app_ok (by omega) (by simp; omega), Option.bind_some, w64_nat]
      exact ⟨rfl, by simp; omega⟩
    · rw [if_neg q, if_neg q, w64_nat]
      exact ⟨rfl, by omega⟩
  · simp only [Int.lt_irrefl, decide_false, Bool.false_eq_true, if_false]
    rfl
section
variable {s : store_Store} (hR : RtR (sO s))
include hR
theorem lv_nz : ∀ x ∈ lv s, x ≠ 0 := fun x hx => by have := lv_pos hR hx; omega
open Classical in
theorem from_eq (hF : FB s) {l : List Int} (hl : LB l) (hlen : l.length ≤ 1000000) : reach_From s l = some (rcd s l) := by
  obtain ⟨m, h1, h2⟩ := spread_eq hR hF hl hlen
  unfold reach_From reach_live__reach_From_1 reach_From_1
  rw [h1, Option.bind_some]
  simp only [jn, lv_live hR, Option.bind_some]
  have h24 := lv_len hR
  rw [lp_foldl (lv s) (fun acc x => if decide (Rch s l x) then acc ++ [x] else acc) id (fun k acc => acc.length ≤ k) (by omega) (by simp) (fun k hk acc hb => ?_) (fun b _ => ?_)]
  · simp only [Option.bind_some, id]
    rw [foldl_filter]
    rfl
  · simp only [Int.ofNat_lt, hk, decide_true, if_true, ix_at hk, Option.bind_some]
    by_cases q : Rch s l (lv s)[k]
    · rw [if_pos ((h2 _).2 q), if_pos (by simpa using q), app_ok (by omega) (by simp; omega), Option.bind_some, w64_nat]
      exact ⟨rfl, by simp; omega⟩
    · rw [if_neg (fun k => q ((h2 _).1 k)), if_neg (by simpa using q), w64_nat]
      exact ⟨rfl, by omega⟩
  · simp only [Int.lt_irrefl, decide_false, Bool.false_eq_true, if_false]
    rfl
open Classical in
theorem lost_eq (hF : FB s) {l : List Int} (hl : LB l) (hlen : l.length ≤ 1000000) : reach_Lost s l = some (lst s l) := by
  obtain ⟨m, h1, h2⟩ := spread_eq hR hF hl hlen
  unfold reach_Lost reach_live__reach_Lost_1 reach_Lost_1
  rw [h1, Option.bind_some]
  simp only [jn, lv_live hR, Option.bind_some]
  have h24 := lv_len hR
  rw [lp_foldl (lv s) (fun acc x => if decide (¬ Rch s l x) then acc ++ [x] else acc) id (fun k acc => acc.length ≤ k) (by omega) (by simp) (fun k hk acc hb => ?_) (fun b _ => ?_)]
  · simp only [Option.bind_some, id]
    rw [foldl_filter]
    rfl
  · simp only [Int.ofNat_lt, hk, decide_true, if_true, ix_at hk, Option.bind_some]
    by_cases q : Rch s l (lv s)[k]
    · have e : (mget m (lv s)[k]).getD false = true := (h2 _).2 q
      rw [if_neg (by rw [e]; decide), if_neg (by simpa using q), w64_nat]
      exact ⟨rfl, by omega⟩
    · have e : (mget m (lv s)[k]).getD false = false := by
        have : ¬ Mk m (lv s)[k] := fun k => q ((h2 _).1 k)
        simpa [Mk] using this
      rw [if_pos (by rw [e]; decide), if_pos (by simpa using q), app_ok (by omega) (by simp; omega), Option.bind_some, w64_nat]
      exact ⟨rfl, by simp; omega⟩
  · simp only [Int.lt_irrefl, decide_false, Bool.false_eq_true, if_false]
    rfl
open Classical in
theorem is_eq (hF : FB s) {a : Int} (b : Int) (ha : a ≤ 9223372036854775807) : reach_Is s a b = some (decide (Rch s [a] b)) := by
  unfold reach_Is
  rw [from_eq hR hF (by intro x hx; rw [List.mem_singleton] at hx; omega) (by simp), Option.bind_some, contains_eq _ _ (by have := rcd_len hR [a]; omega), Option.bind_some]
  congr 1
  exact decide_eq_decide.2 rcd_mem
open Classical in
theorem closed_eq (hF : FB s) {l : List Int} (hl : LB l) (hlen : l.length ≤ 1000000) : reach_Closed s l = some (decide (Cl s l)) := by
  unfold reach_Closed
  simp only [jn]
  have hm : ∃ m : List (Int × Bool), lp (S := Int × (List (Int × Bool))) (E := (List (Int × Bool))) (fun ((s50, s51) : Int × (List (Int × Bool))) =>
      if (decide (s50 < (l.length : Int))) then
        (ix l s50).bind fun v54 =>
        some (.inl (w64 (s50 + 1), (mput s51 v54 true)))
      else
      some (.inr s51)) (0, []) = some m ∧ ∀ x, Mk m x ↔ x ∈ l := by
    refine lp_upS (T := List (Int × Bool)) l.length (fun k m => ∀ x, Mk m x ↔ x ∈ l.take k) (fun m => ∀ x, Mk m x ↔ x ∈ l) (by omega) (fun x => by simp [Mk, mget]) (fun k m hk hP => .inl ⟨mput m l[k] true, ?_, fun x => ?_⟩) (fun m hP => ⟨m, ?_, by simpa using hP⟩)
    · simp only [Int.ofNat_lt, hk, decide_true, if_true, ix_at hk, Option.bind_some]
      rw [w64_nat]
    · rw [mk_put, hP, List.take_succ_eq_append_getElem hk, List.mem_append, List.mem_singleton]
      exact or_comm
    · simp only [Int.lt_irrefl, decide_false, Bool.false_eq_true, if_false]
  obtain ⟨m, e1, e2⟩ := hm
  rw [show lp _ _ = _ from e1, Option.bind_some]
  have hmf : ∀ x, x ∉ l → (mget m x).getD false = false := fun x hx => by
    have : ¬ Mk m x := fun k => hx ((e2 x).1 k)
    simpa [Mk] using this
  refine lpb_up l.length (fun k => ∀ a ∈ l.take k, ∀ b ∈ outs s a, b ∈ lv s → b ∈ l) (by omega) (by simp) (fun k hk hP => ?_) (fun hP => ?_)
  · have hle := hl _ (List.getElem_mem hk)
    simp only [Int.ofNat_lt, hk, decide_true, if_true, ix_at hk, Option.bind_some, out_eq hR hle]
    have h4 := outs_len hR _ hle
    by_cases hg : ∀ b ∈ outs s l[k], b ∈ lv s → b ∈ l
    · refine .inl ⟨?_, ?_⟩
      · refine lpb_up (outs s l[k]).length (fun _ => True) (by omega) trivial (fun j hj _ => .inl ⟨?_, trivial⟩) (fun _ => ⟨.inr (), by simp, by rw [w64_nat]⟩)
        simp only [Int.ofNat_lt, hj, decide_true, if_true, ix_at hj, Option.bind_some, isLive_eq hR (outs_le hR hF hle (List.getElem_mem hj))]
        by_cases q : (outs s l[k])[j] ∈ lv s
        · have := (e2 _).2 (hg _ (List.getElem_mem hj) q)
          rw [if_pos (by simpa using q), if_neg (by rw [show (mget m (outs s l[k])[j]).getD false = true from this]; decide), w64_nat]
        · rw [if_neg (by simpa using q), w64_nat]
      · intro a ha
        rw [List.take_succ_eq_append_getElem hk, List.mem_append, List.mem_singleton] at ha
        rcases ha with ha | rfl
        · exact hP a ha
        · exact hg
    · refine .inr ⟨.inl false, ?_, ?_⟩
      · have hg' : ∃ j, ∃ hj : j < (outs s l[k]).length, (outs s l[k])[j] ∈ lv s ∧ (outs s l[k])[j] ∉ l := by
          refine Classical.byContradiction fun q => hg fun b hb h1 => Classical.byContradiction fun h2 => ?_
          obtain ⟨j, hj, e⟩ := List.mem_iff_getElem.1 hb
          exact q ⟨j, hj, by rw [e]; exact h1, by rw [e]; exact h2⟩
        obtain ⟨j, ⟨hj, j1, j2⟩, hmin⟩ := exists_min hg'
        refine lpb_up (outs s l[k]).length (fun i => i ≤ j) (by omega) (Nat.zero_le _) (fun i hi hP2 => ?_) (fun hP2 => by omega)
        simp only [Int.ofNat_lt, hi, decide_true, if_true, ix_at hi, Option.bind_some, isLive_eq hR (outs_le hR hF hle (List.getElem_mem hi))]
        rcases Nat.lt_or_ge i j with q | q
        · refine .inl ⟨?_, q⟩
          by_cases q1 : (outs s l[k])[i] ∈ lv s
          · have : (outs s l[k])[i] ∈ l := Classical.byContradiction fun q2 => by have := hmin i ⟨hi, q1, q2⟩; omega
            have := (e2 _).2 this
            rw [if_pos (by simpa using q1), if_neg (by rw [show (mget m (outs s l[k])[i]).getD false = true from this]; decide), w64_nat]
          · rw [if_neg (by simpa using q1), w64_nat]
        · have : i = j := by omega
          subst this
          refine .inr ⟨.inl false, ?_, rfl⟩
          rw [if_pos (by simpa using j1), if_pos (by rw [hmf _ j2]; decide)]
      · simp only
        rw [decide_eq_false (fun q : Cl s l => hg (q _ (List.getElem_mem hk)))]
  · refine ⟨.inr (), by simp only [Int.lt_irrefl, decide_false, Bool.false_eq_true, if_false], ?_⟩
    simp only
    rw [decide_eq_true (show Cl s l from fun a ha => hP a (by simpa using ha))]
def grow (s : store_Store) (all seen : List Int) : List Int := all.filter fun x => decide (x ∈ seen ++ seen.flatMap (outs s))
def grows (s : store_Store) (all seen : List Int) : Nat → List Int
  | 0 => seen
  | k + 1 => grow s all (grows s all seen k)
omit hR in
theorem grows_succ (all seen : List Int) (k : Nat) : grows s all seen (k + 1) = grow s all (grows s all seen k) := rfl
omit hR in
theorem grow_mem {all seen : List Int} {x : Int} : x ∈ grow s all seen ↔ x ∈ all ∧ (x ∈ seen ∨ ∃ a ∈ seen, x ∈ outs s a) := by
  unfold grow
  rw [List.mem_filter, decide_eq_true_iff, List.mem_append, List.mem_flatMap]
open Classical in
omit hR in
theorem grows_eq (l : List Int) : grows s (lv s) ((lv s).filter fun x => decide (x ∈ l) == true) (lv s).length = rcd s l := by
  have hsub : ∀ k x, x ∈ grows s (lv s) ((lv s).filter fun x => decide (x ∈ l) == true) k → Rch s l x := by
    intro k
    induction k with
    | zero =>
      intro x hx
      have := List.mem_filter.1 (show x ∈ (lv s).filter fun x => decide (x ∈ l) == true from hx)
      exact .base (by simpa using this.2) this.1
    | succ k ih =>
      intro x hx
      rw [grows_succ, grow_mem] at hx
      rcases hx.2 with q | ⟨a, q1, q2⟩
      · exact ih x q
      · exact .step (ih a q1) q2 hx.1
  have hall : ∀ k x, x ∈ grows s (lv s) ((lv s).filter fun x => decide (x ∈ l) == true) k → x ∈ lv s := fun k x hx => (hsub k x hx).live
  have hfil : ∀ k, ∃ p : Int → Bool, grows s (lv s) ((lv s).filter fun x => decide (x ∈ l) == true) k = (lv s).filter p := by
    intro k
    cases k with
    | zero => exact ⟨_, rfl⟩
    | succ k => exact ⟨_, rfl⟩
  have hinc : ∀ k x, x ∈ grows s (lv s) ((lv s).filter fun x => decide (x ∈ l) == true) k → x ∈ grows s (lv s) ((lv s).filter fun x => decide (x ∈ l) == true) (k + 1) := fun k x hx => grow_mem.2 ⟨hall k x hx, .inl hx⟩
  have key : ∀ k, Cl s (grows s (lv s) ((lv s).filter fun x => decide (x ∈ l) == true) k) ∨ k ≤ (grows s (lv s) ((lv s).filter fun x => decide (x ∈ l) == true) k).length := by
    intro k
    induction k with
    | zero => exact .inr (Nat.zero_le _)
    | succ k ih =>
      by_cases hc : Cl s (grows s (lv s) ((lv s).filter fun x => decide (x ∈ l) == true) k)
      · left
        have : ∀ x, x ∈ grows s (lv s) ((lv s).filter fun x => decide (x ∈ l) == true) (k + 1) ↔ x ∈ grows s (lv s) ((lv s).filter fun x => decide (x ∈ l) == true) k := fun x => ⟨fun hx => by
          rw [grows_succ, grow_mem] at hx
          rcases hx.2 with q | ⟨a, q1, q2⟩
          · exact q
          · exact hc a q1 x q2 hx.1, hinc k x⟩
        intro a ha b hb hbl
        exact (this b).2 (hc a ((this a).1 ha) b hb hbl)
      · right
        have hk := ih.resolve_left hc
        obtain ⟨b, hb1, hb2, hb3⟩ : ∃ b, b ∈ lv s ∧ b ∈ grows s (lv s) ((lv s).filter fun x => decide (x ∈ l) == true) (k + 1) ∧ b ∉ grows s (lv s) ((lv s).filter fun x => decide (x ∈ l) == true) k := by
          refine Classical.byContradiction fun q => hc fun a ha b hb hbl => Classical.byContradiction fun q2 => q ⟨b, hbl, grow_mem.2 ⟨hbl, .inr ⟨a, ha, hb⟩⟩, q2⟩
        obtain ⟨p, hp⟩ := hfil k
        obtain ⟨p', hp'⟩ := hfil (k + 1)
        have hi := hinc k
        rw [hp] at hi hb3 hk
        rw [hp'] at hi hb2 ⊢
        have := filter_lt (p := p) (q := p') (l := lv s) (fun x hx h => (List.mem_filter.1 (hi x (List.mem_filter.2 ⟨hx, h⟩))).2) b hb1 (List.mem_filter.1 hb2).2 (by
          cases h : p b
          · rfl
          · exact absurd (List.mem_filter.2 ⟨hb1, h⟩) hb3)
        omega
  have hcl : Cl s (grows s (lv s) ((lv s).filter fun x => decide (x ∈ l) == true) (lv s).length) := by
    rcases key (lv s).length with q | q
    · exact q
    · obtain ⟨p, hp⟩ := hfil (lv s).length
      rw [hp] at q ⊢
      have : (lv s).filter p = lv s := List.filter_eq_self.2 fun x hx => by
        cases h : p x
        · have := filter_lt (p := p) (q := fun _ => true) (l := lv s) (fun _ _ _ => rfl) x hx rfl h
          rw [List.filter_eq_self.2 (fun _ _ => rfl)] at this
          omega
        · rfl
      rw [this]
      exact fun _ _ _ _ h => h
  have hbase : ∀ k x, x ∈ l → x ∈ lv s → x ∈ grows s (lv s) ((lv s).filter fun x => decide (x ∈ l) == true) k := by
    intro k
    induction k with
    | zero => intro x h1 h2; exact List.mem_filter.2 ⟨h2, by simpa using h1⟩
    | succ k ih => intro x h1 h2; exact hinc k x (ih x h1 h2)
  have hiff : ∀ x, x ∈ grows s (lv s) ((lv s).filter fun x => decide (x ∈ l) == true) (lv s).length ↔ Rch s l x := fun x => ⟨hsub _ x, fun q => Rch.least hcl (hbase _) q⟩
  obtain ⟨p, hp⟩ := hfil (lv s).length
  rw [hp]
  unfold rcd
  refine List.filter_congr fun x hx => ?_
  have := hiff x
  rw [hp, List.mem_filter] at this
  rw [Bool.eq_iff_iff, decide_eq_true_iff, ← this]
  exact ⟨fun h => ⟨hx, h⟩, fun h => h.2⟩
open Classical in
theorem from08_eq {l : List Int} (hlen : l.length ≤ 1000000) : r08_From (sO s) l = some (rcd s l) := by
  unfold r08_From
  have h24 := lv_len hR
  rw [live06 hR, Option.bind_some, those_eq _ _ _ (by omega) hlen (lv_nz hR), Option.bind_some]
  simp only [jn]
  have hg : ∀ k, (grows s (lv s) ((lv s).filter fun x => decide (x ∈ l) == true) k).length ≤ 24 ∧ ∀ x ∈ grows s (lv s) ((lv s).filter fun x => decide (x ∈ l) == true) k, x ∈ lv s := by
    intro k
    cases k with
    | zero => exact ⟨Nat.le_trans (List.length_filter_le ..) h24, fun x hx => (List.mem_filter.1 (show x ∈ (lv s).filter fun x => decide (x ∈ l) == true from hx)).1⟩
    | succ k => exact ⟨Nat.le_trans (List.length_filter_le ..) h24, fun x hx => (List.mem_filter.1 (show x ∈ (lv s).filter _ from hx)).1⟩
  refine lpb_road (p := fun k => (grows s (lv s) ((lv s).filter fun x => decide (x ∈ l) == true) k, (k : Int))) rfl (lv s).length (fun _ => True) (by omega) trivial (fun k hk _ => .inl ⟨?_, trivial⟩) (fun _ => ⟨_, by simp only [Int.lt_irrefl, decide_false, Bool.false_eq_true, if_false]; rfl, by rw [grows_eq l]⟩)
  obtain ⟨g1, g2⟩ := hg k
  simp only [Int.ofNat_lt, hk, decide_true, if_true]
  rw [app_nil (by omega) (by omega), Option.bind_some]
  generalize hS : grows s (lv s) ((lv s).filter fun x => decide (x ∈ l) == true) k = S at g1 g2
  have hSle : ∀ x ∈ S, x ≤ 9223372036854775807 := fun x hx => by have := lv_pos hR (g2 x hx); omega
  have hflat : ∀ T : List Int, T.length ≤ 24 → (∀ x ∈ T, x ≤ 9223372036854775807) → (T.flatMap (outs s)).length ≤ 96 := fun T h1 h2 => by
    rw [List.length_flatMap]
    have := sum_le (fun x => (outs s x).length) 4 T fun x hx => outs_len hR x (h2 x hx)
    omega
  rw [lp_foldl S (fun acc x => acc ++ outs s x) id (fun j acc => acc.length ≤ S.length + 4 * j) (by omega) (by simp) (fun j hj acc hb => ?_) (fun b _ => ?_)]
  · simp only [Option.bind_some, id]
    rw [foldl_flat, those_eq _ _ _ (by omega) (by
      have := hflat S g1 hSle
      simp only [List.length_append]
      omega) (lv_nz hR), Option.bind_some, w64_nat, grows_succ, hS]
    unfold grow
    congr 3
    refine List.filter_congr fun x _ => ?_
    rw [Bool.eq_iff_iff]
    simp
  · have ho := outs_len hR _ (hSle _ (List.getElem_mem hj))
    simp only [Int.ofNat_lt, hj, decide_true, if_true, ix_at hj, Option.bind_some, out07_eq hR (hSle _ (List.getElem_mem hj))]
    rw [app_ok (by omega) (by omega), Option.bind_some, w64_nat]
    exact ⟨rfl, by simp; omega⟩
  · simp only [Int.lt_irrefl, decide_false, Bool.false_eq_true, if_false]
    rfl
open Classical in
theorem lost08_eq {l : List Int} (hlen : l.length ≤ 1000000) : r08_Lost (sO s) l = some (lst s l) := by
  unfold r08_Lost
  have h24 := lv_len hR
  rw [live06 hR, Option.bind_some, from08_eq hR hlen, Option.bind_some, those_eq _ _ _ (by omega) (by have := rcd_len hR l; omega) (lv_nz hR), Option.bind_some]
  congr 1
  unfold lst
  refine List.filter_congr fun x _ => ?_
  rw [Bool.eq_iff_iff]
  simp [rcd_mem]
open Classical in
theorem is08_eq (a b : Int) : r08_Is (sO s) a b = some (decide (Rch s [a] b)) := by
  unfold r08_Is
  rw [from08_eq hR (by simp), Option.bind_some, has08_eq _ _ (by have := rcd_len hR [a]; omega), Option.bind_some]
  congr 1
  rw [decide_eq_decide, rcd_mem]
  exact ⟨fun q => q.2, fun q => ⟨lv_nz hR _ q.live, q⟩⟩
open Classical in
theorem closed08_eq {l : List Int} (hlen : l.length ≤ 1000000) : r08_Closed (sO s) l = some (decide (∀ a ∈ l, a ∈ lv s → ∀ b ∈ outs s a, b ∈ lv s → b ∈ l)) := by
  unfold r08_Closed
  have h24 := lv_len hR
  rw [live06 hR, Option.bind_some, those_eq _ _ _ (by omega) hlen (lv_nz hR), Option.bind_some]
  simp only [jn]
  generalize hS : ((lv s).filter fun x => decide (x ∈ l) == true) = S
  have hSm : ∀ x, x ∈ S ↔ x ∈ lv s ∧ x ∈ l := fun x => by rw [← hS, List.mem_filter]; simp
  have hSl : S.length ≤ 24 := by rw [← hS]; exact Nat.le_trans (List.length_filter_le ..) h24
  refine lpb_up S.length (fun k => ∀ a ∈ S.take k, ∀ b ∈ outs s a, b ∈ lv s → b ∈ l) (by omega) (by simp) (fun k hk hP => ?_) (fun hP => ?_)
  · have hle : S[k] ≤ 9223372036854775807 := by have := lv_pos hR ((hSm _).1 (List.getElem_mem hk)).1; omega
    have h4 := outs_len hR _ hle
    simp only [Int.ofNat_lt, hk, decide_true, if_true, ix_at hk, Option.bind_some, out07_eq hR hle]
    rw [those_eq _ _ _ (by omega) (by omega) (lv_nz hR), Option.bind_some]
    generalize hT : ((lv s).filter fun x => decide (x ∈ outs s S[k]) == true) = T
    have hTm : ∀ x, x ∈ T ↔ x ∈ lv s ∧ x ∈ outs s S[k] := fun x => by rw [← hT, List.mem_filter]; simp
    have hTl : T.length ≤ 24 := by rw [← hT]; exact Nat.le_trans (List.length_filter_le ..) h24
    by_cases hg : ∀ b ∈ T, b ∈ l
    · refine .inl ⟨?_, ?_⟩
      · refine lpb_up T.length (fun _ => True) (by omega) trivial (fun j hj _ => .inl ⟨?_, trivial⟩) (fun _ => ⟨.inr (), by simp, by rw [w64_nat]⟩)
        simp only [Int.ofNat_lt, hj, decide_true, if_true, ix_at hj, Option.bind_some, has08_eq _ _ hlen]
        have h1 := hg _ (List.getElem_mem hj)
        have h2 := lv_nz hR _ ((hTm _).1 (List.getElem_mem hj)).1
        rw [if_neg (by simp [h1, h2]), w64_nat]
      · intro a ha
        rw [List.take_succ_eq_append_getElem hk, List.mem_append, List.mem_singleton] at ha
        rcases ha with ha | rfl
        · exact hP a ha
        · exact fun b h1 h2 => hg b ((hTm b).2 ⟨h2, h1⟩)
    · refine .inr ⟨.inl false, ?_, ?_⟩
      · have hg' : ∃ j, ∃ hj : j < T.length, T[j] ∉ l := by
          refine Classical.byContradiction fun q => hg fun b hb => Classical.byContradiction fun h2 => ?_
          obtain ⟨j, hj, e⟩ := List.mem_iff_getElem.1 hb
          exact q ⟨j, hj, by rw [e]; exact h2⟩
        obtain ⟨j, ⟨hj, j2⟩, hmin⟩ := exists_min hg'
        refine lpb_up T.length (fun i => i ≤ j) (by omega) (Nat.zero_le _) (fun i hi hP2 => ?_) (fun hP2 => by omega)
        simp only [Int.ofNat_lt, hi, decide_true, if_true, ix_at hi, Option.bind_some, has08_eq _ _ hlen]
        rcases Nat.lt_or_ge i j with q | q
        · refine .inl ⟨?_, q⟩
          have h1 : T[i] ∈ l := Classical.byContradiction fun q2 => by have := hmin i ⟨hi, q2⟩; omega
          have h2 := lv_nz hR _ ((hTm _).1 (List.getElem_mem hi)).1
          rw [if_neg (by simp [h1, h2]), w64_nat]
        · have : i = j := by omega
          subst this
          refine .inr ⟨.inl false, ?_, rfl⟩
          rw [if_pos (by simp [j2])]
      · simp only
        rw [decide_eq_false]
        intro q
        have := (hSm _).1 (List.getElem_mem hk)
        exact hg fun b hb => q _ this.2 this.1 b ((hTm b).1 hb).2 ((hTm b).1 hb).1
  · refine ⟨.inr (), by simp only [Int.lt_irrefl, decide_false, Bool.false_eq_true, if_false], ?_⟩
    simp only
    rw [decide_eq_true]
    exact fun a ha hal => hP a (by simpa using (hSm a).2 ⟨hal, ha⟩)
theorem cl_iff {l : List Int} (hl : LB l) : Cl s l ↔ ∀ a ∈ l, a ∈ lv s → ∀ b ∈ outs s a, b ∈ lv s → b ∈ l := by
  constructor
  · exact fun h a ha _ => h a ha
  · intro h a ha b hb
    by_cases q : a ∈ lv s
    · exact h a ha q b hb
    · rw [outs_no hR (hl a ha) q] at hb
      cases hb
end
end Go.Sh
namespace Go.Sh
set_option linter.unusedVariables false
set_option linter.unusedSimpArgs false
theorem its08 (s : store_Store) (h : s.S.Cells.length ≤ 30) : w08_its s = some (sO s) := by
  unfold w08_its
  simp only [jn, w08_obj, Option.bind_some]
  have e := lp_collect (b := 80) cO s.S.Cells (by omega) (by omega)
  simp only [cO, oo] at e
  rw [e]
  rfl
theorem small08 (s : store_Store) : w08_small s = some (decide (Sm s)) := by
  unfold w08_small
  simp only [jn]
  refine lpb_up (min s.S.Cells.length 30) (fun k => ∀ j (h : j < s.S.Cells.length), j < k → s.S.Cells[j].Val.Fields.length ≤ 10) (by omega) (fun _ _ h => by omega) (fun k hk hP => ?_) (fun hP => ?_)
  · have hk1 : k < s.S.Cells.length := by omega
    have hk2 : k < 30 := by omega
    have hc : ((decide ((k : Int) < (s.S.Cells.length : Int))) && (decide ((k : Int) < 30))) = true := by simp; omega
    by_cases g : s.S.Cells[k].Val.Fields.length ≤ 10
    · refine .inl ⟨?_, fun j h hj => ?_⟩
      · rw [hc]
        simp only [if_true, ix_at hk1, Option.bind_some]
        rw [if_neg (by simp; omega), w64_nat]
      · rcases Nat.lt_or_ge j k with q | q
        · exact hP j h q
        · have : j = k := by omega
          subst this; exact g
    · refine .inr ⟨.inl false, ?_, ?_⟩
      · rw [hc]
        simp only [if_true, ix_at hk1, Option.bind_some]
        rw [if_pos (by simp; omega)]
      · simp only
        rw [decide_eq_false (fun q : Sm s => g (q.2 k hk1))]
  · refine ⟨.inr (), ?_, ?_⟩
    · rw [show ((decide (((min s.S.Cells.length 30 : Nat) : Int) < (s.S.Cells.length : Int))) && (decide (((min s.S.Cells.length 30 : Nat) : Int) < 30))) = false by
        rcases Nat.lt_or_ge s.S.Cells.length 30 with q | q
        · simp; omega
        · simp; omega]
      rfl
    · simp only
      congr 1
      rw [decide_eq_decide]
      constructor
      · intro q
        exact ⟨by omega, fun i h => hP i h (by omega)⟩
      · intro q
        have := q.1
        omega
theorem right08 (s : store_Store) : ∃ b, w08_right s = some b ∧ (b = true ↔ StR s) := by
  unfold w08_right
  rw [small08, Option.bind_some]
  by_cases h : Sm s ∧ s.Serial < 1000000000
  · rw [show (decide (Sm s) && decide (s.Serial < 1000000000)) = true by simp [h.1, h.2]]
    simp only [beq_self_eq_true, onlyT, its08 s h.1.1, Option.bind_some, Bool.true_and]
    obtain ⟨b, h1, h2⟩ := Right06 (sO s) (by have := h.1.1; simp [sO]; omega)
    rw [h1, Option.bind_some]
    refine ⟨b, rfl, h2.trans ⟨fun q => ⟨q, h.2, h.1.2⟩, fun q => q.rt⟩⟩
  · rw [show (decide (Sm s) && decide (s.Serial < 1000000000)) = false by
      rw [Bool.and_eq_false_iff, decide_eq_false_iff_not, decide_eq_false_iff_not]; exact Decidable.not_and_iff_or_not.1 h]
    refine ⟨false, by simp [onlyIf], ?_⟩
    simp only [Bool.false_eq_true, false_iff]
    intro q
    exact h ⟨⟨by have := q.rt.len; simp [sO] at this; omega, q.fl⟩, q.big⟩
end Go.Sh
namespace Go.Sh
set_option linter.unusedVariables false
set_option linter.unusedSimpArgs false
open Classical in
theorem rcd_of {s : store_Store} {l : List Int} {p : Int → Bool} (h : ∀ x ∈ lv s, (Rch s l x ↔ p x = true)) : rcd s l = (lv s).filter p := by
  unfold rcd
  refine List.filter_congr fun x hx => ?_
  rw [Bool.eq_iff_iff, decide_eq_true_iff]
  exact h x hx
open Classical in
theorem lst_of {s : store_Store} {l : List Int} {p : Int → Bool} (h : ∀ x ∈ lv s, (Rch s l x ↔ p x = true)) : lst s l = (lv s).filter fun x => !p x := by
  unfold lst
  refine List.filter_congr fun x hx => ?_
  rw [Bool.eq_iff_iff, decide_eq_true_iff, h x hx]
  simp
abbrev S8 : store_Store := ⟨⟨[⟨1, 0, ⟨1, 0, 0, -1, false, [2]⟩⟩, ⟨1, 0, ⟨2, 0, 0, -1, false, [1]⟩⟩, ⟨1, 0, ⟨3, 0, 0, -1, false, []⟩⟩, ⟨0, 0, z0⟩], 3⟩, 3⟩
open Classical in
theorem shown08 : w08_shown = some true := by
  have a1 : store_New 4 3 = some ⟨⟨[⟨0, 0, z0⟩, ⟨0, 0, z0⟩, ⟨0, 0, z0⟩, ⟨0, 0, z0⟩], 3⟩, 0⟩ := by kernel_rfl
  have a2 : store_Make ⟨⟨[⟨0, 0, z0⟩, ⟨0, 0, z0⟩, ⟨0, 0, z0⟩, ⟨0, 0, z0⟩], 3⟩, 0⟩ 1 (-1) = some (⟨⟨[⟨1, 0, ⟨1, 0, 0, -1, false, [0]⟩⟩, ⟨0, 0, z0⟩, ⟨0, 0, z0⟩, ⟨0, 0, z0⟩], 3⟩, 1⟩, 1, 0) := by kernel_rfl
  have a3 : store_Make ⟨⟨[⟨1, 0, ⟨1, 0, 0, -1, false, [0]⟩⟩, ⟨0, 0, z0⟩, ⟨0, 0, z0⟩, ⟨0, 0, z0⟩], 3⟩, 1⟩ 1 (-1) = some (⟨⟨[⟨1, 0, ⟨1, 0, 0, -1, false, [0]⟩⟩, ⟨1, 0, ⟨2, 0, 0, -1, false, [0]⟩⟩, ⟨0, 0, z0⟩, ⟨0, 0, z0⟩], 3⟩, 2⟩, 2, 0) := by kernel_rfl
  have a4 : store_Make ⟨⟨[⟨1, 0, ⟨1, 0, 0, -1, false, [0]⟩⟩, ⟨1, 0, ⟨2, 0, 0, -1, false, [0]⟩⟩, ⟨0, 0, z0⟩, ⟨0, 0, z0⟩], 3⟩, 2⟩ 0 (-1) = some (⟨⟨[⟨1, 0, ⟨1, 0, 0, -1, false, [0]⟩⟩, ⟨1, 0, ⟨2, 0, 0, -1, false, [0]⟩⟩, ⟨1, 0, ⟨3, 0, 0, -1, false, []⟩⟩, ⟨0, 0, z0⟩], 3⟩, 3⟩, 3, 0) := by kernel_rfl
  have a5 : store_Put ⟨⟨[⟨1, 0, ⟨1, 0, 0, -1, false, [0]⟩⟩, ⟨1, 0, ⟨2, 0, 0, -1, false, [0]⟩⟩, ⟨1, 0, ⟨3, 0, 0, -1, false, []⟩⟩, ⟨0, 0, z0⟩], 3⟩, 3⟩ 1 0 2 = some (⟨⟨[⟨1, 0, ⟨1, 0, 0, -1, false, [2]⟩⟩, ⟨1, 0, ⟨2, 0, 0, -1, false, [0]⟩⟩, ⟨1, 0, ⟨3, 0, 0, -1, false, []⟩⟩, ⟨0, 0, z0⟩], 3⟩, 3⟩, 0) := by kernel_rfl
  have a6 : store_Put ⟨⟨[⟨1, 0, ⟨1, 0, 0, -1, false, [2]⟩⟩, ⟨1, 0, ⟨2, 0, 0, -1, false, [0]⟩⟩, ⟨1, 0, ⟨3, 0, 0, -1, false, []⟩⟩, ⟨0, 0, z0⟩], 3⟩, 3⟩ 2 0 1 = some (S8, 0) := by kernel_rfl
  have hR : RtR (sO S8) := rtR_of (by decide) (by kernel_rfl)
  have hF : FB S8 := by
    intro c hc x hx
    simp only [List.mem_cons, List.not_mem_nil, or_false] at hc
    rcases hc with rfl | rfl | rfl | rfl
    · simp only [List.mem_cons, List.not_mem_nil, or_false] at hx
      omega
    · simp only [List.mem_cons, List.not_mem_nil, or_false] at hx
      omega
    · cases hx
    · cases hx
  have hl : lv S8 = [1, 2, 3] := lv_of hR (by rw [show hnds 0 S8.S.Cells = [1, 2, 3] from by decide]) (by decide)
  have o1 : outs S8 1 = [2] := by kernel_rfl
  have o2 : outs S8 2 = [1] := by kernel_rfl
  have o3 : outs S8 3 = [] := by kernel_rfl
  have m1 : (1 : Int) ∈ lv S8 := by rw [hl]; simp
  have m2 : (2 : Int) ∈ lv S8 := by rw [hl]; simp
  have hc12 : Cl S8 [1, 2] := by
    intro a ha b hb _
    simp only [List.mem_cons, List.not_mem_nil, or_false] at ha
    rcases ha with rfl | rfl
    · rw [o1] at hb; simp at hb; simp [hb]
    · rw [o2] at hb; simp at hb; simp [hb]
  have r12 : ∀ l : List Int, (2 ∈ l ∨ 1 ∈ l) → (∀ x ∈ l, x ∈ lv S8 → x = 1 ∨ x = 2) → ∀ x ∈ lv S8, (Rch S8 l x ↔ (x == 1 || x == 2) = true) := by
    intro l h2 hx x hxl
    constructor
    · intro q
      have := Rch.least hc12 (fun x h1 h2 => by have := hx x h1 h2; simp; omega) q
      simpa using this
    · intro q
      have h12 : Rch S8 l 1 ∧ Rch S8 l 2 := by
        rcases h2 with h2 | h2
        · have := Rch.base h2 m2
          exact ⟨.step this (by rw [o2]; simp) m1, this⟩
        · have := Rch.base h2 m1
          exact ⟨this, .step this (by rw [o1]; simp) m2⟩
      simp only [Bool.or_eq_true, beq_iff_eq] at q
      rcases q with rfl | rfl
      · exact h12.1
      · exact h12.2
  have f1 : reach_From S8 [2, 99] = some [1, 2] := by
    rw [from_eq hR hF (by intro x hx; simp at hx; omega) (by simp), rcd_of (r12 [2, 99] (by simp) (fun x h1 h2 => by rw [hl] at h2; simp at h1 h2; omega)), hl]
    rfl
  have f2 : reach_Lost S8 [2] = some [3] := by
    rw [lost_eq hR hF (by intro x hx; simp at hx; omega) (by simp), lst_of (r12 [2] (by simp) (fun x h1 h2 => by simp at h1; omega)), hl]
    rfl
  have f3 : reach_Is S8 1 2 = some true := by
    rw [is_eq hR hF 2 (by omega)]
    congr 1
    exact decide_eq_true ((r12 [1] (by simp) (fun x h1 h2 => by simp at h1; omega) 2 m2).2 rfl)
  have f4 : reach_Is S8 1 3 = some false := by
    rw [is_eq hR hF 3 (by omega)]
    congr 1
    refine decide_eq_false fun q => ?_
    have := (r12 [1] (by simp) (fun x h1 h2 => by simp at h1; omega) 3 q.live).1 q
    simp at this
  have f5 : reach_Closed S8 [1, 2] = some true := by
    rw [closed_eq hR hF (by intro x hx; simp at hx; omega) (by simp)]
    congr 1
    exact decide_eq_true hc12
  have f6 : reach_Closed S8 [1] = some false := by
    rw [closed_eq hR hF (by intro x hx; simp at hx; omega) (by simp)]
    congr 1
    refine decide_eq_false fun q => ?_
    have := q 1 (by simp) 2 (by rw [o1]; simp) m2
    simp at this
  have f7 : reach_Closed S8 [] = some true := by
    rw [closed_eq hR hF (by intro x hx; cases hx) (by simp)]
    congr 1
    exact decide_eq_true (fun a ha => by cases ha)
  unfold w08_shown
  rw [a1, Option.bind_some, a2, Option.bind_some]
  dsimp only
  rw [a3, Option.bind_some]
  dsimp only
  rw [a4, Option.bind_some]
  dsimp only
  rw [a5, Option.bind_some]
  dsimp only
  rw [a6, Option.bind_some]
  dsimp only
  rw [f1, Option.bind_some, f2, Option.bind_some, f3, f4, f5, f6, f7]
  rfl
theorem gate08 {s : store_Store} {c : Bool} {r : Option Bool} (b : Bool) (hb : (StR s → c = true → r = some true)) (hR : b = true ↔ StR s) :
    (onlyIf (((!b) || !c) == false) false w08_shown).bind (fun v2 => if (((!b) || !c) || (!v2)) then (w08_shown).bind fun v3 => some v3 else r) = some true := by
  rw [shown08]
  cases b
  · simp [onlyIf]
  · cases c
    · simp [onlyIf]
    · simp only [Bool.not_true, Bool.or_self, beq_self_eq_true, onlyT, Option.bind_some, Bool.false_eq_true, if_false]
      exact hb (hR.1 rfl) rfl
section
variable (s : store_Store) (hF : FB s)
include hF
open Classical in
theorem reachTells {l : List Int} (hl : LB l) {a : Int} (ha : a ≤ 9223372036854775807) (b : Int) : w08_ReachTells s l a b = some true := by
  unfold w08_ReachTells
  obtain ⟨v, hv, hR⟩ := right08 s
  rw [hv, Option.bind_some, show (decide ((l.length : Int) > 50)) = !(decide (l.length ≤ 50)) by rw [← decide_not, decide_eq_decide]; omega]
  refine gate08 v (fun hS hc => ?_) hR
  have hR := hS.rt
  have hc : l.length ≤ 50 := of_decide_eq_true hc
  have h1 := rcd_len hR l
  have h2 := lst_len hR l
  rw [its08 s (by have := rt_len hR; omega), Option.bind_some, from_eq hR hF hl (by omega), Option.bind_some, from08_eq hR (by omega), Option.bind_some, Ints_eq _ _ (by omega), Option.bind_some, decide_eq_true rfl]
  simp only [beq_self_eq_true, onlyT]
  rw [lost_eq hR hF hl (by omega), Option.bind_some, lost08_eq hR (by omega), Option.bind_some, Ints_eq _ _ (by omega), Option.bind_some, decide_eq_true rfl]
  simp only [beq_self_eq_true, onlyT, Bool.and_self]
  rw [is_eq hR hF b ha, Option.bind_some, is08_eq hR, Option.bind_some]
  simp only [beq_self_eq_true, onlyT, Bool.and_self]
  rw [closed_eq hR hF hl (by omega), Option.bind_some, closed08_eq hR (by omega), Option.bind_some]
  congr 1
  rw [Bool.true_and, beq_iff_eq, decide_eq_decide]
  exact cl_iff hR hl
open Classical in
theorem reachLeast {l m : List Int} (hl : LB l) (hm : LB m) : w08_ReachLeast s l m = some true := by
  unfold w08_ReachLeast
  obtain ⟨v, hv, hR⟩ := right08 s
  rw [hv, Option.bind_some, show ((((!v) || decide ((l.length : Int) > 50)) || decide ((m.length : Int) > 50))) = ((!v) || !(decide (l.length ≤ 50 ∧ m.length ≤ 50))) by
    rw [Bool.or_assoc]; congr 1
    rw [Bool.eq_iff_iff]; simp; omega]
  refine gate08 v (fun hS hc => ?_) hR
  have hR := hS.rt
  obtain ⟨hc1, hc2⟩ : l.length ≤ 50 ∧ m.length ≤ 50 := of_decide_eq_true hc
  have h1 := rcd_len hR l
  have h24 := lv_len hR
  have hrb : LB (rcd s l) := fun x hx => by have := lv_pos hR (rcd_mem.1 hx).live; omega
  rw [from_eq hR hF hl (by omega), Option.bind_some, its08 s (by have := rt_len hR; omega), Option.bind_some, closed08_eq hR (by omega), Option.bind_some, decide_eq_true ((cl_iff hR hrb).1 (rcd_cl s l)), if_neg (by simp; omega), live06 hR, Option.bind_some, closed08_eq hR (by omega), Option.bind_some]
  simp only [jn]
  have hr1 : ∀ x ∈ lv s, x ∈ l → tms (rcd s l) x = 1 := fun x hx hxl => by
    have := count_filter_nodup (lv_nodup hR) (fun h => decide (Rch s l h)) x
    unfold tms rcd
    rw [if_neg (lv_nz hR x hx), this, if_pos ⟨hx, decide_eq_true (.base hxl hx)⟩]
  refine lpb_ind (s0 := ((decide (∀ a ∈ m, a ∈ lv s → ∀ b ∈ outs s a, b ∈ lv s → b ∈ m), 0) : Bool × Int)) (fun q => ∃ k : Nat, q.2 = (k : Int) ∧ k ≤ (lv s).length ∧ q.1 = decide (Cl s m ∧ ∀ x ∈ (lv s).take k, x ∈ l → x ∈ m)) (fun q => (lv s).length - q.2.toNat) ⟨0, rfl, Nat.zero_le _, by simp [cl_iff hR hm]⟩ (by show (lv s).length - _ < _; omega) ?_
  rintro ⟨_, _⟩ ⟨k, rfl, hk, rfl⟩
  rcases Nat.lt_or_ge k (lv s).length with hk | hk'
  · left
    refine ⟨(decide (Cl s m ∧ ∀ x ∈ (lv s).take (k + 1), x ∈ l → x ∈ m), ((k + 1 : Nat) : Int)), ?_, ⟨k + 1, rfl, hk, decide_eq_decide.2 Iff.rfl⟩, by show (lv s).length - ((k + 1 : Nat) : Int).toNat < (lv s).length - (k : Int).toNat; omega⟩
    have hx := List.getElem_mem hk
    have hx0 := lv_nz hR _ hx
    simp only [Int.ofNat_lt, hk, decide_true, if_true, ix_at hk, Option.bind_some]
    rw [times07_eq _ _ (by omega), Option.bind_some, List.take_succ_eq_append_getElem hk]
    simp only [List.mem_append, List.mem_singleton]
    by_cases q : (lv s)[k] ∈ l
    · have : 0 < tms l (lv s)[k] := tms_pos.2 ⟨hx0, q⟩
      rw [if_pos (by simpa using this), times07_eq _ _ (by omega), Option.bind_some, hr1 _ hx q, if_neg (by simp)]
      by_cases q2 : Cl s m ∧ ∀ x ∈ (lv s).take k, x ∈ l → x ∈ m
      · rw [decide_eq_true q2]
        simp only [beq_self_eq_true, onlyT]
        rw [times07_eq _ _ (by omega), Option.bind_some, w64_nat]
        congr 3
        rw [Bool.true_and, decide_eq_decide]
        constructor
        · intro q3
          refine ⟨q2.1, fun x hx => ?_⟩
          rcases hx with hx | rfl
          · exact q2.2 x hx
          · exact fun _ => (tms_pos.1 (by omega)).2
        · intro q3
          have := tms_pos.2 ⟨hx0, q3.2 _ (.inr rfl) q⟩
          omega
      · rw [decide_eq_false q2]
        simp only [show ((false == true) : Bool) = false from rfl, onlyF, Option.bind_some, Bool.false_and]
        rw [w64_nat, decide_eq_false (fun q3 => q2 ⟨q3.1, fun x hx => q3.2 x (.inl hx)⟩)]
    · have : ¬ 0 < tms l (lv s)[k] := fun h => q (tms_pos.1 h).2
      rw [if_neg (by simpa using this), w64_nat]
      congr 3
      rw [decide_eq_decide]
      constructor
      · rintro ⟨q1, q2⟩
        refine ⟨q1, fun x hx => ?_⟩
        rcases hx with hx | rfl
        · exact q2 x hx
        · exact fun h => absurd h q
      · rintro ⟨q1, q2⟩
        exact ⟨q1, fun x hx => q2 x (.inl hx)⟩
  · right
    have : k = (lv s).length := by omega
    subst this
    refine ⟨.inr (decide (Cl s m ∧ ∀ x ∈ (lv s).take (lv s).length, x ∈ l → x ∈ m)), by simp only [Int.lt_irrefl, decide_false, Bool.false_eq_true, if_false], ?_⟩
    simp only
    rw [List.take_length]
    by_cases q : Cl s m ∧ ∀ x ∈ lv s, x ∈ l → x ∈ m
    · rw [decide_eq_true q]
      refine lpb_up (rcd s l).length (fun _ => True) (by omega) trivial (fun j hj _ => .inl ⟨?_, trivial⟩) (fun _ => ⟨.inr (), by simp, rfl⟩)
      have hj2 := rcd_mem.1 (List.getElem_mem hj)
      have := tms_pos.2 ⟨lv_nz hR _ hj2.live, Rch.least q.1 (fun x h1 h2 => q.2 x h2 h1) hj2⟩
      simp only [Int.ofNat_lt, hj, decide_true, if_true, beq_self_eq_true, onlyT, ix_at hj, Option.bind_some]
      rw [times07_eq _ _ (by omega), Option.bind_some, if_neg (by simp; omega), w64_nat]
    · rw [decide_eq_false q]
      refine lpb_up (rcd s l).length (fun _ => True) (by omega) trivial (fun j hj _ => .inl ⟨?_, trivial⟩) (fun _ => ⟨.inr (), by simp, rfl⟩)
      simp only [Int.ofNat_lt, hj, decide_true, if_true, show ((false == true) : Bool) = false from rfl, onlyF, Option.bind_some, Bool.false_and, Bool.false_eq_true, if_false]
      rw [w64_nat]
open Classical in
theorem reachParts {l : List Int} (hl : LB l) : w08_ReachParts s l = some true := by
  unfold w08_ReachParts
  obtain ⟨v, hv, hR⟩ := right08 s
  rw [hv, Option.bind_some, show (decide ((l.length : Int) > 50)) = !(decide (l.length ≤ 50)) by rw [← decide_not, decide_eq_decide]; omega]
  refine gate08 v (fun hS hc => ?_) hR
  have hR := hS.rt
  have hc : l.length ≤ 50 := of_decide_eq_true hc
  have h1 := rcd_len hR l
  have h2 := lst_len hR l
  have h24 := lv_len hR
  have hrb : LB (rcd s l) := fun x hx => by have := lv_pos hR (rcd_mem.1 hx).live; omega
  have hsum : (lv s).length = (rcd s l).length + (lst s l).length := by
    have := filter_split (fun h => decide (Rch s l h)) (lv s)
    unfold rcd lst
    simpa using this
  have hsame : ∀ x, Rch s (rcd s l) x ↔ Rch s l x := fun x => ⟨Rch.mono fun y hy _ => rcd_mem.1 hy, fun q => .base (rcd_mem.2 q) q.live⟩
  rw [from_eq hR hF hl (by omega), Option.bind_some, lost_eq hR hF hl (by omega), Option.bind_some, its08 s (by have := rt_len hR; omega), Option.bind_some, live06 hR, Option.bind_some, w64_in (by omega) (by omega), if_neg (by simp; omega)]
  simp only [jn]
  refine lpb_up (lv s).length (fun _ => True) (by omega) trivial (fun k hk _ => .inl ⟨?_, trivial⟩) (fun _ => ⟨.inr (), by simp, ?_⟩)
  · have hx := List.getElem_mem hk
    simp only [Int.ofNat_lt, hk, decide_true, if_true, ix_at hk, Option.bind_some]
    rw [times07_eq _ _ (by omega), Option.bind_some, times07_eq _ _ (by omega), Option.bind_some]
    have c1 := count_filter_nodup (lv_nodup hR) (fun h => decide (Rch s l h)) (lv s)[k]
    have c2 := count_filter_nodup (lv_nodup hR) (fun h => decide (¬ Rch s l h)) (lv s)[k]
    have e : tms (rcd s l) (lv s)[k] + tms (lst s l) (lv s)[k] = 1 := by
      unfold tms rcd lst
      rw [if_neg (lv_nz hR _ hx), if_neg (lv_nz hR _ hx), c1, c2]
      by_cases q : Rch s l (lv s)[k]
      · rw [if_pos ⟨hx, decide_eq_true q⟩, if_neg (fun h => by simp [q] at h)]
      · rw [if_neg (fun h => by simp [q] at h), if_pos ⟨hx, decide_eq_true q⟩]
    have e1 := tms_le (rcd s l) (lv s)[k]
    have e2 := tms_le (lst s l) (lv s)[k]
    rw [w64_in (by omega) (by omega), if_neg (by simp; omega), w64_nat]
  · simp only
    rw [from_eq hR hF hrb (by omega), Option.bind_some, rcd_congr hsame, Ints_eq _ _ (by omega), Option.bind_some, decide_eq_true rfl]
    simp only [beq_self_eq_true, onlyT]
    rw [lost_eq hR hF hrb (by omega), Option.bind_some, lst_congr hsame, Ints_eq _ _ (by omega), Option.bind_some, decide_eq_true rfl]
    rfl
open Classical in
theorem reachMore {l m : List Int} (hl : LB l) (hm : LB m) : w08_ReachMore s l m = some true := by
  unfold w08_ReachMore
  obtain ⟨v, hv, hR⟩ := right08 s
  rw [hv, Option.bind_some, show ((((!v) || decide ((l.length : Int) > 50)) || decide ((m.length : Int) > 50))) = ((!v) || !(decide (l.length ≤ 50 ∧ m.length ≤ 50))) by
    rw [Bool.or_assoc]; congr 1
    rw [Bool.eq_iff_iff]; simp; omega]
  refine gate08 v (fun hS hc => ?_) hR
  have hR := hS.rt
  obtain ⟨hc1, hc2⟩ : l.length ≤ 50 ∧ m.length ≤ 50 := of_decide_eq_true hc
  have h24 := lv_len hR
  have hlm : LB (l ++ m) := fun x hx => by
    rcases List.mem_append.1 hx with q | q
    · exact hl x q
    · exact hm x q
  have hor : ∀ x, Rch s (l ++ m) x ↔ Rch s l x ∨ Rch s m x := fun x => by
    constructor
    · intro q
      induction q with
      | base a b =>
        rcases List.mem_append.1 a with q | q
        · exact .inl (.base q b)
        · exact .inr (.base q b)
      | step _ a b ih =>
        rcases ih with q | q
        · exact .inl (.step q a b)
        · exact .inr (.step q a b)
    · rintro (q | q)
      · exact q.mono fun y hy hyl => .base (List.mem_append.2 (.inl hy)) hyl
      · exact q.mono fun y hy hyl => .base (List.mem_append.2 (.inr hy)) hyl
  have h1 := rcd_len hR l
  have h2 := rcd_len hR m
  have h3 := rcd_len hR (l ++ m)
  rw [from_eq hR hF hl (by omega), Option.bind_some, from_eq hR hF hm (by omega), Option.bind_some, app_nil (by omega) (by omega), Option.bind_some, app_ok (by omega) (by omega), Option.bind_some, from_eq hR hF hlm (by simp; omega), Option.bind_some, its08 s (by have := rt_len hR; omega), Option.bind_some, live06 hR, Option.bind_some]
  simp only [jn]
  have hpos : ∀ (l : List Int) x, x ∈ lv s → (decide ((tms (rcd s l) x : Int) > 0)) = decide (Rch s l x) := fun l x hx => by
    rw [decide_eq_decide, ← rcd_mem]
    exact ⟨fun h => (tms_pos.1 (by omega)).2, fun h => by have := tms_pos.2 ⟨lv_nz hR x hx, h⟩; omega⟩
  refine lpb_up (lv s).length (fun _ => True) (by omega) trivial (fun k hk _ => .inl ⟨?_, trivial⟩) (fun _ => ⟨.inr (), by simp, ?_⟩)
  · have hx := List.getElem_mem hk
    simp only [Int.ofNat_lt, hk, decide_true, if_true, ix_at hk, Option.bind_some]
    rw [times07_eq _ _ (by omega), Option.bind_some, hpos l _ hx, times07_eq _ _ (by omega)]
    by_cases q : Rch s l (lv s)[k]
    · rw [decide_eq_true q]
      simp only [show ((true == false) : Bool) = false from rfl, onlyF, Option.bind_some]
      rw [times07_eq _ _ (by omega), Option.bind_some, hpos (l ++ m) _ hx, decide_eq_true ((hor _).2 (.inl q)), if_neg (by simp), w64_nat]
    · rw [decide_eq_false q]
      simp only [beq_self_eq_true, onlyT, Option.bind_some]
      rw [times07_eq _ _ (by omega), Option.bind_some, hpos m _ hx, hpos (l ++ m) _ hx, show decide (Rch s (l ++ m) (lv s)[k]) = decide (Rch s m (lv s)[k]) from decide_eq_decide.2 ((hor _).trans ⟨fun h => h.resolve_left q, .inr⟩), if_neg (by simp), w64_nat]
  · simp only
    rw [w64_in (by omega) (by omega)]
    congr 1
    rw [decide_eq_true_iff]
    have key : ∀ all : List Int, (all.filter fun h => decide (Rch s (l ++ m) h)).length ≤ (all.filter fun h => decide (Rch s l h)).length + (all.filter fun h => decide (Rch s m h)).length := by
      intro all
      induction all with
      | nil => simp
      | cons x all ih =>
        simp only [List.filter_cons, decide_eq_true_eq]
        by_cases q : Rch s (l ++ m) x
        · rw [if_pos q]
          rcases (hor x).1 q with q' | q'
          · rw [if_pos q']
            simp only [List.length_cons]
            split <;> (try simp only [List.length_cons]) <;> omega
          · rw [if_pos q']
            simp only [List.length_cons]
            split <;> (try simp only [List.length_cons]) <;> omega
        · rw [if_neg q]
          split <;> split <;> (try simp only [List.length_cons]) <;> omega
    have := key (lv s)
    unfold rcd
    omega
open Classical in
theorem reachSteps {a b : Int} (c : Int) (ha : a ≤ 9223372036854775807) (hb : b ≤ 9223372036854775807) : w08_ReachSteps s a b c = some true := by
  unfold w08_ReachSteps
  obtain ⟨v, hv, hR⟩ := right08 s
  rw [hv, Option.bind_some, show (!v) = ((!v) || !true) by simp]
  refine gate08 v (fun hS hc => ?_) hR
  have hR := hS.rt
  have h24 := lv_len hR
  rw [its08 s (by have := rt_len hR; omega), Option.bind_some, live06 hR, Option.bind_some, times07_eq _ _ (by omega), Option.bind_some, is_eq hR hF _ ha, Option.bind_some, is_eq hR hF _ hb]
  have hlive : decide (Rch s [a] a) = decide ((tms (lv s) a : Int) > 0) := by
    rw [decide_eq_decide]
    constructor
    · intro q
      have := tms_pos.2 ⟨lv_nz hR _ q.live, q.live⟩
      omega
    · intro q
      exact .base (List.mem_singleton.2 rfl) (tms_pos.1 (by omega)).2
  have htr : Rch s [a] b → Rch s [b] c → Rch s [a] c := fun h1 h2 => h2.mono fun y hy _ => by
    rw [List.mem_singleton] at hy
    subst hy
    exact h1
  by_cases q1 : Rch s [a] b
  · rw [decide_eq_true q1]
    by_cases q2 : Rch s [b] c
    · rw [decide_eq_true q2]
      simp only [Bool.not_true, beq_self_eq_true, onlyT, Option.bind_some, Bool.or_self]
      rw [is_eq hR hF _ ha, Option.bind_some, decide_eq_true (htr q1 q2)]
      simp only [Bool.or_true, beq_self_eq_true, onlyT, Option.bind_some]
      rw [is_eq hR hF _ ha, Option.bind_some, hlive]
      simp
    · rw [decide_eq_false q2]
      simp only [Bool.not_true, Bool.not_false, beq_self_eq_true, onlyT, Option.bind_some, Bool.or_true, Bool.true_or, show ((true == false) : Bool) = false from rfl, onlyF]
      rw [is_eq hR hF _ ha, Option.bind_some, hlive]
      simp
  · rw [decide_eq_false q1]
    simp only [Bool.not_false, show ((true == false) : Bool) = false from rfl, onlyF, Option.bind_some, Bool.true_or, beq_self_eq_true, onlyT]
    rw [is_eq hR hF _ ha, Option.bind_some, hlive]
    simp
end
end Go.Sh
