/-
 Several texts of one kind, one behind the other.
-/
import Derived.Test.YtnfmdpblilpcbaaGreatI16cSh
import Derived.Test.YtnfmdpblilpcbaaGreatI16cSh1
import Derived.Test.YtnfmdpblilpcbaaGreatI16cSh
import Derived.Test.YtnfmdpblilpcbaaGreatI16cSh
namespace Go.Sh
set_option linter.unusedVariables false
def Hnd (h : Int) : Prop := 1 ≤ h ∧ (h - 1) % 32 < 24 ∧ (h - 1) / 32 ≤ 9
instance (h : Int) : Decidable (Hnd h) := by unfold Hnd; infer_instance
theorem hnd_le {h : Int} (q : Hnd h) : 1 ≤ h ∧ h ≤ 320 := by unfold Hnd at q; omega
theorem handle_Pack_eq {i g : Int} (h1 : 0 ≤ i) (h2 : i < 24) (h3 : 0 ≤ g) (h4 : g ≤ 9) : handle_Pack i g = some (1 + i + 32 * g) := by
 unfold handle_Pack
 rw [if_neg (by simp; omega)]
 rw [show w64 (i * 1) = i by rw [w64_def]; omega, show w64 (1 + i) = 1 + i by rw [w64_def]; omega, show w64 (g * 32) = 32 * g by rw [w64_def]; omega, show w64 (1 + i + 32 * g) = 1 + i + 32 * g by rw [w64_def]; omega]
theorem r01_Pack_eq {i g : Int} : r01_Pack i g = some (if 0 ≤ i ∧ i < 24 ∧ 0 ≤ g ∧ g ≤ 9 then 1 + i + 32 * g else 0) := by
 unfold r01_Pack
 split
 ·rename_i h; rw [if_neg (by simp at h; omega)]
 ·rename_i h
  have h : 0 ≤ i ∧ i < 24 ∧ 0 ≤ g ∧ g ≤ 9 := by simp at h; omega
  rw [if_pos h]
  rw [show w64 (1 + i) = 1 + i by rw [w64_def]; omega, show w64 (32 * g) = 32 * g by rw [w64_def]; omega, show w64 (1 + i + 32 * g) = 1 + i + 32 * g by rw [w64_def]; omega]
theorem handle_parts_eq {h : Int} (hh : h ≤ 9223372036854775807) : handle_parts h = some (if Hnd h then ((h - 1) % 32, (h - 1) / 32, true) else (-1, -1, false)) := by
 unfold handle_parts
 split
 ·rename_i q
  rw [if_neg (by unfold Hnd; simp at q; omega)]
 ·rename_i q
  have q : 1 ≤ h := by simpa using q
  rw [w64_in (n := h - 1), rem_pos (by omega) (by omega), Option.bind_some, quo_pos (by omega) (by omega) (by omega), Option.bind_some, quo_pos (by omega) (by omega) (by omega), Option.bind_some, Int.ediv_one]
  split
  ·rename_i q2
   rw [if_neg (by unfold Hnd; simp at q2; omega)]
  ·rename_i q2
   rw [if_pos (by unfold Hnd; simp at q2; omega)]
theorem handle_Slot_eq {h : Int} (hh : h ≤ 9223372036854775807) : handle_Slot h = some (if Hnd h then (h - 1) % 32 else -1) := by
 unfold handle_Slot
 rw [handle_parts_eq hh, Option.bind_some]
 split <;> rfl
theorem handle_Gen_eq {h : Int} (hh : h ≤ 9223372036854775807) : handle_Gen h = some (if Hnd h then (h - 1) / 32 else -1) := by
 unfold handle_Gen
 rw [handle_parts_eq hh, Option.bind_some]
 split <;> rfl
theorem r01_Valid_eq {h : Int} : r01_Valid h = some (decide (Hnd h)) := by
 unfold r01_Valid
 split
 ·rename_i q
  rw [decide_eq_false (by unfold Hnd; simp at q; omega)]
 ·rename_i q
  have q : 1 ≤ h ∧ h ≤ 400 := by simp at q; omega
  rw [w64_in (n := h - 1), rem_pos (by omega) (by omega), Option.bind_some, quo_pos (by omega) (by omega) (by omega), Option.bind_some, r01_Pack_eq, Option.bind_some]
  congr 1
  by_cases k : Hnd h
  ·rw [decide_eq_true k, if_pos (by unfold Hnd at k; omega)]
   simp; omega
  ·rw [decide_eq_false k, if_neg (by unfold Hnd at k; omega)]
   simp; omega
theorem r01_Slot_eq {h : Int} : r01_Slot h = some (if Hnd h then (h - 1) % 32 else -1) := by
 unfold r01_Slot
 rw [r01_Valid_eq, Option.bind_some]
 by_cases k : Hnd h
 ·have := hnd_le k
  rw [decide_eq_true k, if_neg (by simp), if_pos k, w64_in (n := h - 1), rem_pos (by omega) (by omega), Option.bind_some]
 ·rw [decide_eq_false k, if_pos (by simp), if_neg k]
theorem r01_Gen_eq {h : Int} : r01_Gen h = some (if Hnd h then (h - 1) / 32 else -1) := by
 unfold r01_Gen
 rw [r01_Valid_eq, Option.bind_some]
 by_cases k : Hnd h
 ·have := hnd_le k
  rw [decide_eq_true k, if_neg (by simp), if_pos k, w64_in (n := h - 1), quo_pos (by omega) (by omega) (by omega), Option.bind_some]
 ·rw [decide_eq_false k, if_pos (by simp), if_neg k]
end Go.Sh
namespace Go.Sh
set_option linter.unusedVariables false
set_option linter.unusedSimpArgs false
end Go.Sh
namespace Go.Sh
set_option linter.unusedVariables false
set_option linter.unusedSimpArgs false
abbrev z0 : store_Obj := ⟨0, 0, 0, 0, false, []⟩
theorem with_eq_o {s : slab_Slab_store_Obj} {i : Int} {k : Nat} {c : slab_Cell_store_Obj} (hi : i = k) (hk : k < s.Cells.length) (hl : s.Cells.length ≤ 24) : slab_with_store_Obj s i c = some ⟨s.Cells.set k c, s.Last⟩ := by
 subst hi
 unfold slab_with_store_Obj slices_Clone_slab_Cell_store_Obj_slab_Cell_store_Obj
 rw [app_nil (by omega) (by omega), Option.bind_some, ix_at hk, Option.bind_some, Int.toNat_natCast]
def FndO (s : slab_Slab_store_Obj) (h : Int) (i : Nat) : Prop := ∃ hi : i < s.Cells.length, Hnd h ∧ (h - 1) % 32 = i ∧ s.Cells[i].Gen = (h - 1) / 32 ∧ (s.Cells[i].State = 1 ∨ s.Cells[i].State = 2)
theorem find_cases_o (s : slab_Slab_store_Obj) {h : Int} (hh : h ≤ 9223372036854775807) :
  (∃ i, FndO s h i ∧ slab_Find_store_Obj s h = some ((i : Int), 0)) ∨ ((∀ i, ¬ FndO s h i) ∧ slab_Find_store_Obj s h = some (-1, if h = 0 then 2 else 3)) := by
 unfold slab_Find_store_Obj
 by_cases h0 : h = 0
 ·right
  subst h0
  exact ⟨fun i ⟨_, h1, _⟩ => by unfold Hnd at h1; omega, by simp⟩
 ·rw [if_neg (by simpa using h0), handle_Slot_eq hh, Option.bind_some, if_neg h0]
  by_cases hd : Hnd h
  ·rw [if_pos hd]
   have hd' := hd
   unfold Hnd at hd'
   obtain ⟨k, hk⟩ : ∃ k : Nat, (h - 1) % 32 = k := ⟨((h - 1) % 32).toNat, by omega⟩
   rw [hk]
   by_cases hl : k < s.Cells.length
   ·rw [if_neg (by simp; omega), ix_at hl, Option.bind_some, handle_Gen_eq hh, Option.bind_some, if_pos hd]
    by_cases g : s.Cells[k].Gen = (h - 1) / 32 ∧ (s.Cells[k].State = 1 ∨ s.Cells[k].State = 2)
    ·left
     refine ⟨k, ⟨hl, hd, hk, g⟩, ?_⟩
     rw [if_neg]
     simp; omega
    ·right
     refine ⟨fun i ⟨hi, _, h2, h3⟩ => ?_, ?_⟩
     ·have : i = k := by omega
      subst this; exact g h3
     ·rw [if_pos]
      simp; omega
   ·right
    refine ⟨fun i ⟨hi, _, h2, h3⟩ => by omega, ?_⟩
    rw [if_pos (by simp; omega)]
  ·right
   refine ⟨fun i ⟨hi, h1, _⟩ => hd h1, ?_⟩
   rw [if_neg hd, if_pos (by simp)]
theorem find_of_o {s : slab_Slab_store_Obj} {h : Int} {i : Nat} (hf : FndO s h i) : slab_Find_store_Obj s h = some ((i : Int), 0) := by
 have hh := hnd_le hf.2.1
 rcases find_cases_o s (h := h) (by omega) with ⟨j, h1, h2⟩ | ⟨h1, _⟩
 ·obtain ⟨_, _, e1, _⟩ := hf
  obtain ⟨_, _, e2, _⟩ := h1
  have : i = j := by omega
  subst this; exact h2
 ·exact absurd hf (h1 i)
theorem find_no_o {s : slab_Slab_store_Obj} {h : Int} (hh : h ≤ 9223372036854775807) (hf : ∀ i, ¬ FndO s h i) : slab_Find_store_Obj s h = some (-1, if h = 0 then 2 else 3) := by
 rcases find_cases_o s hh with ⟨j, h1, _⟩ | ⟨_, h2⟩
 ·exact absurd h1 (hf j)
 ·exact h2
theorem err_ne_o (h : Int) : (if h = 0 then 2 else 3 : Int) ≠ 0 := by split <;> omega
theorem get_of_o {s : slab_Slab_store_Obj} {h : Int} {i : Nat} (hf : FndO s h i) : ∃ hi : i < s.Cells.length, slab_Get_store_Obj s h = some (if s.Cells[i].State = 2 then (z0, 3) else (s.Cells[i].Val, 0)) := by
 refine ⟨hf.1, ?_⟩
 unfold slab_Get_store_Obj
 rw [find_of_o hf, Option.bind_some, if_neg (by simp), ix_at hf.1, Option.bind_some]
 split <;> rename_i q
 ·rw [if_pos (by simpa using q)]
 ·rw [if_neg (by simpa using q)]
theorem get_no_o {s : slab_Slab_store_Obj} {h : Int} (hh : h ≤ 9223372036854775807) (hf : ∀ i, ¬ FndO s h i) : slab_Get_store_Obj s h = some (z0, if h = 0 then 2 else 3) := by
 unfold slab_Get_store_Obj
 rw [find_no_o hh hf, Option.bind_some, if_pos (by simpa using err_ne_o h)]
theorem set_of_o {s : slab_Slab_store_Obj} {h : Int} {v : store_Obj} {i : Nat} (hl : s.Cells.length ≤ 24) (hf : FndO s h i) : ∃ hi : i < s.Cells.length, slab_Set_store_Obj s h v = some (⟨s.Cells.set i ⟨s.Cells[i].State, s.Cells[i].Gen, v⟩, s.Last⟩, 0) := by
 refine ⟨hf.1, ?_⟩
 unfold slab_Set_store_Obj
 rw [find_of_o hf, Option.bind_some, if_neg (by simp), ix_at hf.1, Option.bind_some, with_eq_o rfl hf.1 hl, Option.bind_some]
theorem set_no_o {s : slab_Slab_store_Obj} {h : Int} {v : store_Obj} (hh : h ≤ 9223372036854775807) (hf : ∀ i, ¬ FndO s h i) : slab_Set_store_Obj s h v = some (s, if h = 0 then 2 else 3) := by
 unfold slab_Set_store_Obj
 rw [find_no_o hh hf, Option.bind_some, if_pos (by simpa using err_ne_o h)]
end Go.Sh
namespace Go.Sh
set_option linter.unusedVariables false
set_option linter.unusedSimpArgs false
def oo (o : store_Obj) : r06_Obj := ⟨o.Serial, o.Strong, o.Weak, o.Prog, o.Started, o.Fields⟩
def cO (c : slab_Cell_store_Obj) : r06_Cell := ⟨c.State, c.Gen, oo c.Val⟩
def sO (s : store_Store) : r06_Store := ⟨s.S.Cells.map cO, s.S.Last, s.Serial⟩
def Sm (s : store_Store) : Prop := s.S.Cells.length ≤ 30 ∧ ∀ i (h : i < s.S.Cells.length), s.S.Cells[i].Val.Fields.length ≤ 10
instance (s : store_Store) : Decidable (Sm s) := by unfold Sm; infer_instance
def plc (i : Nat) (c : r06_Cell) : r03_Cell := ⟨c.State, c.Gen, (i : Int)⟩
def pl (t : r06_Store) : r03_Slab := ⟨t.Cells.mapIdx plc, t.Last⟩
theorem plain06 (t : r06_Store) (h : t.Cells.length ≤ 1000) : r06_Plain t = some (pl t) := by
 unfold r06_Plain
 simp only [jn]
 refine lpb_upS t.Cells.length (fun k acc => acc = (t.Cells.mapIdx plc).take k) (by omega) (by simp) (fun k acc hk hP => ?_) (fun acc hP => ?_)
 ·subst hP
  refine .inl ⟨_, ?_, rfl⟩
  simp only [Int.ofNat_lt, hk, decide_true, if_true, ix_at hk, Option.bind_some]
  rw [app_ok (by omega) (by simp; omega), Option.bind_some, w64_nat]
  have e : (t.Cells.mapIdx plc).take (k + 1) = (t.Cells.mapIdx plc).take k ++ [plc k t.Cells[k]] := by
   rw [List.take_add_one, List.getElem?_eq_getElem (by simpa using hk)]
   simp
  rw [e]
  rfl
 ·subst hP
  rw [List.take_of_length_le (by simp)]
  exact ⟨t.Cells.mapIdx plc, by simp only [Int.lt_irrefl, decide_false, Bool.false_eq_true, if_false], rfl⟩
theorem Right03 (s : r03_Slab) : r03_Right s = some (decide (s.Cells.length ≤ 24 ∧ 0 ≤ s.Last ∧ s.Last ≤ 9 ∧ ∀ i (h : i < s.Cells.length), 0 ≤ s.Cells[i].State ∧ s.Cells[i].State ≤ 3 ∧ 0 ≤ s.Cells[i].Gen ∧ s.Cells[i].Gen ≤ s.Last)) := by
 unfold r03_Right
 split
 ·rename_i q
  rw [decide_eq_false (by simp at q; omega)]
 ·rename_i q
  have q : s.Cells.length ≤ 24 ∧ 0 ≤ s.Last ∧ s.Last ≤ 9 := by simp at q; omega
  simp only [jn]
  refine lpb_up s.Cells.length (fun k => ∀ j (h : j < s.Cells.length), j < k → 0 ≤ s.Cells[j].State ∧ s.Cells[j].State ≤ 3 ∧ 0 ≤ s.Cells[j].Gen ∧ s.Cells[j].Gen ≤ s.Last) (by omega) (fun _ _ h => by omega) (fun k hk hP => ?_) (fun hP => ?_)
  ·by_cases g : 0 ≤ s.Cells[k].State ∧ s.Cells[k].State ≤ 3 ∧ 0 ≤ s.Cells[k].Gen ∧ s.Cells[k].Gen ≤ s.Last
   ·refine .inl ⟨?_, fun j h hj => ?_⟩
    ·simp only [Int.ofNat_lt, hk, decide_true, if_true, ix_at hk, Option.bind_some]
     rw [if_neg (by simp; omega), w64_nat]
    ·rcases Nat.lt_or_ge j k with q' | q'
     ·exact hP j h q'
     ·have : j = k := by omega
      subst this; exact g
   ·refine .inr ⟨.inl false, ?_, ?_⟩
    ·simp only [Int.ofNat_lt, hk, decide_true, if_true, ix_at hk, Option.bind_some]
     rw [if_pos (by simp; omega)]
    ·simp only
     rw [decide_eq_false (fun q' => g (q'.2.2.2 k hk))]
  ·refine ⟨.inr (), by simp, ?_⟩
   simp only
   rw [decide_eq_true ⟨q.1, q.2.1, q.2.2, fun i h => hP i h h⟩]
def Thr (c : r06_Cell) : Prop := c.State = 1 ∨ c.State = 2
instance (c : r06_Cell) : Decidable (Thr c) := by unfold Thr; infer_instance
theorem there06 (c : r06_Cell) : r06_there c = some (decide (Thr c)) := by
 unfold r06_there
 congr 1
 rw [Bool.eq_iff_iff, decide_eq_true_iff, Bool.or_eq_true, beq_iff_eq, beq_iff_eq]
 rfl
def ObOK (t : r06_Store) (o : r06_Obj) : Prop := 1 ≤ o.Serial ∧ o.Serial ≤ t.Serial ∧ 0 ≤ o.Strong ∧ 0 ≤ o.Weak ∧ -1 ≤ o.Prog ∧ o.Prog ≤ 5 ∧ o.Fields.length ≤ 4
def ObNo (o : r06_Obj) : Prop := o.Serial = 0 ∧ o.Strong = 0 ∧ o.Weak = 0 ∧ o.Prog = 0 ∧ o.Started = false ∧ o.Fields.length = 0
structure RtR (t : r06_Store) : Prop where
 len : t.Cells.length ≤ 24
 l0 : 0 ≤ t.Last
 l9 : t.Last ≤ 9
 ser : 0 ≤ t.Serial
 cell : ∀ i (h : i < t.Cells.length), 0 ≤ t.Cells[i].State ∧ t.Cells[i].State ≤ 3 ∧ 0 ≤ t.Cells[i].Gen ∧ t.Cells[i].Gen ≤ t.Last
 no : ∀ i (h : i < t.Cells.length), ¬ Thr t.Cells[i] → ObNo t.Cells[i].Val
 ok : ∀ i (h : i < t.Cells.length), Thr t.Cells[i] → ObOK t t.Cells[i].Val
 dif : ∀ i (h : i < t.Cells.length) k (hk : k < i), Thr t.Cells[i] → Thr t.Cells[k] → t.Cells[k].Val.Serial ≠ t.Cells[i].Val.Serial
def CeOK (t : r06_Store) (i : Nat) (h : i < t.Cells.length) : Prop :=
 (¬ Thr t.Cells[i] → ObNo t.Cells[i].Val) ∧ (Thr t.Cells[i] → ObOK t t.Cells[i].Val) ∧ ∀ k (hk : k < i), Thr t.Cells[i] → Thr t.Cells[k] → t.Cells[k].Val.Serial ≠ t.Cells[i].Val.Serial
theorem Right06 (t : r06_Store) (hl : t.Cells.length ≤ 1000) : ∃ b, r06_Right t = some b ∧ (b = true ↔ RtR t) := by
 unfold r06_Right
 rw [plain06 t hl, Option.bind_some, Right03, Option.bind_some]
 by_cases hR : (pl t).Cells.length ≤ 24 ∧ 0 ≤ (pl t).Last ∧ (pl t).Last ≤ 9 ∧ ∀ i (h : i < (pl t).Cells.length), 0 ≤ (pl t).Cells[i].State ∧ (pl t).Cells[i].State ≤ 3 ∧ 0 ≤ (pl t).Cells[i].Gen ∧ (pl t).Cells[i].Gen ≤ (pl t).Last
 ·by_cases hs : 0 ≤ t.Serial
  ·rw [decide_eq_true hR]
   rw [if_neg (by simp; omega)]
   simp only [jn]
   have hcell : ∀ i (h : i < t.Cells.length), 0 ≤ t.Cells[i].State ∧ t.Cells[i].State ≤ 3 ∧ 0 ≤ t.Cells[i].Gen ∧ t.Cells[i].Gen ≤ t.Last := fun i h => by
    have := hR.2.2.2 i (by simpa [pl] using h)
    simpa [pl, plc] using this
   have key : (∀ i (h : i < t.Cells.length), CeOK t i h) ↔ RtR t := by
    constructor
    ·intro q
     exact ⟨by simpa [pl] using hR.1, hR.2.1, hR.2.2.1, hs, hcell, fun i h => (q i h).1, fun i h => (q i h).2.1, fun i h => (q i h).2.2⟩
    ·intro q i h
     exact ⟨q.no i h, q.ok i h, q.dif i h⟩
   by_cases hall : ∀ i (h : i < t.Cells.length), CeOK t i h
   ·refine ⟨true, ?_, by simpa using key.1 hall⟩
    refine lpb_up t.Cells.length (fun _ => True) (by omega) trivial (fun k hk _ => .inl ⟨?_, trivial⟩) (fun _ => ⟨.inr (), by simp, rfl⟩)
    obtain ⟨q1, q2, q3⟩ := hall k hk
    simp only [Int.ofNat_lt, hk, decide_true, if_true, ix_at hk, Option.bind_some, there06]
    by_cases ht : Thr t.Cells[k]
    ·rw [decide_eq_true ht]
     obtain ⟨o1, o2, o3, o4, o5, o6, o7⟩ := q2 ht
     rw [if_neg (by simp), if_neg (by simp; omega)]
     refine lpb_up k (fun _ => True) (by omega) trivial (fun j hj _ => .inl ⟨?_, trivial⟩) (fun _ => ⟨.inr (), by simp, by rw [w64_nat]⟩)
     have hj' : j < t.Cells.length := by omega
     simp only [Int.ofNat_lt, hj, decide_true, if_true, ix_at hj', Option.bind_some, there06]
     rw [if_neg (by simp only [Bool.and_eq_true, decide_eq_true_eq, beq_iff_eq, not_and]; exact fun a => q3 j hj ht a), w64_nat]
    ·rw [decide_eq_false ht]
     obtain ⟨o1, o2, o3, o4, o5, o6⟩ := q1 ht
     rw [if_pos (by simp), if_neg (by simp [o1, o2, o3, o4, o5, o6]), w64_nat]
   ·refine ⟨false, ?_, by simpa using fun q => hall (key.2 q)⟩
    obtain ⟨i, ⟨hi, hbad⟩, hmin⟩ := exists_min (p := fun i => ∃ h : i < t.Cells.length, ¬ CeOK t i h) (by
     have := Classical.not_forall.1 hall
     obtain ⟨i, q⟩ := this
     obtain ⟨h, q⟩ := Classical.not_forall.1 q
     exact ⟨i, h, q⟩)
    refine lpb_up t.Cells.length (fun k => k ≤ i) (by omega) (by omega) (fun k hk hP => ?_) (fun hP => by omega)
    simp only [Int.ofNat_lt, hk, decide_true, if_true, ix_at hk, Option.bind_some, there06]
    rcases Nat.lt_or_ge k i with g | g
    ·refine .inl ⟨?_, g⟩
     have hok : CeOK t k hk := Classical.byContradiction fun q => by have := hmin k ⟨hk, q⟩; omega
     obtain ⟨q1, q2, q3⟩ := hok
     by_cases ht : Thr t.Cells[k]
     ·rw [decide_eq_true ht]
      obtain ⟨o1, o2, o3, o4, o5, o6, o7⟩ := q2 ht
      rw [if_neg (by simp), if_neg (by simp; omega)]
      refine lpb_up k (fun _ => True) (by omega) trivial (fun j hj _ => .inl ⟨?_, trivial⟩) (fun _ => ⟨.inr (), by simp, by rw [w64_nat]⟩)
      have hj' : j < t.Cells.length := by omega
      simp only [Int.ofNat_lt, hj, decide_true, if_true, ix_at hj', Option.bind_some, there06]
      rw [if_neg (by simp only [Bool.and_eq_true, decide_eq_true_eq, beq_iff_eq, not_and]; exact fun a => q3 j hj ht a), w64_nat]
     ·rw [decide_eq_false ht]
      obtain ⟨o1, o2, o3, o4, o5, o6⟩ := q1 ht
      rw [if_pos (by simp), if_neg (by simp [o1, o2, o3, o4, o5, o6]), w64_nat]
    ·have : k = i := by omega
     subst this
     refine .inr ⟨.inl false, ?_, rfl⟩
     by_cases ht : Thr t.Cells[k]
     ·rw [decide_eq_true ht]
      rw [if_neg (by simp)]
      by_cases ho : ObOK t t.Cells[k].Val
      ·have ho' := ho
       obtain ⟨o1, o2, o3, o4, o5, o6, o7⟩ := ho'
       rw [if_neg (by simp; omega)]
       have : ∃ j, j < k ∧ ∃ h : j < t.Cells.length, Thr t.Cells[j] ∧ t.Cells[j].Val.Serial = t.Cells[k].Val.Serial := Classical.byContradiction fun q => hbad ⟨fun n => absurd ht n, fun _ => ho, fun j hj _ h2 h3 => q ⟨j, hj, by omega, h2, h3⟩⟩
       obtain ⟨j, ⟨hj, hj', h2, h3⟩, hjm⟩ := exists_min this
       refine lpb_up k (fun m => m ≤ j) (by omega) (by omega) (fun m hm hP2 => ?_) (fun hP2 => by omega)
       have hm' : m < t.Cells.length := by omega
       simp only [Int.ofNat_lt, hm, decide_true, if_true, ix_at hm', Option.bind_some, there06]
       rcases Nat.lt_or_ge m j with g2 | g2
       ·refine .inl ⟨?_, g2⟩
        rw [if_neg (by
         simp only [Bool.and_eq_true, decide_eq_true_eq, beq_iff_eq, not_and]
         intro a b
         have := hjm m ⟨by omega, hm', a, b⟩
         omega), w64_nat]
       ·have : m = j := by omega
        subst this
        refine .inr ⟨.inl false, ?_, rfl⟩
        rw [if_pos (by simp only [Bool.and_eq_true, decide_eq_true_eq, beq_iff_eq]; exact ⟨h2, h3⟩)]
      ·rw [if_pos (by
        unfold ObOK at ho
        simp only [Bool.or_eq_true, decide_eq_true_eq]
        omega)]
     ·rw [decide_eq_false ht]
      rw [if_pos (by simp)]
      have hno : ¬ ObNo t.Cells[k].Val := fun q => hbad ⟨fun _ => q, fun n => absurd n ht, fun j hj h1 _ => absurd h1 ht⟩
      rw [if_pos (by
       unfold ObNo at hno
       simp only [Bool.or_eq_true, bne_iff_ne, ne_eq]
       cases hst : t.Cells[k].Val.Started
       ·simp only [hst, true_and, Bool.false_eq_true, or_false] at hno ⊢
        omega
       ·simp)]
  ·refine ⟨false, ?_, by simp; exact fun q => hs q.ser⟩
   rw [if_pos (by simp; omega)]
 ·refine ⟨false, ?_, ?_⟩
  ·rw [decide_eq_false hR, if_pos (by simp)]
  ·simp only [Bool.false_eq_true, false_iff]
   intro q
   exact hR ⟨by simpa [pl] using q.len, q.l0, q.l9, fun i h => by have := q.cell i (by simpa [pl] using h); simpa [pl, plc] using this⟩
end Go.Sh
namespace Go.Sh
set_option linter.unusedVariables false
set_option linter.unusedSimpArgs false
theorem sortBy_spec {c : Int → Int → Option Int} {xs : List Int} (key : Int → Int) (hc : ∀ x y, ∃ r, c x y = some r ∧ (r < 0 ↔ key x < key y)) (hl : xs.length < 4611686018427387904) :
  ∃ ys, sortBy c xs = some ys ∧ ys.Perm xs ∧ ys.Pairwise (fun a b => key a ≤ key b) := by
 have hlt : ∀ x y, Go.Proofs.ltOf (fun x y => (c x y).getD 0) x y = decide (key x < key y) := fun x y => by
  obtain ⟨r, h1, h2⟩ := hc x y
  show decide ((c x y).getD 0 < 0) = _
  rw [h1, Option.getD_some]
  exact decide_eq_decide.2 h2
 have hO : Go.Sort.SWO (Go.Proofs.ltOf fun x y => (c x y).getD 0) := by
  refine ⟨fun x => ?_, fun x y z => ?_, fun x y z => ?_⟩
  ·rw [hlt]; simp
  ·rw [hlt, hlt, hlt]; simp; omega
  ·rw [hlt, hlt, hlt]; simp; omega
 have hcond : (∀ x y, (c x y).isSome = true) ∧ Go.Sort.SWO (Go.Proofs.ltOf fun x y => (c x y).getD 0) ∧ xs.length < 4611686018427387904 := ⟨fun x y => by
  obtain ⟨r, h1, _⟩ := hc x y
  rw [h1]; rfl, hO, hl⟩
 unfold sortBy
 rw [if_pos hcond]
 refine ⟨_, rfl, ?_⟩
 obtain ⟨⟨p1, p2, p3⟩, p4⟩ := Go.Sort.pdq_sorts (Go.Proofs.ltOf fun x y => (c x y).getD 0) hO xs.toArray 0 xs.length (Go.Lib.bitLen xs.length) true true (Nat.zero_le _) (by simp) (Or.inl rfl)
 generalize Go.Sort.pdq (Go.Proofs.ltOf fun x y => (c x y).getD 0) xs.toArray 0 xs.length (Go.Lib.bitLen xs.length) true true = d at p1 p2 p3 p4 ⊢
 have hs : d.size = xs.length := by simpa using p1
 refine ⟨?_, ?_⟩
 ·have e1 : d.extract 0 xs.length = d := by rw [← hs]; exact Array.extract_size
  have e2 : xs.toArray.extract 0 xs.length = xs.toArray := by
   simp
  rw [e1, e2] at p3
  simpa using p3
 ·rw [List.pairwise_iff_getElem]
  intro i j hi hj hij
  have hi' : i < d.size := by simpa using hi
  have hj' : j < d.size := by simpa using hj
  have := p4 i j (Nat.zero_le _) hij (by omega)
  rw [hlt, getElem!_pos d j hj', getElem!_pos d i hi'] at this
  have := of_decide_eq_false this
  simp only [Array.getElem_toList]
  omega
def hnds : Nat → List slab_Cell_store_Obj → List Int
 | _, [] => []
 | k, c :: r => (if c.State = 1 then [1 + (k : Int) + 32 * c.Gen] else []) ++ hnds (k + 1) r
theorem hnds_snoc (c : slab_Cell_store_Obj) : ∀ (k : Nat) (xs : List slab_Cell_store_Obj), hnds k (xs ++ [c]) = hnds k xs ++ (if c.State = 1 then [1 + ((k + xs.length : Nat) : Int) + 32 * c.Gen] else [])
 | k, [] => by simp [hnds]
 | k, x :: r => by
  simp only [List.cons_append, hnds, hnds_snoc c (k + 1) r, List.append_assoc, List.length_cons]
  rw [show k + 1 + r.length = k + (r.length + 1) by omega]
theorem hnds_len : ∀ (k : Nat) (xs : List slab_Cell_store_Obj), (hnds k xs).length ≤ xs.length
 | _, [] => by simp [hnds]
 | k, c :: r => by
  have := hnds_len (k + 1) r
  simp only [hnds, List.length_append, List.length_cons]
  split <;> simp <;> omega
theorem hnds_mem {h : Int} : ∀ {k : Nat} {xs : List slab_Cell_store_Obj}, h ∈ hnds k xs ↔ ∃ i, ∃ hi : i < xs.length, xs[i].State = 1 ∧ h = 1 + ((k + i : Nat) : Int) + 32 * xs[i].Gen
 | k, [] => by simp [hnds]
 | k, c :: r => by
  simp only [hnds, List.mem_append, hnds_mem (k := k + 1) (xs := r)]
  constructor
  ·rintro (q | ⟨i, hi, q1, q2⟩)
   ·by_cases hc : c.State = 1
    ·rw [if_pos hc] at q
     exact ⟨0, by simp, by simpa using hc, by simpa using q⟩
    ·rw [if_neg hc] at q
     cases q
   ·exact ⟨i + 1, by simpa using hi, by simpa using q1, by simp only [List.getElem_cons_succ]; rw [q2, show k + 1 + i = k + (i + 1) by omega]⟩
  ·rintro ⟨i, hi, q1, q2⟩
   cases i with
   | zero =>
    left
    simp only [List.getElem_cons_zero] at q1 q2
    rw [if_pos q1]
    simp [q2]
   | succ i =>
    right
    simp only [List.getElem_cons_succ] at q1 q2
    exact ⟨i, by simpa using hi, q1, by rw [q2, show k + 1 + i = k + (i + 1) by omega]⟩
def sk (cs : List slab_Cell_store_Obj) (h : Int) : Int := match cs[((h - 1) % 32).toNat]? with
 | some c => c.Val.Serial
 | none => 0
theorem sk_hd {cs : List slab_Cell_store_Obj} {i : Nat} {g : Int} (h : i < cs.length) (h32 : cs.length ≤ 32) : sk cs (1 + (i : Int) + 32 * g) = cs[i].Val.Serial := by
 unfold sk
 have : ((1 + (i : Int) + 32 * g - 1) % 32).toNat = i := by omega
 rw [this, List.getElem?_eq_getElem h]
structure Slb (cs : List slab_Cell_store_Obj) : Prop where
 len : cs.length ≤ 24
 gen : ∀ i (h : i < cs.length), 0 ≤ cs[i].Gen ∧ cs[i].Gen ≤ 9
theorem live_spec {s : store_Store} (hR : Slb s.S.Cells) : ∃ l, store_Live s = some l ∧ l.Perm (hnds 0 s.S.Cells) ∧ l.Pairwise (fun a b => sk s.S.Cells a ≤ sk s.S.Cells b) := by
 have hlen := hR.len
 unfold store_Live
 simp only [jn]
 have hh := hnds_len 0 s.S.Cells
 have hloop : ∃ e : List (Int × Int) × List Int, lp (S := Int × (List (Int × Int)) × (List Int)) (E := ((List (Int × Int)) × (List Int))) (fun ((s23, s24, s25) : Int × (List (Int × Int)) × (List Int)) =>
   if (decide (s23 < (s.S.Cells.length : Int))) then
    ((ix s.S.Cells s23).bind fun v35 =>
     if (v35.State == 1) then
      (handle_Pack s23 v35.Gen).bind fun v36 =>
      (app 8 s25 [v36]).bind fun v37 =>
      some (.inl (w64 (s23 + 1), (mput s24 v36 v35.Val.Serial), v37))
     else
     some (.inl (w64 (s23 + 1), s24, s25)))
   else
   some (.inr (s24, s25))) (0, [], []) = some e ∧ e.2 = hnds 0 s.S.Cells ∧ ∀ h ∈ e.2, mget e.1 h = some (sk s.S.Cells h) := by
  refine lp_upS (T := List (Int × Int) × List Int) s.S.Cells.length (fun k e => e.2 = hnds 0 (s.S.Cells.take k) ∧ ∀ h ∈ e.2, mget e.1 h = some (sk s.S.Cells h)) (fun e : List (Int × Int) × List Int => e.2 = hnds 0 s.S.Cells ∧ ∀ h ∈ e.2, mget e.1 h = some (sk s.S.Cells h)) (by omega) ⟨by simp [hnds], by simp⟩ (fun k e hk hP => ?_) (fun e hP => ?_)
  ·obtain ⟨h1, h2⟩ := hP
   obtain ⟨m, l⟩ := e
   simp only at h1 h2
   left
   have hc := hR.gen k hk
   have hl : l.length ≤ 24 := by rw [h1]; have := hnds_len 0 (s.S.Cells.take k); simp at this; omega
   have et : s.S.Cells.take (k + 1) = s.S.Cells.take k ++ [s.S.Cells[k]] := by rw [List.take_add_one, List.getElem?_eq_getElem hk]; rfl
   have el : (s.S.Cells.take k).length = k := by simp; omega
   by_cases q : s.S.Cells[k].State = 1
   ·refine ⟨(mput m (1 + (k : Int) + 32 * s.S.Cells[k].Gen) s.S.Cells[k].Val.Serial, l ++ [1 + (k : Int) + 32 * s.S.Cells[k].Gen]), ?_, ?_, ?_⟩
    ·simp only [Int.ofNat_lt, hk, decide_true, if_true, ix_at hk, Option.bind_some, q, beq_self_eq_true]
     rw [handle_Pack_eq (by omega) (by omega) hc.1 hc.2, Option.bind_some, app_ok (by omega) (by simp; omega), Option.bind_some, w64_nat]
    ·simp only
     rw [et, hnds_snoc, if_pos q, el, h1, Nat.zero_add]
    ·intro h hh
     simp only [List.mem_append, List.mem_singleton] at hh ⊢
     rw [mget_mput]
     rcases hh with hh | rfl
     ·split
      ·rename_i e; rw [e, sk_hd hk (by omega)]
      ·exact h2 h hh
     ·rw [if_pos rfl, sk_hd hk (by omega)]
   ·refine ⟨(m, l), ?_, ?_, h2⟩
    ·simp only [Int.ofNat_lt, hk, decide_true, if_true, ix_at hk, Option.bind_some]
     rw [if_neg (by simpa using q), w64_nat]
    ·simp only
     rw [et, hnds_snoc, if_neg q, h1, List.append_nil]
  ·obtain ⟨h1, h2⟩ := hP
   obtain ⟨m, l⟩ := e
   refine ⟨(m, l), by simp only [Int.lt_irrefl, decide_false, Bool.false_eq_true, if_false], ?_, h2⟩
   simpa using h1
 obtain ⟨⟨m, l⟩, e1, e2, e3⟩ := hloop
 rw [show lp _ _ = _ from e1, Option.bind_some]
 simp only at e2 e3 ⊢
 subst e2
 obtain ⟨ys, q1, q2, q3⟩ := sortBy_spec (c := fun p q => store_Live_1 p q m) (xs := hnds 0 s.S.Cells) (fun h => (mget m h).getD 0) (fun x y => by
  unfold store_Live_1 cmp_Compare_int cmp_isNaN_int
  simp only [Option.bind_some, bne_self_eq_false, Bool.false_eq_true, if_false]
  generalize (mget m x).getD 0 = a
  generalize (mget m y).getD 0 = b
  by_cases h1 : a < b
  ·rw [decide_eq_true h1]; exact ⟨-1, rfl, by simp [h1]⟩
  ·rw [decide_eq_false h1]
   by_cases h2 : a > b
   ·rw [decide_eq_true h2]; exact ⟨1, rfl, by simp [h1]⟩
   ·rw [decide_eq_false h2]; exact ⟨0, rfl, by simp [h1]⟩) (by omega)
 refine ⟨ys, by rw [q1]; rfl, q2, q3.imp_of_mem fun {a b} ha hb hab => ?_⟩
 rw [e3 a (q2.mem_iff.1 ha), e3 b (q2.mem_iff.1 hb)] at hab
 simpa using hab
theorem sorted_one {key : Int → Int} : ∀ {l m : List Int}, l.Perm m → l.Pairwise (fun a b => key a ≤ key b) → m.Pairwise (fun a b => key a ≤ key b) → (∀ a ∈ l, ∀ b ∈ l, key a = key b → a = b) → l = m
 | [], m, hp, _, _, _ => (List.nil_perm.1 hp).symm
 | a :: l, [], hp, _, _, _ => by simp at hp
 | a :: l, b :: m, hp, h1, h2, hk => by
  have ha := List.pairwise_cons.1 h1
  have hb := List.pairwise_cons.1 h2
  have e : a = b := by
   have m1 : b ∈ a :: l := hp.mem_iff.2 (List.mem_cons_self ..)
   have m2 : a ∈ b :: m := hp.mem_iff.1 (List.mem_cons_self ..)
   rcases List.mem_cons.1 m1 with q | q
   ·exact q.symm
   ·rcases List.mem_cons.1 m2 with q' | q'
    ·exact q'
    ·exact hk a (List.mem_cons_self ..) b m1 (Int.le_antisymm (ha.1 b q) (hb.1 a q'))
  subst e
  rw [sorted_one (List.perm_cons a |>.1 hp) ha.2 hb.2 fun x hx y hy => hk x (List.mem_cons_of_mem _ hx) y (List.mem_cons_of_mem _ hy)]
end Go.Sh
namespace Go.Sh
set_option linter.unusedVariables false
set_option linter.unusedSimpArgs false
theorem sO_len (s : store_Store) : (sO s).Cells.length = s.S.Cells.length := by simp [sO]
theorem sO_ix (s : store_Store) (i : Int) : ix (sO s).Cells i = (ix s.S.Cells i).map cO := ix_map' cO s.S.Cells i
theorem pl_len (t : r06_Store) : (pl t).Cells.length = t.Cells.length := by simp [pl]
theorem pl_at {t : r06_Store} {k : Nat} (h : k < t.Cells.length) : ix (pl t).Cells k = some (plc k t.Cells[k]) := by
 rw [ix_at (by simpa [pl] using h)]
 simp [pl]
theorem find06 (s : store_Store) {h : Int} (hh : h ≤ 9223372036854775807) : r03_Find (pl (sO s)) h = slab_Find_store_Obj s.S h := by
 unfold r03_Find slab_Find_store_Obj
 rw [r01_Slot_eq, handle_Slot_eq hh, r01_Gen_eq, handle_Gen_eq hh]
 simp only [Option.bind_some, pl_len, sO_len]
 generalize (if Hnd h then (h - 1) % 32 else -1 : Int) = v
 generalize (if Hnd h then (h - 1) / 32 else -1 : Int) = g
 split
 ·rfl
 ·split
  ·rfl
  ·rename_i q
   have q : 0 ≤ v ∧ v < s.S.Cells.length := by simp at q; omega
   obtain ⟨k, rfl⟩ : ∃ k : Nat, v = k := ⟨v.toNat, by omega⟩
   have hk : k < s.S.Cells.length := by omega
   rw [pl_at (by rw [sO_len]; exact hk), ix_at hk]
   simp only [Option.bind_some, plc, sO, List.getElem_map, cO]
theorem set06 (s : store_Store) (hl : s.S.Cells.length ≤ 24) {h : Int} (hh : h ≤ 9223372036854775807) (o : store_Obj) : r06_Set (sO s) h (oo o) = (store_Set s h o).map fun p => (sO p.1, p.2) := by
 unfold r06_Set store_Set
 rw [plain06 _ (by rw [sO_len]; omega), Option.bind_some, find06 s hh]
 rcases find_cases_o s.S hh with ⟨i, hf, e⟩ | ⟨hf, e⟩
 ·obtain ⟨hi, e2⟩ := set_of_o (v := o) hl hf
  rw [e, e2]
  simp only [Option.bind_some, bne_self_eq_false, Bool.false_eq_true, if_false, Option.map_some]
  unfold r06_with
  rw [app_nil (by omega) (by rw [sO_len]; omega), Option.bind_some, ix_at (by rw [sO_len]; exact hi), Option.bind_some]
  simp [sO, cO, oo, List.map_set]
 ·rw [e, set_no_o hh hf]
  simp only [Option.bind_some]
  rw [if_pos (by simpa using err_ne_o h)]
  rfl
end Go.Sh
namespace Go.Sh
set_option linter.unusedVariables false
set_option linter.unusedSimpArgs false
theorem rt_len {s : store_Store} (h : RtR (sO s)) : s.S.Cells.length ≤ 24 := by have := h.len; rwa [sO_len] at this
theorem rt_cell {s : store_Store} (h : RtR (sO s)) (i : Nat) (hi : i < s.S.Cells.length) : 0 ≤ s.S.Cells[i].State ∧ s.S.Cells[i].State ≤ 3 ∧ 0 ≤ s.S.Cells[i].Gen ∧ s.S.Cells[i].Gen ≤ s.S.Last := by
 have := h.cell i (by rw [sO_len]; exact hi)
 simpa [sO, cO] using this
theorem rt_slb {s : store_Store} (h : RtR (sO s)) : Slb s.S.Cells := ⟨rt_len h, fun i hi => by have := rt_cell h i hi; have h9 : s.S.Last ≤ 9 := h.l9; omega⟩
theorem rt_ok {s : store_Store} (h : RtR (sO s)) (i : Nat) (hi : i < s.S.Cells.length) (ht : s.S.Cells[i].State = 1 ∨ s.S.Cells[i].State = 2) : ObOK (sO s) (oo s.S.Cells[i].Val) := by
 have := h.ok i (by rw [sO_len]; exact hi)
 simp only [sO, List.getElem_map, cO, Thr] at this
 exact this ht
theorem rt_dif {s : store_Store} (h : RtR (sO s)) {i j : Nat} (hi : i < s.S.Cells.length) (hj : j < s.S.Cells.length) (a : s.S.Cells[i].State = 1 ∨ s.S.Cells[i].State = 2) (b : s.S.Cells[j].State = 1 ∨ s.S.Cells[j].State = 2) (e : s.S.Cells[i].Val.Serial = s.S.Cells[j].Val.Serial) : i = j := by
 have key : ∀ i (hi : i < s.S.Cells.length) j (hj : j < i), (s.S.Cells[i].State = 1 ∨ s.S.Cells[i].State = 2) → (s.S.Cells[j].State = 1 ∨ s.S.Cells[j].State = 2) → s.S.Cells[j].Val.Serial ≠ s.S.Cells[i].Val.Serial := fun i hi j hj a b => by
  have := h.dif i (by rw [sO_len]; exact hi) j hj
  simp only [sO, List.getElem_map, cO, Thr, oo] at this
  exact this a b
 rcases Nat.lt_trichotomy i j with q | q | q
 ·exact absurd e (key j hj i q b a)
 ·exact q
 ·exact absurd e.symm (key i hi j q a b)
theorem hnds_fnd {s : store_Store} (hR : RtR (sO s)) {x : Int} (hx : x ∈ hnds 0 s.S.Cells) : ∃ i, ∃ hi : i < s.S.Cells.length, s.S.Cells[i].State = 1 ∧ x = 1 + (i : Int) + 32 * s.S.Cells[i].Gen ∧ FndO s.S x i ∧ sk s.S.Cells x = s.S.Cells[i].Val.Serial ∧ store_Get s x = some (s.S.Cells[i].Val, 0) := by
 obtain ⟨i, hi, h1, h2⟩ := hnds_mem.1 hx
 rw [Nat.zero_add] at h2
 have hl := (rt_len hR)
 have hc := (rt_slb hR).gen i hi
 have hf : FndO s.S x i := ⟨hi, by unfold Hnd; omega, by omega, by omega, .inl h1⟩
 refine ⟨i, hi, h1, h2, hf, by rw [h2]; exact sk_hd hi (by omega), ?_⟩
 obtain ⟨_, e⟩ := get_of_o hf
 unfold store_Get
 rw [e, if_neg (by omega)]
 rfl
theorem fnd_hnds {s : store_Store} {x : Int} {i : Nat} (hf : FndO s.S x i) (h1 : ∀ hi : i < s.S.Cells.length, s.S.Cells[i].State = 1) : x ∈ hnds 0 s.S.Cells := by
 obtain ⟨hi, q1, q2, q3, _⟩ := hf
 refine hnds_mem.2 ⟨i, hi, h1 hi, ?_⟩
 unfold Hnd at q1
 rw [Nat.zero_add]
 omega
theorem sk_inj {s : store_Store} (hR : RtR (sO s)) {x y : Int} (hx : x ∈ hnds 0 s.S.Cells) (hy : y ∈ hnds 0 s.S.Cells) (e : sk s.S.Cells x = sk s.S.Cells y) : x = y := by
 obtain ⟨i, hi, a1, a2, _, a4, _⟩ := hnds_fnd hR hx
 obtain ⟨j, hj, b1, b2, _, b4, _⟩ := hnds_fnd hR hy
 have := (rt_dif hR) hi hj (.inl a1) (.inl b1) (by rw [← a4, ← b4]; exact e)
 subst this
 rw [a2, b2]
theorem hnds_nodup : ∀ (k : Nat) (cs : List slab_Cell_store_Obj), k + cs.length ≤ 32 → (hnds k cs).Nodup
 | _, [], _ => List.nodup_nil
 | k, c :: r, h => by
  simp only [List.length_cons] at h
  unfold hnds
  rw [List.nodup_append]
  refine ⟨by split <;> simp, hnds_nodup (k + 1) r (by omega), fun a ha b hb e => ?_⟩
  split at ha
  ·simp only [List.mem_singleton] at ha
   subst ha; subst e
   obtain ⟨i, hi, h1, h2⟩ := hnds_mem.1 hb
   have : ((1 + (k : Int) + 32 * c.Gen) - 1) % 32 = ((1 + ((k + 1 + i : Nat) : Int) + 32 * r[i].Gen) - 1) % 32 := by rw [h2]
   omega
  ·cases ha
theorem live_of {s : store_Store} (hR : RtR (sO s)) : ∃ l, store_Live s = some l ∧ l.Perm (hnds 0 s.S.Cells) ∧ l.Pairwise (fun a b => sk s.S.Cells a < sk s.S.Cells b) := by
 obtain ⟨l, h1, h2, h3⟩ := live_spec (rt_slb hR)
 refine ⟨l, h1, h2, ?_⟩
 have hn : l.Nodup := h2.nodup_iff.2 (hnds_nodup 0 _ (by have := (rt_len hR); omega))
 have := List.Pairwise.and h3 hn
 refine this.imp_of_mem fun {a b} ha hb ⟨q1, q2⟩ => ?_
 rcases Int.lt_or_eq_of_le q1 with q | q
 ·exact q
 ·exact absurd (sk_inj hR (h2.mem_iff.1 ha) (h2.mem_iff.1 hb) q) q2
end Go.Sh
namespace Go.Sh
set_option linter.unusedVariables false
set_option linter.unusedSimpArgs false
end Go.Sh
namespace Go.Sh
set_option linter.unusedVariables false
set_option linter.unusedSimpArgs false
instance (t : r06_Store) (o : r06_Obj) : Decidable (ObOK t o) := by unfold ObOK; infer_instance
instance (o : r06_Obj) : Decidable (ObNo o) := by unfold ObNo; infer_instance
theorem holds06 (c : slab_Cell_store_Obj) : store_holdsObject c = some (decide (Thr (cO c))) := by
 unfold store_holdsObject
 congr 1
 rw [Bool.eq_iff_iff, decide_eq_true_iff, Bool.or_eq_true, beq_iff_eq, beq_iff_eq]
 rfl
theorem objFits (s : store_Store) (c : slab_Cell_store_Obj) : store_objectFits s c = some (decide (Thr (cO c) → ObOK (sO s) (oo c.Val))) := by
 unfold store_objectFits
 rw [holds06, Option.bind_some]
 by_cases h : Thr (cO c)
 ·rw [decide_eq_true h]
  by_cases q : 1 ≤ c.Val.Serial ∧ c.Val.Serial ≤ s.Serial ∧ 0 ≤ c.Val.Strong ∧ 0 ≤ c.Val.Weak
  ·have e : (((decide (c.Val.Serial ≥ 1)) && (decide (c.Val.Serial ≤ s.Serial))) && (decide (c.Val.Strong ≥ 0)) && (decide (c.Val.Weak ≥ 0))) = true := by simp; omega
   rw [e]
   simp only [Bool.not_true, beq_self_eq_true, Bool.and_self, onlyT, store_programFits, Option.bind_some, Bool.false_or, Bool.true_and]
   congr 1
   rw [Bool.eq_iff_iff, decide_eq_true_iff]
   simp only [Bool.and_eq_true, decide_eq_true_eq, ObOK, oo, sO]
   constructor
   ·intro k _; omega
   ·intro k; have := k h; omega
  ·have e : (((decide (c.Val.Serial ≥ 1)) && (decide (c.Val.Serial ≤ s.Serial))) && (decide (c.Val.Strong ≥ 0)) && (decide (c.Val.Weak ≥ 0))) = false := by
    rw [Bool.eq_false_iff]; simp only [ne_eq, Bool.and_eq_true, decide_eq_true_eq]; omega
   rw [e]
   rw [show (decide (Thr (cO c) → ObOK (sO s) (oo c.Val))) = false by
    rw [decide_eq_false_iff_not]
    intro k
    have := k h
    simp only [ObOK, oo, sO] at this
    omega]
   rfl
 ·rw [decide_eq_false h, decide_eq_true (fun k => absurd k h)]
  rfl
theorem noLeft (s : store_Store) (c : slab_Cell_store_Obj) : store_nothingIsLeft s c = some (decide (¬ Thr (cO c) → ObNo (oo c.Val))) := by
 unfold store_nothingIsLeft
 rw [holds06, Option.bind_some]
 by_cases h : Thr (cO c)
 ·rw [decide_eq_true h, decide_eq_true (fun k => absurd h k)]
  rfl
 ·rw [decide_eq_false h]
  congr 1
  rw [Bool.eq_iff_iff, decide_eq_true_iff]
  simp only [Bool.false_or, Bool.and_eq_true, beq_iff_eq, Bool.not_eq_true', ObNo, oo]
  constructor
  ·intro k _; obtain ⟨⟨⟨k1, k2, k3, k4, _⟩, k5⟩, k6⟩ := k; exact ⟨k1, k2, k3, k4, k5, by omega⟩
  ·intro k; obtain ⟨k1, k2, k3, k4, k5, k6⟩ := k h; exact ⟨⟨⟨k1, k2, k3, k4, trivial⟩, k5⟩, by omega⟩
def bb (s : store_Store) (c : slab_Cell_store_Obj) : Nat → Bool
 | 0 => decide (0 ≤ c.State ∧ c.State ≤ 3)
 | 1 => decide (0 ≤ c.Gen ∧ c.Gen ≤ s.S.Last)
 | 2 => decide (Thr (cO c) → ObOK (sO s) (oo c.Val))
 | _ => decide (¬ Thr (cO c) → ObNo (oo c.Val))
def rls : List store_rule := [(⟨some 275⟩ : store_rule), (⟨some 276⟩ : store_rule), (⟨some 277⟩ : store_rule), (⟨some 278⟩ : store_rule)]
theorem rule_at (s : store_Store) (c : slab_Cell_store_Obj) {m : Nat} (hm : m < rls.length) : fvcall0 rls[m].kept s c = some (bb s c m) := by
 have hm' : m < 4 := hm
 match m, hm' with
 | 0, _ =>
  show store_stateFits s c = some (decide (0 ≤ c.State ∧ c.State ≤ 3))
  unfold store_stateFits
  congr 1
  rw [Bool.eq_iff_iff, Bool.and_eq_true, decide_eq_true_iff, decide_eq_true_iff, decide_eq_true_iff]
 | 1, _ =>
  show store_generationFits s c = some (decide (0 ≤ c.Gen ∧ c.Gen ≤ s.S.Last))
  unfold store_generationFits
  congr 1
  rw [Bool.eq_iff_iff, Bool.and_eq_true, decide_eq_true_iff, decide_eq_true_iff, decide_eq_true_iff]
 | 2, _ =>
  show store_objectFits s c = _
  rw [objFits]; rfl
 | 3, _ =>
  show store_nothingIsLeft s c = _
  rw [noLeft]; rfl
def Dif (s : store_Store) : Prop := ∀ i (h : i < s.S.Cells.length) k (hk : k < i), Thr (cO s.S.Cells[i]) → Thr (cO s.S.Cells[k]) → s.S.Cells[k].Val.Serial ≠ s.S.Cells[i].Val.Serial
open Classical in
theorem differ (s : store_Store) (hl : s.S.Cells.length ≤ 1000) : store_serialsDiffer s = some (decide (Dif s)) := by
 unfold store_serialsDiffer
 simp only [jn]
 refine lpb_upS s.S.Cells.length (fun k m => (∀ x, (mget m x).getD false = true ↔ ∃ j, ∃ h : j < s.S.Cells.length, j < k ∧ Thr (cO s.S.Cells[j]) ∧ s.S.Cells[j].Val.Serial = x) ∧
  ∀ i (h : i < s.S.Cells.length) j (hj : j < i), i < k → Thr (cO s.S.Cells[i]) → Thr (cO s.S.Cells[j]) → s.S.Cells[j].Val.Serial ≠ s.S.Cells[i].Val.Serial) (by omega) ⟨fun x => ⟨fun q => by simp [mget] at q, fun ⟨j, h, q, _⟩ => by omega⟩, fun i h j hj q => by omega⟩ (fun k m hk hP => ?_) (fun m hP => ?_)
 ·obtain ⟨h1, h2⟩ := hP
  simp only [Int.ofNat_lt, hk, decide_true, if_true, ix_at hk, Option.bind_some, holds06]
  by_cases ht : Thr (cO s.S.Cells[k])
  ·rw [decide_eq_true ht]
   simp only [Bool.not_true, Bool.false_eq_true, if_false]
   by_cases hd : (mget m s.S.Cells[k].Val.Serial).getD false = true
   ·right
    refine ⟨.inl false, by rw [if_pos hd], ?_⟩
    simp only
    obtain ⟨j, hj, q1, q2, q3⟩ := (h1 _).1 hd
    rw [decide_eq_false (fun q : Dif s => q k hk j q1 ht q2 q3)]
   ·left
    refine ⟨_, by rw [if_neg hd, w64_nat], fun x => ?_, fun i h j hj q a b => ?_⟩
    ·rw [mget_mput]
     constructor
     ·intro q
      split at q
      ·rename_i e
       exact ⟨k, hk, by omega, ht, e.symm⟩
      ·obtain ⟨j, hj, q1, q2, q3⟩ := (h1 x).1 q
       exact ⟨j, hj, by omega, q2, q3⟩
     ·rintro ⟨j, hj, q1, q2, q3⟩
      split
      ·rfl
      ·rename_i e
       refine (h1 x).2 ⟨j, hj, ?_, q2, q3⟩
       rcases Nat.lt_or_ge j k with q | q
       ·exact q
       ·have : j = k := by omega
        subst this
        exact absurd q3.symm e
    ·rcases Nat.lt_or_ge i k with q' | q'
     ·exact h2 i h j hj q' a b
     ·have : i = k := by omega
      subst this
      exact fun e => hd ((h1 _).2 ⟨j, by omega, hj, b, e⟩)
  ·rw [decide_eq_false ht]
   left
   refine ⟨_, by rw [if_pos (by rfl), w64_nat], fun x => ?_, fun i h j hj q a b => ?_⟩
   ·rw [h1 x]
    constructor
    ·rintro ⟨j, hj, q1, q2, q3⟩; exact ⟨j, hj, by omega, q2, q3⟩
    ·rintro ⟨j, hj, q1, q2, q3⟩
     refine ⟨j, hj, ?_, q2, q3⟩
     rcases Nat.lt_or_ge j k with q | q
     ·exact q
     ·have : j = k := by omega
      subst this
      exact absurd q2 ht
   ·rcases Nat.lt_or_ge i k with q' | q'
    ·exact h2 i h j hj q' a b
    ·have : i = k := by omega
     subst this
     exact absurd a ht
 ·refine ⟨.inr (), by simp only [Int.lt_irrefl, decide_false, Bool.false_eq_true, if_false], ?_⟩
  simp only
  rw [decide_eq_true (show Dif s from fun i h k hk a b => hP.2 i h k hk h a b)]
end Go.Sh
namespace Go.Sh
set_option linter.unusedVariables false
set_option linter.unusedSimpArgs false
open Classical in
theorem storeRight06 (s : store_Store) (hl : s.S.Cells.length ≤ 1000) : store_Right s = some (decide (RtR (sO s))) := by
 unfold store_Right
 by_cases h0 : s.S.Cells.length ≤ 24 ∧ 0 ≤ s.S.Last ∧ s.S.Last ≤ 9 ∧ 0 ≤ s.Serial
 ·rw [if_neg (by simp; omega)]
  simp only [jn]
  have key : ((∀ i (h : i < s.S.Cells.length), ∀ m, m < 4 → bb s s.S.Cells[i] m = true) ∧ Dif s) ↔ RtR (sO s) := by
   constructor
   ·rintro ⟨h1, h2⟩
    have at_ : ∀ i (h : i < (sO s).Cells.length), (sO s).Cells[i] = cO (s.S.Cells[i]'(by simpa [sO] using h)) := fun i h => by simp [sO]
    refine ⟨by simpa [sO] using h0.1, h0.2.1, h0.2.2.1, h0.2.2.2, fun i h => ?_, fun i h => ?_, fun i h => ?_, fun i h k hk => ?_⟩
    ·have hi : i < s.S.Cells.length := by simpa [sO] using h
     have q0 := of_decide_eq_true (h1 i hi 0 (by omega))
     have q1 := of_decide_eq_true (h1 i hi 1 (by omega))
     rw [at_ i h]
     exact ⟨q0.1, q0.2, q1.1, q1.2⟩
    ·have hi : i < s.S.Cells.length := by simpa [sO] using h
     rw [at_ i h]
     exact of_decide_eq_true (h1 i hi 3 (by omega))
    ·have hi : i < s.S.Cells.length := by simpa [sO] using h
     rw [at_ i h]
     exact of_decide_eq_true (h1 i hi 2 (by omega))
    ·have hi : i < s.S.Cells.length := by simpa [sO] using h
     rw [at_ i h, at_ k (by omega)]
     exact h2 i hi k hk
   ·intro q
    have at_ : ∀ i (h : i < s.S.Cells.length), (sO s).Cells[i]'(by simpa [sO] using h) = cO s.S.Cells[i] := fun i h => by simp [sO]
    refine ⟨fun i h m hm => ?_, fun i h k hk a b => ?_⟩
    ·have hi : i < (sO s).Cells.length := by simpa [sO] using h
     have c := q.cell i hi
     have n := q.no i hi
     have o := q.ok i hi
     rw [at_ i h] at c n o
     match m, hm with
     | 0, _ => exact decide_eq_true ⟨c.1, c.2.1⟩
     | 1, _ => exact decide_eq_true ⟨c.2.2.1, c.2.2.2⟩
     | 2, _ => exact decide_eq_true o
     | 3, _ => exact decide_eq_true n
    ·have hi : i < (sO s).Cells.length := by simpa [sO] using h
     have d := q.dif i hi k hk
     rw [at_ i h, at_ k (by omega)] at d
     exact d a b
  refine lpb_up s.S.Cells.length (fun k => ∀ i (h : i < s.S.Cells.length), i < k → ∀ m, m < 4 → bb s s.S.Cells[i] m = true) (by omega) (fun _ _ h => by omega) (fun k hk hP => ?_) (fun hP => ?_)
  ·have e : store_rules = some rls := rfl
   simp only [Int.ofNat_lt, hk, decide_true, if_true, ix_at hk, Option.bind_some, e]
   by_cases hall : ∀ m, m < 4 → bb s s.S.Cells[k] m = true
   ·refine .inl ⟨?_, fun i h q => ?_⟩
    ·refine lpb_up rls.length (fun _ => True) (by decide) trivial (fun m hm _ => .inl ⟨?_, trivial⟩) (fun _ => ⟨.inr (), by simp, by rw [w64_nat]⟩)
     simp only [Int.ofNat_lt, hm, decide_true, if_true, ix_at hm, Option.bind_some, rule_at s _ hm]
     rw [hall m hm, if_neg (by simp), w64_nat (by have : m < 4 := hm; omega)]
    ·rcases Nat.lt_or_ge i k with q' | q'
     ·exact hP i h q'
     ·have : i = k := by omega
      subst this; exact hall
   ·refine .inr ⟨.inl false, ?_, ?_⟩
    ·obtain ⟨m, ⟨hm, hb⟩, hmin⟩ := exists_min (p := fun m => m < 4 ∧ bb s s.S.Cells[k] m = false) (by
      obtain ⟨m, q⟩ := Classical.not_forall.1 hall
      obtain ⟨h, q⟩ := Classical.not_forall.1 q
      exact ⟨m, h, by simpa using q⟩)
     refine lpb_up rls.length (fun j => j ≤ m) (by decide) (Nat.zero_le _) (fun j hj hP2 => ?_) (fun hP2 => by have : rls.length = 4 := rfl; omega)
     simp only [Int.ofNat_lt, hj, decide_true, if_true, ix_at hj, Option.bind_some, rule_at s _ hj]
     have hj4 : j < 4 := hj
     rcases Nat.lt_or_ge j m with g | g
     ·refine .inl ⟨?_, g⟩
      have : bb s s.S.Cells[k] j = true := by
       cases hq : bb s s.S.Cells[k] j
       ·have := hmin j ⟨hj4, hq⟩; omega
       ·rfl
      rw [this, if_neg (by simp), w64_nat]
     ·have : j = m := by omega
      subst this
      refine .inr ⟨.inl false, ?_, rfl⟩
      rw [hb, if_pos (by simp)]
    ·simp only
     rw [decide_eq_false (fun q : RtR (sO s) => hall fun m hm => (key.2 q).1 k hk m hm)]
  ·refine ⟨.inr (), by simp only [Int.lt_irrefl, decide_false, Bool.false_eq_true, if_false], ?_⟩
   simp only
   rw [differ s hl, Option.bind_some]
   congr 1
   rw [decide_eq_decide, ← key]
   exact ⟨fun q => ⟨fun i h => hP i h h, q⟩, fun q => q.2⟩
 ·rw [if_pos (by simp; omega)]
  rw [decide_eq_false (fun q : RtR (sO s) => h0 ⟨by simpa [sO] using q.len, q.l0, q.l9, q.ser⟩)]
end Go.Sh
namespace Go.Sh
set_option linter.unusedVariables false
set_option linter.unusedSimpArgs false
end Go.Sh
namespace Go.Sh
set_option linter.unusedVariables false
set_option linter.unusedSimpArgs false
noncomputable def lv (s : store_Store) : List Int := (store_Live s).getD []
def ob (s : store_Store) (h : Int) : store_Obj := ((store_Get s h).getD (z0, 0)).1
def outs (s : store_Store) (h : Int) : List Int := nz (ob s h).Fields
def FB (s : store_Store) : Prop := ∀ c ∈ s.S.Cells, ∀ x ∈ c.Val.Fields, x ≤ 9223372036854775807
section
variable {s : store_Store} (hR : RtR (sO s))
include hR
theorem lv_spec : store_Live s = some (lv s) ∧ (lv s).Perm (hnds 0 s.S.Cells) ∧ (lv s).Pairwise (fun a b => sk s.S.Cells a < sk s.S.Cells b) := by
 obtain ⟨l, h1, h2, h3⟩ := live_of hR
 have : lv s = l := by unfold lv; rw [h1]; rfl
 rw [this]
 exact ⟨h1, h2, h3⟩
theorem lv_live : store_Live s = some (lv s) := (lv_spec hR).1
theorem lv_mem {h : Int} : h ∈ lv s ↔ h ∈ hnds 0 s.S.Cells := (lv_spec hR).2.1.mem_iff
theorem lv_len : (lv s).length ≤ 24 := by
 rw [(lv_spec hR).2.1.length_eq]
 exact Nat.le_trans (hnds_len 0 s.S.Cells) (rt_len hR)
theorem lv_nodup : (lv s).Nodup := (lv_spec hR).2.1.nodup_iff.2 (hnds_nodup 0 _ (by have := (rt_len hR); omega))
theorem lv_get {h : Int} (hh : h ∈ lv s) : store_Get s h = some (ob s h, 0) := by
 obtain ⟨i, hi, _, _, _, _, e⟩ := hnds_fnd hR ((lv_mem hR).1 hh)
 unfold ob
 rw [e]
 rfl
theorem lv_fnd {h : Int} (hh : h ∈ lv s) : ∃ i, ∃ hi : i < s.S.Cells.length, s.S.Cells[i].State = 1 ∧ h = 1 + (i : Int) + 32 * s.S.Cells[i].Gen ∧ FndO s.S h i ∧ ob s h = s.S.Cells[i].Val := by
 obtain ⟨i, hi, h1, h2, h3, _, e⟩ := hnds_fnd hR ((lv_mem hR).1 hh)
 refine ⟨i, hi, h1, h2, h3, ?_⟩
 unfold ob
 rw [e]
 rfl
theorem lv_pos {h : Int} (hh : h ∈ lv s) : 1 ≤ h ∧ h ≤ 320 := by
 obtain ⟨i, hi, _, _, hf, _⟩ := lv_fnd hR hh
 exact hnd_le hf.2.1
theorem lv_no {h : Int} (hh : h ≤ 9223372036854775807) (hn : h ∉ lv s) : ∃ e, e ≠ 0 ∧ store_Get s h = some (z0, e) := by
 rcases find_cases_o s.S hh with ⟨i, hf, _⟩ | ⟨hf, _⟩
 ·obtain ⟨hi, e⟩ := get_of_o hf
  unfold store_Get
  rw [e]
  by_cases h2 : s.S.Cells[i].State = 2
  ·rw [if_pos h2]; exact ⟨3, by decide, rfl⟩
  ·exact absurd ((lv_mem hR).2 (fnd_hnds hf fun _ => hf.2.2.2.2.resolve_right h2)) hn
 ·unfold store_Get
  rw [get_no_o hh hf]
  exact ⟨_, err_ne_o h, rfl⟩
theorem ob_no {h : Int} (hh : h ≤ 9223372036854775807) (hn : h ∉ lv s) : ob s h = z0 := by
 obtain ⟨e, _, h1⟩ := lv_no hR hh hn
 unfold ob
 rw [h1]
 rfl
theorem get_ob {h : Int} (hh : h ≤ 9223372036854775807) : ∃ e, store_Get s h = some (ob s h, e) ∧ (e = 0 ↔ h ∈ lv s) := by
 by_cases q : h ∈ lv s
 ·exact ⟨0, lv_get hR q, by simp [q]⟩
 ·obtain ⟨e, h0, h1⟩ := lv_no hR hh q
  refine ⟨e, ?_, by simp [h0, q]⟩
  rw [h1, ob_no hR hh q]
theorem outs_no {h : Int} (hh : h ≤ 9223372036854775807) (hn : h ∉ lv s) : outs s h = [] := by
 unfold outs
 rw [ob_no hR hh hn]
 rfl
theorem ob_flen (h : Int) (hh : h ≤ 9223372036854775807) : (ob s h).Fields.length ≤ 4 := by
 by_cases q : h ∈ lv s
 ·obtain ⟨i, hi, h1, _, _, e⟩ := lv_fnd hR q
  rw [e]
  exact (rt_ok hR i hi (.inl h1)).2.2.2.2.2.2
 ·rw [ob_no hR hh q]
  exact Nat.zero_le _
theorem outs_len (h : Int) (hh : h ≤ 9223372036854775807) : (outs s h).length ≤ 4 := Nat.le_trans (nz_len _) (ob_flen hR h hh)
end
theorem outs_nz {s : store_Store} {h x : Int} (hx : x ∈ outs s h) : x ≠ 0 := (nz_mem.1 hx).2
theorem get06 (s : store_Store) (hl : s.S.Cells.length ≤ 1000) {h : Int} (hh : h ≤ 9223372036854775807) : r06_Get (sO s) h = (store_Get s h).map fun p => (oo p.1, p.2) := by
 unfold r06_Get store_Get slab_Get_store_Obj r03_Get
 rw [plain06 _ (by rw [sO_len]; exact hl), Option.bind_some, find06 s hh]
 rcases find_cases_o s.S hh with ⟨i, hf, e⟩ | ⟨hf, e⟩
 ·rw [e]
  have hi := hf.1
  simp only [Option.bind_some, bne_self_eq_false, Bool.false_eq_true, if_false]
  rw [pl_at (by rw [sO_len]; exact hi), ix_at hi]
  simp only [Option.bind_some, plc, sO, List.getElem_map, cO]
  split
  ·rfl
  ·simp only [Option.bind_some, bne_self_eq_false, Bool.false_eq_true, if_false]
   rw [ix_at (by simpa using hi)]
   simp [cO, oo]
 ·rw [e]
  simp only [Option.bind_some]
  have hne : ((if h = 0 then 2 else 3 : Int) != 0) = true := by simpa using err_ne_o h
  simp only [hne, if_true, Option.bind_some]
  rfl
end Go.Sh
namespace Go.Sh
set_option linter.unusedVariables false
set_option linter.unusedSimpArgs false
theorem sorted06 {s : store_Store} (hR : RtR (sO s)) {l : List Int} (hl : ∀ x ∈ l, x ∈ lv s) (hn : l.length ≤ 100) :
  ∃ m, r06_Sorted (sO s) l = some m ∧ m.Perm l ∧ m.Pairwise (fun a b => sk s.S.Cells a ≤ sk s.S.Cells b) := by
 have hfind : ∀ x ∈ l, ∃ i : Nat, ∃ hi : i < s.S.Cells.length, r03_Find (pl (sO s)) x = some ((i : Int), 0) ∧ s.S.Cells[i].Val.Serial = sk s.S.Cells x := fun x hx => by
  obtain ⟨i, hi, _, _, hf, h4, _⟩ := hnds_fnd hR ((lv_mem hR).1 (hl x hx))
  refine ⟨i, hi, ?_, h4.symm⟩
  rw [find06 s (by have := hnd_le hf.2.1; omega), find_of_o hf]
 unfold r06_Sorted
 rw [app_nil (by omega) (by omega), Option.bind_some]
 simp only [jn]
 let K : List Int → Nat → Int := fun o a => sk s.S.Cells (o.getD a 0)
 have hplain := plain06 (sO s) (by rw [sO_len]; have := rt_len hR; omega)
 have inner : ∀ (n : Nat) (o : List Int), n < l.length → o.Perm l → (∀ a b, a < b → b ≤ n → b ≠ n → K o a ≤ K o b) →
   ∃ o', lp (S := Int × (List Int)) (E := (List Int)) (fun ((s58, s59) : Int × (List Int)) =>
      if (decide (s58 > 0)) then
       (r06_Plain (sO s)).bind fun v62 =>
       (ix s59 (w64 (s58 - 1))).bind fun v63 =>
       (r03_Find v62 v63).bind fun v64 =>
       (ix s59 s58).bind fun v65 =>
       (r03_Find v62 v65).bind fun v66 =>
       (onlyIf (((decide (v64.1 < 0)) || (decide (v66.1 < 0))) == false) (⟨0, 0, ⟨0, 0, 0, 0, false, []⟩⟩ : r06_Cell) (ix (sO s).Cells v64.1)).bind fun v67 =>
       (onlyIf (((decide (v64.1 < 0)) || (decide (v66.1 < 0))) == false) (⟨0, 0, ⟨0, 0, 0, 0, false, []⟩⟩ : r06_Cell) (ix (sO s).Cells v66.1)).bind fun v68 =>
       if (((decide (v64.1 < 0)) || (decide (v66.1 < 0))) || (decide (v67.Val.Serial ≤ v68.Val.Serial))) then
        some (.inr s59)
       else
       (ix (s59.set (s58).toNat v63) (w64 (s58 - 1))).bind fun v69 =>
       some (.inl (w64 (s58 - 1), ((s59.set (s58).toNat v63).set (w64 (s58 - 1)).toNat v65)))
      else
      some (.inr s59)) ((n : Int), o) = some o' ∧ o'.Perm l ∧ ∀ a b, a < b → b ≤ n → K o' a ≤ K o' b := by
  intro n o hn' hp hk
  have hbn : (n : Int).toNat < 4611686018427387904 := by rw [Int.toNat_natCast]; omega
  refine lp_ind (s0 := ((n : Int), o)) (fun q => ∃ k : Nat, q.1 = (k : Int) ∧ k ≤ n ∧ q.2.Perm l ∧ ∀ a b, a < b → b ≤ n → b ≠ k → K q.2 a ≤ K q.2 b) (fun o' => o'.Perm l ∧ ∀ a b, a < b → b ≤ n → K o' a ≤ K o' b) (fun q => q.1.toNat) ⟨n, rfl, Nat.le_refl _, hp, hk⟩ hbn ?_
  rintro ⟨_, o⟩ ⟨k, rfl, hkn, hp, hk⟩
  simp only at hp hk ⊢
  have hol : o.length = l.length := hp.length_eq
  rcases Nat.eq_zero_or_pos k with rfl | hpos
  ·right
   refine ⟨o, by rw [if_neg (by simp)], hp, fun a b h1 h2 => hk a b h1 h2 (by omega)⟩
  ·obtain ⟨j, rfl⟩ : ∃ j, k = j + 1 := ⟨k - 1, by omega⟩
   have hj1 : j + 1 < o.length := by omega
   have hj : j < o.length := by omega
   have ew : w64 (((j + 1 : Nat) : Int) - 1) = (j : Int) := by rw [w64_in (by omega) (by omega)]; omega
   obtain ⟨ia, hia, fa, ka⟩ := hfind o[j] (hp.mem_iff.1 (List.getElem_mem hj))
   obtain ⟨ib, hib, fb, kb⟩ := hfind o[j + 1] (hp.mem_iff.1 (List.getElem_mem hj1))
   have ea : ix (sO s).Cells (ia : Int) = some (cO s.S.Cells[ia]) := by rw [sO_ix, ix_at hia]; rfl
   have eb : ix (sO s).Cells (ib : Int) = some (cO s.S.Cells[ib]) := by rw [sO_ix, ix_at hib]; rfl
   have hneg : ((decide ((ia : Int) < 0)) || (decide ((ib : Int) < 0))) = false := by simp
   have hpos' : decide (((j + 1 : Nat) : Int) > 0) = true := by simp
   simp only [hpos', if_true, hplain, ew, ix_at hj, ix_at hj1, Option.bind_some, fa, fb, hneg, beq_self_eq_true, onlyT, ea, eb, Bool.false_or, cO, oo, ka, kb, Int.toNat_natCast]
   have Kj : K o j = sk s.S.Cells o[j] := by simp [K, List.getD, List.getElem?_eq_getElem hj]
   have Kj1 : K o (j + 1) = sk s.S.Cells o[j + 1] := by simp [K, List.getD, List.getElem?_eq_getElem hj1]
   by_cases hle : sk s.S.Cells o[j] ≤ sk s.S.Cells o[j + 1]
   ·right
    refine ⟨o, by rw [if_pos (by simpa using hle)], hp, fun a b h1 h2 => ?_⟩
    by_cases e : b = j + 1
    ·subst e
     rcases Nat.lt_or_ge a j with q | q
     ·have := hk a j q (by omega) (by omega)
      omega
     ·have : a = j := by omega
      subst this
      omega
    ·exact hk a b h1 h2 e
   ·left
    refine ⟨_, by rw [if_neg (by simpa using hle), ix_at (by simpa using hj)]; rfl, ⟨j, rfl, by omega, ?_, fun a b h1 h2 h3 => ?_⟩, by show (j : Int).toNat < ((j + 1 : Nat) : Int).toNat; omega⟩
    ·exact (List.set_set_perm hj1 hj).trans hp
    ·have hK : ∀ c, K ((o.set (j + 1) o[j]).set j o[j + 1]) c = if c = j then K o (j + 1) else if c = j + 1 then K o j else K o c := fun c => by
      simp only [K, List.getD, List.getElem?_set, List.length_set]
      by_cases c1 : c = j
      ·subst c1; simp [hj, List.getElem?_eq_getElem hj1]
      ·by_cases c2 : c = j + 1
       ·subst c2; simp [hj1, List.getElem?_eq_getElem hj]
       ·rw [if_neg (by omega), if_neg (by omega), if_neg c1, if_neg c2]
     show K ((o.set (j + 1) o[j]).set ((j : Nat) : Int).toNat o[j + 1]) a ≤ K ((o.set (j + 1) o[j]).set ((j : Nat) : Int).toNat o[j + 1]) b
     rw [Int.toNat_natCast, hK, hK]
     by_cases a1 : a = j
     ·subst a1
      rw [if_pos rfl]
      by_cases b2 : b = a + 1
      ·subst b2
       rw [if_neg (by omega), if_pos rfl]
       omega
      ·rw [if_neg (by omega), if_neg b2]
       exact hk (a + 1) b (by omega) h2 b2
     ·rw [if_neg a1]
      by_cases a2 : a = j + 1
      ·subst a2
       rw [if_pos rfl, if_neg (by omega), if_neg (by omega)]
       exact hk j b (by omega) h2 (by omega)
      ·rw [if_neg a2, if_neg h3]
       by_cases b2 : b = j + 1
       ·subst b2
        rw [if_pos rfl]
        exact hk a j (by omega) (by omega) (by omega)
       ·rw [if_neg b2]
        exact hk a b h1 h2 b2
 have outer : ∃ m, (lp (S := Int × (List Int)) (E := (List Int)) (fun ((s38, s39) : Int × (List Int)) =>
   if (decide (s38 < (s39.length : Int))) then
     (lp (S := Int × (List Int)) (E := (List Int)) (fun ((s58, s59) : Int × (List Int)) =>
      if (decide (s58 > 0)) then
       (r06_Plain (sO s)).bind fun v62 =>
       (ix s59 (w64 (s58 - 1))).bind fun v63 =>
       (r03_Find v62 v63).bind fun v64 =>
       (ix s59 s58).bind fun v65 =>
       (r03_Find v62 v65).bind fun v66 =>
       (onlyIf (((decide (v64.1 < 0)) || (decide (v66.1 < 0))) == false) (⟨0, 0, ⟨0, 0, 0, 0, false, []⟩⟩ : r06_Cell) (ix (sO s).Cells v64.1)).bind fun v67 =>
       (onlyIf (((decide (v64.1 < 0)) || (decide (v66.1 < 0))) == false) (⟨0, 0, ⟨0, 0, 0, 0, false, []⟩⟩ : r06_Cell) (ix (sO s).Cells v66.1)).bind fun v68 =>
       if (((decide (v64.1 < 0)) || (decide (v66.1 < 0))) || (decide (v67.Val.Serial ≤ v68.Val.Serial))) then
        some (.inr s59)
       else
       (ix (s59.set (s58).toNat v63) (w64 (s58 - 1))).bind fun v69 =>
       some (.inl (w64 (s58 - 1), ((s59.set (s58).toNat v63).set (w64 (s58 - 1)).toNat v65)))
      else
      some (.inr s59)) (s38, s39)).bind fun e57 =>
     some (.inl (w64 (s38 + 1), e57))
   else
   some (.inr s39)) (1, l)) = some m ∧ m.Perm l ∧ m.Pairwise (fun a b => sk s.S.Cells a ≤ sk s.S.Cells b) := by
  have hb1 : l.length + 1 - (1 : Int).toNat < 4611686018427387904 := by omega
  refine lp_ind (s0 := ((1 : Int), l)) (fun q => ∃ k : Nat, q.1 = (k : Int) ∧ (k ≤ l.length ∨ k = 1) ∧ 1 ≤ k ∧ q.2.Perm l ∧ ∀ a b, a < b → b < k → K q.2 a ≤ K q.2 b) (fun (o' : List Int) => o'.Perm l ∧ o'.Pairwise (fun a b => sk s.S.Cells a ≤ sk s.S.Cells b)) (fun q => l.length + 1 - q.1.toNat) ⟨1, rfl, .inr rfl, by omega, List.Perm.refl _, fun a b h1 h2 => by omega⟩ hb1 ?_
  rintro ⟨_, o⟩ ⟨k, rfl, hkl, hk1, hp, hk⟩
  simp only at hp hk ⊢
  have hol : o.length = l.length := hp.length_eq
  rcases Nat.lt_or_ge k l.length with h1 | h1
  ·left
   obtain ⟨o', e1, e2, e3⟩ := inner k o h1 hp fun a b x1 x2 x3 => hk a b x1 (by omega)
   refine ⟨(((k + 1 : Nat) : Int), o'), ?_, ⟨k + 1, rfl, by omega, by omega, e2, fun a b x1 x2 => e3 a b x1 (by omega)⟩, by show l.length + 1 - ((k + 1 : Nat) : Int).toNat < l.length + 1 - (k : Int).toNat; omega⟩
   rw [if_pos (by simp; omega), e1, Option.bind_some, w64_nat (by omega)]
  ·right
   refine ⟨o, by rw [if_neg (by simp; omega)], hp, ?_⟩
   rw [List.pairwise_iff_getElem]
   intro i j hi hj hij
   have := hk i j hij (by omega)
   simpa [K, List.getD, List.getElem?_eq_getElem hi, List.getElem?_eq_getElem hj] using this
 obtain ⟨m, e1, e2, e3⟩ := outer
 exact ⟨m, by rw [show lp _ _ = _ from e1]; rfl, e2, e3⟩
theorem live06 {s : store_Store} (hR : RtR (sO s)) : r06_Live (sO s) = some (lv s) := by
 have hlen := rt_len hR
 unfold r06_Live
 simp only [jn]
 have hloop : lp (S := Int × (List Int)) (E := (List Int)) (fun ((s18, s19) : Int × (List Int)) =>
   if (decide (s18 < ((sO s).Cells.length : Int))) then
     (ix (sO s).Cells s18).bind fun v27 =>
     if (v27.State == 1) then
      (r01_Pack s18 v27.Gen).bind fun v28 =>
      (app 8 s19 [v28]).bind fun v29 =>
      some (.inl (w64 (s18 + 1), v29))
     else
     some (.inl (w64 (s18 + 1), s19))
   else
   some (.inr s19)) (0, []) = some (hnds 0 s.S.Cells) := by
  refine some_of (lp_upS (T := List Int) s.S.Cells.length (fun k l => l = hnds 0 (s.S.Cells.take k)) (fun e => e = hnds 0 s.S.Cells) (by omega) (by simp [hnds]) (fun k l hk hP => ?_) (fun l hP => ?_))
  ·subst hP
   left
   have hc := (rt_slb hR).gen k hk
   have hl := hnds_len 0 (s.S.Cells.take k)
   have et : s.S.Cells.take (k + 1) = s.S.Cells.take k ++ [s.S.Cells[k]] := by rw [List.take_add_one, List.getElem?_eq_getElem hk]; rfl
   have el : (s.S.Cells.take k).length = k := by simp; omega
   refine ⟨_, ?_, rfl⟩
   simp only [sO_len, Int.ofNat_lt, hk, decide_true, if_true, sO_ix, ix_at hk, Option.map_some, Option.bind_some, cO]
   rw [et, hnds_snoc, el, Nat.zero_add]
   by_cases q : s.S.Cells[k].State = 1
   ·rw [if_pos (by simpa using q), if_pos q, r01_Pack_eq, Option.bind_some, if_pos (by omega), app_ok (by omega) (by simp; omega), Option.bind_some, w64_nat]
   ·rw [if_neg (by simpa using q), if_neg q, w64_nat, List.append_nil]
  ·subst hP
   refine ⟨_, by simp only [sO_len, Int.lt_irrefl, decide_false, Bool.false_eq_true, if_false]; rfl, by simp⟩
 rw [show lp _ _ = _ from hloop, Option.bind_some]
 obtain ⟨m, h1, h2, h3⟩ := sorted06 hR (l := hnds 0 s.S.Cells) (fun x hx => (lv_mem hR).2 hx) (by have := hnds_len 0 s.S.Cells; omega)
 rw [h1, Option.bind_some]
 congr 1
 obtain ⟨_, l2, l3⟩ := lv_spec hR
 exact sorted_one (key := sk s.S.Cells) (h2.trans l2.symm) h3 (l3.imp fun h => by omega) fun a ha b hb e => sk_inj hR (h2.mem_iff.1 ha) (h2.mem_iff.1 hb) e
end Go.Sh
namespace Go.Sh
set_option linter.unusedVariables false
set_option linter.unusedSimpArgs false
theorem names_eq (v : List Int) (h : v.length ≤ 1000000) : vec_Names v = some (nz v) := by
 unfold vec_Names vec_named
 simp only [jn, Option.bind_some]
 rw [lp_foldl v (fun b x => if x != 0 then b ++ [x] else b) id (fun k b => b.length ≤ k) (by omega) (by simp) (fun k hk b hb => ?_) (fun b _ => ?_)]
 ·simp only [Option.bind_some, id]
  rw [foldl_filter]
  rfl
 ·simp only [Int.ofNat_lt, hk, decide_true, if_true, ix_at hk, Option.bind_some]
  by_cases q : (v[k] != 0) = true
  ·rw [if_pos (by simpa using q), if_pos q, app_ok (by omega) (by simp; omega), Option.bind_some, w64_nat]
   exact ⟨rfl, by simp; omega⟩
  ·rw [if_neg (by simpa using q), if_neg q, w64_nat]
   exact ⟨rfl, by omega⟩
 ·simp only [Int.lt_irrefl, decide_false, Bool.false_eq_true, if_false]
  rfl
theorem names05_eq (v : List Int) (h : v.length ≤ 1000000) : r05_Names v = some (nz v) := by
 unfold r05_Names
 simp only [jn]
 rw [lp_foldl v (fun b x => if x != 0 then b ++ [x] else b) id (fun k b => b.length ≤ k) (by omega) (by simp) (fun k hk b hb => ?_) (fun b _ => ?_)]
 ·simp only [Option.bind_some, id]
  rw [foldl_filter]
  rfl
 ·simp only [Int.ofNat_lt, hk, decide_true, if_true, ix_at hk, Option.bind_some]
  by_cases q : (v[k] != 0) = true
  ·rw [if_pos q, if_pos q, app_ok (by omega) (by simp; omega), Option.bind_some, w64_nat]
   exact ⟨rfl, by simp; omega⟩
  ·rw [if_neg q, if_neg q, w64_nat]
   exact ⟨rfl, by omega⟩
 ·simp only [Int.lt_irrefl, decide_false, Bool.false_eq_true, if_false]
  rfl
theorem times07_eq (l : List Int) (h : Int) (hl : l.length ≤ 1000000) : r07_Times l h = some (tms l h : Int) := by
 unfold r07_Times
 simp only [jn]
 rw [lp_foldlR l (fun (b : Int) x => if (x == h && h != 0) then b + 1 else b) id (fun k b => 0 ≤ b ∧ b ≤ k) (by omega) (by simp) (fun k hk b hb => ?_) (fun b _ => ?_)]
 ·simp only [Option.bind_some, id]
  rw [foldl_count]
  simp
 ·simp only [Int.ofNat_lt, hk, decide_true, if_true, ix_at hk, Option.bind_some]
  by_cases q : (l[k] == h && h != 0) = true
  ·rw [if_pos q, if_pos q, w64_nat, w64_in (n := b + 1) (by omega) (by omega)]
   exact ⟨rfl, by omega⟩
  ·rw [if_neg q, if_neg q, w64_nat]
   exact ⟨rfl, by omega⟩
 ·simp only [Int.lt_irrefl, decide_false, Bool.false_eq_true, if_false]
  rfl
theorem count_eq (l : List Int) (h : Int) (hl : l.length ≤ 1000000) : vec_Count l h = some (tms l h : Int) := by
 unfold vec_Count vec_named
 simp only [jn, Option.bind_some]
 rw [lp_foldl l (fun (b : Int) x => if (x == h && h != 0) then b + 1 else b) id (fun k b => 0 ≤ b ∧ b ≤ k) (by omega) (by simp) (fun k hk b hb => ?_) (fun b _ => ?_)]
 ·simp only [Option.bind_some, id]
  rw [foldl_count]
  simp
 ·simp only [Int.ofNat_lt, hk, decide_true, if_true, ix_at hk, Option.bind_some, Bool.and_false, Bool.false_eq_true, if_false]
  by_cases q0 : l[k] = 0
  ·have e1 : ((l[k] != 0) == true) = false := by simp [q0]
   have e2 : (l[k] == h && h != 0) = false := by rw [Bool.eq_false_iff]; simp only [ne_eq, Bool.and_eq_true, beq_iff_eq, bne_iff_ne]; omega
   rw [e1, e2, w64_nat]
   exact ⟨rfl, by simp; omega⟩
  ·have e1 : ((l[k] != 0) == true) = true := by simp [q0]
   rw [e1, if_pos rfl]
   by_cases q : l[k] = h
   ·have e2 : (l[k] == h && h != 0) = true := by simp only [Bool.and_eq_true, beq_iff_eq, bne_iff_ne]; omega
    rw [e2, if_pos (by simpa using q), if_pos rfl, w64_nat, w64_in (n := b + 1) (by omega) (by omega)]
    exact ⟨rfl, by omega⟩
   ·have e2 : (l[k] == h && h != 0) = false := by rw [Bool.eq_false_iff]; simp only [ne_eq, Bool.and_eq_true, beq_iff_eq, bne_iff_ne]; omega
    rw [e2, if_neg (by simpa using q), w64_nat]
    exact ⟨rfl, by simp; omega⟩
 ·simp only [Int.lt_irrefl, decide_false, Bool.false_eq_true, if_false]
  rfl
theorem times_eq (l : List Int) (h : Int) (hl : l.length ≤ 1000000) : refs_Times l h = some (tms l h : Int) := by
 unfold refs_Times
 rw [count_eq l h hl]
 rfl
noncomputable def inn (s : store_Store) (h : Int) : Nat := ((lv s).map fun x => tms (outs s x) h).sum
theorem lv_in {s : store_Store} (hR : RtR (sO s)) {k : Nat} (hk : k < (lv s).length) : (lv s)[k] ≤ 9223372036854775807 := by
 have := lv_pos hR (List.getElem_mem hk)
 omega
section
variable {s : store_Store} (hR : RtR (sO s))
include hR
theorem out_eq {h : Int} (hh : h ≤ 9223372036854775807) : refs_Out s h = some (outs s h) := by
 obtain ⟨e, h1, _⟩ := get_ob hR hh
 unfold refs_Out
 rw [h1, Option.bind_some, names_eq _ (by have := ob_flen hR h hh; simp only; omega)]
 rfl
theorem out07_eq {h : Int} (hh : h ≤ 9223372036854775807) : r07_Out (sO s) h = some (outs s h) := by
 unfold r07_Out
 rw [get06 s (by have := rt_len hR; omega) hh]
 obtain ⟨e, h1, h2⟩ := get_ob hR hh
 rw [h1]
 simp only [Option.map_some, Option.bind_some]
 by_cases q : e = 0
 ·subst q
  rw [if_neg (by simp), names05_eq _ (by have := ob_flen hR h hh; simp only [oo]; omega)]
  rfl
 ·rw [if_pos (by simpa using q), outs_no hR hh (fun q' => q (h2.2 q'))]
theorem inn_le (h : Int) : inn s h ≤ 96 := by
 have := sum_le (fun x => tms (outs s x) h) 4 (lv s) fun x hx => Nat.le_trans (tms_le _ _) (outs_len hR x (by have := lv_pos hR hx; omega))
 have := lv_len hR
 unfold inn
 omega
theorem in_eq (h : Int) : refs_In s h = some (inn s h : Int) := by
 unfold refs_In refs_edges
 simp only [jn, Option.bind_some]
 rw [show store_Live s = _ from lv_live hR, Option.bind_some]
 have hl := lv_len hR
 rw [lp_foldl (lv s) (fun (b : Int) x => b + (tms (outs s x) h : Int)) id (fun k b => 0 ≤ b ∧ b ≤ 4 * k) (by omega) (by simp) (fun k hk b hb => ?_) (fun b _ => ?_)]
 ·simp only [Option.bind_some, id]
  have := foldl_sumN (fun x => tms (outs s x) h) (lv s) 0
  rw [show ((0 : Nat) : Int) = 0 from rfl] at this
  rw [this, Nat.zero_add]
  rfl
 ·have ho := out_eq hR (lv_in hR hk)
  have hol := outs_len hR _ (lv_in hR hk)
  have ht := tms_le (outs s (lv s)[k]) h
  simp only [Int.ofNat_lt, hk, decide_true, if_true, ix_at hk, Option.bind_some, ho]
  rw [lp_foldl (outs s (lv s)[k]) (fun (b : Int) x => if (x == h && h != 0) then b + 1 else b) id (fun j c => b ≤ c ∧ c ≤ b + j) (by omega) (by simp) (fun j hj c hc => ?_) (fun c _ => ?_)]
  ·simp only [Option.bind_some, id]
   rw [foldl_count, w64_nat]
   exact ⟨rfl, by omega⟩
  ·simp only [Int.ofNat_lt, hj, decide_true, if_true, ix_at hj, Option.bind_some]
   have hne := outs_nz (List.getElem_mem hj)
   by_cases q : (outs s (lv s)[k])[j] = h
   ·have e2 : ((outs s (lv s)[k])[j] == h && h != 0) = true := by simp only [Bool.and_eq_true, beq_iff_eq, bne_iff_ne]; omega
    rw [e2, if_pos (by simpa using q), if_pos rfl, w64_nat, w64_in (n := c + 1) (by omega) (by omega)]
    exact ⟨rfl, by omega⟩
   ·have e2 : ((outs s (lv s)[k])[j] == h && h != 0) = false := by rw [Bool.eq_false_iff]; simp only [ne_eq, Bool.and_eq_true, beq_iff_eq, bne_iff_ne]; omega
    rw [e2, if_neg (by simpa using q), w64_nat]
    exact ⟨rfl, by simp; omega⟩
  ·simp only [Int.lt_irrefl, decide_false, Bool.false_eq_true, if_false]
   rfl
 ·simp only [Int.lt_irrefl, decide_false, Bool.false_eq_true, if_false]
  rfl
theorem in07_eq (h : Int) : r07_In (sO s) h = some (inn s h : Int) := by
 unfold r07_In
 simp only [jn, live06 hR, Option.bind_some]
 have hl := lv_len hR
 rw [lp_foldlR (lv s) (fun (b : Int) x => b + (tms (outs s x) h : Int)) id (fun k b => 0 ≤ b ∧ b ≤ 4 * k) (by omega) (by simp) (fun k hk b hb => ?_) (fun b _ => ?_)]
 ·simp only [Option.bind_some, id]
  have := foldl_sumN (fun x => tms (outs s x) h) (lv s) 0
  rw [show ((0 : Nat) : Int) = 0 from rfl] at this
  rw [this, Nat.zero_add]
  rfl
 ·have hol := outs_len hR _ (lv_in hR hk)
  have ht := tms_le (outs s (lv s)[k]) h
  simp only [Int.ofNat_lt, hk, decide_true, if_true, ix_at hk, Option.bind_some, out07_eq hR (lv_in hR hk)]
  rw [times07_eq _ _ (by omega), Option.bind_some, w64_nat, w64_in (by omega) (by omega)]
  exact ⟨rfl, by omega⟩
 ·simp only [Int.lt_irrefl, decide_false, Bool.false_eq_true, if_false]
  rfl
end
end Go.Sh
namespace Go.Sh
set_option linter.unusedVariables false
set_option linter.unusedSimpArgs false
section
variable {s : store_Store} (hR : RtR (sO s)) (hF : FB s)
include hR hF
end
theorem filter_split {α : Type} (p : α → Bool) : ∀ l : List α, l.length = (l.filter p).length + (l.filter fun x => !p x).length
 | [] => rfl
 | x :: l => by
  have := filter_split p l
  by_cases h : p x
  ·simp [h]; omega
  ·simp [h]; omega
theorem lv_of {s : store_Store} (hR : RtR (sO s)) {l : List Int} (hp : l.Perm (hnds 0 s.S.Cells)) (hs : l.Pairwise (fun a b => sk s.S.Cells a < sk s.S.Cells b)) : lv s = l := by
 obtain ⟨_, l2, l3⟩ := lv_spec hR
 exact sorted_one (key := sk s.S.Cells) (l2.trans hp.symm) (l3.imp fun h => by omega) (hs.imp fun h => by omega) fun a ha b hb e => sk_inj hR (l2.mem_iff.1 ha) (l2.mem_iff.1 hb) e
end Go.Sh
namespace Go.Sh
set_option linter.unusedVariables false
set_option linter.unusedSimpArgs false
inductive Rch (s : store_Store) (l : List Int) : Int → Prop
 | base {h : Int} : h ∈ l → h ∈ lv s → Rch s l h
 | step {a b : Int} : Rch s l a → b ∈ outs s a → b ∈ lv s → Rch s l b
def LB (l : List Int) : Prop := ∀ x ∈ l, x ≤ 9223372036854775807
theorem Rch.live {s : store_Store} {l : List Int} {h : Int} (q : Rch s l h) : h ∈ lv s := by cases q <;> assumption
theorem filter_lt {α : Type} {p q : α → Bool} : ∀ {l : List α}, (∀ x ∈ l, p x = true → q x = true) → ∀ x ∈ l, q x = true → p x = false → (l.filter p).length < (l.filter q).length
 | [], _, x, hx, _, _ => by cases hx
 | y :: l, h, x, hx, h1, h2 => by
  have hle : (l.filter p).length ≤ (l.filter q).length := by
   have h' : ∀ x ∈ l, p x = true → q x = true := fun x hx => h x (List.mem_cons_of_mem _ hx)
   clear h hx
   induction l with
   | nil => simp
   | cons z l ih =>
    have := ih fun x hx => h' x (List.mem_cons_of_mem _ hx)
    have hz := h' z (List.mem_cons_self ..)
    simp only [List.filter_cons]
    by_cases a : p z = true
    ·rw [if_pos a, if_pos (hz a)]; simp only [List.length_cons]; omega
    ·rw [if_neg a]; split <;> (try simp only [List.length_cons]) <;> omega
  rcases List.mem_cons.1 hx with rfl | hx'
  ·simp only [List.filter_cons, h1, h2, if_true, Bool.false_eq_true, if_false, List.length_cons]
   omega
  ·have := filter_lt (fun x hx => h x (List.mem_cons_of_mem _ hx)) x hx' h1 h2
   have hy := h y (List.mem_cons_self ..)
   simp only [List.filter_cons]
   by_cases a : p y = true
   ·rw [if_pos a, if_pos (hy a)]; simp only [List.length_cons]; omega
   ·rw [if_neg a]; split <;> (try simp only [List.length_cons]) <;> omega
theorem nodup_le {l m : List Int} (hn : l.Nodup) (h : ∀ x ∈ l, x ∈ m) : l.length ≤ m.length := by
 induction l generalizing m with
 | nil => simp
 | cons x l ih =>
  rw [List.nodup_cons] at hn
  have hx := h x (List.mem_cons_self ..)
  have := ih (m := m.erase x) hn.2 fun y hy => (List.mem_erase_of_ne (fun e => hn.1 (by subst e; exact hy))).2 (h y (List.mem_cons_of_mem _ hy))
  rw [List.length_erase_of_mem hx] at this
  have : 0 < m.length := List.length_pos_of_mem hx
  simp only [List.length_cons]
  omega
section
variable {s : store_Store} (hR : RtR (sO s))
include hR
end
end Go.Sh
namespace Go.Sh
set_option linter.unusedVariables false
set_option linter.unusedSimpArgs false
theorem index_eq (l : List Int) (x : Int) (hl : l.length ≤ 1000000) : ∃ r : Int, slices_Index_int_int l x = some r ∧ (0 ≤ r ↔ x ∈ l) := by
 unfold slices_Index_int_int
 simp only [jn]
 by_cases h : x ∈ l
 ·obtain ⟨i, hi, e⟩ := List.mem_iff_getElem.1 h
  obtain ⟨j, ⟨hj, ej⟩, hmin⟩ := exists_min (p := fun i => ∃ hi : i < l.length, l[i] = x) ⟨i, hi, e⟩
  refine ⟨(j : Int), ?_, by simp [h]⟩
  refine lpb_up l.length (fun k => k ≤ j) (by omega) (Nat.zero_le _) (fun k hk hP => ?_) (fun hP => by omega)
  simp only [Int.ofNat_lt, hk, decide_true, if_true, ix_at hk, Option.bind_some]
  rcases Nat.lt_or_ge k j with q | q
  ·refine .inl ⟨?_, q⟩
   rw [if_neg (by
    rw [beq_iff_eq]
    intro e
    have := hmin k ⟨hk, e.symm⟩
    omega), w64_nat]
  ·have : k = j := by omega
   subst this
   exact .inr ⟨_, by rw [if_pos (by simpa using ej.symm)], rfl⟩
 ·refine ⟨-1, ?_, by simp [h]⟩
  refine lpb_up l.length (fun k => True) (by omega) trivial (fun k hk hP => .inl ⟨?_, trivial⟩) (fun hP => ⟨.inr (), by simp, rfl⟩)
  simp only [Int.ofNat_lt, hk, decide_true, if_true, ix_at hk, Option.bind_some]
  rw [if_neg (by
   rw [beq_iff_eq]
   intro e
   exact h (e ▸ List.getElem_mem hk)), w64_nat]
theorem contains_eq (l : List Int) (x : Int) (hl : l.length ≤ 1000000) : slices_Contains_int_int l x = some (decide (x ∈ l)) := by
 obtain ⟨r, h1, h2⟩ := index_eq l x hl
 unfold slices_Contains_int_int
 rw [h1, Option.bind_some]
 congr 1
 exact decide_eq_decide.2 h2
theorem has08_eq (l : List Int) (x : Int) (hl : l.length ≤ 1000000) : r08_Has l x = some (decide (x ≠ 0 ∧ x ∈ l)) := by
 unfold r08_Has
 rw [times07_eq l x hl, Option.bind_some]
 congr 1
 rw [decide_eq_decide, ← tms_pos]
 omega
section
variable {s : store_Store} (hR : RtR (sO s))
include hR
end
end Go.Sh
namespace Go.Sh
set_option linter.unusedVariables false
set_option linter.unusedSimpArgs false
abbrev Tb := List hash_Place
abbrev hpl (p : hash_Place) : r10_Place := ⟨p.State, p.Key, p.Val⟩
def pt (t : Tb) (j : Nat) : hash_Place := t.getD j ⟨0, 0, 0⟩
theorem pt_lt {t : Tb} {j : Nat} (h : j < t.length) : pt t j = t[j] := by unfold pt; rw [List.getD_eq_getElem?_getD, List.getElem?_eq_getElem h]; rfl
theorem ix_pt {t : Tb} {j : Nat} (h : j < t.length) : ix t (j : Int) = some (pt t j) := by rw [ix_at h, pt_lt h]
theorem pt_set {t : Tb} {i : Nat} (h : i < t.length) (p : hash_Place) (j : Nat) : pt (t.set i p) j = if j = i then p else pt t j := by
 unfold pt
 rw [List.getD_eq_getElem?_getD, List.getD_eq_getElem?_getD, List.getElem?_set]
 by_cases e : i = j
 ·subst e; simp [h]
 ·rw [if_neg e, if_neg (Ne.symm e)]
def hm (n : Nat) (k : Int) : Nat := (w64 ((w64 (5 * k)) + 1) % (n : Int)).toNat
theorem hm_lt {n : Nat} (h : 1 ≤ n) (k : Int) : hm n k < n := by
 unfold hm
 have h1 := Int.emod_nonneg (w64 ((w64 (5 * k)) + 1)) (show (n : Int) ≠ 0 by omega)
 have h2 := Int.emod_lt_of_pos (w64 ((w64 (5 * k)) + 1)) (show (0 : Int) < n by omega)
 omega
theorem home_eq {n : Nat} (h : 1 ≤ n) (h2 : n ≤ 1000) (k : Int) : hash_Home n k = some (hm n k : Int) := by
 unfold hash_Home hm
 rw [if_neg (by simp; omega)]
 generalize w64 ((w64 (5 * k)) + 1) = a
 have hp := Int.emod_nonneg a (show (n : Int) ≠ 0 by omega)
 have hl := Int.emod_lt_of_pos a (show (0 : Int) < n by omega)
 unfold rem
 rw [if_neg (by omega), Option.bind_some, Int.toNat_of_nonneg hp]
 rw [Int.tmod_eq_emod]
 split
 ·rw [show a % (n : Int) - ((0 : Nat) : Int) = a % n by simp, if_neg (by simp; omega)]
 ·have : ((n : Int).natAbs : Int) = n := by simp
  rw [this]
  rw [if_pos (by simp; omega), w64_in (by omega) (by omega)]
  congr 1
  omega
def pos (n : Nat) (k : Int) (d : Nat) : Nat := (hm n k + d) % n
theorem pos_lt {n : Nat} (h : 1 ≤ n) (k : Int) (d : Nat) : pos n k d < n := Nat.mod_lt _ h
theorem upto8 {n : Nat} (h : 1 ≤ n) (h8 : n ≤ 8) : n = 1 ∨ n = 2 ∨ n = 3 ∨ n = 4 ∨ n = 5 ∨ n = 6 ∨ n = 7 ∨ n = 8 := by omega
theorem mod_surj {n m i : Nat} (h : 1 ≤ n) (h8 : n ≤ 8) (hm : m < n) (hi : i < n) : ∃ d, d < n ∧ (m + d) % n = i := by
 refine ⟨(i + n - m) % n, Nat.mod_lt _ h, ?_⟩
 rcases upto8 h h8 with rfl | rfl | rfl | rfl | rfl | rfl | rfl | rfl <;> omega
theorem mod_inj {n m d d' : Nat} (h : 1 ≤ n) (h8 : n ≤ 8) (hd : d < n) (hd' : d' < n) (e : (m + d) % n = (m + d') % n) : d = d' := by
 rcases upto8 h h8 with rfl | rfl | rfl | rfl | rfl | rfl | rfl | rfl <;> omega
theorem pos_surj {n : Nat} (h : 1 ≤ n) (h8 : n ≤ 8) (k : Int) {i : Nat} (hi : i < n) : ∃ d, d < n ∧ pos n k d = i := mod_surj h h8 (hm_lt h k) hi
theorem pos_inj {n : Nat} (h : 1 ≤ n) (h8 : n ≤ 8) {k : Int} {d d' : Nat} (hd : d < n) (hd' : d' < n) (e : pos n k d = pos n k d') : d = d' := mod_inj h h8 hd hd' e
structure HR (t : Tb) : Prop where
 l1 : 1 ≤ t.length
 l8 : t.length ≤ 8
 st : ∀ i, i < t.length → ((pt t i).State = 0 ∨ (pt t i).State = 1 ∨ (pt t i).State = 2) ∧ ((pt t i).State ≠ 1 → (pt t i).Key = 0 ∧ (pt t i).Val = 0)
 uq : ∀ i j, i < t.length → j < t.length → (pt t i).State = 1 → (pt t j).State = 1 → (pt t i).Key = (pt t j).Key → i = j
 rd : ∀ i, i < t.length → (pt t i).State = 1 → ∀ d, d < t.length → (∀ d', d' ≤ d → pos t.length (pt t i).Key d' ≠ i) → (pt t (pos t.length (pt t i).Key d)).State ≠ 0
def Fk (t : Tb) (k : Int) (i : Nat) : Prop := i < t.length ∧ (pt t i).State = 1 ∧ (pt t i).Key = k
instance (t : Tb) (k : Int) (i : Nat) : Decidable (Fk t k i) := by unfold Fk; infer_instance
theorem step_eq {n : Nat} (h : 1 ≤ n) (h2 : n ≤ 1000) (k : Int) {d : Nat} (hd : d < n) : rem (w64 ((hm n k : Int) + d)) n = some ((pos n k d : Nat) : Int) := by
 have := hm_lt h k
 rw [w64_in (by omega) (by omega), rem_pos (by omega) (by omega)]
 unfold pos
 simp [Int.natCast_emod]
theorem find_walk {t : Tb} (h1 : 1 ≤ t.length) (h8 : t.length ≤ 8) (k : Int) :
  (∃ d, d < t.length ∧ (∀ j, j < d → (pt t (pos t.length k j)).State ≠ 0 ∧ ¬ Fk t k (pos t.length k j)) ∧ Fk t k (pos t.length k d) ∧ hash_Find t k = some ((pos t.length k d : Nat) : Int)) ∨
  (∃ d, d ≤ t.length ∧ (∀ j, j < d → (pt t (pos t.length k j)).State ≠ 0 ∧ ¬ Fk t k (pos t.length k j)) ∧ (d = t.length ∨ (pt t (pos t.length k d)).State = 0) ∧ hash_Find t k = some (-1)) := by
 unfold hash_Find
 simp only [jn, hash_road, Option.bind_some]
 generalize hq : (lp (S := Int) (E := Int ⊕ Unit) _ 0) = q
 have body : ∀ d : Nat, d < t.length → (if (decide ((d : Int) < (t.length : Int))) then
    (hash_Home (t.length : Int) k).bind fun v14 =>
    (rem (w64 (v14 + d)) (t.length : Int)).bind fun v15 =>
    (ix t v15).bind fun v16 =>
    if (v16.State == 0) then
     some (.inr (.inr ()))
    else
    if ((v16.State == 1) && (v16.Key == k)) then
     some (.inr (.inl v15))
    else
    some (.inl (w64 ((d : Int) + 1)))
   else
   some (.inr (.inr ())) : Option (Int ⊕ (Int ⊕ Unit))) = if (pt t (pos t.length k d)).State = 0 then some (.inr (.inr ())) else if Fk t k (pos t.length k d) then some (.inr (.inl ((pos t.length k d : Nat) : Int))) else some (.inl ((d + 1 : Nat) : Int)) := fun d hd => by
  have hp := pos_lt h1 k d
  rw [if_pos (by simpa using hd), home_eq h1 (by omega), Option.bind_some, step_eq h1 (by omega) k hd, Option.bind_some, ix_pt hp, Option.bind_some, w64_nat (by omega)]
  by_cases a : (pt t (pos t.length k d)).State = 0
  ·rw [if_pos (by simpa using a), if_pos a]
  ·rw [if_neg (by simpa using a), if_neg a]
   by_cases b : Fk t k (pos t.length k d)
   ·rw [if_pos (by simp [b.2.1, b.2.2]), if_pos b]
   ·rw [if_neg (by simp; exact fun h1 h2 => b ⟨hp, h1, h2⟩), if_neg b]
 have key := lp_up (f := fun (s12 : Int) => if (decide (s12 < (t.length : Int))) then
    (hash_Home (t.length : Int) k).bind fun v14 =>
    (rem (w64 (v14 + s12)) (t.length : Int)).bind fun v15 =>
    (ix t v15).bind fun v16 =>
    if (v16.State == 0) then
     some (.inr (.inr ()))
    else
    if ((v16.State == 1) && (v16.Key == k)) then
     some (.inr (.inl v15))
    else
    some (.inl (w64 (s12 + 1)))
   else
   some (.inr (.inr ()))) t.length (fun d => ∀ j, j < d → (pt t (pos t.length k j)).State ≠ 0 ∧ ¬ Fk t k (pos t.length k j))
   (fun (e : Int ⊕ Unit) => (∃ d, d < t.length ∧ (∀ j, j < d → (pt t (pos t.length k j)).State ≠ 0 ∧ ¬ Fk t k (pos t.length k j)) ∧ Fk t k (pos t.length k d) ∧ e = .inl ((pos t.length k d : Nat) : Int)) ∨
    (∃ d, d ≤ t.length ∧ (∀ j, j < d → (pt t (pos t.length k j)).State ≠ 0 ∧ ¬ Fk t k (pos t.length k j)) ∧ (d = t.length ∨ (pt t (pos t.length k d)).State = 0) ∧ e = .inr ())) (by omega) (fun j hj => by omega)
   (fun d hd hP => by
    rw [body d hd]
    by_cases a : (pt t (pos t.length k d)).State = 0
    ·rw [if_pos a]
     exact .inr ⟨_, rfl, .inr ⟨d, by omega, hP, .inr a, rfl⟩⟩
    ·rw [if_neg a]
     by_cases b : Fk t k (pos t.length k d)
     ·rw [if_pos b]
      exact .inr ⟨_, rfl, .inl ⟨d, hd, hP, b, rfl⟩⟩
     ·rw [if_neg b]
      refine .inl ⟨rfl, fun j hj => ?_⟩
      rcases Nat.lt_or_ge j d with q | q
      ·exact hP j q
      ·have : j = d := by omega
       subst this; exact ⟨a, b⟩)
   (fun hP => ⟨.inr (), by simp, .inr ⟨t.length, Nat.le_refl _, hP, .inl rfl, rfl⟩⟩)
 obtain ⟨e, he, hQ⟩ := key
 rw [he] at hq
 subst hq
 rcases hQ with ⟨d, a1, a2, a3, rfl⟩ | ⟨d, a1, a2, a3, rfl⟩
 ·exact .inl ⟨d, a1, a2, a3, rfl⟩
 ·exact .inr ⟨d, a1, a2, a3, rfl⟩
theorem find_of {t : Tb} (hR : HR t) {k : Int} {i : Nat} (hi : Fk t k i) : hash_Find t k = some (i : Int) := by
 obtain ⟨di, hdi, hpi⟩ := pos_surj hR.l1 hR.l8 k hi.1
 have road : ∀ d, d < di → (pt t (pos t.length k d)).State ≠ 0 := fun d hd => by
  have := hR.rd i hi.1 hi.2.1 d (by omega) (fun d' hd' e => by
   rw [hi.2.2] at e
   have := pos_inj hR.l1 hR.l8 (by omega) hdi (e.trans hpi.symm)
   omega)
  rwa [hi.2.2] at this
 rcases find_walk hR.l1 hR.l8 k with ⟨d, a1, a2, a3, a4⟩ | ⟨d, a1, a2, a3, a4⟩
 ·rw [a4, hR.uq _ i (pos_lt hR.l1 k d) hi.1 a3.2.1 hi.2.1 (by rw [a3.2.2, hi.2.2])]
 ·exfalso
  rcases Nat.lt_or_ge di d with q | q
  ·exact (a2 di q).2 (by rw [hpi]; exact hi)
  ·rcases a3 with rfl | a3
   ·omega
   ·rcases Nat.lt_or_ge d di with q' | q'
    ·exact road d q' a3
    ·have : d = di := by omega
     subst this
     rw [hpi, hi.2.1] at a3
     cases a3
theorem find_no {t : Tb} (h1 : 1 ≤ t.length) (h8 : t.length ≤ 8) {k : Int} (hi : ∀ i, ¬ Fk t k i) : hash_Find t k = some (-1) := by
 rcases find_walk h1 h8 k with ⟨d, a1, a2, a3, a4⟩ | ⟨d, a1, a2, a3, a4⟩
 ·exact absurd a3 (hi _)
 ·exact a4
theorem fk_or (t : Tb) (k : Int) : (∃ i, Fk t k i) ∨ ∀ i, ¬ Fk t k i := by
 by_cases h : ∃ i, Fk t k i
 ·exact .inl h
 ·exact .inr fun i hi => h ⟨i, hi⟩
theorem with_set {t : Tb} {i : Nat} (h8 : t.length ≤ 1000) (hi : i < t.length) (p : hash_Place) : hash_with t (i : Int) p = some (t.set i p) := by
 unfold hash_with slices_Clone_hash_Place_hash_Place
 rw [app_nil (by omega) (by omega), Option.bind_some, ix_at hi, Option.bind_some, Int.toNat_natCast]
theorem get_of {t : Tb} (hR : HR t) {k : Int} {i : Nat} (hi : Fk t k i) : hash_Get t k = some ((pt t i).Val, 0) := by
 unfold hash_Get
 rw [find_of hR hi, Option.bind_some, if_neg (by simp), ix_pt hi.1, Option.bind_some]
theorem drop_of {t : Tb} (hR : HR t) {k : Int} {i : Nat} (hi : Fk t k i) : hash_Drop t k = some (t.set i ⟨2, 0, 0⟩, (pt t i).Val, 0) := by
 have := hR.l8
 unfold hash_Drop
 rw [find_of hR hi, Option.bind_some, if_neg (by simp), with_set (by omega) hi.1, Option.bind_some, ix_pt hi.1, Option.bind_some]
theorem drop_no {t : Tb} (hR : HR t) {k : Int} (hi : ∀ i, ¬ Fk t k i) : hash_Drop t k = some (t, 0, 9) := by
 unfold hash_Drop
 rw [find_no hR.l1 hR.l8 hi, Option.bind_some, if_pos (by decide)]
theorem HR.set {t : Tb} (hR : HR t) {i : Nat} (hi : i < t.length) {p : hash_Place} (h0 : p.State = 1 ∨ p = ⟨2, 0, 0⟩)
  (hu : p.State = 1 → ∀ j, j ≠ i → ¬ Fk t p.Key j) (hr : p.State = 1 → ∀ d, d < t.length → (∀ d', d' ≤ d → pos t.length p.Key d' ≠ i) → (pt t (pos t.length p.Key d)).State ≠ 0) : HR (t.set i p) := by
 have hnz : p.State ≠ 0 := by
  rcases h0 with h | rfl
  ·omega
  ·simp
 refine ⟨by simpa using hR.l1, by simpa using hR.l8, fun j hj => ?_, fun j j' hj hj' s1 s2 hk => ?_, fun j hj s1 d hd hne => ?_⟩ <;> simp only [List.length_set] at *
 ·rw [pt_set hi]
  split
  ·rcases h0 with h | rfl
   ·exact ⟨.inr (.inl h), fun q => absurd h q⟩
   ·exact ⟨.inr (.inr rfl), fun _ => ⟨rfl, rfl⟩⟩
  ·exact hR.st j hj
 ·rw [pt_set hi] at s1 s2 hk
  rw [pt_set hi] at hk
  by_cases e1 : j = i <;> by_cases e2 : j' = i
  ·rw [e1, e2]
  ·rw [if_pos e1] at s1 hk
   rw [if_neg e2] at s2 hk
   exact absurd ⟨hj', s2, hk.symm⟩ (hu s1 j' e2)
  ·rw [if_neg e1] at s1 hk
   rw [if_pos e2] at s2 hk
   exact absurd ⟨hj, s1, hk⟩ (hu s2 j e1)
  ·rw [if_neg e1] at s1 hk
   rw [if_neg e2] at s2 hk
   exact hR.uq j j' hj hj' s1 s2 hk
 ·simp only [pt_set hi] at s1 hne ⊢
  by_cases e1 : j = i
  ·simp only [if_pos e1] at s1 hne ⊢
   split
   ·exact hnz
   ·exact hr s1 d hd (by rw [← e1]; exact hne)
  ·simp only [if_neg e1] at s1 hne ⊢
   split
   ·exact hnz
   ·exact hR.rd j hj s1 d hd hne
theorem dropR_right {t : Tb} (hR : HR t) {i : Nat} (hi : i < t.length) : HR (t.set i ⟨2, 0, 0⟩) := hR.set hi (.inr rfl) (fun q => by cases q) fun q => by cases q
end Go.Sh
namespace Go.Sh
set_option linter.unusedVariables false
set_option linter.unusedSimpArgs false
theorem ixm {t : Tb} {j : Nat} (h : j < t.length) : ix (t.map hpl) (j : Int) = some (hpl (pt t j)) := by rw [ix_map', ix_pt h]; rfl
theorem rfind_of {t : Tb} (h8 : t.length ≤ 1000) {k : Int} {i : Nat} (hi : Fk t k i) (hf : ∀ j, j < i → ¬ Fk t k j) : r10_Find (t.map hpl) k = some (i : Int) := by
 unfold r10_Find
 simp only [jn]
 refine lpb_up t.length (fun j => j ≤ i) (by omega) (Nat.zero_le _) (fun j hj hP => ?_) (fun hP => by have := hi.1; omega)
 rw [if_pos (by simpa using hj), ixm hj, Option.bind_some]
 by_cases e : j = i
 ·subst e
  exact .inr ⟨.inl (j : Int), by rw [if_pos (by simp [hpl, hi.2.1, hi.2.2])], rfl⟩
 ·have := hf j (by omega)
  refine .inl ⟨by rw [if_neg (by simp [hpl]; exact fun h1 h2 => this ⟨hj, h1, h2⟩), w64_nat (by omega)], by omega⟩
theorem rfind_no {t : Tb} (h8 : t.length ≤ 1000) {k : Int} (hf : ∀ j, ¬ Fk t k j) : r10_Find (t.map hpl) k = some (-1) := by
 unfold r10_Find
 simp only [jn]
 refine lpb_up t.length (fun j => True) (by omega) trivial (fun j hj hP => ?_) (fun hP => ⟨.inr (), by simp, rfl⟩)
 rw [if_pos (by simpa using hj), ixm hj, Option.bind_some]
 refine .inl ⟨by rw [if_neg (by simp [hpl]; exact fun h1 h2 => hf j ⟨hj, h1, h2⟩), w64_nat (by omega)], trivial⟩
theorem first_fk {t : Tb} {k : Int} (h : ∃ i, Fk t k i) : ∃ i, Fk t k i ∧ ∀ j, j < i → ¬ Fk t k j := by
 obtain ⟨i, h1, h2⟩ := exists_min h
 exact ⟨i, h1, fun j hj q => by have := h2 j q; omega⟩
theorem rwith_set {t : Tb} {i : Nat} (h8 : t.length ≤ 1000) (hi : i < t.length) (p : hash_Place) : r10_with (t.map hpl) (i : Int) (hpl p) = some ((t.set i p).map hpl) := by
 unfold r10_with
 rw [app_nil (by omega) (by simp; omega), Option.bind_some, ixm hi, Option.bind_some, Int.toNat_natCast, List.map_set]
theorem rhome_eq : r10_Home = hash_Home := rfl
theorem rnext {n : Nat} (h1 : 1 ≤ n) (h8 : n ≤ 8) (k : Int) (d : Nat) : rem (w64 (((pos n k d : Nat) : Int) + 1)) n = some ((pos n k (d + 1) : Nat) : Int) := by
 have := pos_lt h1 k d
 rw [w64_in (by omega) (by omega), rem_pos (by omega) (by omega)]
 unfold pos
 congr 1
 have : ((hm n k + d) % n + 1) % n = (hm n k + (d + 1)) % n := by rw [Nat.mod_add_mod]; rfl
 rw [← this]
 simp [Int.natCast_emod]
theorem pos_zero {n : Nat} (h1 : 1 ≤ n) (k : Int) : pos n k 0 = hm n k := by
 unfold pos
 rw [Nat.add_zero, Nat.mod_eq_of_lt (hm_lt h1 k)]
theorem rwalk {t : Tb} (h1 : 1 ≤ t.length) (h8 : t.length ≤ 8) (k : Int) {i di : Nat} (hi : i < t.length) (hdi : di < t.length) (hp : pos t.length k di = i) :
  ∃ e, lp (S := Int) (E := Bool ⊕ Unit) (fun (s41 : Int) =>
      if (s41 != (i : Int)) then
       (ix (t.map hpl) s41).bind fun v43 =>
       if (v43.State == 0) then
        some (.inr (.inl false))
       else
       (rem (w64 (s41 + 1)) (t.length : Int)).bind fun v44 =>
       some (.inl v44)
      else
      some (.inr (.inr ()))) (hm t.length k : Int) = some e ∧ ((e = .inr () ∧ ∀ d, d < di → (pt t (pos t.length k d)).State ≠ 0) ∨ (e = .inl false ∧ ∃ d, d < di ∧ (pt t (pos t.length k d)).State = 0)) := by
 rw [← pos_zero h1 k]
 refine lp_road (fun d => ((pos t.length k d : Nat) : Int)) di (fun d => ∀ d', d' < d → (pt t (pos t.length k d')).State ≠ 0) _ (by omega) (fun d' hd' => by omega) (fun d hd hP => ?_) (fun hP => ?_)
 ·have hne : pos t.length k d ≠ i := fun e => by
   have := pos_inj h1 h8 (by omega) hdi (e.trans hp.symm)
   omega
  have hlt := pos_lt h1 k d
  rw [if_pos (by simp; omega), ixm hlt, Option.bind_some]
  by_cases a : (pt t (pos t.length k d)).State = 0
  ·rw [if_pos (by simpa [hpl] using a)]
   exact .inr ⟨_, rfl, .inr ⟨rfl, d, hd, a⟩⟩
  ·rw [if_neg (by simpa [hpl] using a), rnext h1 h8, Option.bind_some]
   refine .inl ⟨rfl, fun d' hd' => ?_⟩
   rcases Nat.lt_or_ge d' d with q | q
   ·exact hP d' q
   ·have : d' = d := by omega
    subst this; exact a
 ·rw [if_neg (by simp; omega)]
  exact ⟨_, rfl, .inl ⟨rfl, hP⟩⟩
def Ok (t : Tb) (i : Nat) : Prop := ((pt t i).State = 0 ∨ (pt t i).State = 1 ∨ (pt t i).State = 2) ∧ ((pt t i).State ≠ 1 → (pt t i).Key = 0 ∧ (pt t i).Val = 0) ∧ ((pt t i).State = 1 → (∀ j, j < i → ¬ Fk t (pt t i).Key j) ∧ ∀ d, d < t.length → (∀ d', d' ≤ d → pos t.length (pt t i).Key d' ≠ i) → (pt t (pos t.length (pt t i).Key d)).State ≠ 0)
theorem hr_ok {t : Tb} (h1 : 1 ≤ t.length) (h8 : t.length ≤ 8) : HR t ↔ ∀ i, i < t.length → Ok t i := by
 constructor
 ·intro hR i hi
  exact ⟨(hR.st i hi).1, (hR.st i hi).2, fun s => ⟨fun j hj q => by have := hR.uq j i q.1 hi q.2.1 s q.2.2; omega, hR.rd i hi s⟩⟩
 ·intro hO
  refine ⟨h1, h8, fun i hi => ⟨(hO i hi).1, (hO i hi).2.1⟩, fun i j hi hj s1 s2 hk => ?_, fun i hi s => ((hO i hi).2.2 s).2⟩
  rcases Nat.lt_trichotomy i j with q | q | q
  ·exact absurd ⟨hi, s1, hk⟩ (((hO j hj).2.2 s2).1 i q)
  ·exact q
  ·exact absurd ⟨hj, s2, hk.symm⟩ (((hO i hi).2.2 s1).1 j q)
theorem rright_eq (t : Tb) (h : t.length ≤ 1000) : ∃ b, r10_Right (t.map hpl) = some b ∧ (b = true ↔ HR t) := by
 unfold r10_Right
 rw [List.length_map]
 by_cases hl : 1 ≤ t.length ∧ t.length ≤ 8
 ·obtain ⟨h1, h8⟩ := hl
  rw [if_neg (by simp; omega)]
  simp only [jn]
  suffices hs : ∀ (b : Bool), (b = true ↔ HR t) → _ = some b by
   by_cases q : HR t
   ·exact ⟨true, hs true (by simp [q]), by simp [q]⟩
   ·exact ⟨false, hs false (by simp [q]), by simp [q]⟩
  intro b hb
  refine lpb_up t.length (fun i => ∀ j, j < i → Ok t j) (by omega) (fun j hj => by omega) (fun i hi hP => ?_) (fun hP => ⟨.inr (), by simp, by
   simp only
   rw [hb.2 ((hr_ok h1 h8).2 hP)]⟩)
  have good : Ok t i → ∀ j, j < i + 1 → Ok t j := fun o j hj => by
   rcases Nat.lt_or_ge j i with q | q
   ·exact hP j q
   ·have : j = i := by omega
    subst this; exact o
  have bad : ¬ Ok t i → some false = some b := fun o => by
   have : b = false := by
    cases hbb : b with
    | false => rfl
    | true => exact absurd ((hr_ok h1 h8).1 (hb.1 hbb) i hi) o
   rw [this]
  rw [if_pos (by simpa using hi)]
  rw [ixm hi, Option.bind_some, w64_nat (by omega)]
  dsimp only [hpl]
  by_cases a : ((pt t i).State = 0 ∨ (pt t i).State = 1 ∨ (pt t i).State = 2) ∧ ((pt t i).State ≠ 1 → (pt t i).Key = 0 ∧ (pt t i).Val = 0)
  ·rw [if_neg (by
    have a1 := a.1
    have a2 := a.2
    simp only [Bool.or_eq_true, Bool.and_eq_true, decide_eq_true_eq, bne_iff_ne, ne_eq, not_or, not_and]
    refine ⟨⟨by omega, by omega⟩, fun q => ?_⟩
    have := a2 q
    omega)]
   by_cases s : (pt t i).State = 1
   ·rw [if_neg (by simpa using s)]
    obtain ⟨f, hf1, hf2⟩ := first_fk (t := t) (k := (pt t i).Key) ⟨i, hi, s, rfl⟩
    rw [rfind_of h hf1 hf2, Option.bind_some]
    by_cases e : f = i
    ·rw [e] at hf2
     rw [if_neg (by simp [e]), rhome_eq, home_eq h1 (by omega), Option.bind_some]
     obtain ⟨di, hdi, hpi⟩ := pos_surj h1 h8 (pt t i).Key hi
     obtain ⟨e, he, hQ⟩ := rwalk h1 h8 (pt t i).Key hi hdi hpi
     rw [he, Option.bind_some]
     rcases hQ with ⟨rfl, q⟩ | ⟨rfl, d, hd, q⟩
     ·refine .inl ⟨rfl, good ⟨a.1, a.2, fun _ => ⟨hf2, fun d hd hne => ?_⟩⟩⟩
      rcases Nat.lt_or_ge d di with q' | q'
      ·exact q d q'
      ·exact absurd hpi (hne di q')
     ·refine .inr ⟨_, rfl, bad fun o => (o.2.2 s).2 d (by omega) (fun d' hd' e => ?_) q⟩
      have := pos_inj h1 h8 (by omega) hdi (e.trans hpi.symm)
      omega
    ·rw [if_pos (by simp; omega)]
     refine .inr ⟨_, rfl, bad fun o => ?_⟩
     rcases Nat.lt_or_ge f i with q | q
     ·exact (o.2.2 s).1 f q hf1
     ·exact hf2 i (by omega) ⟨hi, s, rfl⟩
   ·rw [if_pos (by simpa using s)]
    exact .inl ⟨rfl, good ⟨a.1, a.2, fun q => absurd q s⟩⟩
  ·rw [if_pos (by
    simp only [Bool.or_eq_true, Bool.and_eq_true, decide_eq_true_eq, bne_iff_ne, ne_eq]
    omega)]
   exact .inr ⟨_, rfl, bad fun o => a ⟨o.1, o.2.1⟩⟩
 ·rw [if_pos (by simp; omega)]
  exact ⟨false, rfl, ⟨fun q => (by cases q), fun hR => absurd ⟨hR.l1, hR.l8⟩ hl⟩⟩
end Go.Sh
namespace Go.Sh
set_option linter.unusedVariables false
set_option linter.unusedSimpArgs false
def Has (t : Tb) (k v : Int) : Prop := ∃ i, Fk t k i ∧ (pt t i).Val = v
theorem has_or (t : Tb) (k : Int) : (∃ v, Has t k v) ∨ ∀ v, ¬ Has t k v := by
 by_cases h : ∃ v, Has t k v
 ·exact .inl h
 ·exact .inr fun v hv => h ⟨v, hv⟩
theorem Has.fn {t : Tb} (hR : HR t) {k v v' : Int} (h : Has t k v) (h' : Has t k v') : v = v' := by
 obtain ⟨i, a, rfl⟩ := h
 obtain ⟨j, b, rfl⟩ := h'
 rw [hR.uq i j a.1 b.1 a.2.1 b.2.1 (a.2.2.trans b.2.2.symm)]
theorem get_has {t : Tb} (hR : HR t) {k v : Int} (h : Has t k v) : hash_Get t k = some (v, 0) := by
 obtain ⟨i, a, rfl⟩ := h
 exact get_of hR a
theorem has_set {t : Tb} {i : Nat} (hi : i < t.length) {k v : Int} (p : hash_Place) (h : ∀ j, j ≠ i → Fk t p.Key j → p.State ≠ 1) (k' v' : Int) :
  Has (t.set i p) k' v' ↔ (p.State = 1 ∧ p.Key = k' ∧ p.Val = v') ∨ ∃ j, j ≠ i ∧ Fk t k' j ∧ (pt t j).Val = v' := by
 unfold Has Fk
 simp only [List.length_set, pt_set hi]
 constructor
 ·rintro ⟨j, ⟨h1, h2, h3⟩, h4⟩
  by_cases e : j = i
  ·rw [if_pos e] at h2 h3 h4; exact .inl ⟨h2, h3, h4⟩
  ·rw [if_neg e] at h2 h3 h4; exact .inr ⟨j, e, ⟨h1, h2, h3⟩, h4⟩
 ·rintro (⟨h1, h2, h3⟩ | ⟨j, e, ⟨h1, h2, h3⟩, h4⟩)
  ·exact ⟨i, by simp [hi, h1, h2, h3]⟩
  ·exact ⟨j, by simp [e, h1, h2, h3, h4]⟩
theorem drop_has {t : Tb} (hR : HR t) {k : Int} {i : Nat} (hi : Fk t k i) (k' v' : Int) : Has (t.set i ⟨2, 0, 0⟩) k' v' ↔ k' ≠ k ∧ Has t k' v' := by
 rw [has_set (k := k) (v := 0) hi.1 _ (fun j hj q => by simp)]
 constructor
 ·rintro (⟨h, _⟩ | ⟨j, e, h1, h2⟩)
  ·cases h
  ·refine ⟨fun q => ?_, j, h1, h2⟩
   subst q
   exact e (hR.uq j i h1.1 hi.1 h1.2.1 hi.2.1 (h1.2.2.trans hi.2.2.symm))
 ·rintro ⟨e, j, h1, h2⟩
  refine .inr ⟨j, fun q => ?_, h1, h2⟩
  subst q
  exact e (h1.2.2.symm.trans hi.2.2)
def keys (t : Tb) : List Int := (t.filter (·.State == 1)).map (·.Key)
theorem filt_snoc' {α β : Type} (p : α → Bool) (f : α → β) (l : List α) (k : Nat) (h : k < l.length) : ((l.take (k + 1)).filter p).map f = ((l.take k).filter p).map f ++ (if p l[k] then [f l[k]] else []) := by
 rw [List.take_succ_eq_append_getElem h, List.filter_append, List.map_append]
 congr 1
 simp only [List.filter_cons, List.filter_nil]
 split <;> rfl
theorem keys_eq {t : Tb} (h : t.length ≤ 1000) : hash_Keys t = some (keys t) := by
 unfold hash_Keys keys
 simp only [jn]
 refine lpb_upS t.length (fun k l => l = ((t.take k).filter (·.State == 1)).map (·.Key)) (by omega) (by simp) ?_ (fun l hl => ⟨_, by simp; rfl, by rw [hl, List.take_length]⟩)
 rintro k l hk rfl
 left
 rw [filt_snoc' _ _ _ _ hk]
 rw [if_pos (by simpa using hk), ix_at hk, Option.bind_some, w64_nat (by omega)]
 have hle : (List.map (·.Key) (List.filter (·.State == 1) (List.take k t))).length ≤ 1000 := by
  rw [List.length_map]
  exact Nat.le_trans (List.length_filter_le ..) (by simp; omega)
 by_cases c : (t[k].State == 1) = true
 ·rw [if_pos c, if_pos c, app_ok (by omega) (by simp only [List.length_cons, List.length_nil]; omega), Option.bind_some]
  exact ⟨_, rfl, rfl⟩
 ·rw [if_neg c, if_neg c]
  exact ⟨_, rfl, by simp⟩
theorem rkeys_eq {t : Tb} (h : t.length ≤ 1000) : r10_Keys (t.map hpl) = some (keys t) := by
 unfold r10_Keys keys
 simp only [jn]
 refine lpb_upS t.length (fun k l => l = ((t.take k).filter (·.State == 1)).map (·.Key)) (by omega) (by simp) ?_ (fun l hl => ⟨_, by simp; rfl, by rw [hl, List.take_length]⟩)
 rintro k l hk rfl
 left
 rw [filt_snoc' _ _ _ _ hk]
 rw [if_pos (by simpa using hk), ix_map', ix_at hk, Option.map_some, Option.bind_some, w64_nat (by omega)]
 have hle : (List.map (·.Key) (List.filter (·.State == 1) (List.take k t))).length ≤ 1000 := by
  rw [List.length_map]
  exact Nat.le_trans (List.length_filter_le ..) (by simp; omega)
 by_cases c : (t[k].State == 1) = true
 ·rw [if_pos (by simpa [hpl] using c), if_pos c, app_ok (by omega) (by simp only [List.length_cons, List.length_nil]; omega), Option.bind_some]
  exact ⟨_, rfl, rfl⟩
 ·rw [if_neg (by simpa [hpl] using c), if_neg c]
  exact ⟨_, rfl, by simp⟩
theorem rfindR {t : Tb} (hR : HR t) (k : Int) : r10_Find (t.map hpl) k = hash_Find t k := by
 have h8 := hR.l8
 rcases fk_or t k with ⟨i, hi⟩ | hn
 ·rw [find_of hR hi]
  obtain ⟨f, hf1, hf2⟩ := first_fk ⟨i, hi⟩
  rw [rfind_of (by omega) hf1 hf2, hR.uq f i hf1.1 hi.1 hf1.2.1 hi.2.1 (hf1.2.2.trans hi.2.2.symm)]
 ·rw [find_no hR.l1 hR.l8 hn, rfind_no (by omega) hn]
theorem rgetR {t : Tb} (hR : HR t) (k : Int) : r10_Get (t.map hpl) k = hash_Get t k := by
 unfold r10_Get hash_Get
 rw [rfindR hR]
 rcases fk_or t k with ⟨i, hi⟩ | hn
 ·rw [find_of hR hi, Option.bind_some, Option.bind_some, if_neg (by simp), if_neg (by simp), ixm hi.1, ix_pt hi.1]; rfl
 ·rw [find_no hR.l1 hR.l8 hn]; rfl
theorem rdropR {t : Tb} (hR : HR t) (k : Int) : r10_Drop (t.map hpl) k = (hash_Drop t k).map fun r => (r.1.map hpl, r.2) := by
 have h8 := hR.l8
 rcases fk_or t k with ⟨i, hi⟩ | hn
 ·rw [drop_of hR hi]
  unfold r10_Drop
  rw [rfindR hR, find_of hR hi, Option.bind_some, if_neg (by simp)]
  have := rwith_set (t := t) (by omega) hi.1 ⟨2, 0, 0⟩
  dsimp only [hpl] at this
  rw [this, Option.bind_some, ixm hi.1]
  rfl
 ·rw [drop_no hR hn]
  unfold r10_Drop
  rw [rfindR hR, find_no hR.l1 hR.l8 hn]
  rfl
end Go.Sh
namespace Go.Sh
set_option linter.unusedVariables false
set_option linter.unusedSimpArgs false
theorem keys_len (t : Tb) : (keys t).length = t.countP (·.State == 1) := by
 unfold keys
 rw [List.length_map, List.countP_eq_length_filter]
theorem keys_set {t : Tb} {i : Nat} (h : i < t.length) (p : hash_Place) : (keys (t.set i p)).length + (if (pt t i).State = 1 then 1 else 0) = (keys t).length + if p.State = 1 then 1 else 0 := by
 rw [keys_len, keys_len, List.countP_set h, pt_lt h]
 simp only [beq_iff_eq]
 have : (if t[i].State = 1 then 1 else 0) ≤ t.countP fun c => c.State == 1 := by
  split
  ·rename_i e
   exact List.countP_pos_iff.2 ⟨t[i], List.getElem_mem h, by simpa using e⟩
  ·exact Nat.zero_le _
 omega
structure TM {V : Type} (φ : V → Int → Prop) (t : Tb) (m : List (Int × V)) : Prop where
 R : HR t
 nd : (m.map (·.1)).Nodup
 len : (keys t).length = m.length
 has : ∀ k, (∀ v, Has t k v → ∃ u, mget m k = some u ∧ φ u v) ∧ ((mget m k).isSome = true → ∃ v, Has t k v)
theorem TM.some {V : Type} {φ : V → Int → Prop} {t : Tb} {m : List (Int × V)} (h : TM φ t m) (k : Int) : (∃ v u, Has t k v ∧ mget m k = some u ∧ φ u v) ∨ (mget m k = none ∧ ∀ v, ¬ Has t k v) := by
 rcases has_or t k with ⟨v, hv⟩ | hn
 ·obtain ⟨u, h1, h2⟩ := (h.has k).1 v hv
  exact .inl ⟨v, u, hv, h1, h2⟩
 ·refine .inr ⟨?_, hn⟩
  cases hq : mget m k with
  | none => rfl
  | some u =>
   obtain ⟨v, hv⟩ := (h.has k).2 (by rw [hq]; rfl)
   exact absurd hv (hn v)
end Go.Sh
namespace Go.Sh
set_option linter.unusedVariables false
set_option linter.unusedSimpArgs false
abbrev pp (p : ephem_Pair) : r11_Pair := ⟨p.Key, p.Val⟩
def prs (t : Tb) : List ephem_Pair := (t.filter (·.State == 1)).map fun p => ⟨p.Key, p.Val⟩
theorem keys_prs (t : Tb) : keys t = (prs t).map (·.Key) := by
 unfold keys prs
 rw [List.map_map]
 rfl
theorem prs_len (t : Tb) : (prs t).length = (keys t).length := by rw [keys_prs, List.length_map]
theorem prs_le {t : Tb} (h : t.length ≤ 8) : (prs t).length ≤ 8 := by
 rw [prs_len, keys_len]
 exact Nat.le_trans List.countP_le_length h
theorem mem_prs {t : Tb} {p : ephem_Pair} : p ∈ prs t ↔ Has t p.Key p.Val := by
 unfold prs Has
 rw [List.mem_map]
 constructor
 ·rintro ⟨q, hq, rfl⟩
  obtain ⟨h1, h2⟩ := List.mem_filter.1 hq
  obtain ⟨i, hi, rfl⟩ := List.getElem_of_mem h1
  refine ⟨i, ⟨hi, ?_, ?_⟩, ?_⟩ <;> rw [pt_lt hi]
  simpa using h2
 ·rintro ⟨i, ⟨hi, h1, h2⟩, h3⟩
  rw [pt_lt hi] at h1 h2 h3
  refine ⟨t[i], List.mem_filter.2 ⟨List.getElem_mem hi, by simpa using h1⟩, ?_⟩
  cases p
  simp at h2 h3 ⊢
  exact ⟨h2, h3⟩
theorem prs_get {t : Tb} (hR : HR t) {j : Nat} (h : j < (prs t).length) : hash_Get t (prs t)[j].Key = some ((prs t)[j].Val, 0) := get_has hR (mem_prs.1 (List.getElem_mem h))
theorem bind3 {E R : Type} {x : Option E} {r : E} {κ : E → Option R} {y : Option R} (h : x = some r) (hy : κ r = y) : ((x.bind fun e => some e).bind κ) = y := by rw [h]; exact hy
theorem pairs_eq {t : Tb} (hR : HR t) : ephem_Pairs t = some (prs t) := by
 have h8 := hR.l8
 have hp := prs_le h8
 unfold ephem_Pairs ephem_gathered_ephem_Pair__ephem_pairs_1__ephem_Pairs_1 ephem_pairs ephem_Pairs_1
 simp only [jn, Option.bind_some]
 rw [keys_eq (by omega), Option.bind_some]
 refine bind3 (some_of (lp_upS (prs t).length (fun k l => l = (prs t).take k) (fun e => e = prs t) (by omega) (by simp) ?_ ?_)) rfl
 ·rintro k l hk rfl
  refine .inl ⟨_, ?_, rfl⟩
  dsimp only
  rw [if_pos (by rw [← prs_len]; simpa using hk), ix_at (by rw [← prs_len]; exact hk), Option.bind_some]
  have e : (keys t)[k]'(by rw [← prs_len]; exact hk) = (prs t)[k].Key := by simp [keys_prs]
  rw [e, prs_get hR hk, Option.bind_some, if_pos (by trivial), app_ok (by omega) (by simp; omega), Option.bind_some, w64_nat (by omega), List.take_succ_eq_append_getElem hk]
 ·rintro l rfl
  exact ⟨_, by rw [← prs_len]; simp; rfl, by simp⟩
theorem rpairs_eq {t : Tb} (hR : HR t) : r11_Pairs (t.map hpl) = some ((prs t).map pp) := by
 have h8 := hR.l8
 have hp := prs_le h8
 unfold r11_Pairs
 simp only [jn]
 rw [rkeys_eq (by omega), Option.bind_some]
 refine lpb_upS (prs t).length (fun k l => l = ((prs t).take k).map pp) (by omega) (by simp) ?_ (fun l hl => ⟨_, by rw [← prs_len]; simp; rfl, by rw [hl, List.take_length]⟩)
 rintro k l hk rfl
 refine .inl ⟨_, ?_, rfl⟩
 rw [if_pos (by rw [← prs_len]; simpa using hk), ix_at (by rw [← prs_len]; exact hk), Option.bind_some]
 have e : (keys t)[k]'(by rw [← prs_len]; exact hk) = (prs t)[k].Key := by simp [keys_prs]
 rw [e, rgetR hR, prs_get hR hk, Option.bind_some, app_ok (by omega) (by simp; omega), Option.bind_some, w64_nat (by omega), List.take_succ_eq_append_getElem hk, List.map_append]
 rfl
def own (t : Tb) (h : Int) : Nat := (prs t).countP fun p => (h != 0) && (p.Val == h)
theorem owned_eq {t : Tb} (hR : HR t) (h : Int) : ephem_Owned t h = some (own t h : Int) := by
 have h8 := hR.l8
 have hp := prs_le h8
 unfold ephem_Owned ephem_gathered_ephem_Pair__ephem_pairs_1__ephem_Owned_1 ephem_pairs ephem_Owned_1
 simp only [jn, Option.bind_some]
 rw [keys_eq (by omega), Option.bind_some]
 refine bind3 (r := (prs t).filter fun p => (h != 0) && (p.Val == h)) (some_of (lp_upS (prs t).length (fun k l => l = ((prs t).take k).filter fun p => (h != 0) && (p.Val == h)) (fun e => e = (prs t).filter fun p => (h != 0) && (p.Val == h)) (by omega) (by simp) ?_ ?_)) (by unfold own; rw [List.countP_eq_length_filter])
 ·rintro k l hk rfl
  refine .inl ⟨((prs t).take (k + 1)).filter fun p => (h != 0) && (p.Val == h), ?_, rfl⟩
  dsimp only
  rw [if_pos (by rw [← prs_len]; simpa using hk), ix_at (by rw [← prs_len]; exact hk), Option.bind_some]
  have e : (keys t)[k]'(by rw [← prs_len]; exact hk) = (prs t)[k].Key := by simp [keys_prs]
  have hle : (((prs t).take k).filter fun p => (h != 0) && (p.Val == h)).length ≤ 8 := Nat.le_trans (List.length_filter_le ..) (by simp; omega)
  rw [e, prs_get hR hk, Option.bind_some, w64_nat (by omega), List.take_succ_eq_append_getElem hk, List.filter_append, List.filter_cons, List.filter_nil]
  by_cases c : ((h != 0) && ((prs t)[k].Val == h)) = true
  ·rw [if_pos c, if_pos c, app_ok (by omega) (by simp only [List.length_cons, List.length_nil]; omega), Option.bind_some]
  ·rw [if_neg c, if_neg c, List.append_nil]
 ·rintro l rfl
  exact ⟨_, by rw [← prs_len]; simp; rfl, by simp⟩
theorem rowned_eq {t : Tb} (hR : HR t) (h : Int) : r11_Owned (t.map hpl) h = some (own t h : Int) := by
 have h8 := hR.l8
 have hp := prs_le h8
 unfold r11_Owned
 simp only [jn]
 rw [rpairs_eq hR, Option.bind_some, List.length_map]
 refine lpb_ind (fun s => ∃ k : Nat, k ≤ (prs t).length ∧ s.2 = (k : Int) ∧ s.1 = ((((prs t).take k).countP fun p => (h != 0) && (p.Val == h) : Nat) : Int)) (fun s => (prs t).length + 1 - s.2.toNat) ⟨0, by omega, rfl, by simp⟩ (by simp; omega) ?_
 rintro ⟨_, _⟩ ⟨k, hk, rfl, rfl⟩
 dsimp only
 by_cases hlt : k < (prs t).length
 ·left
  rw [if_pos (by simpa using hlt), ix_map', ix_at hlt, Option.map_some, Option.bind_some, w64_nat (n := k) (by omega)]
  have hle : (((prs t).take k).countP fun p => (h != 0) && (p.Val == h)) ≤ 8 := Nat.le_trans List.countP_le_length (by simp; omega)
  have hstep : (((prs t).take (k + 1)).countP fun p => (h != 0) && (p.Val == h)) = (((prs t).take k).countP fun p => (h != 0) && (p.Val == h)) + if ((h != 0) && ((prs t)[k].Val == h)) = true then 1 else 0 := by
   rw [List.take_succ_eq_append_getElem hlt, List.countP_append, List.countP_cons, List.countP_nil, Nat.zero_add]
  by_cases c : ((h != 0) && ((prs t)[k].Val == h)) = true
  ·rw [if_pos (by simp only [Bool.and_eq_true] at c ⊢; exact ⟨c.2, c.1⟩), w64_nat (by omega)]
   rw [if_pos c] at hstep
   exact ⟨_, rfl, ⟨k + 1, by omega, rfl, by rw [hstep]⟩, by simp; omega⟩
  ·rw [if_neg (by simp only [Bool.and_eq_true] at c ⊢; exact fun q => c ⟨q.2, q.1⟩)]
   rw [if_neg c] at hstep
   exact ⟨_, rfl, ⟨k + 1, by omega, rfl, by rw [hstep]; rfl⟩, by simp; omega⟩
 ·right
  have : k = (prs t).length := by omega
  subst this
  exact ⟨_, by rw [if_neg (by simp)], by rw [List.take_length]; rfl⟩
theorem own_count (t : Tb) (h : Int) : own t h = t.countP fun p => (p.State == 1) && ((h != 0) && (p.Val == h)) := by
 unfold own prs
 rw [List.countP_map, List.countP_filter]
 congr 1
 funext p
 simp [Bool.and_comm]
theorem own_set {t : Tb} {i : Nat} (hi : i < t.length) (p : hash_Place) (h : Int) : own (t.set i p) h + (if (((pt t i).State == 1) && ((h != 0) && ((pt t i).Val == h))) = true then 1 else 0) = own t h + if ((p.State == 1) && ((h != 0) && (p.Val == h))) = true then 1 else 0 := by
 rw [own_count, own_count, List.countP_set hi, pt_lt hi]
 have : (if ((t[i].State == 1) && ((h != 0) && (t[i].Val == h))) = true then 1 else 0) ≤ t.countP fun p => (p.State == 1) && ((h != 0) && (p.Val == h)) := by
  split
  ·rename_i e
   exact List.countP_pos_iff.2 ⟨t[i], List.getElem_mem hi, e⟩
  ·exact Nat.zero_le _
 omega
theorem own_le {t : Tb} (h8 : t.length ≤ 8) (h : Int) : own t h ≤ 8 := Nat.le_trans List.countP_le_length (prs_le h8)
end Go.Sh
namespace Go.Sh
set_option linter.unusedVariables false
set_option linter.unusedSimpArgs false
end Go.Sh
namespace Go.Sh
set_option linter.unusedVariables false
set_option linter.unusedSimpArgs false
theorem without_own {t : Tb} (hR : HR t) (ks : List Int) (hks : ks.length ≤ 1000) : ∃ a had, ephem_Without t ks = some (a, had) ∧ HR a ∧ a.length = t.length ∧ had.length ≤ ks.length ∧ r11_Without (t.map hpl) ks = some (a.map hpl, had) ∧
  (∀ k v, Has a k v ↔ k ∉ ks ∧ Has t k v) ∧ (keys a).length + had.length = (keys t).length ∧ (∀ k v, k ∈ ks → Has t k v → v ∈ had) ∧ ∀ y, own a y + tms had y = own t y := by
 have key : ∀ n, n ≤ ks.length → ∃ a had, HR a ∧ a.length = t.length ∧ had.length ≤ n ∧ (∀ k v, Has a k v ↔ k ∉ ks.take n ∧ Has t k v) ∧ (keys a).length + had.length = (keys t).length ∧ (∀ k v, k ∈ ks.take n → Has t k v → v ∈ had) ∧ (∀ y, own a y + tms had y = own t y) ∧
   ∃ f : Nat → Tb × List Int, f 0 = (t, []) ∧ f n = (a, had) ∧ ∀ j, (hj : j < n) → HR (f j).1 ∧ (f j).2.length ≤ j ∧ ((∃ i, ∃ hjk : j < ks.length, Fk (f j).1 ks[j] i ∧ f (j + 1) = ((f j).1.set i ⟨2, 0, 0⟩, (f j).2 ++ [(pt (f j).1 i).Val])) ∨ ((∀ i, ∀ hjk : j < ks.length, ¬ Fk (f j).1 ks[j] i) ∧ f (j + 1) = f j)) := by
  intro n
  induction n with
  | zero => exact fun _ => ⟨t, [], hR, rfl, by simp, by simp, by simp, by simp, fun y => by unfold tms; split <;> simp, fun _ => (t, []), rfl, rfl, fun j hj => by omega⟩
  | succ n ih =>
   intro hn
   obtain ⟨a, had, h1, h2, h3, h4, h5, h6, h7, f, f0, fn, fs⟩ := ih (by omega)
   have hlt : n < ks.length := by omega
   have htk : ∀ k, k ∈ ks.take (n + 1) ↔ k ∈ ks.take n ∨ k = ks[n] := fun k => by
    rw [List.take_succ_eq_append_getElem hlt, List.mem_append, List.mem_singleton]
   rcases fk_or a ks[n] with ⟨i, hi⟩ | hno
   ·have hd := drop_has h1 hi
    refine ⟨a.set i ⟨2, 0, 0⟩, had ++ [(pt a i).Val], dropR_right h1 hi.1, by simpa using h2, by simp; omega, fun k v => ?_, ?_, fun k v hk hv => ?_, fun y => ?_, fun j => if j = n + 1 then (a.set i ⟨2, 0, 0⟩, had ++ [(pt a i).Val]) else f j, by simp [f0], by simp, fun j hj => ?_⟩
    ·rw [hd, h4, htk]
     constructor
     ·rintro ⟨q1, q2, q3⟩; exact ⟨fun q => q.elim q2 q1, q3⟩
     ·rintro ⟨q1, q2⟩; exact ⟨fun q => q1 (.inr q), fun q => q1 (.inl q), q2⟩
    ·have := keys_set hi.1 ⟨2, 0, 0⟩
     rw [if_pos hi.2.1, if_neg (by decide)] at this
     simp only [List.length_append, List.length_cons, List.length_nil]
     omega
    ·rw [List.mem_append]
     rcases (htk k).1 hk with q | q
     ·exact .inl (h6 k v q hv)
     ·subst q
      by_cases q' : ks[n] ∈ ks.take n
      ·exact .inl (h6 _ v q' hv)
      ·have := (h4 _ _).2 ⟨q', hv⟩
       rw [this.fn h1 ⟨i, hi, rfl⟩]
       exact .inr (by simp)
    ·have := own_set hi.1 ⟨2, 0, 0⟩ y
     have h7' := h7 y
     rw [tms_append]
     have e : tms [(pt a i).Val] y = if (((pt a i).State == 1) && ((y != 0) && ((pt a i).Val == y))) = true then 1 else 0 := by
      rw [hi.2.1]
      unfold tms
      by_cases y0 : y = 0
      ·simp [y0]
      ·by_cases e : (pt a i).Val = y
       ·simp [y0, e]
       ·simp [y0, e]
     rw [e]
     rw [if_neg (show ¬ ((((2 : Int) == 1) && ((y != 0) && ((0 : Int) == y))) = true) by simp)] at this
     omega
    ·rcases Nat.lt_or_ge j n with q | q
     ·have := fs j q
      dsimp only
      rw [if_neg (by omega), if_neg (by omega)]
      exact this
     ·have : j = n := by omega
      subst this
      dsimp only
      rw [if_neg (by omega), if_pos rfl, fn]
      exact ⟨h1, h3, .inl ⟨i, hlt, hi, rfl⟩⟩
   ·refine ⟨a, had, h1, h2, by omega, fun k v => ?_, h5, fun k v hk hv => ?_, h7, fun j => if j = n + 1 then (a, had) else f j, by simp [f0], by simp, fun j hj => ?_⟩
    ·rw [h4, htk]
     constructor
     ·rintro ⟨q1, q2⟩
      refine ⟨fun q => q.elim q1 fun q => ?_, q2⟩
      subst q
      obtain ⟨i, hi, _⟩ := (h4 _ _).2 ⟨q1, q2⟩
      exact hno i hi
     ·rintro ⟨q1, q2⟩; exact ⟨fun q => q1 (.inl q), q2⟩
    ·rcases (htk k).1 hk with q | q
     ·exact h6 k v q hv
     ·subst q
      by_cases q' : ks[n] ∈ ks.take n
      ·exact h6 _ v q' hv
      ·obtain ⟨i, hi, _⟩ := (h4 _ _).2 ⟨q', hv⟩
       exact absurd hi (hno i)
    ·rcases Nat.lt_or_ge j n with q | q
     ·have := fs j q
      dsimp only
      rw [if_neg (by omega), if_neg (by omega)]
      exact this
     ·have : j = n := by omega
      subst this
      dsimp only
      rw [if_neg (by omega), if_pos rfl, fn]
      exact ⟨h1, h3, .inr ⟨fun i _ => hno i, rfl⟩⟩
 obtain ⟨a, had, h1, h2, h3, h4, h5, h6, h7, f, f0, fn, fs⟩ := key ks.length (Nat.le_refl _)
 rw [List.take_length] at h4 h6
 refine ⟨a, had, ?_, h1, h2, h3, ?_, h4, h5, h6, h7⟩
 ·unfold ephem_Without
  simp only [jn]
  refine lpb_road (fun j => ((f j).1, (j : Int), (f j).2)) (by rw [f0]; rfl) ks.length (fun _ => True) (by omega) trivial (fun j hj _ => ?_) (fun _ => ⟨(a, had), by dsimp only; rw [if_neg (by simp), fn], rfl⟩)
  obtain ⟨g1, g2, g3⟩ := fs j hj
  left
  refine ⟨?_, trivial⟩
  dsimp only
  rw [if_pos (by simpa using hj), ix_at hj, Option.bind_some, w64_nat (by omega)]
  rcases g3 with ⟨i, _, hi, e⟩ | ⟨hno, e⟩
  ·rw [drop_of g1 hi, Option.bind_some, e]
   dsimp only
   rw [if_pos (by decide), app_ok (by omega) (by simp; omega), Option.bind_some]
  ·rw [drop_no g1 (fun i => hno i hj), Option.bind_some, e]
   dsimp only
   rw [if_neg (by decide)]
 ·unfold r11_Without
  simp only [jn]
  refine lpb_road (fun j => ((f j).1.map hpl, (j : Int), (f j).2)) (by rw [f0]; rfl) ks.length (fun _ => True) (by omega) trivial (fun j hj _ => ?_) (fun _ => ⟨(a.map hpl, had), by dsimp only; rw [if_neg (by simp), fn], rfl⟩)
  obtain ⟨g1, g2, g3⟩ := fs j hj
  left
  refine ⟨?_, trivial⟩
  dsimp only
  rw [if_pos (by simpa using hj), ix_at hj, Option.bind_some, w64_nat (by omega), rdropR g1]
  rcases g3 with ⟨i, _, hi, e⟩ | ⟨hno, e⟩
  ·rw [drop_of g1 hi, Option.map_some, Option.bind_some, e]
   dsimp only
   rw [if_pos (by decide), app_ok (by omega) (by simp; omega), Option.bind_some]
  ·rw [drop_no g1 (fun i => hno i hj), Option.map_some, Option.bind_some, e]
   dsimp only
   rw [if_neg (by decide)]
end Go.Sh
namespace Go.Sh
set_option linter.unusedVariables false
set_option linter.unusedSimpArgs false
theorem hright_eq (t : Tb) (h : t.length ≤ 1000) : ∃ b, hash_Right t = some b ∧ (b = true ↔ HR t) := by
 unfold hash_Right
 by_cases hl : 1 ≤ t.length ∧ t.length ≤ 8
 ·obtain ⟨h1, h8⟩ := hl
  rw [if_neg (by simp; omega)]
  simp only [jn]
  suffices hs : ∀ (b : Bool), (b = true ↔ HR t) → _ = some b by
   by_cases q : HR t
   ·exact ⟨true, hs true (by simp [q]), by simp [q]⟩
   ·exact ⟨false, hs false (by simp [q]), by simp [q]⟩
  intro b hb
  let Ok' : Nat → Prop := fun i => ((pt t i) = ⟨0, 0, 0⟩ ∨ (pt t i) = ⟨2, 0, 0⟩) ∨ (pt t i).State = 1 ∧ hash_Find t (pt t i).Key = some (i : Int)
  have hall : (∀ i, i < t.length → Ok' i) ↔ HR t := by
   constructor
   ·intro hO
    have full : ∀ i, i < t.length → (pt t i).State = 1 → hash_Find t (pt t i).Key = some (i : Int) := fun i hi s => by
     rcases hO i hi with (e | e) | e
     ·rw [e] at s; cases s
     ·rw [e] at s; cases s
     ·exact e.2
    refine ⟨h1, h8, fun i hi => ?_, fun i j hi hj s1 s2 hk => ?_, fun i hi s d hd hne => ?_⟩
    ·rcases hO i hi with (e | e) | e
     ·rw [e]; exact ⟨.inl rfl, fun _ => ⟨rfl, rfl⟩⟩
     ·rw [e]; exact ⟨.inr (.inr rfl), fun _ => ⟨rfl, rfl⟩⟩
     ·exact ⟨.inr (.inl e.1), fun q => absurd e.1 q⟩
    ·have e1 := full i hi s1
     have e2 := full j hj s2
     rw [hk, e2] at e1
     cases e1
     rfl
    ·have e1 := full i hi s
     rcases find_walk h1 h8 (pt t i).Key with ⟨d0, a1, a2, a3, a4⟩ | ⟨d0, a1, a2, a3, a4⟩
     ·rw [e1] at a4
      have a5 : pos t.length (pt t i).Key d0 = i := by have := Option.some.inj a4; omega
      rcases Nat.lt_or_ge d d0 with q | q
      ·exact (a2 d q).1
      ·exact absurd a5 (hne d0 q)
     ·rw [e1] at a4
      cases a4
   ·intro hR i hi
    rcases (hR.st i hi).1 with s | s | s
    ·have := (hR.st i hi).2 (by omega)
     exact .inl (.inl (by cases hp : pt t i; rw [hp] at s this; simp at s this; simp [s, this]))
    ·exact .inr ⟨s, find_of hR ⟨hi, s, rfl⟩⟩
    ·have := (hR.st i hi).2 (by omega)
     exact .inl (.inr (by cases hp : pt t i; rw [hp] at s this; simp at s this; simp [s, this]))
  refine lpb_up t.length (fun i => ∀ j, j < i → Ok' j) (by omega) (fun j hj => by omega) (fun i hi hP => ?_) (fun hP => ⟨.inr (), by simp, by
   simp only
   rw [hb.2 (hall.1 hP)]⟩)
  have good : Ok' i → ∀ j, j < i + 1 → Ok' j := fun o j hj => by
   rcases Nat.lt_or_ge j i with q | q
   ·exact hP j q
   ·have : j = i := by omega
    subst this; exact o
  have bad : ¬ Ok' i → some false = some b := fun o => by
   have : b = false := by
    cases hbb : b with
    | false => rfl
    | true => exact absurd (hall.2 (hb.1 hbb) i hi) o
   rw [this]
  rw [if_pos (by simpa using hi), ix_pt hi, Option.bind_some, w64_nat (by omega)]
  by_cases a : pt t i = ⟨0, 0, 0⟩ ∨ pt t i = ⟨2, 0, 0⟩
  ·refine .inl ⟨?_, good (.inl a)⟩
   rcases a with a | a <;> rw [a] <;> simp [onlyIf]
  ·have hne : (!(((pt t i).State == 0) && (((pt t i).Key == 0) && (((pt t i).Val == 0) && true)) || ((pt t i).State == 2) && (((pt t i).Key == 0) && (((pt t i).Val == 0) && true)))) = true := by
    cases hp : pt t i with
    | mk s k v =>
     rw [hp] at a
     simp at a ⊢
     omega
   rw [hne]
   by_cases s : (pt t i).State = 1
   ·rw [show ((pt t i).State != 1) = false by simpa using s]
    obtain ⟨r, hr⟩ : ∃ r, hash_Find t (pt t i).Key = some r := by
     rcases find_walk h1 h8 (pt t i).Key with ⟨d, _, _, _, e⟩ | ⟨d, _, _, _, e⟩
     ·exact ⟨_, e⟩
     ·exact ⟨_, e⟩
    simp only [onlyIf, beq_self_eq_true, Bool.and_self, if_true, hr, Option.bind_some, Bool.false_or, Bool.true_and]
    by_cases e : r = i
    ·rw [if_neg (by simpa using e)]
     exact .inl ⟨rfl, good (.inr ⟨s, by rw [hr, e]⟩)⟩
    ·rw [if_pos (by simpa using e)]
     refine .inr ⟨_, rfl, bad fun o => ?_⟩
     rcases o with o | o
     ·exact a o
     ·rw [hr] at o; exact e (Option.some.inj o.2)
   ·rw [show ((pt t i).State != 1) = true by simpa using s]
    simp only [onlyIf, beq_self_eq_true, Bool.true_and, Bool.true_or, if_true]
    refine .inr ⟨.inl false, by simp, bad fun o => ?_⟩
    rcases o with o | o
    ·exact a o
    ·exact s o.1
 ·rw [if_pos (by simp; omega)]
  exact ⟨false, rfl, ⟨fun q => (by cases q), fun hR => absurd ⟨hR.l1, hR.l8⟩ hl⟩⟩
end Go.Sh
namespace Go.Sh
set_option linter.unusedVariables false
set_option linter.unusedSimpArgs false
inductive FRch (s : store_Store) (t : Tb) (l : List Int) : Int → Prop
 | base {h : Int} : h ∈ l → h ∈ lv s → FRch s t l h
 | step {a b : Int} : FRch s t l a → b ∈ outs s a → b ∈ lv s → FRch s t l b
 | pair {k v : Int} : Has t k v → FRch s t l k → v ∈ lv s → FRch s t l v
def TB (t : Tb) : Prop := ∀ p ∈ t, p.Key ≤ 9223372036854775807 ∧ p.Val ≤ 9223372036854775807
theorem TB.has {t : Tb} (h : TB t) {k v : Int} (q : Has t k v) : k ≤ 9223372036854775807 ∧ v ≤ 9223372036854775807 := by
 obtain ⟨i, ⟨h1, _, h2⟩, h3⟩ := q
 rw [pt_lt h1] at h2 h3
 have := h _ (List.getElem_mem h1)
 rw [h2, h3] at this
 exact this
theorem FRch.live {s : store_Store} {t : Tb} {l : List Int} {h : Int} (q : FRch s t l h) : h ∈ lv s := by cases q <;> assumption
section
variable {s : store_Store} {t : Tb} {l : List Int}
end
section
variable {s : store_Store} (hR : RtR (sO s)) {t : Tb} (hT : HR t) (hTB : TB t)
include hR hT hTB
end
end Go.Sh
namespace Go.Sh
set_option linter.unusedVariables false
set_option linter.unusedSimpArgs false
end Go.Sh
namespace Go.Sh
set_option linter.unusedVariables false
set_option linter.unusedSimpArgs false
end Go.Sh
namespace Go.Sh
set_option linter.unusedVariables false
set_option linter.unusedSimpArgs false
section
variable (s : store_Store) (hF : FB s) (t : Tb) (hTB : TB t)
include hF hTB
end
end Go.Sh
set_option linter.unusedSectionVars false
namespace Go.Sh
set_option linter.unusedVariables false
set_option linter.unusedSimpArgs false
def ce (s : store_Store) (i : Nat) : slab_Cell_store_Obj := s.S.Cells.getD i ⟨0, 0, z0⟩
theorem ce_lt {s : store_Store} {i : Nat} (h : i < s.S.Cells.length) : ce s i = s.S.Cells[i] := by
 unfold ce
 rw [List.getD_eq_getElem?_getD, List.getElem?_eq_getElem h]
 rfl
theorem ix_ce {s : store_Store} {i : Nat} (h : i < s.S.Cells.length) : ix s.S.Cells (i : Int) = some (ce s i) := by rw [ix_at h, ce_lt h]
def Th (c : slab_Cell_store_Obj) : Prop := c.State = 1 ∨ c.State = 2
instance (c : slab_Cell_store_Obj) : Decidable (Th c) := by unfold Th; infer_instance
structure OkO (s : store_Store) (o : store_Obj) : Prop where
 s1 : 1 ≤ o.Serial
 s2 : o.Serial ≤ s.Serial
 st : 0 ≤ o.Strong
 wk : 0 ≤ o.Weak
 p1 : -1 ≤ o.Prog
 p2 : o.Prog ≤ 5
 fl : o.Fields.length ≤ 4
structure SR (s : store_Store) : Prop where
 len : s.S.Cells.length ≤ 24
 l0 : 0 ≤ s.S.Last
 l9 : s.S.Last ≤ 9
 ser : 0 ≤ s.Serial
 cell : ∀ i, i < s.S.Cells.length → 0 ≤ (ce s i).State ∧ (ce s i).State ≤ 3 ∧ 0 ≤ (ce s i).Gen ∧ (ce s i).Gen ≤ s.S.Last
 no : ∀ i, i < s.S.Cells.length → ¬ Th (ce s i) → ObNo (oo (ce s i).Val)
 ok : ∀ i, i < s.S.Cells.length → Th (ce s i) → OkO s (ce s i).Val
 dif : ∀ i j, i < s.S.Cells.length → j < s.S.Cells.length → Th (ce s i) → Th (ce s j) → (ce s i).Val.Serial = (ce s j).Val.Serial → i = j
theorem rt_iff {s : store_Store} : RtR (sO s) ↔ SR s := by
 constructor
 ·intro h
  refine ⟨rt_len h, h.l0, h.l9, h.ser, fun i hi => ?_, fun i hi hn => ?_, fun i hi ht => ?_, fun i j hi hj a b e => ?_⟩
  ·rw [ce_lt hi]; exact rt_cell h i hi
  ·rw [ce_lt hi] at hn ⊢
   have := h.no i (by rw [sO_len]; exact hi)
   simp only [sO, List.getElem_map] at this
   exact this hn
  ·rw [ce_lt hi] at ht ⊢
   obtain ⟨a, b, c, d, e, f, g⟩ := rt_ok h i hi ht
   exact ⟨a, b, c, d, e, f, g⟩
  ·rw [ce_lt hi] at a e
   rw [ce_lt hj] at b e
   exact rt_dif h hi hj a b e
 ·intro h
  refine ⟨by rw [sO_len]; exact h.len, h.l0, h.l9, h.ser, fun i hi => ?_, fun i hi hn => ?_, fun i hi ht => ?_, fun i hi k hk a b => ?_⟩
  ·rw [sO_len] at hi
   have := h.cell i hi
   rw [ce_lt hi] at this
   simpa [sO, cO] using this
  ·rw [sO_len] at hi
   have := h.no i hi
   rw [ce_lt hi] at this
   simp only [sO, List.getElem_map] at hn ⊢
   exact this hn
  ·rw [sO_len] at hi
   have := h.ok i hi
   rw [ce_lt hi] at this
   simp only [sO, List.getElem_map] at ht ⊢
   obtain ⟨a, b, c, d, e, f, g⟩ := this ht
   exact ⟨a, b, c, d, e, f, g⟩
  ·rw [sO_len] at hi
   have hk' : k < s.S.Cells.length := by omega
   have := h.dif i k hi hk'
   rw [ce_lt hi, ce_lt hk'] at this
   simp only [sO, List.getElem_map, cO, oo] at a b ⊢
   intro e
   have := this a b e.symm
   omega
def At (s : store_Store) (h : Int) (i : Nat) : Prop := i < s.S.Cells.length ∧ (ce s i).State = 1 ∧ h = 1 + (i : Int) + 32 * (ce s i).Gen
def AtD (s : store_Store) (h : Int) (i : Nat) : Prop := i < s.S.Cells.length ∧ Th (ce s i) ∧ h = 1 + (i : Int) + 32 * (ce s i).Gen
theorem At.d {s : store_Store} {h : Int} {i : Nat} (q : At s h i) : AtD s h i := ⟨q.1, .inl q.2.1, q.2.2⟩
theorem AtD.one {s : store_Store} (hR : SR s) {h : Int} {i j : Nat} (q : AtD s h i) (q' : AtD s h j) : i = j := by
 obtain ⟨a1, _, a2⟩ := q
 obtain ⟨b1, _, b2⟩ := q'
 have := hR.len
 omega
theorem AtD.rng {s : store_Store} (hR : SR s) {h : Int} {i : Nat} (q : AtD s h i) : 1 ≤ h ∧ h ≤ 320 := by
 obtain ⟨a1, _, a2⟩ := q
 have := hR.len
 have := hR.cell i a1
 have := hR.l9
 omega
theorem mem_hnds {s : store_Store} {h : Int} : h ∈ hnds 0 s.S.Cells ↔ ∃ i, At s h i := by
 rw [hnds_mem]
 constructor
 ·rintro ⟨i, hi, h1, h2⟩
  refine ⟨i, hi, by rw [ce_lt hi]; exact h1, ?_⟩
  rw [ce_lt hi, h2, Nat.zero_add]
 ·rintro ⟨i, hi, h1, h2⟩
  rw [ce_lt hi] at h1 h2
  exact ⟨i, hi, h1, by rw [h2, Nat.zero_add]⟩
theorem lv_at {s : store_Store} (hR : SR s) {h : Int} : h ∈ lv s ↔ ∃ i, At s h i := by rw [lv_mem (rt_iff.2 hR), mem_hnds]
theorem fnd_at {s : store_Store} (hR : SR s) {h : Int} {i : Nat} : FndO s.S h i ↔ AtD s h i := by
 constructor
 ·rintro ⟨hi, h1, h2, h3, h4⟩
  unfold Hnd at h1
  refine ⟨hi, by rw [ce_lt hi]; exact h4, ?_⟩
  rw [ce_lt hi]
  omega
 ·rintro ⟨hi, h1, h2⟩
  have l := hR.len
  have l9 := hR.l9
  have c := hR.cell i hi
  rw [ce_lt hi] at h1 h2 c
  exact ⟨hi, by unfold Hnd; omega, by omega, by omega, h1⟩
theorem at_ob {s : store_Store} (hR : SR s) {h : Int} {i : Nat} (q : At s h i) : ob s h = (ce s i).Val := by
 obtain ⟨j, hj, h1, h2, _, e⟩ := lv_fnd (rt_iff.2 hR) ((lv_at hR).2 ⟨i, q⟩)
 have : j = i := AtD.one hR ⟨hj, by rw [ce_lt hj]; exact .inl h1, by rw [ce_lt hj]; exact h2⟩ q.d
 subst this
 rw [e, ce_lt hj]
theorem at_sk {s : store_Store} (hR : SR s) {h : Int} {i : Nat} (q : At s h i) : sk s.S.Cells h = (ce s i).Val.Serial := by
 have := hR.len
 have hi := q.1
 rw [q.2.2, sk_hd hi (by omega), ce_lt hi]
theorem at_find {s : store_Store} (hR : SR s) {h : Int} {i : Nat} (q : AtD s h i) : slab_Find_store_Obj s.S h = some ((i : Int), 0) := find_of_o ((fnd_at hR).2 q)
theorem at_find_no {s : store_Store} (hR : SR s) {h : Int} (hh : h ≤ 9223372036854775807) (q : ∀ i, ¬ AtD s h i) : slab_Find_store_Obj s.S h = some (-1, if h = 0 then 2 else 3) := find_no_o hh fun i hi => q i ((fnd_at hR).1 hi)
theorem lv_sub {s s' : store_Store} (hR : SR s) (hR' : SR s') (P : Int → Bool) (hm : ∀ h, (∃ i, At s' h i) ↔ (∃ i, At s h i) ∧ P h = true) (hk : ∀ h i j, At s' h i → At s h j → (ce s' i).Val.Serial = (ce s j).Val.Serial) : lv s' = (lv s).filter P := by
 have hk' : ∀ h ∈ lv s, P h = true → sk s'.S.Cells h = sk s.S.Cells h := fun h hh hp => by
  obtain ⟨j, hj⟩ := (lv_at hR).1 hh
  obtain ⟨i, hi⟩ := (hm h).2 ⟨⟨j, hj⟩, hp⟩
  rw [at_sk hR' hi, at_sk hR hj, hk h i j hi hj]
 refine lv_of (rt_iff.2 hR') ?_ ?_
 ·rw [List.perm_ext_iff_of_nodup ((lv_nodup (rt_iff.2 hR)).filter _) (hnds_nodup 0 _ (by have := hR'.len; omega))]
  intro h
  rw [List.mem_filter, lv_at hR, mem_hnds, hm h]
 ·refine ((lv_spec (rt_iff.2 hR)).2.2.filter P).imp_of_mem fun {a b} ha hb hab => ?_
  rw [List.mem_filter] at ha hb
  rw [hk' a ha.1 ha.2, hk' b hb.1 hb.2]
  exact hab
theorem lv_same {s s' : store_Store} (hR : SR s) (hR' : SR s') (hl : s'.S.Cells.length = s.S.Cells.length) (h1 : ∀ i, i < s.S.Cells.length → ((ce s' i).State = 1 ↔ (ce s i).State = 1) ∧ (ce s' i).Gen = (ce s i).Gen ∧ (ce s' i).Val.Serial = (ce s i).Val.Serial) : lv s' = lv s := by
 have ha : ∀ h i, At s' h i ↔ At s h i := fun h i => by
  unfold At
  rw [hl]
  constructor
  ·rintro ⟨a, b, c⟩
   obtain ⟨x, y, z⟩ := h1 i a
   exact ⟨a, x.1 b, by rw [← y]; exact c⟩
  ·rintro ⟨a, b, c⟩
   obtain ⟨x, y, z⟩ := h1 i a
   exact ⟨a, x.2 b, by rw [y]; exact c⟩
 rw [lv_sub hR hR' (fun _ => true) (fun h => by simp only [and_true]; exact ⟨fun ⟨i, q⟩ => ⟨i, (ha h i).1 q⟩, fun ⟨i, q⟩ => ⟨i, (ha h i).2 q⟩⟩) (fun h i j q q' => by
  have := AtD.one hR ((ha h i).1 q).d q'.d
  subst this
  exact (h1 i q'.1).2.2)]
 simp
def putAt (s : store_Store) (i : Nat) (o : store_Obj) : store_Store := ⟨⟨s.S.Cells.set i ⟨(ce s i).State, (ce s i).Gen, o⟩, s.S.Last⟩, s.Serial⟩
theorem putAt_len (s : store_Store) (i : Nat) (o : store_Obj) : (putAt s i o).S.Cells.length = s.S.Cells.length := by simp [putAt]
theorem getD_set {α : Type} {l : List α} {i : Nat} (hi : i < l.length) (c d : α) (j : Nat) : (l.set i c).getD j d = if j = i then c else l.getD j d := by
 rw [List.getD_eq_getElem?_getD, List.getD_eq_getElem?_getD, List.getElem?_set]
 by_cases h : j = i
 ·subst h
  rw [if_pos rfl, if_pos hi, if_pos rfl]
  rfl
 ·rw [if_neg (Ne.symm h), if_neg h]
theorem ce_put {s : store_Store} {i : Nat} (hi : i < s.S.Cells.length) (o : store_Obj) (j : Nat) : ce (putAt s i o) j = if j = i then ⟨(ce s i).State, (ce s i).Gen, o⟩ else ce s j := getD_set hi _ _ j
theorem th_put {s : store_Store} {i : Nat} (hi : i < s.S.Cells.length) (o : store_Obj) (j : Nat) : (ce (putAt s i o) j).State = (ce s j).State ∧ (ce (putAt s i o) j).Gen = (ce s j).Gen := by
 rw [ce_put hi]
 split
 ·rename_i q; subst q; exact ⟨rfl, rfl⟩
 ·exact ⟨rfl, rfl⟩
theorem atD_put {s : store_Store} {i : Nat} (hi : i < s.S.Cells.length) (o : store_Obj) {h : Int} {j : Nat} : AtD (putAt s i o) h j ↔ AtD s h j := by
 unfold AtD Th
 rw [putAt_len, (th_put hi o j).1, (th_put hi o j).2]
theorem at_put {s : store_Store} {i : Nat} (hi : i < s.S.Cells.length) (o : store_Obj) {h : Int} {j : Nat} : At (putAt s i o) h j ↔ At s h j := by
 unfold At
 rw [putAt_len, (th_put hi o j).1, (th_put hi o j).2]
theorem set_at {s : store_Store} (hR : SR s) {h : Int} {i : Nat} (q : AtD s h i) (o : store_Obj) : store_Set s h o = some (putAt s i o, 0) := by
 obtain ⟨hi, e⟩ := set_of_o (v := o) hR.len ((fnd_at hR).2 q)
 unfold store_Set
 rw [e]
 simp [putAt, ce_lt hi]
theorem SR.put {s : store_Store} (hR : SR s) {i : Nat} (hi : i < s.S.Cells.length) (ht : Th (ce s i)) {o : store_Obj} (hs : o.Serial = (ce s i).Val.Serial) (ho : OkO s o) : SR (putAt s i o) := by
 have hst := th_put hi o
 have hse : ∀ j, (ce (putAt s i o) j).Val.Serial = (ce s j).Val.Serial := fun j => by
  rw [ce_put hi]
  split
  ·rename_i q; subst q; exact hs
  ·rfl
 refine ⟨by rw [putAt_len]; exact hR.len, hR.l0, hR.l9, hR.ser, fun j hj => ?_, fun j hj hn => ?_, fun j hj hn => ?_, fun j k hj hk a b e => ?_⟩
 ·rw [putAt_len] at hj
  rw [(hst j).1, (hst j).2]
  exact hR.cell j hj
 ·rw [putAt_len] at hj
  unfold Th at hn
  rw [(hst j).1] at hn
  rw [ce_put hi]
  split
  ·rename_i q; subst q; exact absurd ht hn
  ·exact hR.no j hj hn
 ·rw [putAt_len] at hj
  unfold Th at hn
  rw [(hst j).1] at hn
  rw [ce_put hi]
  split
  ·exact ⟨ho.s1, ho.s2, ho.st, ho.wk, ho.p1, ho.p2, ho.fl⟩
  ·have := hR.ok j hj hn
   exact ⟨this.s1, this.s2, this.st, this.wk, this.p1, this.p2, this.fl⟩
 ·rw [putAt_len] at hj hk
  unfold Th at a b
  rw [(hst j).1] at a
  rw [(hst k).1] at b
  rw [hse, hse] at e
  exact hR.dif j k hj hk a b e
theorem lv_put {s : store_Store} (hR : SR s) {i : Nat} (hi : i < s.S.Cells.length) {o : store_Obj} (hs : o.Serial = (ce s i).Val.Serial) (hR' : SR (putAt s i o)) : lv (putAt s i o) = lv s := by
 refine lv_same hR hR' (putAt_len ..) fun j hj => ?_
 rw [ce_put hi]
 split
 ·rename_i q; subst q; exact ⟨Iff.rfl, rfl, hs⟩
 ·exact ⟨Iff.rfl, rfl, rfl⟩
theorem ob_put {s : store_Store} (hR : SR s) {h : Int} {i : Nat} (q : At s h i) {o : store_Obj} (hR' : SR (putAt s i o)) {k : Int} (hk : k ≤ 9223372036854775807) : ob (putAt s i o) k = if k = h then o else ob s k := by
 by_cases e : k = h
 ·subst e
  rw [if_pos rfl, at_ob hR' ((at_put q.1 o).2 q), ce_put q.1, if_pos rfl]
 ·rw [if_neg e]
  by_cases hl : ∃ j, At s k j
  ·obtain ⟨j, hj⟩ := hl
   rw [at_ob hR' ((at_put q.1 o).2 hj), at_ob hR hj, ce_put q.1, if_neg]
   intro e2
   subst e2
   exact e (hj.2.2.trans q.2.2.symm)
  ·rw [ob_no (rt_iff.2 hR) hk (fun q2 => hl ((lv_at hR).1 q2)), ob_no (rt_iff.2 hR') hk fun q2 => hl (by
    obtain ⟨j, hj⟩ := (lv_at hR').1 q2
    exact ⟨j, (at_put q.1 o).1 hj⟩)]
def pls (h : Int) : Nat := ((h - 1) % 32).toNat
theorem AtD.pls {s : store_Store} (hR : SR s) {h : Int} {i : Nat} (q : AtD s h i) : pls h = i := by
 obtain ⟨a, _, c⟩ := q
 have := hR.len
 unfold Sh.pls
 omega
def seO (s : store_Store) (h : Int) (o : store_Obj) : store_Store := putAt s (pls h) o
theorem lv_place {s : store_Store} (hR : SR s) {h : Int} (hh : h ∈ lv s) : At s h (pls h) := by
 obtain ⟨i, hi⟩ := (lv_at hR).1 hh
 rw [hi.d.pls hR]
 exact hi
theorem lv_okO {s : store_Store} (hR : SR s) {h : Int} (hh : h ∈ lv s) : OkO s (ob s h) := by
 have q := lv_place hR hh
 rw [at_ob hR q]
 exact hR.ok _ q.1 (.inl q.2.1)
theorem lv_rng {s : store_Store} (hR : SR s) {h : Int} (hh : h ∈ lv s) : 1 ≤ h ∧ h ≤ 320 := (lv_place hR hh).d.rng hR
theorem lv_0 {s : store_Store} (hR : SR s) : (0 : Int) ∉ lv s := fun h => by have := lv_rng hR h; omega
section
variable {s : store_Store} (hR : SR s) {h : Int} (hh : h ∈ lv s) {o : store_Obj} (hs : o.Serial = (ob s h).Serial) (ho : OkO s o)
include hR hh hs ho
theorem seO_sr : SR (seO s h o) := by
 have q := lv_place hR hh
 exact hR.put q.1 (.inl q.2.1) (by rw [hs, at_ob hR q]) ho
theorem seO_lv : lv (seO s h o) = lv s := by
 have q := lv_place hR hh
 exact lv_put hR q.1 (by rw [hs, at_ob hR q]) (seO_sr hR hh hs ho)
theorem seO_ob {k : Int} (hk : k ≤ 9223372036854775807) : ob (seO s h o) k = if k = h then o else ob s k := ob_put hR (lv_place hR hh) (seO_sr hR hh hs ho) hk
theorem seO_set : store_Set s h o = some (seO s h o, 0) := set_at hR (lv_place hR hh).d o
theorem seO_at {k : Int} {i : Nat} : AtD (seO s h o) k i ↔ AtD s k i := atD_put (lv_place hR hh).1 o
theorem seO_ce (i : Nat) : ce (seO s h o) i = if i = pls h then ⟨(ce s i).State, (ce s i).Gen, o⟩ else ce s i := by
 unfold seO
 rw [ce_put (lv_place hR hh).1]
 split
 ·rename_i q; rw [q]
 ·rfl
end
abbrev stg (o : store_Obj) (n : Int) : store_Obj := ⟨o.Serial, n, o.Weak, o.Prog, o.Started, o.Fields⟩
structure Kin (s s' : store_Store) : Prop where
 sr : SR s'
 len : s'.S.Cells.length = s.S.Cells.length
 last : s'.S.Last = s.S.Last
 ser : s'.Serial = s.Serial
 lv : lv s' = lv s
 ad : ∀ k i, AtD s' k i ↔ AtD s k i
 ob : ∀ k, k ≤ 9223372036854775807 → ∃ n, ob s' k = (stg (ob s k) (n))
 ce : ∀ i, i < s.S.Cells.length → (ce s' i).State = (ce s i).State ∧ (ce s' i).Gen = (ce s i).Gen ∧ (ce s' i).Val.Weak = (ce s i).Val.Weak ∧ (ce s' i).Val.Fields = (ce s i).Val.Fields ∧ ((ce s i).State ≠ 1 → ce s' i = ce s i)
theorem Kin.refl {s : store_Store} (hR : SR s) : Kin s s := ⟨hR, rfl, rfl, rfl, rfl, fun _ _ => Iff.rfl, fun k _ => ⟨_, rfl⟩, fun i _ => ⟨rfl, rfl, rfl, rfl, fun _ => rfl⟩⟩
theorem Kin.trans {a b c : store_Store} (h : Kin a b) (q : Kin b c) : Kin a c := by
 refine ⟨q.sr, q.len.trans h.len, q.last.trans h.last, q.ser.trans h.ser, q.lv.trans h.lv, fun k i => (q.ad k i).trans (h.ad k i), fun k hk => ?_, fun i hi => ?_⟩
 ·obtain ⟨n, e⟩ := h.ob k hk
  obtain ⟨m, f⟩ := q.ob k hk
  exact ⟨m, by rw [f, e]⟩
 ·obtain ⟨a1, a2, a3, a4, a5⟩ := h.ce i hi
  obtain ⟨b1, b2, b3, b4, b5⟩ := q.ce i (by rw [h.len]; exact hi)
  refine ⟨b1.trans a1, b2.trans a2, b3.trans a3, b4.trans a4, fun hn => ?_⟩
  rw [b5 (by rw [a1]; exact hn), a5 hn]
theorem Kin.outs {s s' : store_Store} (k : Kin s s') {h : Int} (hh : h ≤ 9223372036854775807) : outs s' h = outs s h := by
 obtain ⟨n, e⟩ := k.ob h hh
 unfold Sh.outs
 rw [e]
theorem Kin.inn {s s' : store_Store} (hR : SR s) (k : Kin s s') (h : Int) : inn s' h = inn s h := by
 unfold Sh.inn
 rw [k.lv]
 congr 1
 refine List.map_congr_left fun x hx => ?_
 rw [k.outs (by have := lv_rng hR hx; omega)]
theorem kin_seO {s : store_Store} (hR : SR s) {h : Int} (hh : h ∈ lv s) {n : Int} (hn : 0 ≤ n) : Kin s (seO s h (stg (ob s h) (n))) := by
 have ho : OkO s (stg (ob s h) (n)) := by
  have := lv_okO hR hh
  exact ⟨this.s1, this.s2, hn, this.wk, this.p1, this.p2, this.fl⟩
 have q := lv_place hR hh
 refine ⟨seO_sr hR hh rfl ho, putAt_len .., rfl, rfl, seO_lv hR hh rfl ho, fun k i => seO_at (o := (stg (ob s h) (n))) hR hh rfl ho, fun k hk => ?_, fun i hi => ?_⟩
 ·rw [seO_ob (o := (stg (ob s h) (n))) hR hh rfl ho hk]
  split
  ·rename_i e; subst e; exact ⟨n, rfl⟩
  ·exact ⟨_, rfl⟩
 ·rw [seO_ce (o := (stg (ob s h) (n))) hR hh rfl ho]
  split
  ·rename_i e
   subst e
   rw [at_ob hR q]
   exact ⟨rfl, rfl, rfl, rfl, fun hn => absurd q.2.1 hn⟩
  ·exact ⟨rfl, rfl, rfl, rfl, fun _ => rfl⟩
def SB (s : store_Store) : Prop := ∀ c ∈ s.S.Cells, c.Val.Strong ≤ 9223372036854775807
theorem fb_ce {s : store_Store} : FB s ↔ ∀ i, i < s.S.Cells.length → ∀ x ∈ (ce s i).Val.Fields, x ≤ 9223372036854775807 := by
 constructor
 ·intro h i hi x hx
  rw [ce_lt hi] at hx
  exact h _ (List.getElem_mem hi) x hx
 ·intro h c hc x hx
  obtain ⟨i, hi, rfl⟩ := List.getElem_of_mem hc
  exact h i hi x (by rw [ce_lt hi]; exact hx)
theorem sb_ce {s : store_Store} : SB s ↔ ∀ i, i < s.S.Cells.length → (ce s i).Val.Strong ≤ 9223372036854775807 := by
 constructor
 ·intro h i hi
  rw [ce_lt hi]
  exact h _ (List.getElem_mem hi)
 ·intro h c hc
  obtain ⟨i, hi, rfl⟩ := List.getElem_of_mem hc
  have := h i hi
  rwa [ce_lt hi] at this
end Go.Sh
namespace Go.Sh
set_option linter.unusedVariables false
set_option linter.unusedSimpArgs false
noncomputable def inr (s : store_Store) (t : Tb) (h : Int) : Nat := inn s h + own t h
noncomputable def rst (s : store_Store) (t : Tb) (h : Int) : Int := if h ∈ lv s then (ob s h).Strong - (inr s t h : Int) else 0
def FairP (s : store_Store) (t : Tb) (l : List Int) : Prop := ∀ h ∈ lv s, (ob s h).Strong < 12 → rst s t h = (tms l h : Int)
noncomputable instance (s : store_Store) (t : Tb) (l : List Int) : Decidable (FairP s t l) := Classical.propDecidable _
section
variable {s : store_Store} (hR : RtR (sO s)) {t : Tb} (hT : HR t)
include hR hT
theorem inner_eq (h : Int) : trial_Inner s t h = some (inr s t h : Int) := by
 unfold trial_Inner
 have h1 := inn_le hR h
 have h2 := own_le hT.l8 h
 rw [in_eq hR, Option.bind_some, owned_eq hT, Option.bind_some, w64_in (by omega) (by omega)]
 unfold inr
 simp
theorem inner13_eq (h : Int) : r13_Inner (sO s) (t.map hpl) h = some (inr s t h : Int) := by
 unfold r13_Inner
 have h1 := inn_le hR h
 have h2 := own_le hT.l8 h
 rw [in07_eq hR, Option.bind_some, rowned_eq hT, Option.bind_some, w64_in (by omega) (by omega)]
 unfold inr
 simp
theorem inr_le (h : Int) : inr s t h ≤ 104 := by
 have h1 := inn_le hR h
 have h2 := own_le hT.l8 h
 unfold inr
 omega
omit hT in
theorem strong_bd (hB : SB s) {h : Int} (hh : h ∈ lv s) : 0 ≤ (ob s h).Strong ∧ (ob s h).Strong ≤ 9223372036854775807 := by
 obtain ⟨i, hi⟩ := (lv_at (rt_iff.1 hR)).1 hh
 rw [at_ob (rt_iff.1 hR) hi]
 refine ⟨((rt_iff.1 hR).ok i hi.1 (.inl hi.2.1)).st, ?_⟩
 rw [ce_lt hi.1]
 exact hB _ (List.getElem_mem _)
theorem rest_eq (hB : SB s) {h : Int} (hh : h ≤ 9223372036854775807) : trial_Rest s t h = some (rst s t h) := by
 unfold trial_Rest
 obtain ⟨e, h1, h2⟩ := get_ob hR hh
 rw [h1, Option.bind_some]
 by_cases q : h ∈ lv s
 ·have := h2.2 q
  subst this
  have h3 := inr_le hR hT h
  have h4 := strong_bd hR hB q
  rw [if_neg (by simp), inner_eq hR hT, Option.bind_some, w64_in (by dsimp only; omega) (by dsimp only; omega)]
  unfold rst
  rw [if_pos q]
 ·rw [if_pos (by simpa using fun q2 => q (h2.1 q2))]
  unfold rst
  rw [if_neg q]
theorem rest13_eq (hB : SB s) {h : Int} (hh : h ≤ 9223372036854775807) : r13_Rest (sO s) (t.map hpl) h = some (rst s t h) := by
 unfold r13_Rest
 obtain ⟨e, h1, h2⟩ := get_ob hR hh
 rw [get06 s (by have := rt_len hR; omega) hh, h1, Option.map_some, Option.bind_some]
 by_cases q : h ∈ lv s
 ·have := h2.2 q
  subst this
  have h3 := inr_le hR hT h
  have h4 := strong_bd hR hB q
  rw [if_neg (by simp), inner13_eq hR hT, Option.bind_some]
  simp only [oo]
  rw [w64_in (by omega) (by omega)]
  unfold rst
  rw [if_pos q]
 ·rw [if_pos (by simpa using fun q2 => q (h2.1 q2))]
  unfold rst
  rw [if_neg q]
omit hT in
theorem stuck13_eq {h : Int} (hh : h ≤ 9223372036854775807) : r13_stuck (sO s) h = some (decide (12 ≤ (ob s h).Strong)) := by
 unfold r13_stuck r04_Stuck
 obtain ⟨e, h1, h2⟩ := get_ob hR hh
 rw [get06 s (by have := rt_len hR; omega) hh, h1, Option.map_some, Option.bind_some, Option.bind_some]
 rfl
omit hT in
theorem lv_le {k : Nat} (hk : k < (lv s).length) : (lv s)[k] ≤ 9223372036854775807 := by
 have := lv_pos hR (List.getElem_mem hk)
 omega
theorem fair_eq (hB : SB s) {l : List Int} (hl : l.length ≤ 1000000) : trial_Fair s t l = some (decide (FairP s t l)) := by
 unfold trial_Fair
 simp only [jn]
 have h24 := lv_len hR
 rw [lv_live hR, Option.bind_some, lp_foldl (lv s) (fun b x => if decide ((ob s x).Strong < 12 ∧ rst s t x ≠ (tms l x : Int)) then b ++ [x] else b) id (fun k b => b.length ≤ k) (by omega) (by simp) (fun k hk b hI => ?_) (fun b _ => by simp), Option.bind_some]
 ·rw [foldl_filter]
  simp only [id, List.nil_append]
  congr 1
  rw [Bool.eq_iff_iff, decide_eq_true_iff, beq_iff_eq]
  constructor
  ·intro e h hh hs
   have : (lv s).filter (fun x => decide ((ob s x).Strong < 12 ∧ rst s t x ≠ (tms l x : Int))) = [] := List.eq_nil_of_length_eq_zero (by omega)
   rw [List.filter_eq_nil_iff] at this
   have := this h hh
   simp only [decide_eq_true_eq, not_and, Decidable.not_not] at this
   exact this hs
  ·intro q
   rw [List.filter_eq_nil_iff.2]
   ·rfl
   ·intro h hh
    simp only [decide_eq_true_eq, not_and, Decidable.not_not]
    exact q h hh
 ·have hm := List.getElem_mem hk
  have hle := lv_le hR hk
  simp only [Int.ofNat_lt, hk, decide_true, if_true, ix_at hk, Option.bind_some]
  rw [lv_get hR hm, Option.bind_some]
  unfold trial_Fair_1 count_Stuck count_tally_stuck
  simp only [Option.bind_some]
  by_cases q2 : 12 ≤ (ob s (lv s)[k]).Strong
  ·rw [decide_eq_true (show (ob s (lv s)[k]).Strong ≥ 12 from q2)]
   simp only [Bool.not_true, show ((false == true) : Bool) = false from rfl, onlyF, Option.bind_some, Bool.false_and, Bool.false_eq_true, if_false]
   rw [w64_nat, if_neg (by simp; omega)]
   exact ⟨rfl, by omega⟩
  ·rw [decide_eq_false (show ¬ (ob s (lv s)[k]).Strong ≥ 12 from q2)]
   simp only [Bool.not_false, beq_self_eq_true, onlyT, Bool.true_and]
   rw [rest_eq hR hT hB hle, Option.bind_some, times_eq _ _ hl, Option.bind_some, Option.bind_some]
   by_cases q3 : rst s t (lv s)[k] = (tms l (lv s)[k] : Int)
   ·rw [if_neg (by simpa using q3), w64_nat, if_neg (by simp only [decide_eq_true_eq]; exact fun c => c.2 q3)]
    exact ⟨rfl, by omega⟩
   ·rw [if_pos (by simpa using q3), app_ok (by omega) (by simp; omega), Option.bind_some, w64_nat, if_pos (decide_eq_true ⟨by omega, q3⟩)]
    exact ⟨rfl, by simp; omega⟩
theorem fair13_eq (hB : SB s) {l : List Int} (hl : l.length ≤ 1000000) : r13_Fair (sO s) (t.map hpl) l = some (decide (FairP s t l)) := by
 unfold r13_Fair
 simp only [jn]
 have h24 := lv_len hR
 rw [live06 hR, Option.bind_some, lp_all (lv s) (fun x => !decide ((ob s x).Strong < 12 ∧ rst s t x ≠ (tms l x : Int))) (.inr ()) (.inl false) (by omega) (fun k hk => ?_) (by simp), Option.bind_some]
 ·have : (lv s).all (fun x => !decide ((ob s x).Strong < 12 ∧ rst s t x ≠ (tms l x : Int))) = decide (FairP s t l) := by
   rw [Bool.eq_iff_iff, decide_eq_true_iff, List.all_eq_true]
   constructor
   ·intro e h hh hs
    have := e h hh
    simp only [Bool.not_eq_true', decide_eq_false_iff_not, not_and, Decidable.not_not] at this
    exact this hs
   ·intro q h hh
    simp only [Bool.not_eq_true', decide_eq_false_iff_not, not_and, Decidable.not_not]
    exact q h hh
  rw [this]
  by_cases q : FairP s t l
  ·rw [decide_eq_true q]; rfl
  ·rw [decide_eq_false q]; rfl
 ·have hle := lv_le hR hk
  simp only [Int.ofNat_lt, hk, decide_true, if_true, ix_at hk, Option.bind_some]
  rw [stuck13_eq hR hle, Option.bind_some]
  by_cases q2 : 12 ≤ (ob s (lv s)[k]).Strong
  ·rw [decide_eq_true q2]
   simp only [Bool.not_true, show ((false == true) : Bool) = false from rfl, onlyF, Option.bind_some, Bool.false_and, Bool.false_eq_true, if_false]
   rw [w64_nat, if_pos (by simp; omega)]
  ·rw [decide_eq_false q2]
   simp only [Bool.not_false, beq_self_eq_true, onlyT, Bool.true_and]
   rw [rest13_eq hR hT hB hle, Option.bind_some, times07_eq _ _ hl, Option.bind_some]
   by_cases q3 : rst s t (lv s)[k] = (tms l (lv s)[k] : Int)
   ·rw [if_neg (by simpa using q3), w64_nat, if_pos (by simp [q3])]
   ·rw [if_pos (by simpa using q3), if_neg (by simp; exact ⟨by omega, q3⟩)]
end
end Go.Sh
namespace Go.Sh
set_option linter.unusedVariables false
set_option linter.unusedSimpArgs false
abbrev TQ := queue_Queue_task_Task
def tad (q : TQ) (t : task_Task) : TQ × Int := if q.Cap ≤ q.L.length then (q, 4) else (⟨q.L ++ [t], q.Cap⟩, 0)
theorem t_add {q : TQ} (t : task_Task) (h : q.L.length ≤ 1000) : task_Add q t = some (tad q t) := by
 unfold tad
 unfold task_Add queue_Push_task_Task queue_Len_task_Task queue_part_task_Task
 simp only [Option.bind_some]
 by_cases c : q.Cap ≤ q.L.length
 ·rw [if_pos (by simpa using c), if_pos c, Option.bind_some]
 ·rw [if_neg (by simpa using c), if_neg c]
  have e : cut q.L 0 (q.L.length : Int) = some q.L := by
   have := cut_ok (xs := q.L) (i := 0) (j := q.L.length) (Nat.zero_le _) (Nat.le_refl _)
   simpa using this
  rw [e, Option.bind_some, Option.bind_some, app_ok (by omega) (by simp; omega), Option.bind_some, Option.bind_some]
theorem filt_snoc {α β : Type} (p : α → Bool) (f : α → β) (l : List α) (k : Nat) (h : k < l.length) : ((l.take (k + 1)).filter p).map f = ((l.take k).filter p).map f ++ (if p l[k] then [f l[k]] else []) := by
 rw [List.take_succ_eq_append_getElem h, List.filter_append, List.map_append]
 congr 1
 simp only [List.filter_cons, List.filter_nil]
 split <;> rfl
theorem t_held {q : TQ} (h : q.L.length ≤ 1000) : task_Held q = some ((q.L.filter (·.Kind == 1)).map (·.At)) := by
 unfold task_Held task_of
 simp only [jn, Option.bind_some]
 refine lpb_upS q.L.length (fun k l => l = ((q.L.take k).filter (·.Kind == 1)).map (·.At)) (by omega) (by simp) ?_ (fun l hl => ⟨_, by simp; rfl, by rw [hl, List.take_length]⟩)
 rintro k l hk rfl
 left
 rw [filt_snoc _ _ _ _ hk]
 simp only [Int.ofNat_lt, hk, decide_true, if_true, ix_at hk, Option.bind_some]
 have hle : (List.map (·.At) (List.filter (·.Kind == 1) (List.take k q.L))).length ≤ 1000 := by
  rw [List.length_map]
  exact Nat.le_trans (List.length_filter_le ..) (by simp; omega)
 by_cases c : (q.L[k].Kind == 1) = true
 ·rw [c, if_pos (by decide), app_ok (by omega) (by simp only [List.length_cons, List.length_nil]; omega), Option.bind_some, w64_nat]
  exact ⟨_, rfl, rfl⟩
 ·have c : (q.L[k].Kind == 1) = false := by simpa using c
  rw [c, if_neg (by decide), w64_nat]
  exact ⟨_, rfl, by simp⟩
end Go.Sh
namespace Go.Sh
set_option linter.unusedVariables false
set_option linter.unusedSimpArgs false
def tkR (t : task_Task) : r14_Task := ⟨t.Kind, t.At, t.Prog⟩
def tqR (q : TQ) : r14_Queue := ⟨q.L.map tkR, q.Cap⟩
theorem r_add {q : TQ} (t : task_Task) (h : q.L.length ≤ 1000) : r14_Add (tqR q) (tkR t) = some (tqR (tad q t).1, (tad q t).2) := by
 unfold r14_Add tad
 have hl : (tqR q).L.length = q.L.length := by simp [tqR]
 by_cases c : q.Cap ≤ q.L.length
 ·rw [if_pos (by simp [hl]; exact c), if_pos c]
 ·rw [if_neg (by simp [hl]; exact Int.not_le.1 c), if_neg c, app_nil (by omega) (by rw [hl]; omega), Option.bind_some, app_ok (by omega) (by simp [hl]; omega), Option.bind_some]
  simp [tqR]
theorem r_held {q : TQ} (h : q.L.length ≤ 1000) : r14_Held (tqR q) = some ((q.L.filter (·.Kind == 1)).map (·.At)) := by
 unfold r14_Held
 have hl : (tqR q).L.length = q.L.length := by simp [tqR]
 simp only [jn, hl]
 refine lpb_upS q.L.length (fun k l => l = ((q.L.take k).filter (·.Kind == 1)).map (·.At)) (by omega) (by simp) ?_ (fun l hl => ⟨_, by simp; rfl, by rw [hl, List.take_length]⟩)
 rintro k l hk rfl
 left
 rw [filt_snoc _ _ _ _ hk]
 have e : ix (tqR q).L (k : Int) = some (tkR q.L[k]) := by rw [show (tqR q).L = q.L.map tkR from rfl, ix_map', ix_at hk]; rfl
 simp only [Int.ofNat_lt, hk, decide_true, if_true, e, Option.bind_some]
 have hle : (List.map (·.At) (List.filter (·.Kind == 1) (List.take k q.L))).length ≤ 1000 := by
  rw [List.length_map]
  exact Nat.le_trans (List.length_filter_le ..) (by simp; omega)
 by_cases c : (q.L[k].Kind == 1) = true
 ·rw [show ((tkR q.L[k]).Kind == 1) = true from c, if_pos rfl, app_ok (by omega) (by simp only [List.length_cons, List.length_nil]; omega), Option.bind_some, w64_nat, if_pos c]
  exact ⟨_, rfl, rfl⟩
 ·have c : (q.L[k].Kind == 1) = false := by simpa using c
  rw [show ((tkR q.L[k]).Kind == 1) = false from c, if_neg (by decide), w64_nat, if_neg (by simp [c])]
  exact ⟨_, rfl, by simp⟩
theorem r_waits {q : TQ} {w : Int} (h : q.L.length ≤ 1000) : r14_Waits (tqR q) w = some (q.L.any fun t => t.Kind == 2 && t.At == w) := by
 unfold r14_Waits
 have hl : (tqR q).L.length = q.L.length := by simp [tqR]
 simp only [jn, hl]
 refine lpb_up q.L.length (fun k => (q.L.take k).any (fun t => t.Kind == 2 && t.At == w) = false) (by omega) (by simp) ?_ (fun hl => ⟨.inr (), by simp, by rw [List.take_length] at hl; rw [hl]⟩)
 intro k hk hP
 have e : ix (tqR q).L (k : Int) = some (tkR q.L[k]) := by rw [show (tqR q).L = q.L.map tkR from rfl, ix_map', ix_at hk]; rfl
 simp only [Int.ofNat_lt, hk, decide_true, if_true, e, Option.bind_some]
 rw [List.take_succ_eq_append_getElem hk, List.any_append, hP, Bool.false_or]
 by_cases c : (q.L[k].Kind == 2 && q.L[k].At == w) = true
 ·right
  rw [show ((tkR q.L[k]).Kind == 2 && (tkR q.L[k]).At == w) = true from c, if_pos rfl]
  refine ⟨.inl true, rfl, ?_⟩
  simp only [Option.some.injEq]
  symm
  rw [List.any_eq_true]
  exact ⟨_, List.getElem_mem hk, c⟩
 ·have c : (q.L[k].Kind == 2 && q.L[k].At == w) = false := by simpa using c
  left
  rw [show ((tkR q.L[k]).Kind == 2 && (tkR q.L[k]).At == w) = false from c, if_neg (by decide), w64_nat]
  exact ⟨rfl, by simp [c]⟩
end Go.Sh
set_option linter.unusedSectionVars false
namespace Go.Sh
set_option linter.unusedVariables false
set_option linter.unusedSimpArgs false
abbrev Hp := hold_Heap
abbrev wS (x : Hp) (s : store_Store) : Hp := ⟨s, x.Roots, x.Cells, x.T, x.Q⟩
abbrev wR (x : Hp) (l : List Int) : Hp := ⟨x.S, l, x.Cells, x.T, x.Q⟩
def nmg (l : List weak_Cell) (h : Int) : Nat := l.countP fun c => (h != 0) && (c.Target == h)
def hlds (q : TQ) : List Int := (q.L.filter (·.Kind == 1)).map (·.At)
def wts (q : TQ) (w : Int) : Bool := q.L.any fun t => t.Kind == 2 && t.At == w
def otr (x : Hp) : List Int := nz x.Roots ++ hlds x.Q
noncomputable def nms (x : Hp) (h : Int) : Nat := inn x.S h + own x.T h + tms (otr x) h
def setC (s : store_Store) (i : Nat) (c : slab_Cell_store_Obj) : store_Store := ⟨⟨s.S.Cells.set i c, s.S.Last⟩, s.Serial⟩
theorem setC_len (s : store_Store) (i : Nat) (c : slab_Cell_store_Obj) : (setC s i c).S.Cells.length = s.S.Cells.length := by simp [setC]
theorem ce_setC {s : store_Store} {i : Nat} (hi : i < s.S.Cells.length) (c : slab_Cell_store_Obj) (j : Nat) : ce (setC s i c) j = if j = i then c else ce s j := getD_set hi _ _ j
theorem SR.setC {s : store_Store} (hR : SR s) {i : Nat} (hi : i < s.S.Cells.length) {c : slab_Cell_store_Obj} (h1 : 0 ≤ c.State ∧ c.State ≤ 3 ∧ 0 ≤ c.Gen ∧ c.Gen ≤ s.S.Last) (h2 : ¬ Th c → ObNo (oo c.Val)) (h3 : Th c → OkO s c.Val ∧ Th (ce s i) ∧ c.Val.Serial = (ce s i).Val.Serial) : SR (setC s i c) := by
 have key : ∀ j, Th (ce (Sh.setC s i c) j) → Th (ce s j) ∧ (ce (Sh.setC s i c) j).Val.Serial = (ce s j).Val.Serial := fun j hj => by
  rw [ce_setC hi] at hj ⊢
  split at hj
  ·rename_i e
   subst e
   rw [if_pos rfl]
   exact (h3 hj).2
  ·rename_i e
   rw [if_neg e]
   exact ⟨hj, rfl⟩
 refine ⟨by rw [setC_len]; exact hR.len, hR.l0, hR.l9, hR.ser, fun j hj => ?_, fun j hj hn => ?_, fun j hj hn => ?_, fun j k hj hk a b e => ?_⟩
 ·rw [setC_len] at hj
  rw [ce_setC hi]
  split
  ·exact h1
  ·exact hR.cell j hj
 ·rw [setC_len] at hj
  rw [ce_setC hi] at hn ⊢
  split at hn
  ·rename_i e
   rw [if_pos e]; exact h2 hn
  ·rename_i e
   rw [if_neg e]; exact hR.no j hj hn
 ·rw [setC_len] at hj
  rw [ce_setC hi] at hn ⊢
  split at hn
  ·rename_i e
   rw [if_pos e]
   have := (h3 hn).1
   exact ⟨this.s1, this.s2, this.st, this.wk, this.p1, this.p2, this.fl⟩
  ·rename_i e
   rw [if_neg e]
   have := hR.ok j hj hn
   exact ⟨this.s1, this.s2, this.st, this.wk, this.p1, this.p2, this.fl⟩
 ·rw [setC_len] at hj hk
  obtain ⟨a1, a2⟩ := key j a
  obtain ⟨b1, b2⟩ := key k b
  rw [a2, b2] at e
  exact hR.dif j k hj hk a1 b1 e
theorem at_setC {s : store_Store} {i : Nat} (hi : i < s.S.Cells.length) (c : slab_Cell_store_Obj) {h : Int} {j : Nat} (hj : j ≠ i) : At (setC s i c) h j ↔ At s h j := by
 unfold At
 rw [setC_len, ce_setC hi, if_neg hj]
theorem lv_setC {s : store_Store} (hR : SR s) {i : Nat} (hi : i < s.S.Cells.length) {c : slab_Cell_store_Obj} (hc : c.State ≠ 1) (hR' : SR (setC s i c)) : lv (setC s i c) = (lv s).filter fun h => decide (pls h ≠ i) := by
 have hno : ∀ h, ¬ At (setC s i c) h i := fun h q => by
  have := q.2.1
  rw [ce_setC hi, if_pos rfl] at this
  exact hc this
 refine lv_sub hR hR' _ (fun h => ?_) (fun h j k q q' => ?_)
 ·rw [decide_eq_true_iff]
  constructor
  ·rintro ⟨j, hj⟩
   have hne : j ≠ i := fun e => hno h (e ▸ hj)
   have := (at_setC hi c hne).1 hj
   exact ⟨⟨j, this⟩, by rw [this.d.pls hR]; exact hne⟩
  ·rintro ⟨⟨j, hj⟩, hp⟩
   rw [hj.d.pls hR] at hp
   exact ⟨j, (at_setC hi c hp).2 hj⟩
 ·have hne : j ≠ i := fun e => hno h (e ▸ q)
  have q2 := (at_setC hi c hne).1 q
  have := AtD.one hR q2.d q'.d
  subst this
  rw [ce_setC hi, if_neg hne]
theorem ob_setC {s : store_Store} (hR : SR s) {i : Nat} (hi : i < s.S.Cells.length) {c : slab_Cell_store_Obj} (hR' : SR (setC s i c)) {k : Int} (hk : k ∈ lv s) (hp : pls k ≠ i) : ob (setC s i c) k = ob s k := by
 have q := lv_place hR hk
 rw [at_ob hR' ((at_setC hi c hp).2 q), at_ob hR q, ce_setC hi, if_neg hp]
structure Kn (s s' : store_Store) : Prop where
 sr : SR s'
 len : s'.S.Cells.length = s.S.Cells.length
 lv : lv s' = lv s
 ad : ∀ k i, AtD s' k i ↔ AtD s k i
 ob : ∀ k, k ∈ Sh.lv s → ∃ n m, ob s' k = ⟨(ob s k).Serial, n, m, (ob s k).Prog, (ob s k).Started, (ob s k).Fields⟩
theorem Kin.kn {s s' : store_Store} (hR : SR s) (k : Kin s s') : Kn s s' := ⟨k.sr, k.len, k.lv, k.ad, fun h hh => by
 obtain ⟨n, e⟩ := k.ob h (by have := lv_rng hR hh; omega)
 exact ⟨n, _, e⟩⟩
theorem Kn.inn {s s' : store_Store} (k : Kn s s') (h : Int) : inn s' h = inn s h := by
 unfold Sh.inn
 rw [k.lv]
 congr 1
 refine List.map_congr_left fun x hx => ?_
 obtain ⟨n, m, e⟩ := k.ob x hx
 unfold Sh.outs
 rw [e]
structure HpS (x : Hp) : Prop where
 sr : SR x.S
 hr : HR x.T
 r6 : x.Roots.length = 6
 c6 : x.Cells.length = 6
 cap : x.Q.Cap = 30
 q30 : x.Q.L.length ≤ 30
 tk : ∀ t ∈ x.Q.L, 0 ≤ t.Prog ∧ t.Prog ≤ 5 ∧ ((t.Kind = 1 ∧ t.At ∈ lv x.S ∧ (ob x.S t.At).Started = true) ∨ (t.Kind = 2 ∧ 0 ≤ t.At ∧ t.At ≤ 5))
 td : x.Q.L.Pairwise fun a b => ¬ (a.Kind = b.Kind ∧ a.At = b.At)
 rt : ∀ h ∈ x.Roots, h = 0 ∨ h ∈ lv x.S
 fl : ∀ h ∈ lv x.S, ∀ v ∈ (ob x.S h).Fields, v = 0 ∨ v ∈ lv x.S
 pr : ∀ k v, Has x.T k v → k ∈ lv x.S ∧ v ∈ lv x.S
 cl : ∀ i (hi : i < x.Cells.length), -1 ≤ x.Cells[i].Call ∧ x.Cells[i].Call ≤ 5 ∧ (x.Cells[i].Target = 0 → x.Cells[i].Intact = false) ∧ (x.Cells[i].Target ≠ 0 → ∃ p, AtD x.S x.Cells[i].Target p) ∧ (x.Cells[i].Intact = true → x.Cells[i].Target ∈ lv x.S ∧ wts x.Q i = false)
def Wk (x : Hp) : Prop := ∀ i, i < x.S.S.Cells.length → Th (ce x.S i) → (ce x.S i).Val.Weak = (nmg x.Cells (1 + (i : Int) + 32 * (ce x.S i).Gen) : Int) ∧ ((ce x.S i).State = 2 → 1 ≤ (ce x.S i).Val.Weak ∧ (ce x.S i).Val.Fields = [] ∧ (ce x.S i).Val.Strong = 0)
def FairL (x : Hp) (L : List Int) : Prop := ∀ h ∈ lv x.S, (ob x.S h).Strong < 12 → (ob x.S h).Strong = ((nms x h + tms L h : Nat) : Int)
structure HpR (x : Hp) : Prop where
 sh : HpS x
 wk : Wk x
 fair : FairL x []
theorem HpS.of {x : Hp} (h : HpS x) {s' : store_Store} (hS : SR s') (hl : lv s' = lv x.S) (hd : ∀ k i, AtD x.S k i → AtD s' k i) (hst : ∀ k ∈ lv x.S, (ob x.S k).Started = true → (ob s' k).Started = true) (hfl : ∀ k ∈ lv x.S, ∀ v ∈ (ob s' k).Fields, v = 0 ∨ v ∈ lv x.S) : HpS (wS x s') := by
 refine ⟨hS, h.hr, h.r6, h.c6, h.cap, h.q30, fun t ht => ?_, h.td, fun k hk => ?_, fun k hk => ?_, fun k v hkv => ?_, fun i hi => ?_⟩
 ·obtain ⟨a, b, c⟩ := h.tk t ht
  refine ⟨a, b, ?_⟩
  rcases c with ⟨c1, c2, c3⟩ | c
  ·exact .inl ⟨c1, by rw [hl]; exact c2, hst _ c2 c3⟩
  ·exact .inr c
 ·dsimp only
  rw [hl]
  exact h.rt k hk
 ·dsimp only at hk ⊢
  rw [hl] at hk ⊢
  exact hfl k hk
 ·dsimp only
  rw [hl]
  exact h.pr k v hkv
 ·obtain ⟨a, b, c, d, e⟩ := h.cl i hi
  refine ⟨a, b, c, fun q => ?_, fun q => ?_⟩
  ·obtain ⟨p, hp⟩ := d q
   exact ⟨p, hd _ _ hp⟩
  ·dsimp only
   rw [hl]
   exact e q
theorem HpS.kn {x : Hp} (h : HpS x) {s' : store_Store} (k : Kn x.S s') : HpS (wS x s') := by
 refine h.of k.sr k.lv (fun j i q => (k.ad j i).2 q) (fun j hj q => ?_) (fun j hj => ?_)
 ·obtain ⟨n, m, e⟩ := k.ob j hj
  rw [e]; exact q
 ·obtain ⟨n, m, e⟩ := k.ob j hj
  rw [e]; exact h.fl j hj
theorem HpS.kin {x : Hp} (h : HpS x) {s' : store_Store} (k : Kin x.S s') : HpS (wS x s') := h.kn (k.kn h.sr)
theorem Wk.kin {x : Hp} (h : Wk x) {s' : store_Store} (k : Kin x.S s') : Wk (wS x s') := by
 intro i hi ht
 dsimp only at hi ht ⊢
 rw [k.len] at hi
 obtain ⟨a, b, c, d, e⟩ := k.ce i hi
 unfold Th at ht
 rw [a] at ht
 obtain ⟨f, g⟩ := h i hi ht
 rw [a, b, c]
 refine ⟨f, fun q => ?_⟩
 have e' := e (by omega)
 rw [← c, e']
 exact g q
theorem HpS.roots {x : Hp} (h : HpS x) {l : List Int} (hl : l.length = 6) (hr : ∀ v ∈ l, v = 0 ∨ v ∈ lv x.S) : HpS (wR x l) := ⟨h.sr, h.hr, hl, h.c6, h.cap, h.q30, h.tk, h.td, hr, h.fl, h.pr, h.cl⟩
def incN (c : Int) : Int := if 12 ≤ c then 12 else if c < 0 then 1 else c + 1
def decN (c : Int) : Int := if 12 ≤ c then 12 else if c < 1 then c else c - 1
theorem incN_nn {c : Int} (h : 0 ≤ c) : 0 ≤ incN c := by unfold incN; split <;> (try split) <;> omega
theorem decN_nn {c : Int} (h : 0 ≤ c) : 0 ≤ decN c := by unfold decN; split <;> (try split) <;> omega
noncomputable def stO (x : Hp) (h : Int) (f : Int → Int) : Hp := if h ∈ lv x.S then wS x (seO x.S h (stg (ob x.S h) (f (ob x.S h).Strong))) else x
noncomputable def rtn (x : Hp) (h : Int) : Hp := stO x h incN
noncomputable def rlsH (x : Hp) (h : Int) : Hp := stO x h decN
theorem stO_eq (x : Hp) (h : Int) (f : Int → Int) : stO x h f = wS x (stO x h f).S := by
 unfold stO
 split <;> rfl
theorem rtn_eq (x : Hp) (h : Int) : rtn x h = wS x (rtn x h).S := stO_eq x h incN
theorem rls_eq (x : Hp) (h : Int) : rlsH x h = wS x (rlsH x h).S := stO_eq x h decN
section
variable {x : Hp} (hR : SR x.S) (h : Int) {f : Int → Int} (hf : ∀ c, 0 ≤ c → 0 ≤ f c)
include hR hf
theorem stO_kin : Kin x.S (stO x h f).S := by
 unfold stO
 split
 ·rename_i q
  exact kin_seO hR q (hf _ (lv_okO hR q).st)
 ·exact Kin.refl hR
theorem stO_st {k : Int} (hk : k ∈ lv x.S) : (ob (stO x h f).S k).Strong = if k = h then f (ob x.S k).Strong else (ob x.S k).Strong := by
 unfold stO
 split
 ·rename_i q
  dsimp only
  have ho : OkO x.S (stg (ob x.S h) (f (ob x.S h).Strong)) := by
   have := lv_okO hR q
   exact ⟨this.s1, this.s2, hf _ this.st, this.wk, this.p1, this.p2, this.fl⟩
  rw [seO_ob (o := stg (ob x.S h) (f (ob x.S h).Strong)) hR q rfl ho (by have := lv_rng hR hk; omega)]
  split
  ·rename_i e; subst e; rfl
  ·rfl
 ·rename_i q
  rw [if_neg]
  intro e
  subst e
  exact q hk
theorem stO_nms (k : Int) : nms (stO x h f) k = nms x k := by
 rw [stO_eq]
 unfold nms otr
 dsimp only
 rw [(stO_kin hR h hf).inn hR]
end
theorem HpS.st {x : Hp} (h : HpS x) (k : Int) {f : Int → Int} (hf : ∀ c, 0 ≤ c → 0 ≤ f c) : HpS (stO x k f) := by
 rw [stO_eq]
 exact h.kin (stO_kin h.sr k hf)
theorem Wk.st {x : Hp} (h : Wk x) (hR : SR x.S) (k : Int) {f : Int → Int} (hf : ∀ c, 0 ≤ c → 0 ≤ f c) : Wk (stO x k f) := by
 rw [stO_eq]
 exact h.kin (stO_kin hR k hf)
theorem tms_nil (h : Int) : tms [] h = 0 := by unfold tms; split <;> rfl
theorem tms_cons (v : Int) (L : List Int) (h : Int) : tms (v :: L) h = tms L h + if v = h ∧ h ≠ 0 then 1 else 0 := by
 unfold tms
 by_cases h0 : h = 0
 ·simp [h0]
 ·rw [if_neg h0, if_neg h0, List.count_cons]
  by_cases e : v = h
  ·simp [e, h0]
  ·simp [e]
theorem rtn_fair {x : Hp} (hR : SR x.S) {L : List Int} (hf : FairL x L) (v : Int) : FairL (rtn x v) (v :: L) := by
 intro h hh hlt
 unfold rtn at hh hlt ⊢
 rw [(stO_kin hR v fun c => incN_nn).lv] at hh
 rw [stO_st hR v (fun c => incN_nn) hh] at hlt ⊢
 rw [stO_nms hR v fun c => incN_nn, tms_cons]
 have h0 : h ≠ 0 := fun e => lv_0 hR (e ▸ hh)
 have hp := (lv_okO hR hh).st
 by_cases e : h = v
 ·subst e
  rw [if_pos rfl] at hlt ⊢
  have := hf h hh (by unfold incN at hlt; split at hlt <;> omega)
  rw [if_pos ⟨rfl, h0⟩]
  unfold incN at hlt ⊢
  split at hlt
  ·omega
  ·rename_i q
   rw [if_neg q, if_neg (by omega)]
   omega
 ·rw [if_neg e] at hlt ⊢
  rw [if_neg (fun q => e q.1.symm)]
  exact hf h hh hlt
theorem rls_fair {x : Hp} (hR : SR x.S) {L : List Int} {v : Int} (hf : FairL x (v :: L)) : FairL (rlsH x v) L := by
 intro h hh hlt
 unfold rlsH at hh hlt ⊢
 rw [(stO_kin hR v fun c => decN_nn).lv] at hh
 rw [stO_st hR v (fun c => decN_nn) hh] at hlt ⊢
 rw [stO_nms hR v fun c => decN_nn]
 have h0 : h ≠ 0 := fun e => lv_0 hR (e ▸ hh)
 have hp := (lv_okO hR hh).st
 by_cases e : h = v
 ·subst e
  rw [if_pos rfl] at hlt ⊢
  have := hf h hh (by unfold decN at hlt; split at hlt <;> omega)
  rw [tms_cons, if_pos ⟨rfl, h0⟩] at this
  unfold decN at hlt ⊢
  split at hlt
  ·omega
  ·rename_i q
   rw [if_neg q, if_neg (by omega)]
   omega
 ·rw [if_neg e] at hlt ⊢
  have := hf h hh hlt
  rw [tms_cons, if_neg (fun q => e q.1.symm)] at this
  exact this
theorem FairL.mv {x x' : Hp} {L L' : List Int} (hf : FairL x L) (hl : lv x'.S = lv x.S) (hs : ∀ h ∈ lv x.S, (ob x'.S h).Strong = (ob x.S h).Strong) (hn : ∀ h ∈ lv x.S, nms x' h + tms L' h = nms x h + tms L h) : FairL x' L' := by
 intro h hh hlt
 rw [hl] at hh
 rw [hs h hh] at hlt ⊢
 rw [hf h hh hlt, hn h hh]
end Go.Sh
set_option linter.unusedSectionVars false
namespace Go.Sh
set_option linter.unusedVariables false
set_option linter.unusedSimpArgs false
theorem tms_set : ∀ {l : List Int} {r : Nat} (hr : r < l.length) (h k : Int), tms (l.set r h) k + tms [l.getD r 0] k = tms l k + tms [h] k
 | [], _, hr, _, _ => by simp at hr
 | a :: l, 0, _, h, k => by
  rw [List.set_cons_zero, List.getD_cons_zero, tms_cons h l, tms_cons a l, tms_cons a [], tms_cons h [], tms_nil]
  omega
 | a :: l, r + 1, hr, h, k => by
  rw [List.set_cons_succ, List.getD_cons_succ, tms_cons a, tms_cons a l]
  have := tms_set (l := l) (r := r) (by simpa using hr) h k
  omega
theorem turn_right {x x1 : Hp} (hx : HpR x) {old new : Int} (h1 : HpS (rtn x new) → Wk (rtn x new) → HpS x1 ∧ Wk x1)
  (hl : lv x1.S = lv (rtn x new).S) (hs : ∀ h ∈ lv x.S, (ob x1.S h).Strong = (ob (rtn x new).S h).Strong) (hn : ∀ h ∈ lv x.S, nms x1 h + tms [old] h = nms x h + tms [new] h) : HpR (rlsH x1 old) := by
 have l1 : lv (rtn x new).S = lv x.S := (stO_kin hx.sh.sr new fun c => incN_nn).lv
 have f1 : FairL (rtn x new) [new] := rtn_fair hx.sh.sr hx.fair new
 obtain ⟨h2, w2⟩ := h1 (hx.sh.st new fun c => incN_nn) (hx.wk.st hx.sh.sr new fun c => incN_nn)
 have f2 : FairL x1 [old] := f1.mv hl (fun h hh => hs h (l1 ▸ hh)) fun h hh => by
  rw [hn h (l1 ▸ hh)]
  unfold rtn
  rw [stO_nms hx.sh.sr new fun c => incN_nn]
 exact ⟨h2.st _ fun c => decN_nn, w2.st h2.sr _ fun c => decN_nn, rls_fair h2.sr f2⟩
noncomputable def rootH (x : Hp) (r : Nat) (h : Int) : Hp := rlsH (wR (rtn x h) (x.Roots.set r h)) (x.Roots.getD r 0)
theorem rootH_right {x : Hp} (hx : HpR x) {r : Nat} (hr : r < 6) {h : Int} (hh : h = 0 ∨ h ∈ lv x.S) : HpR (rootH x r h) := by
 have l1 : lv (rtn x h).S = lv x.S := (stO_kin hx.sh.sr h fun c => incN_nn).lv
 refine turn_right hx (fun a b => ⟨a.roots (by rw [List.length_set]; exact hx.sh.r6) (fun v hv => ?_), b⟩) rfl (fun _ _ => rfl) (fun k hk => ?_)
 ·rw [l1]
  rcases List.mem_or_eq_of_mem_set hv with q | q
  ·exact hx.sh.rt v q
  ·exact q ▸ hh
 ·have hi := (stO_kin hx.sh.sr h fun c => incN_nn).inn hx.sh.sr k
  rw [rtn_eq]
  unfold nms otr
  dsimp only
  rw [show inn (rtn x h).S k = inn x.S k from hi, tms_append, tms_append, tms_nz, tms_nz]
  have := tms_set (l := x.Roots) (r := r) (by rw [hx.sh.r6]; exact hr) h k
  omega
theorem sum_one {α : Type} : ∀ {l : List α} (hn : l.Nodup) {a : α} (ha : a ∈ l) (f g : α → Nat) (h : ∀ x ∈ l, x ≠ a → f x = g x), (l.map g).sum + f a = (l.map f).sum + g a
 | [], _, _, ha, _, _, _ => by cases ha
 | b :: l, hn, a, ha, f, g, h => by
  rw [List.nodup_cons] at hn
  rw [List.map_cons, List.map_cons, List.sum_cons, List.sum_cons]
  rcases List.mem_cons.1 ha with e | e
  ·subst e
   have : l.map g = l.map f := List.map_congr_left fun x hx => (h x (List.mem_cons_of_mem _ hx) fun e => hn.1 (e ▸ hx)).symm
   rw [this]
   omega
  ·have := sum_one hn.2 e f g fun x hx => h x (List.mem_cons_of_mem _ hx)
   have := h b (List.mem_cons_self ..) fun q => hn.1 (q ▸ e)
   omega
theorem inn_seO {s : store_Store} (hR : SR s) {h : Int} (hh : h ∈ lv s) {o : store_Obj} (hs : o.Serial = (ob s h).Serial) (ho : OkO s o) (y : Int) : inn (seO s h o) y + tms (ob s h).Fields y = inn s y + tms o.Fields y := by
 have hle := lv_rng hR hh
 have := sum_one (lv_nodup (rt_iff.2 hR)) hh (fun x => tms (outs s x) y) (fun x => tms (outs (seO s h o) x) y) fun x hx hne => by
  have := lv_rng hR hx
  unfold outs
  rw [seO_ob hR hh hs ho (by omega), if_neg hne]
 have e : tms (outs (seO s h o) h) y = tms o.Fields y := by
  unfold outs
  rw [seO_ob hR hh hs ho (by omega), if_pos rfl, tms_nz]
 have e2 : tms (outs s h) y = tms (ob s h).Fields y := tms_nz _ _
 rw [e, e2] at this
 unfold inn
 rw [seO_lv hR hh hs ho]
 exact this
end Go.Sh
set_option linter.unusedSectionVars false
namespace Go.Sh
set_option linter.unusedVariables false
set_option linter.unusedSimpArgs false
instance (s : store_Store) (h : Int) (i : Nat) : Decidable (AtD s h i) := by unfold AtD; infer_instance
def gvA (s : store_Store) (i : Nat) : store_Store := setC s i (if (ce s i).Gen = s.S.Last then ⟨3, (ce s i).Gen, z0⟩ else ⟨0, (ce s i).Gen + 1, z0⟩)
section
variable {s : store_Store} (hR : SR s) {i : Nat} (hi : i < s.S.Cells.length) (ht : Th (ce s i))
include hR hi ht
end
theorem nmg_pos {l : List weak_Cell} {i : Nat} (hi : i < l.length) (h0 : l[i].Target ≠ 0) : 0 < nmg l l[i].Target := List.countP_pos_iff.2 ⟨l[i], List.getElem_mem hi, by simp [h0]⟩
end Go.Sh
set_option linter.unusedSectionVars false
namespace Go.Sh
set_option linter.unusedVariables false
set_option linter.unusedSimpArgs false
def wcR (c : weak_Cell) : r09_Cell := ⟨c.Target, c.Intact, c.Call⟩
def hO (x : Hp) : r15_Heap := ⟨sO x.S, x.Roots, x.Cells.map wcR, x.T.map hpl, tqR x.Q⟩
structure HB (x : Hp) : Prop where
 sb : SB x.S
 fb : FB x.S
 rb : LB x.Roots
 cb : ∀ c ∈ x.Cells, c.Target ≤ 9223372036854775807
 tb : TB x.T
 qb : ∀ t ∈ x.Q.L, t.At ≤ 9223372036854775807
theorem lp_build {β : Type} {b : Nat} {f : Int × List β → Option ((Int × List β) ⊕ List β)} (n : Nat) (g : Nat → β) (hb : 0 < b) (h : n * b ≤ 140737488355328)
  (hs : ∀ (k : Nat) acc, k < n → f ((k : Int), acc) = (app b acc [g k]).bind fun v => some (.inl (w64 ((k : Int) + 1), v))) (he : ∀ acc, f ((n : Int), acc) = some (.inr acc)) : lp f (0, []) = some ((List.range n).map g) := by
 have hl : n * 1 ≤ n * b := Nat.mul_le_mul_left _ hb
 refine some_of (lp_upS n (fun k l => l = (List.range k).map g) (fun e => e = (List.range n).map g) (by omega) (by simp) ?_ ?_)
 ·rintro k l hk rfl
  have h3 : (k + 1) * b ≤ n * b := Nat.mul_le_mul_right _ hk
  refine .inl ⟨(List.range (k + 1)).map g, ?_, rfl⟩
  rw [hs k _ hk, app_ok hb (by simp; omega), Option.bind_some, w64_nat, List.range_succ, List.map_append]
  rfl
 ·rintro l rfl
  exact ⟨_, he _, rfl⟩
theorem decb {R : Type} {f : Int → Option (Int ⊕ (Bool ⊕ Unit))} {κ : Bool ⊕ Unit → Option R} {Q : R → Prop} (n : Nat) (p : Nat → Prop) (hn : n < 4611686018427387904)
  (hs : ∀ k : Nat, k < n → ∃ z, f (k : Int) = some z ∧ ((p k ∧ z = .inl ((k + 1 : Nat) : Int)) ∨ (¬ p k ∧ z = .inr (.inl false)))) (he : f (n : Int) = some (.inr (.inr ())))
  (h1 : (∀ k, k < n → p k) → ∃ r, κ (.inr ()) = some r ∧ Q r) (h0 : (¬ ∀ k, k < n → p k) → ∃ r, κ (.inl false) = some r ∧ Q r) : ∃ r, (lp f 0).bind κ = some r ∧ Q r := by
 obtain ⟨e, e1, e2⟩ := lp_up (f := f) n (fun k => ∀ j, j < k → p j) (fun e => (e = .inr () ∧ ∀ k, k < n → p k) ∨ (e = .inl false ∧ ¬ ∀ k, k < n → p k)) hn (fun j hj => by omega) (fun k hk hP => by
  obtain ⟨z, z1, z2⟩ := hs k hk
  rcases z2 with ⟨a, rfl⟩ | ⟨a, rfl⟩
  ·refine .inl ⟨z1, fun j hj => ?_⟩
   rcases Nat.lt_or_ge j k with q | q
   ·exact hP j q
   ·have : j = k := by omega
    subst this; exact a
  ·exact .inr ⟨_, z1, .inr ⟨rfl, fun q => a (q k hk)⟩⟩) (fun hP => ⟨_, he, .inl ⟨rfl, hP⟩⟩)
 rw [e1]
 rcases e2 with ⟨rfl, h⟩ | ⟨rfl, h⟩
 ·exact h1 h
 ·exact h0 h
theorem seO_self {s : store_Store} (hR : SR s) {h : Int} (hh : h ∈ lv s) : seO s h (ob s h) = s := by
 have q := lv_place hR hh
 unfold seO putAt
 rw [at_ob hR q]
 have e : s.S.Cells.set (pls h) ⟨(ce s (pls h)).State, (ce s (pls h)).Gen, (ce s (pls h)).Val⟩ = s.S.Cells := by
  rw [show (⟨(ce s (pls h)).State, (ce s (pls h)).Gen, (ce s (pls h)).Val⟩ : slab_Cell_store_Obj) = ce s (pls h) from rfl, ce_lt q.1]
  exact List.set_getElem_self q.1
 rw [e]
section
variable {x : Hp} (hR : SR x.S)
include hR
theorem isLive15 {h : Int} (hh : h ≤ 9223372036854775807) : hold_isLive x h = some (decide (h ∈ lv x.S)) := by
 unfold hold_isLive
 obtain ⟨e, h1, h2⟩ := get_ob (rt_iff.2 hR) hh
 rw [h1, Option.bind_some]
 congr 1
 rw [Bool.eq_iff_iff, beq_iff_eq, decide_eq_true_iff, h2]
theorem lives15 {h : Int} (hh : h ≤ 9223372036854775807) : r15_Lives (hO x) h = some (decide (h ∈ lv x.S)) := by
 unfold r15_Lives
 obtain ⟨e, h1, h2⟩ := get_ob (rt_iff.2 hR) hh
 rw [show (hO x).S = sO x.S from rfl, get06 x.S (by have := hR.len; omega) hh, h1, Option.map_some, Option.bind_some]
 congr 1
 rw [Bool.eq_iff_iff, beq_iff_eq, decide_eq_true_iff, h2]
theorem nameable15 {h : Int} (hh : h ≤ 9223372036854775807) : hold_nameable x h = some (decide (h = 0 ∨ h ∈ lv x.S)) := by
 unfold hold_nameable
 by_cases q : h = 0
 ·subst q
  simp [onlyIf]
 ·have e : (h == 0) = false := by simpa using q
  rw [e]
  simp only [beq_self_eq_true, onlyT, Bool.false_or]
  rw [isLive15 hR hh, Option.bind_some]
  simp [q]
theorem maybe15 {h : Int} (hh : h ≤ 9223372036854775807) : r15_maybe (hO x) h = some (decide (h = 0 ∨ h ∈ lv x.S)) := by
 unfold r15_maybe
 by_cases q : h = 0
 ·subst q
  simp [onlyIf]
 ·have e : (h == 0) = false := by simpa using q
  rw [e]
  simp only [beq_self_eq_true, onlyT, Bool.false_or]
  rw [lives15 hR hh, Option.bind_some]
  simp [q]
theorem inc_eq {c : Int} (hc : c ≤ 9223372036854775807) : count_Inc c = some (incN c) := by
 unfold count_Inc count_tally_up count_tally_stuck incN
 simp only [Option.bind_some]
 by_cases q : 12 ≤ c
 ·rw [if_pos (by simpa using q), if_pos q, Option.bind_some]
 ·rw [if_neg (by simpa using q), if_neg q, Option.bind_some]
  by_cases q2 : c < 0
  ·rw [if_pos (show 0 > c from q2), if_pos q2]
   rfl
  ·rw [if_neg (show ¬ 0 > c from q2), if_neg q2, w64_in (by omega) (by omega)]
theorem inc04_eq {c : Int} (hc : c ≤ 9223372036854775807) : r04_Inc c = some (incN c) := by
 unfold r04_Inc r04_Stuck incN
 simp only [Option.bind_some]
 by_cases q : 12 ≤ c
 ·rw [if_pos (by simpa using q), if_pos q]
 ·rw [if_neg (by simpa using q), if_neg q]
  by_cases q2 : c < 0
  ·rw [if_pos (by simpa using q2), if_pos q2]
  ·rw [if_neg (by simpa using q2), if_neg q2, w64_in (by omega) (by omega)]
omit hR in
theorem put_st {s : store_Store} (hR : SR s) {h : Int} (hh : h ∈ lv s) {n : Int} (hn : 0 ≤ n) : store_Set s h (stg (ob s h) n) = some (seO s h (stg (ob s h) n), 0) := by
 have := lv_okO hR hh
 exact seO_set (o := stg (ob s h) n) hR hh rfl ⟨this.s1, this.s2, hn, this.wk, this.p1, this.p2, this.fl⟩
omit hR in
theorem set_ref {s : store_Store} (hR : SR s) {h : Int} (hh : h ∈ lv s) {o : store_Obj} (hs : o.Serial = (ob s h).Serial) (ho : OkO s o) : r06_Set (sO s) h (oo o) = some (sO (seO s h o), 0) := by
 have := lv_rng hR hh
 rw [set06 s hR.len (by omega) o, seO_set hR hh hs ho]
 rfl
theorem retain_eq {h : Int} (hh : h ≤ 9223372036854775807) (hB : ∀ k ∈ lv x.S, (ob x.S k).Strong ≤ 9223372036854775807) : hold_Retain x h = some (rtn x h) := by
 unfold hold_Retain hold_counted__count_Inc rtn stO
 obtain ⟨e, h1, h2⟩ := get_ob (rt_iff.2 hR) hh
 rw [h1, Option.bind_some]
 by_cases q : h ∈ lv x.S
 ·have e0 := h2.2 q
  subst e0
  rw [if_pos q, inc_eq hR (hB h q)]
  simp only [beq_self_eq_true, if_true, Option.bind_some]
  have := put_st hR q (incN_nn (lv_okO hR q).st)
  rw [this]
  rfl
 ·have : (e == 0) = false := by simpa using fun c => q (h2.1 c)
  rw [this, if_neg q]
  rfl
theorem retain15 {h : Int} (hh : h ≤ 9223372036854775807) (hB : ∀ k ∈ lv x.S, (ob x.S k).Strong ≤ 9223372036854775807) : r15_Retain (hO x) h = some (hO (rtn x h)) := by
 unfold r15_Retain r15_Strong rtn stO
 obtain ⟨e, h1, h2⟩ := get_ob (rt_iff.2 hR) hh
 have hg : r06_Get (hO x).S h = some (oo (ob x.S h), e) := by
  rw [show (hO x).S = sO x.S from rfl, get06 x.S (by have := hR.len; omega) hh, h1]
  rfl
 rw [hg, Option.bind_some]
 by_cases q : h ∈ lv x.S
 ·have e0 := h2.2 q
  subst e0
  have hs : r04_Inc (oo (ob x.S h), (0 : Int)).1.Strong = some (incN (ob x.S h).Strong) := inc04_eq hR (hB h q)
  rw [if_pos q, hs, Option.bind_some]
  simp only [Option.bind_some, bne_self_eq_false, Bool.false_eq_true, if_false]
  have ok := lv_okO hR q
  have := set_ref (o := stg (ob x.S h) (incN (ob x.S h).Strong)) hR q rfl ⟨ok.s1, ok.s2, incN_nn ok.st, ok.wk, ok.p1, ok.p2, ok.fl⟩
  rw [show r06_Set (hO x).S h ⟨(oo (ob x.S h)).Serial, incN (ob x.S h).Strong, (oo (ob x.S h)).Weak, (oo (ob x.S h)).Prog, (oo (ob x.S h)).Started, (oo (ob x.S h)).Fields⟩ = _ from this]
  rfl
 ·have he : (e != 0) = true := by simpa using fun c => q (h2.1 c)
  have hb : (oo (ob x.S h)).Strong ≤ 9223372036854775807 := by
   rw [ob_no (rt_iff.2 hR) hh q]; decide
  rw [inc04_eq hR hb, Option.bind_some, Option.bind_some]
  simp only [he, if_true]
  rw [if_neg q]
  rfl
omit hR in
theorem dec_eq (c : Int) (h1 : -1000000 ≤ c) : hold_Release_1 c = some (decN c) := by
 unfold hold_Release_1 count_Dec count_tally_down count_tally_stuck decN
 simp only [Option.bind_some]
 by_cases q : 12 ≤ c
 ·rw [if_pos (by simpa using q), if_pos q]
  rfl
 ·rw [if_neg (by simpa using q), if_neg q]
  by_cases q2 : c < 1
  ·rw [if_pos (by simpa using q2), if_pos q2]
   rfl
  ·rw [if_neg (by simpa using q2), if_neg q2, w64_in (by omega) (by omega)]
   rfl
theorem release_eq {h : Int} (hh : h ≤ 9223372036854775807) : hold_Release x h = some (rlsH x h) := by
 unfold hold_Release hold_counted__hold_Release_1 rlsH stO
 obtain ⟨e, h1, h2⟩ := get_ob (rt_iff.2 hR) hh
 rw [h1, Option.bind_some]
 by_cases q : h ∈ lv x.S
 ·have e0 := h2.2 q
  subst e0
  have ok := lv_okO hR q
  rw [if_pos q, dec_eq _ (by have := ok.st; dsimp only; omega)]
  simp only [beq_self_eq_true, if_true, Option.bind_some]
  have := put_st hR q (decN_nn ok.st)
  rw [this]
  rfl
 ·have : (e == 0) = false := by simpa using fun c => q (h2.1 c)
  rw [this, if_neg q]
  rfl
theorem release15 {h : Int} (hh : h ≤ 9223372036854775807) : r15_Release (hO x) h = some (hO (rlsH x h)) := by
 unfold r15_Release r15_Strong rlsH stO
 obtain ⟨e, h1, h2⟩ := get_ob (rt_iff.2 hR) hh
 have hg : r06_Get (hO x).S h = some (oo (ob x.S h), e) := by
  rw [show (hO x).S = sO x.S from rfl, get06 x.S (by have := hR.len; omega) hh, h1]
  rfl
 rw [hg, Option.bind_some]
 by_cases q : h ∈ lv x.S
 ·have e0 := h2.2 q
  subst e0
  have ok := lv_okO hR q
  have put : ∀ n, 0 ≤ n → r06_Set (hO x).S h ⟨(oo (ob x.S h)).Serial, n, (oo (ob x.S h)).Weak, (oo (ob x.S h)).Prog, (oo (ob x.S h)).Started, (oo (ob x.S h)).Fields⟩ = some (sO (seO x.S h (stg (ob x.S h) n)), 0) := fun n hn =>
   set_ref (o := stg (ob x.S h) n) hR q rfl ⟨ok.s1, ok.s2, hn, ok.wk, ok.p1, ok.p2, ok.fl⟩
  have hs : (oo (ob x.S h)).Strong = (ob x.S h).Strong := rfl
  rw [if_pos q]
  unfold r04_Dec r04_Stuck decN
  simp only [Option.bind_some, hs]
  by_cases q1 : 12 ≤ (ob x.S h).Strong
  ·rw [if_pos (by simpa using q1), if_pos q1]
   simp only [Option.bind_some, bne_self_eq_false, Bool.false_eq_true, if_false]
   rw [put 12 (by decide)]
   rfl
  ·rw [if_neg (by simpa using q1), if_neg q1]
   by_cases q2 : (ob x.S h).Strong < 1
   ·rw [if_pos (by simpa using q2), if_pos q2]
    simp only [Option.bind_some, show ((11 : Int) != 0) = true from rfl, if_true]
    rw [show stg (ob x.S h) (ob x.S h).Strong = ob x.S h from rfl, seO_self hR q]
   ·rw [if_neg (by simpa using q2), if_neg q2, w64_in (by omega) (by have := ok.st; omega)]
    simp only [Option.bind_some, bne_self_eq_false, Bool.false_eq_true, if_false]
    rw [put _ (by omega)]
    rfl
 ·have he : (e != 0) = true := by simpa using fun c => q (h2.1 c)
  rw [if_neg q, ob_no (rt_iff.2 hR) hh q]
  unfold r04_Dec r04_Stuck
  simp only [Option.bind_some]
  rfl
end
theorem strong_lv {x : Hp} (hR : SR x.S) (hB : SB x.S) : ∀ k ∈ lv x.S, (ob x.S k).Strong ≤ 9223372036854775807 := fun k hk => (strong_bd (rt_iff.2 hR) hB hk).2
end Go.Sh
set_option linter.unusedSectionVars false
namespace Go.Sh
set_option linter.unusedVariables false
set_option linter.unusedSimpArgs false
theorem rtn_rest (x : Hp) (h : Int) : (rtn x h).Roots = x.Roots ∧ (rtn x h).Cells = x.Cells ∧ (rtn x h).T = x.T ∧ (rtn x h).Q = x.Q := by
 rw [rtn_eq]
 exact ⟨rfl, rfl, rfl, rfl⟩
theorem rtn_sr {x : Hp} (hR : SR x.S) (h : Int) : SR (rtn x h).S := (stO_kin hR h fun c => incN_nn).sr
section
variable {x : Hp} (hx : HpR x) (hS : ∀ k ∈ lv x.S, (ob x.S k).Strong ≤ 9223372036854775807)
include hx hS
theorem lv_bd {h : Int} (hh : h = 0 ∨ h ∈ lv x.S) : h ≤ 9223372036854775807 := by
 rcases hh with q | q
 ·omega
 ·have := lv_rng hx.sh.sr q; omega
theorem root_eq (k : Int) {h : Int} (hh : h ≤ 9223372036854775807) : hold_Root x k h = some (if k < 0 ∨ 5 < k then (x, 6) else if h = 0 ∨ h ∈ lv x.S then (rootH x k.toNat h, 0) else (x, 3)) := by
 have hR := hx.sh.sr
 have r6 := hx.sh.r6
 unfold hold_Root
 by_cases hk : k < 0 ∨ 5 < k
 ·rw [if_pos hk, if_pos (by rw [r6]; simp; omega)]
 ·rw [if_neg hk, if_neg (by rw [r6]; simp; omega), nameable15 hR hh, Option.bind_some]
  by_cases hn : h = 0 ∨ h ∈ lv x.S
  ·rw [if_pos hn, decide_eq_true hn, if_neg (by simp)]
   obtain ⟨n, rfl⟩ : ∃ n : Nat, k = n := ⟨k.toNat, by omega⟩
   have hn6 : n < 6 := by omega
   have hnl : n < x.Roots.length := by omega
   have old : x.Roots[n] ≤ 9223372036854775807 := lv_bd hx hS (hx.sh.rt _ (List.getElem_mem hnl))
   have e1 := rtn_rest x h
   have hn2 : n < (rtn x h).Roots.length := by rw [e1.1]; exact hnl
   rw [ix_at hnl, Option.bind_some]
   unfold hold_turned__hold_rootPlace_say hold_rootPlace_say slices_Clone_int_int
   rw [retain_eq hR hh hS, Option.bind_some]
   dsimp only
   rw [app_nil (by omega) (by rw [e1.1]; omega), Option.bind_some, ix_at hn2, Option.bind_some, Option.bind_some]
   have hrel := release_eq (x := wR (rtn x h) (x.Roots.set n h)) (rtn_sr hR h) old
   rw [Int.toNat_natCast, e1.1, show hold_Release ⟨(rtn x h).S, x.Roots.set n h, (rtn x h).Cells, (rtn x h).T, (rtn x h).Q⟩ x.Roots[n] = _ from hrel]
   unfold rootH
   rw [List.getD_eq_getElem?_getD, List.getElem?_eq_getElem hnl]
   rfl
  ·rw [if_neg hn, decide_eq_false hn, if_pos (by simp)]
end
theorem give_at {s : store_Store} (hR : SR s) {h : Int} {i : Nat} (q : AtD s h i) : slab_Give_store_Obj s.S h = some ((gvA s i).S, 0) := by
 have hi := q.1
 have hc := hR.cell i hi
 have l9 := hR.l9
 unfold slab_Give_store_Obj gvA
 rw [at_find hR q, Option.bind_some, if_neg (by simp), ix_ce hi, Option.bind_some]
 by_cases g : (ce s i).Gen = s.S.Last
 ·rw [if_pos (by simpa using g), if_pos g, with_eq_o rfl hi hR.len]
  rfl
 ·rw [if_neg (by simpa using g), if_neg g, with_eq_o rfl hi hR.len, w64_in (by omega) (by omega)]
  rfl
theorem ix_sO {s : store_Store} {i : Nat} (hi : i < s.S.Cells.length) : ix (sO s).Cells (i : Int) = some (cO (ce s i)) := by
 rw [sO_ix, ix_ce hi]
 rfl
theorem sO_setC (s : store_Store) (i : Nat) (c : slab_Cell_store_Obj) : sO (setC s i c) = ⟨(sO s).Cells.set i (cO c), s.S.Last, s.Serial⟩ := by
 unfold sO setC
 rw [List.map_set]
theorem turned06 (t : r06_Store) (p : r03_Slab) (hl : t.Cells.length ≤ 1000) (hp : p.Cells.length = t.Cells.length) : r06_Turned t p = some ⟨(List.range t.Cells.length).map fun k => ⟨(p.Cells.getD k ⟨0, 0, 0⟩).State, (p.Cells.getD k ⟨0, 0, 0⟩).Gen, (t.Cells.getD k ⟨0, 0, oo z0⟩).Val⟩, t.Last, t.Serial⟩ := by
 unfold r06_Turned
 simp only [jn]
 rw [lp_build (b := 80) t.Cells.length (fun k => ⟨(p.Cells.getD k ⟨0, 0, 0⟩).State, (p.Cells.getD k ⟨0, 0, 0⟩).Gen, (t.Cells.getD k ⟨0, 0, oo z0⟩).Val⟩) (by omega) (by omega) (fun k acc hk => ?_) (fun acc => by simp)]
 ·rfl
 ·have hk2 : k < p.Cells.length := by omega
  simp only [Int.ofNat_lt, hk, decide_true, if_true, ix_at hk, ix_at hk2, Option.bind_some]
  rw [List.getD_eq_getElem?_getD, List.getElem?_eq_getElem hk2, List.getD_eq_getElem?_getD, List.getElem?_eq_getElem hk]
  rfl
theorem give06 {s : store_Store} (hR : SR s) {h : Int} {i : Nat} (q : AtD s h i) : r06_Give (sO s) h = some (sO (gvA s i)) := by
 have hi := q.1
 have hc := hR.cell i hi
 have l9 := hR.l9
 have hlen := hR.len
 have hr := q.rng hR
 have hH : Hnd h := ((fnd_at hR).2 q).2.1
 have hsl : (h - 1) % 32 = i := ((fnd_at hR).2 q).2.2.1
 have hpl : i < (pl (sO s)).Cells.length := by rw [pl_len, sO_len]; exact hi
 have key : ∀ st g, (st : Int) = st → r06_Turned (sO s) ⟨(pl (sO s)).Cells.set i ⟨st, g, 0⟩, (pl (sO s)).Last⟩ = some ⟨(sO s).Cells.set i ⟨st, g, oo (ce s i).Val⟩, s.S.Last, s.Serial⟩ := fun st g _ => by
  rw [turned06 _ _ (by rw [sO_len]; omega) (by simp [pl_len])]
  congr 1
  congr 1
  refine List.ext_getElem (by simp) fun k h1 h2 => ?_
  have hk : k < s.S.Cells.length := by simpa [sO_len] using h1
  have hk2 : k < (sO s).Cells.length := by rw [sO_len]; exact hk
  have hk3 : k < (pl (sO s)).Cells.length := by rw [pl_len]; exact hk2
  simp only [List.getElem_map, List.getElem_range, List.getElem_set]
  have e1 : (sO s).Cells.getD k ⟨0, 0, oo z0⟩ = cO (ce s k) := by
   rw [List.getD_eq_getElem?_getD, List.getElem?_eq_getElem hk2, ce_lt hk]
   simp [sO]
  have e2 : ((pl (sO s)).Cells.set i ⟨st, g, 0⟩).getD k ⟨0, 0, 0⟩ = if k = i then ⟨st, g, 0⟩ else plc k (cO (ce s k)) := by
   rw [getD_set hpl]
   split
   ·rfl
   ·rw [List.getD_eq_getElem?_getD, List.getElem?_eq_getElem hk3, ce_lt hk]
    simp [pl, sO]
  rw [e1, e2]
  by_cases e : k = i
  ·subst e
   rw [if_pos rfl, if_pos rfl]
   rfl
  ·rw [if_neg e, if_neg (Ne.symm e)]
   rw [ce_lt hk]
   simp [sO, plc, cO]
 have fin : ∀ st g, (r06_with ⟨(sO s).Cells.set i ⟨st, g, oo (ce s i).Val⟩, s.S.Last, s.Serial⟩ (i : Int) ⟨0, 0, 0, 0, false, []⟩) = some (sO (setC s i ⟨st, g, z0⟩)) := fun st g => by
  unfold r06_with
  have hi2 : i < ((sO s).Cells.set i ⟨st, g, oo (ce s i).Val⟩).length := by simp [sO_len]; exact hi
  rw [app_nil (by omega) (by simp [sO_len]; omega), Option.bind_some, ix_at hi2, Option.bind_some, sO_setC]
  simp [cO, oo, List.set_set]
 unfold r06_Give r03_Give gvA
 rw [plain06 _ (by rw [sO_len]; omega), Option.bind_some, find06 s (by omega), at_find hR q, Option.bind_some, if_neg (by simp)]
 rw [pl_at (by rw [sO_len]; exact hi), Option.bind_some]
 have hgen : (plc i ((sO s).Cells[i]'(by rw [sO_len]; exact hi))).Gen = (ce s i).Gen := by
  rw [ce_lt hi]
  simp [plc, sO, cO]
 have hlast : (pl (sO s)).Last = s.S.Last := rfl
 have w3 : ∀ c : r03_Cell, r03_with (pl (sO s)) (i : Int) c = some ⟨(pl (sO s)).Cells.set i c, (pl (sO s)).Last⟩ := fun c => by
  unfold r03_with
  rw [app_nil (by omega) (by rw [pl_len, sO_len]; omega), Option.bind_some, ix_at hpl, Option.bind_some, Int.toNat_natCast]
 rw [hgen, hlast, r01_Slot_eq, if_pos hH, hsl]
 by_cases g : (ce s i).Gen = s.S.Last
 ·rw [if_pos (by simp [g]), if_pos g, w3, Option.bind_some, Option.bind_some, if_neg (by simp), key _ _ rfl, Option.bind_some, Option.bind_some, fin]
  rfl
 ·rw [if_neg (by simp; omega), if_neg g, w3, Option.bind_some, Option.bind_some, if_neg (by simp), key _ _ rfl, Option.bind_some, Option.bind_some, w64_in (by omega) (by omega), fin]
  rfl
section
variable {x : Hp} (hR : SR x.S)
include hR
end
theorem nmg_le (l : List weak_Cell) (h : Int) : nmg l h ≤ l.length := List.countP_le_length
end Go.Sh
set_option linter.unusedSectionVars false
namespace Go.Sh
set_option linter.unusedVariables false
set_option linter.unusedSimpArgs false
section
variable {x : Hp} (hx : HpR x) (hS : ∀ k ∈ lv x.S, (ob x.S k).Strong ≤ 9223372036854775807)
include hx hS
end
end Go.Sh
set_option linter.unusedSectionVars false
namespace Go.Sh
set_option linter.unusedVariables false
set_option linter.unusedSimpArgs false
abbrev tz : task_Task := ⟨0, 0, 0⟩
abbrev cz0 : weak_Cell := ⟨0, false, 0⟩
theorem getD_lt {α : Type} {l : List α} {i : Nat} (h : i < l.length) (d : α) : l.getD i d = l[i] := by
 rw [List.getD_eq_getElem?_getD, List.getElem?_eq_getElem h]
 rfl
theorem wts_iff' {q : TQ} {w : Int} : wts q w = true ↔ ∃ t ∈ q.L, t.Kind = 2 ∧ t.At = w := by
 unfold wts
 rw [List.any_eq_true]
 simp
def TkP (x : Hp) (t : task_Task) : Prop := 0 ≤ t.Prog ∧ t.Prog ≤ 5 ∧ ((t.Kind = 1 ∧ t.At ∈ lv x.S ∧ (ob x.S t.At).Started = true) ∨ (t.Kind = 2 ∧ 0 ≤ t.At ∧ t.At ≤ 5))
def TkS (a b : task_Task) : Prop := a.Kind = b.Kind ∧ a.At = b.At
instance (a b : task_Task) : Decidable (TkS a b) := by unfold TkS; infer_instance
section
variable {x : Hp} (hR : SR x.S)
include hR
theorem tasks15 (hq : x.Q.L.length ≤ 1000) (hB : ∀ t ∈ x.Q.L, t.At ≤ 9223372036854775807) : ∃ b, r15_tasks (hO x) = some b ∧ (b = true ↔ ((∀ t ∈ x.Q.L, TkP x t) ∧ x.Q.L.Pairwise (fun a b => ¬ TkS a b) ∧ x.Q.Cap = 30 ∧ x.Q.L.length ≤ 30)) := by
 have hlen : (hO x).Q.L.length = x.Q.L.length := by simp [hO, tqR]
 unfold r15_tasks
 simp only [jn]
 rw [hlen]
 refine decb x.Q.L.length (fun i => TkP x (x.Q.L.getD i tz) ∧ ∀ k, k < i → ¬ TkS (x.Q.L.getD k tz) (x.Q.L.getD i tz)) (by omega) (fun i hi => ?_) (by simp) (fun hall => ?_) (fun hno => ?_)
 ·have hi' : i < (hO x).Q.L.length := by rw [hlen]; exact hi
  have hg : (hO x).Q.L[i] = ⟨(x.Q.L.getD i tz).Kind, (x.Q.L.getD i tz).At, (x.Q.L.getD i tz).Prog⟩ := by
   rw [getD_lt hi]
   simp [hO, tqR, tkR]
  have hat := hB _ (List.getElem_mem hi)
  rw [← getD_lt hi tz] at hat
  simp only [Int.ofNat_lt, hi, decide_true, if_true, ix_at hi', Option.bind_some, hg]
  generalize ht : x.Q.L.getD i tz = t at hat
  by_cases c1 : ((((t.Kind != 1) && (t.Kind != 2)) || (decide (t.Prog < 0))) || (decide (t.Prog > 5))) = true
  ·rw [if_pos c1]
   refine ⟨_, rfl, .inr ⟨fun q => ?_, rfl⟩⟩
   obtain ⟨⟨q1, q2, q3⟩, _⟩ := q
   simp only [Bool.or_eq_true, Bool.and_eq_true, bne_iff_ne, ne_eq, decide_eq_true_eq] at c1
   rcases q3 with q3 | q3 <;> omega
  ·rw [if_neg c1]
   have c1' : (t.Kind = 1 ∨ t.Kind = 2) ∧ 0 ≤ t.Prog ∧ t.Prog ≤ 5 := by
    simp only [Bool.or_eq_true, Bool.and_eq_true, bne_iff_ne, ne_eq, decide_eq_true_eq] at c1
    omega
   refine decb i (fun k => ¬ TkS (x.Q.L.getD k tz) t) (by omega) (fun k hk => ?_) (by simp) (fun hall => ?_) (fun hno => ?_)
   ·have hk1 : k < x.Q.L.length := by omega
    have hk' : k < (hO x).Q.L.length := by rw [hlen]; exact hk1
    have hgk : (hO x).Q.L[k] = ⟨(x.Q.L.getD k tz).Kind, (x.Q.L.getD k tz).At, (x.Q.L.getD k tz).Prog⟩ := by
     rw [getD_lt hk1]
     simp [hO, tqR, tkR]
    simp only [Int.ofNat_lt, hk, decide_true, if_true, ix_at hk', Option.bind_some, hgk]
    by_cases c : TkS (x.Q.L.getD k tz) t
    ·rw [if_pos (by simpa [TkS] using c)]
     exact ⟨_, rfl, .inr ⟨fun q => q c, rfl⟩⟩
    ·rw [if_neg (by simpa [TkS] using c), w64_nat]
     exact ⟨_, rfl, .inl ⟨c, rfl⟩⟩
   ·dsimp only
    obtain ⟨e, h1, h2⟩ := get_ob (rt_iff.2 hR) hat
    rw [show (hO x).S = sO x.S from rfl, get06 x.S (by have := hR.len; omega) hat, h1, Option.map_some, Option.bind_some]
    by_cases c2 : TkP x t
    ·rw [if_neg, w64_nat]
     ·exact ⟨_, rfl, .inl ⟨⟨c2, hall⟩, rfl⟩⟩
     ·obtain ⟨_, _, q | q⟩ := c2
      ·have := h2.2 q.2.1
       simp [q.1, this, oo, q.2.2]
      ·simp [q.1]
       omega
    ·rw [if_pos]
     ·exact ⟨_, rfl, .inr ⟨fun q => c2 q.1, rfl⟩⟩
     ·simp only [Bool.or_eq_true, Bool.and_eq_true, beq_iff_eq, bne_iff_ne, ne_eq, Bool.not_eq_true', decide_eq_true_eq, oo]
      rcases c1'.1 with k1 | k2
      ·left
       refine ⟨k1, Classical.byContradiction fun q => c2 ⟨c1'.2.1, c1'.2.2, .inl ⟨k1, ?_, ?_⟩⟩⟩
       ·exact h2.1 (Classical.byContradiction fun q2 => q (.inl q2))
       ·cases hst : (ob x.S t.At).Started
        ·exact absurd (.inr hst) q
        ·rfl
      ·right
       refine ⟨k2, ?_⟩
       have : ¬ (0 ≤ t.At ∧ t.At ≤ 5) := fun q => c2 ⟨c1'.2.1, c1'.2.2, .inr ⟨k2, q.1, q.2⟩⟩
       omega
   ·exact ⟨_, rfl, .inr ⟨fun q => hno q.2, rfl⟩⟩
 ·refine ⟨_, rfl, ?_⟩
  rw [Bool.and_eq_true, beq_iff_eq, decide_eq_true_iff]
  constructor
  ·rintro ⟨a, b⟩
   refine ⟨fun t ht => ?_, ?_, a, by first | exact_mod_cast b | (simp [hO, tqR] at b; omega)⟩
   ·obtain ⟨i, hi, rfl⟩ := List.getElem_of_mem ht
    have := (hall i hi).1
    rwa [getD_lt hi] at this
   ·rw [List.pairwise_iff_getElem]
    intro i j hi hj hij
    have := (hall j hj).2 i hij
    rwa [getD_lt hi, getD_lt hj] at this
  ·rintro ⟨_, _, a, b⟩
   exact ⟨a, by first | exact_mod_cast b | (simp [hO, tqR]; omega)⟩
 ·refine ⟨false, rfl, ?_⟩
  simp only [Bool.false_eq_true, false_iff]
  rintro ⟨a, b, _⟩
  refine hno fun i hi => ⟨?_, fun k hk => ?_⟩
  ·rw [getD_lt hi]
   exact a _ (List.getElem_mem hi)
  ·have hk1 : k < x.Q.L.length := by omega
   rw [getD_lt hi, getD_lt hk1]
   exact List.pairwise_iff_getElem.1 b k i hk1 hi hk
theorem names15 (hT : HR x.T) (hB : HB x) (hr : x.Roots.length ≤ 1000) : ∃ b, r15_names (hO x) = some b ∧ (b = true ↔ ((∀ h ∈ x.Roots, h = 0 ∨ h ∈ lv x.S) ∧ (∀ h ∈ lv x.S, ∀ v ∈ (ob x.S h).Fields, v = 0 ∨ v ∈ lv x.S) ∧ ∀ k v, Has x.T k v → k ∈ lv x.S ∧ v ∈ lv x.S)) := by
 have hlen : (hO x).Roots.length = x.Roots.length := rfl
 have h24 := lv_len (rt_iff.2 hR)
 unfold r15_names
 simp only [jn]
 refine decb x.Roots.length (fun i => x.Roots.getD i 0 = 0 ∨ x.Roots.getD i 0 ∈ lv x.S) (by omega) (fun i hi => ?_) (by simp [hlen]) (fun hall => ?_) (fun hno => ?_)
 ·have hb := hB.rb _ (List.getElem_mem hi)
  rw [hlen]
  simp only [Int.ofNat_lt, hi, decide_true, if_true]
  rw [show (hO x).Roots = x.Roots from rfl, ix_at hi, Option.bind_some, maybe15 hR hb, Option.bind_some, getD_lt hi]
  by_cases c : x.Roots[i] = 0 ∨ x.Roots[i] ∈ lv x.S
  ·rw [decide_eq_true c, if_neg (by simp), w64_nat]
   exact ⟨_, rfl, .inl ⟨c, rfl⟩⟩
  ·rw [decide_eq_false c, if_pos (by simp)]
   exact ⟨_, rfl, .inr ⟨c, rfl⟩⟩
 ·dsimp only
  have hall' : ∀ h ∈ x.Roots, h = 0 ∨ h ∈ lv x.S := fun h hh => by
   obtain ⟨i, hi, rfl⟩ := List.getElem_of_mem hh
   have := hall i hi
   rwa [getD_lt hi] at this
  rw [show (hO x).S = sO x.S from rfl, live06 (rt_iff.2 hR), Option.bind_some]
  refine decb (lv x.S).length (fun i => ∀ v ∈ (ob x.S ((lv x.S).getD i 0)).Fields, v = 0 ∨ v ∈ lv x.S) (by omega) (fun i hi => ?_) (by simp) (fun hall2 => ?_) (fun hno => ?_)
  ·have hm := List.getElem_mem hi
   have hle := lv_le (rt_iff.2 hR) hi
   have hfl := (lv_okO hR hm).fl
   simp only [Int.ofNat_lt, hi, decide_true, if_true]
   rw [ix_at hi, Option.bind_some, get06 x.S (by have := hR.len; omega) hle, lv_get (rt_iff.2 hR) hm, Option.map_some, Option.bind_some, getD_lt hi]
   have hff : (oo (ob x.S (lv x.S)[i])).Fields = (ob x.S (lv x.S)[i]).Fields := rfl
   dsimp only
   rw [hff]
   refine decb (ob x.S (lv x.S)[i]).Fields.length (fun k => (ob x.S (lv x.S)[i]).Fields.getD k 0 = 0 ∨ (ob x.S (lv x.S)[i]).Fields.getD k 0 ∈ lv x.S) (by omega) (fun k hk => ?_) (by simp) (fun hall3 => ?_) (fun hno => ?_)
   ·have hp := lv_place hR hm
    have hb : (ob x.S (lv x.S)[i]).Fields[k] ≤ 9223372036854775807 := by
     have e := at_ob hR hp
     exact fb_ce.1 hB.fb _ hp.1 _ (by rw [← e]; exact List.getElem_mem hk)
    simp only [Int.ofNat_lt, hk, decide_true, if_true]
    rw [ix_at hk, Option.bind_some, maybe15 hR hb, Option.bind_some, getD_lt hk]
    by_cases c : (ob x.S (lv x.S)[i]).Fields[k] = 0 ∨ (ob x.S (lv x.S)[i]).Fields[k] ∈ lv x.S
    ·rw [decide_eq_true c, if_neg (by simp), w64_nat]
     exact ⟨_, rfl, .inl ⟨c, rfl⟩⟩
    ·rw [decide_eq_false c, if_pos (by simp)]
     exact ⟨_, rfl, .inr ⟨c, rfl⟩⟩
   ·dsimp only
    rw [w64_nat]
    refine ⟨_, rfl, .inl ⟨fun v hv => ?_, rfl⟩⟩
    obtain ⟨k, hk, rfl⟩ := List.getElem_of_mem hv
    have := hall3 k hk
    rwa [getD_lt hk] at this
   ·refine ⟨_, rfl, .inr ⟨fun q => hno fun k hk => ?_, rfl⟩⟩
    rw [getD_lt hk]
    exact q _ (List.getElem_mem hk)
  ·dsimp only
   have hall2' : ∀ h ∈ lv x.S, ∀ v ∈ (ob x.S h).Fields, v = 0 ∨ v ∈ lv x.S := fun h hh => by
    obtain ⟨i, hi, rfl⟩ := List.getElem_of_mem hh
    have := hall2 i hi
    rwa [getD_lt hi] at this
   have h8 := prs_le hT.l8
   rw [show (hO x).T = x.T.map hpl from rfl, rpairs_eq hT, Option.bind_some, List.length_map]
   refine decb (prs x.T).length (fun i => ((prs x.T).getD i ⟨0, 0⟩).Key ∈ lv x.S ∧ ((prs x.T).getD i ⟨0, 0⟩).Val ∈ lv x.S) (by omega) (fun i hi => ?_) (by simp) (fun hall3 => ?_) (fun hno => ?_)
   ·have hi' : i < ((prs x.T).map pp).length := by simpa using hi
    have hb := hB.tb.has (mem_prs.1 (List.getElem_mem hi))
    simp only [Int.ofNat_lt, hi, decide_true, if_true]
    rw [ix_at hi', Option.bind_some, List.getElem_map, lives15 hR hb.1, Option.bind_some, getD_lt hi]
    by_cases c : (prs x.T)[i].Key ∈ lv x.S
    ·rw [decide_eq_true c]
     simp only [Bool.not_true, beq_self_eq_true, onlyT, Bool.false_or]
     rw [lives15 hR hb.2, Option.bind_some]
     by_cases c2 : (prs x.T)[i].Val ∈ lv x.S
     ·rw [decide_eq_true c2, if_neg (by simp), w64_nat]
      exact ⟨_, rfl, .inl ⟨⟨c, c2⟩, rfl⟩⟩
     ·rw [decide_eq_false c2, if_pos (by simp)]
      exact ⟨_, rfl, .inr ⟨fun q => c2 q.2, rfl⟩⟩
    ·rw [decide_eq_false c]
     simp only [Bool.not_false, show ((true == false) : Bool) = false from rfl, onlyF, Option.bind_some, Bool.true_or, if_true]
     exact ⟨_, rfl, .inr ⟨fun q => c q.1, rfl⟩⟩
   ·refine ⟨true, rfl, ?_⟩
    simp only [true_iff]
    refine ⟨hall', hall2', fun k v hkv => ?_⟩
    obtain ⟨i, hi, e⟩ := List.getElem_of_mem (mem_prs (p := ⟨k, v⟩).2 hkv)
    have := hall3 i hi
    rw [getD_lt hi, e] at this
    exact this
   ·refine ⟨false, rfl, ?_⟩
    simp only [Bool.false_eq_true, false_iff]
    rintro ⟨_, _, q⟩
    refine hno fun i hi => ?_
    rw [getD_lt hi]
    exact q _ _ (mem_prs.1 (List.getElem_mem hi))
  ·refine ⟨false, rfl, ?_⟩
   simp only [Bool.false_eq_true, false_iff]
   rintro ⟨_, q, _⟩
   refine hno fun i hi => ?_
   rw [getD_lt hi]
   exact q _ (List.getElem_mem hi)
 ·refine ⟨false, rfl, ?_⟩
  simp only [Bool.false_eq_true, false_iff]
  rintro ⟨q, _⟩
  refine hno fun i hi => ?_
  rw [getD_lt hi]
  exact q _ (List.getElem_mem hi)
def ClP (x : Hp) (i : Nat) (c : weak_Cell) : Prop := -1 ≤ c.Call ∧ c.Call ≤ 5 ∧ (c.Target = 0 → c.Intact = false) ∧ (c.Target ≠ 0 → ∃ p, AtD x.S c.Target p) ∧ (c.Intact = true → c.Target ∈ lv x.S ∧ wts x.Q i = false)
theorem cells15 (hl : x.Cells.length ≤ 1000) (hq : x.Q.L.length ≤ 1000) (hB : ∀ c ∈ x.Cells, c.Target ≤ 9223372036854775807) : ∃ b, r15_cells (hO x) = some b ∧ (b = true ↔ ∀ i (hi : i < x.Cells.length), ClP x i x.Cells[i]) := by
 have hlen : (hO x).Cells.length = x.Cells.length := by simp [hO]
 unfold r15_cells
 simp only [jn]
 rw [hlen]
 refine decb x.Cells.length (fun i => ClP x i (x.Cells.getD i cz0)) (by omega) (fun i hi => ?_) (by simp) (fun hall => ⟨true, rfl, ?_⟩) (fun hno => ⟨false, rfl, ?_⟩)
 ·have hi' : i < (hO x).Cells.length := by rw [hlen]; exact hi
  have hg : (hO x).Cells[i] = ⟨(x.Cells.getD i cz0).Target, (x.Cells.getD i cz0).Intact, (x.Cells.getD i cz0).Call⟩ := by
   rw [getD_lt hi]
   simp [hO, wcR]
  have hb := hB _ (List.getElem_mem hi)
  rw [← getD_lt hi cz0] at hb
  simp only [Int.ofNat_lt, hi, decide_true, if_true, ix_at hi', Option.bind_some, hg]
  generalize x.Cells.getD i cz0 = c at hb
  rw [show (hO x).S = sO x.S from rfl, plain06 _ (by rw [sO_len]; have := hR.len; omega), Option.bind_some]
  rw [find06 x.S hb]
  obtain ⟨z, z1, z2⟩ : ∃ z, slab_Find_store_Obj x.S.S c.Target = some z ∧ (z.2 = 0 ↔ ∃ p, AtD x.S c.Target p) := by
   by_cases q : ∃ p, AtD x.S c.Target p
   ·obtain ⟨p, hp⟩ := q
    exact ⟨_, at_find hR hp, by simp; exact ⟨p, hp⟩⟩
   ·refine ⟨_, at_find_no hR hb (fun p hp => q ⟨p, hp⟩), ?_⟩
    simp only [q, iff_false]
    exact err_ne_o _
  rw [z1, Option.bind_some]
  by_cases c1 : ((((decide (c.Call < (-1))) || (decide (c.Call > 5))) || ((c.Target == 0) && c.Intact)) || ((c.Target != 0) && (z.2 != 0))) = true
  ·rw [c1]
   simp only [show ((true == false) : Bool) = false from rfl, Bool.false_and, onlyF, Option.bind_some, Bool.true_or, if_true]
   refine ⟨_, rfl, .inr ⟨fun q => ?_, rfl⟩⟩
   obtain ⟨q1, q2, q3, q4, q5⟩ := q
   simp only [Bool.or_eq_true, Bool.and_eq_true, decide_eq_true_eq, beq_iff_eq, bne_iff_ne, ne_eq] at c1
   rcases c1 with ((c1 | c1) | c1) | c1
   ·omega
   ·omega
   ·have := q3 c1.1
    rw [this] at c1
    exact absurd c1.2 (by decide)
   ·exact c1.2 (z2.2 (q4 c1.1))
  ·have c1 : ((((decide (c.Call < (-1))) || (decide (c.Call > 5))) || ((c.Target == 0) && c.Intact)) || ((c.Target != 0) && (z.2 != 0))) = false := by simpa using c1
   have c1' : -1 ≤ c.Call ∧ c.Call ≤ 5 ∧ (c.Target = 0 → c.Intact = false) ∧ (c.Target ≠ 0 → ∃ p, AtD x.S c.Target p) := by
    simp only [Bool.or_eq_false_iff, Bool.and_eq_false_iff, decide_eq_false_iff_not, beq_eq_false_iff_ne, ne_eq, bne_eq_false_iff_eq] at c1
    refine ⟨by omega, by omega, fun q => c1.1.2.resolve_left (fun q2 => q2 q), fun q => z2.1 (c1.2.resolve_left q)⟩
   rw [c1]
   simp only [beq_self_eq_true, Bool.true_and, Bool.false_or]
   cases hin : c.Intact
   ·simp only [show ((false == true) : Bool) = false from rfl, onlyF, Option.bind_some, Bool.false_and, Bool.false_eq_true, if_false]
    rw [w64_nat]
    exact ⟨_, rfl, .inl ⟨⟨c1'.1, c1'.2.1, fun _ => hin, c1'.2.2.2, fun q => by rw [hin] at q; cases q⟩, rfl⟩⟩
   ·simp only [beq_self_eq_true, onlyT, Bool.true_and]
    rw [lives15 hR hb, Option.bind_some]
    by_cases c2 : c.Target ∈ lv x.S
    ·rw [decide_eq_true c2]
     simp only [Bool.not_true, beq_self_eq_true, onlyT, Bool.false_or]
     rw [show r14_Waits (hO x).Q i = some (wts x.Q i) from r_waits hq, Option.bind_some]
     cases hwt : wts x.Q i
     ·rw [if_neg (by decide), w64_nat]
      exact ⟨_, rfl, .inl ⟨⟨c1'.1, c1'.2.1, c1'.2.2.1, c1'.2.2.2, fun _ => ⟨c2, hwt⟩⟩, rfl⟩⟩
     ·rw [if_pos rfl]
      refine ⟨_, rfl, .inr ⟨fun q => ?_, rfl⟩⟩
      have := (q.2.2.2.2 hin).2
      rw [hwt] at this
      cases this
    ·rw [decide_eq_false c2]
     simp only [Bool.not_false, show ((true == false) : Bool) = false from rfl, onlyF, Option.bind_some, Bool.true_or, if_true]
     exact ⟨_, rfl, .inr ⟨fun q => c2 (q.2.2.2.2 hin).1, rfl⟩⟩
 ·simp only [true_iff]
  intro i hi
  have := hall i hi
  rwa [getD_lt hi] at this
 ·simp only [Bool.false_eq_true, false_iff]
  intro q
  refine hno fun i hi => ?_
  rw [getD_lt hi]
  exact q i hi
omit hR in
theorem naming09 (l : List weak_Cell) (hl : l.length ≤ 1000) (h : Int) : r09_Naming (l.map wcR) h = some (nmg l h : Int) := by
 unfold r09_Naming
 simp only [jn]
 rw [List.length_map, lp_foldlR l (fun (b : Int) c => if ((h != 0) && (c.Target == h)) = true then b + 1 else b) id (fun k b => 0 ≤ b ∧ b ≤ k) (by omega) (by omega) (fun k hk b hI => ?_) (fun b _ => by simp), Option.bind_some]
 ·congr 1
  have : ∀ (l : List weak_Cell) (n : Int), l.foldl (fun (b : Int) c => if ((h != 0) && (c.Target == h)) = true then b + 1 else b) n = n + (nmg l h : Int) := fun l => by
   induction l with
   | nil => intro n; simp [nmg]
   | cons c l ih =>
    intro n
    rw [List.foldl_cons, ih]
    unfold nmg
    rw [List.countP_cons]
    split <;> simp_all <;> omega
  rw [id, this]
  omega
 ·have hk' : k < (l.map wcR).length := by simpa using hk
  simp only [Int.ofNat_lt, hk, decide_true, if_true, ix_at hk', Option.bind_some, List.getElem_map, wcR]
  by_cases c : ((h != 0) && (l[k].Target == h)) = true
  ·rw [if_pos c, if_pos (by rw [Bool.and_comm]; exact c), w64_in (by omega) (by omega), w64_nat]
   exact ⟨rfl, by omega⟩
  ·rw [if_neg c, if_neg (by rw [Bool.and_comm]; exact c), w64_nat]
   exact ⟨rfl, by omega⟩
omit hR in
theorem naming_eq (l : List weak_Cell) (hl : l.length ≤ 1000) (h : Int) : weak_Naming l h = some (nmg l h : Int) := by
 unfold weak_Naming weak_picked__weak_Naming_1 weak_Naming_1
 simp only [jn, Option.bind_some]
 have key : ∃ e, lp (S := Int × (List Int)) (E := (List Int)) (fun ((s17, s18) : Int × (List Int)) =>
   if (decide (s17 < (l.length : Int))) then
     (ix l s17).bind fun v26 =>
     if ((h != 0) && (v26.Target == h)) then
      (app 8 s18 [s17]).bind fun v28 =>
      some (.inl (w64 (s17 + 1), v28))
     else
     some (.inl (w64 (s17 + 1), s18))
   else
   some (.inr s18)) (0, []) = some e ∧ e.length = nmg l h := by
  refine lp_upS l.length (fun k (acc : List Int) => acc.length = nmg (l.take k) h) (fun (e : List Int) => e.length = nmg l h) (by omega) rfl (fun k acc hk hP => ?_) (fun acc hP => ⟨acc, by simp, by rwa [List.take_length] at hP⟩)
  left
  have hle : acc.length ≤ k := by
   rw [hP]
   exact Nat.le_trans (nmg_le _ _) (by simp; omega)
  have hst : nmg (l.take (k + 1)) h = nmg (l.take k) h + if ((h != 0) && (l[k].Target == h)) = true then 1 else 0 := by
   unfold nmg
   rw [List.take_succ_eq_append_getElem hk, List.countP_append, List.countP_cons, List.countP_nil]
   omega
  simp only [Int.ofNat_lt, hk, decide_true, if_true, ix_at hk, Option.bind_some]
  rw [w64_nat]
  by_cases c : ((h != 0) && (l[k].Target == h)) = true
  ·rw [if_pos c, app_ok (by omega) (by simp; omega), Option.bind_some]
   exact ⟨_, rfl, by rw [hst, if_pos c]; simp [hP]⟩
  ·rw [if_neg c]
   exact ⟨_, rfl, by rw [hst, if_neg c]; simpa using hP⟩
 obtain ⟨e, e1, e2⟩ := key
 rw [show lp _ _ = _ from e1, Option.bind_some, Option.bind_some, e2]
omit hR in
theorem ix_sO' {s : store_Store} {i : Nat} (hi : i < s.S.Cells.length) : ix (sO s).Cells (i : Int) = some ⟨(ce s i).State, (ce s i).Gen, ⟨(ce s i).Val.Serial, (ce s i).Val.Strong, (ce s i).Val.Weak, (ce s i).Val.Prog, (ce s i).Val.Started, (ce s i).Val.Fields⟩⟩ := ix_sO hi
theorem weaks15 (hl : x.Cells.length ≤ 1000) : ∃ b, r15_weaks (hO x) = some b ∧ (b = true ↔ Wk x) := by
 have hlen : (hO x).S.Cells.length = x.S.S.Cells.length := by simp [hO, sO]
 have h24 := hR.len
 have l9 := hR.l9
 unfold r15_weaks
 simp only [jn]
 rw [hlen]
 refine decb x.S.S.Cells.length (fun i => Th (ce x.S i) → (ce x.S i).Val.Weak = (nmg x.Cells (1 + (i : Int) + 32 * (ce x.S i).Gen) : Int) ∧ ((ce x.S i).State = 2 → 1 ≤ (ce x.S i).Val.Weak ∧ (ce x.S i).Val.Fields = [] ∧ (ce x.S i).Val.Strong = 0)) (by omega) (fun i hi => ?_) (by simp) (fun hall => ⟨true, rfl, by simp only [true_iff]; exact fun i hi => hall i hi⟩) (fun hno => ⟨false, rfl, by simp only [Bool.false_eq_true, false_iff]; exact fun q => hno fun i hi => q i hi⟩)
 have hc := hR.cell i hi
 simp only [Int.ofNat_lt, hi, decide_true, if_true]
 rw [show (hO x).S = sO x.S from rfl, ix_sO' hi, Option.bind_some]
 dsimp only
 by_cases ht : Th (ce x.S i)
 ·rw [if_neg (by unfold Th at ht; simp only [Bool.and_eq_true, bne_iff_ne, ne_eq]; omega)]
  unfold r03_Handle
  rw [r01_Pack_eq, if_pos ⟨by omega, by omega, hc.2.2.1, by omega⟩, Option.bind_some, Option.bind_some, show (hO x).Cells = x.Cells.map wcR from rfl, naming09 x.Cells hl, Option.bind_some]
  by_cases g : (ce x.S i).Val.Weak = (nmg x.Cells (1 + (i : Int) + 32 * (ce x.S i).Gen) : Int) ∧ ((ce x.S i).State = 2 → 1 ≤ (ce x.S i).Val.Weak ∧ (ce x.S i).Val.Fields = [] ∧ (ce x.S i).Val.Strong = 0)
  ·rw [if_neg, w64_nat]
   ·exact ⟨_, rfl, .inl ⟨fun _ => g, rfl⟩⟩
   ·obtain ⟨g1, g2⟩ := g
    simp only [Bool.or_eq_true, Bool.and_eq_true, bne_iff_ne, ne_eq, beq_iff_eq, decide_eq_true_eq, not_or, not_and, Decidable.not_not]
    refine ⟨g1, fun q => ?_⟩
    obtain ⟨a, b, c⟩ := g2 q
    rw [b]
    exact ⟨⟨by omega, by simp⟩, c⟩
  ·rw [if_pos]
   ·exact ⟨_, rfl, .inr ⟨fun q => g (q ht), rfl⟩⟩
   ·simp only [Bool.or_eq_true, Bool.and_eq_true, bne_iff_ne, ne_eq, beq_iff_eq, decide_eq_true_eq]
    by_cases g1 : (ce x.S i).Val.Weak = (nmg x.Cells (1 + (i : Int) + 32 * (ce x.S i).Gen) : Int)
    ·right
     refine Classical.byContradiction fun q => g ⟨g1, fun q2 => ?_⟩
     have q : ¬ (((ce x.S i).Val.Weak < 1 ∨ ((ce x.S i).Val.Fields.length : Int) > 0) ∨ ¬ (ce x.S i).Val.Strong = 0) := fun q3 => q ⟨q2, q3⟩
     refine ⟨by omega, List.eq_nil_of_length_eq_zero (by omega), by omega⟩
    ·exact .inl g1
 ·rw [if_pos (by unfold Th at ht; simp only [Bool.and_eq_true, bne_iff_ne, ne_eq]; omega), w64_nat]
  exact ⟨_, rfl, .inl ⟨fun q => absurd q ht, rfl⟩⟩
omit hR in
theorem outer_loop (l : List Int) (hl : l.length ≤ 1000) : lp (S := Int × (List Int)) (E := (List Int)) (fun ((s17, s18) : Int × (List Int)) =>
   if (decide (s17 < (l.length : Int))) then
     (ix l s17).bind fun v25 =>
     if (v25 != 0) then
      (app 8 s18 [v25]).bind fun v26 =>
      some (.inl (w64 (s17 + 1), v26))
     else
     some (.inl (w64 (s17 + 1), s18))
   else
   some (.inr s18)) (0, []) = some (nz l) := by
 rw [lp_foldl l (fun b x => if (x != 0) = true then b ++ [x] else b) id (fun k b => b.length ≤ k) (by omega) (by simp) (fun k hk b hI => ?_) (fun b _ => by simp)]
 ·rw [foldl_filter]
  rfl
 ·simp only [Int.ofNat_lt, hk, decide_true, if_true, ix_at hk, Option.bind_some]
  rw [w64_nat]
  by_cases c : (l[k] != 0) = true
  ·rw [if_pos c, if_pos c, app_ok (by omega) (by simp; omega), Option.bind_some]
   exact ⟨rfl, by simp; omega⟩
  ·rw [if_neg c, if_neg c]
   exact ⟨rfl, by omega⟩
omit hR in
theorem otr_len (hl : x.Roots.length ≤ 1000) (hq : x.Q.L.length ≤ 1000) : (otr x).length ≤ 2000 := by
 unfold otr hlds
 rw [List.length_append, List.length_map]
 have := nz_len x.Roots
 have : (x.Q.L.filter (·.Kind == 1)).length ≤ x.Q.L.length := List.length_filter_le ..
 omega
omit hR in
theorem outer15 (hl : x.Roots.length ≤ 1000) (hq : x.Q.L.length ≤ 1000) : r15_Outer (hO x) = some (otr x) := by
 unfold r15_Outer
 simp only [jn]
 rw [show (hO x).Roots = x.Roots from rfl, show lp _ _ = _ from outer_loop x.Roots hl, Option.bind_some, show r14_Held (hO x).Q = some (hlds x.Q) from r_held hq, Option.bind_some]
 have := otr_len hl hq
 unfold otr at this ⊢
 rw [List.length_append] at this
 rw [app_ok (by omega) (by omega)]
 rfl
omit hR in
theorem outer_eq (hl : x.Roots.length ≤ 1000) (hq : x.Q.L.length ≤ 1000) : hold_Outer x = some (otr x) := by
 unfold hold_Outer
 simp only [jn]
 rw [show lp _ _ = _ from outer_loop x.Roots hl, Option.bind_some, show task_Held x.Q = some (hlds x.Q) from t_held hq, Option.bind_some]
 have := otr_len hl hq
 unfold otr at this ⊢
 rw [List.length_append] at this
 rw [app_ok (by omega) (by omega)]
 rfl
omit hR in
theorem fair_iff : FairP x.S x.T (otr x) ↔ FairL x [] := by
 constructor
 ·intro h k hk hlt
  have := h k hk hlt
  unfold rst inr at this
  rw [if_pos hk] at this
  rw [tms_nil]
  unfold nms
  omega
 ·intro h k hk hlt
  have := h k hk hlt
  rw [tms_nil] at this
  unfold nms at this
  unfold rst inr
  rw [if_pos hk]
  omega
end
theorem heapRight15 (x : Hp) (hB : HB x) (hc : x.S.S.Cells.length ≤ 1000) (hr : x.Roots.length ≤ 1000) (hl : x.Cells.length ≤ 1000) (ht : x.T.length ≤ 1000) (hq : x.Q.L.length ≤ 1000) : ∃ b, r15_Right (hO x) = some b ∧ (b = true ↔ HpR x) := by
 unfold r15_Right
 obtain ⟨b1, e1, h1⟩ := Right06 (sO x.S) (by rw [sO_len]; exact hc)
 obtain ⟨b2, e2, h2⟩ := rright_eq x.T ht
 rw [show (hO x).S = sO x.S from rfl, e1, Option.bind_some, show (hO x).T = x.T.map hpl from rfl, e2]
 have hno : ∀ {P : Prop}, ¬ P → (false = true ↔ P) := fun q => by simp [q]
 cases b1
 ·refine ⟨false, by simp [onlyIf], hno fun q => ?_⟩
  have := h1.2 (rt_iff.2 q.sh.sr)
  cases this
 ·have hR := rt_iff.1 (h1.1 rfl)
  cases b2
  ·refine ⟨false, by simp [onlyIf], hno fun q => ?_⟩
   have := h2.2 q.sh.hr
   cases this
  ·have hT := h2.1 rfl
   simp only [Bool.not_true, beq_self_eq_true, onlyT, Option.bind_some, Bool.or_self, Bool.false_or]
   by_cases hlen : x.Roots.length = 6 ∧ x.Cells.length = 6
   ·rw [if_neg (by simp [hO]; omega)]
    obtain ⟨b3, e3, h3⟩ := tasks15 hR hq hB.qb
    rw [e3, Option.bind_some]
    cases b3
    ·refine ⟨false, by simp [onlyIf], hno fun q => ?_⟩
     have := h3.2 ⟨q.sh.tk, q.sh.td, q.sh.cap, q.sh.q30⟩
     cases this
    ·obtain ⟨t1, t2, t3, t4⟩ := h3.1 rfl
     obtain ⟨b4, e4, h4⟩ := names15 hR hT hB hr
     simp only [beq_self_eq_true, onlyT, Bool.true_and]
     rw [e4, Option.bind_some]
     cases b4
     ·refine ⟨false, by simp [onlyIf], hno fun q => ?_⟩
      have := h4.2 ⟨q.sh.rt, q.sh.fl, q.sh.pr⟩
      cases this
     ·obtain ⟨n1, n2, n3⟩ := h4.1 rfl
      obtain ⟨b5, e5, h5⟩ := cells15 hR hl hq hB.cb
      simp only [beq_self_eq_true, onlyT, Bool.true_and]
      rw [e5, Option.bind_some]
      cases b5
      ·refine ⟨false, by simp [onlyIf], hno fun q => ?_⟩
       have := h5.2 q.sh.cl
       cases this
      ·have c1 := h5.1 rfl
       obtain ⟨b6, e6, h6⟩ := weaks15 hR hl
       simp only [beq_self_eq_true, onlyT, Bool.true_and]
       rw [e6, Option.bind_some]
       cases b6
       ·refine ⟨false, by simp [onlyIf], hno fun q => ?_⟩
        have := h6.2 q.wk
        cases this
       ·have w1 := h6.1 rfl
        simp only [beq_self_eq_true, onlyT, Bool.true_and]
        rw [outer15 hr hq, Option.bind_some, fair13_eq (rt_iff.2 hR) hT hB.sb (by have := otr_len hr hq; omega), Option.bind_some]
        refine ⟨_, rfl, ?_⟩
        rw [decide_eq_true_iff, fair_iff]
        exact ⟨fun q => ⟨⟨hR, hT, hlen.1, hlen.2, t3, t4, t1, t2, n1, n2, n3, c1⟩, w1, q⟩, fun q => q.fair⟩
   ·rw [if_pos (by simp [hO]; omega)]
    exact ⟨false, rfl, hno fun q => hlen ⟨q.sh.r6, q.sh.c6⟩⟩
end Go.Sh
set_option linter.unusedSectionVars false
namespace Go.Sh
set_option linter.unusedVariables false
set_option linter.unusedSimpArgs false
theorem mgetG {K V : Type} [BEq K] (hr : ∀ a : K, (a == a) = true) (he : ∀ a b : K, (a == b) = true → a = b) (m : List (K × V)) (k : K) (v : V) (k' : K) : mget (mput m k v) k' = if k' == k then some v else mget m k' := by
 induction m with
 | nil => simp [mput, mget]
 | cons p m ih =>
  unfold mput
  by_cases h : (k == p.1) = true
  ·have := he _ _ h
   subst this
   rw [if_pos h]
   unfold mget
   by_cases h' : (k' == p.1) = true
   ·simp [h']
   ·simp [h']
  ·rw [if_neg h]
   unfold mget
   by_cases h' : (k' == p.1) = true
   ·have := he _ _ h'
    subst this
    have : (p.1 == k) ≠ true := fun q => by
     have := he _ _ q
     subst this
     exact h (hr _)
    simp [h', this]
   ·simp only [h', ih]
    simp
theorem task_refl (a : task_Task) : (a == a) = true := by
 show ((a.Kind == a.Kind) && ((a.At == a.At) && ((a.Prog == a.Prog) && true))) = true
 simp
section
variable {x : Hp} (hx : HpR x) (hB : HB x)
include hx hB
theorem namesLive_true : hold_namesLive x = some true := by
 have hR := hx.sh.sr
 have r6 := hx.sh.r6
 have h24 := lv_len (rt_iff.2 hR)
 unfold hold_namesLive slices_Clone_int_int
 rw [app_nil (by omega) (by omega), Option.bind_some]
 simp only [jn]
 rw [lv_live (rt_iff.2 hR), Option.bind_some]
 have key : ∃ e, lp (S := Int × (List Int)) (E := (List Int)) (fun ((s16, s17) : Int × (List Int)) =>
   if (decide (s16 < ((lv x.S).length : Int))) then
    (ix (lv x.S) s16).bind fun v20 =>
    (store_Get x.S v20).bind fun v21 =>
    (app 8 s17 v21.1.Fields).bind fun v22 =>
    some (.inl (w64 (s16 + 1), v22))
   else
   some (.inr s17)) (0, x.Roots) = some e ∧ (e.length ≤ 200 ∧ ∀ v ∈ e, v = 0 ∨ v ∈ lv x.S) := by
  refine lp_upS (lv x.S).length (fun k (acc : List Int) => acc.length ≤ 6 + 4 * k ∧ ∀ v ∈ acc, v = 0 ∨ v ∈ lv x.S) (fun (e : List Int) => e.length ≤ 200 ∧ ∀ v ∈ e, v = 0 ∨ v ∈ lv x.S) (by omega) ⟨by omega, hx.sh.rt⟩ (fun k acc hk hP => ?_) (fun acc hP => ⟨acc, by simp, by omega, hP.2⟩)
  have hm := List.getElem_mem hk
  have hf := (lv_okO hR hm).fl
  left
  refine ⟨acc ++ (ob x.S (lv x.S)[k]).Fields, ?_, by rw [List.length_append]; omega, fun v hv => ?_⟩
  ·simp only [Int.ofNat_lt, hk, decide_true, if_true, ix_at hk, Option.bind_some]
   rw [lv_get (rt_iff.2 hR) hm, Option.bind_some]
   dsimp only
   rw [app_ok (by omega) (by omega), Option.bind_some, w64_nat]
  ·rcases List.mem_append.1 hv with q | q
   ·exact hP.2 v q
   ·exact hx.sh.fl _ hm v q
 obtain ⟨e, e1, e2⟩ := key
 rw [show lp _ _ = _ from e1, Option.bind_some]
 have : hold_all_int__hold_namesLive_1 e x = some true := by
  unfold hold_all_int__hold_namesLive_1 hold_namesLive_1
  simp only [jn]
  refine lpb_up e.length (fun _ => True) (by omega) trivial (fun k hk _ => .inl ⟨?_, trivial⟩) (fun _ => ⟨.inr (), by simp, rfl⟩)
  have hm := e2.2 _ (List.getElem_mem hk)
  have hb : e[k] ≤ 9223372036854775807 := by
   rcases hm with q | q
   ·omega
   ·have := lv_rng hR q; omega
  simp only [Int.ofNat_lt, hk, decide_true, if_true, ix_at hk, Option.bind_some]
  rw [nameable15 hR hb, Option.bind_some, Option.bind_some, decide_eq_true hm, if_neg (by simp), w64_nat]
 rw [this]
 rfl
theorem pairsLive_true : hold_pairsLive x = some true := by
 have hR := hx.sh.sr
 have h8 := prs_le hx.sh.hr.l8
 unfold hold_pairsLive
 rw [pairs_eq hx.sh.hr, Option.bind_some]
 have : hold_all_ephem_Pair__hold_pairsLive_1 (prs x.T) x = some true := by
  unfold hold_all_ephem_Pair__hold_pairsLive_1 hold_pairsLive_1
  simp only [jn]
  refine lpb_up (prs x.T).length (fun _ => True) (by omega) trivial (fun k hk _ => .inl ⟨?_, trivial⟩) (fun _ => ⟨.inr (), by simp, rfl⟩)
  have hp := mem_prs.1 (List.getElem_mem hk)
  have hb := hB.tb.has hp
  have hl := hx.sh.pr _ _ hp
  simp only [Int.ofNat_lt, hk, decide_true, if_true, ix_at hk, Option.bind_some]
  rw [isLive15 hR hb.1, Option.bind_some, decide_eq_true hl.1]
  simp only [beq_self_eq_true, onlyT]
  rw [isLive15 hR hb.2, Option.bind_some, Option.bind_some, decide_eq_true hl.2, if_neg (by simp), w64_nat]
 rw [this]
 rfl
theorem tasksFit_true : hold_tasksFit x = some true := by
 have hR := hx.sh.sr
 have q30 := hx.sh.q30
 have c6 := hx.sh.c6
 unfold hold_tasksFit
 simp only [jn]
 refine lpb_upS x.Q.L.length (fun k (m : List (task_Task × Bool)) => ∀ t : task_Task, t.Prog = 0 → ((mget m t).getD false = true → ∃ j, j < k ∧ TkS (x.Q.L.getD j tz) t)) (by omega) (fun t _ q => by simp [mget] at q) (fun k m hk hP => .inl ?_) (fun m hP => ⟨.inr m, by simp, rfl⟩)
 have hm := List.getElem_mem hk
 obtain ⟨t1, t2, t3⟩ := hx.sh.tk _ hm
 have hb := hB.qb _ hm
 have hno : (mget m (⟨x.Q.L[k].Kind, x.Q.L[k].At, 0⟩ : task_Task)).getD false = false := by
  rw [Bool.eq_false_iff]
  intro q
  obtain ⟨j, hj, hs⟩ := hP ⟨x.Q.L[k].Kind, x.Q.L[k].At, 0⟩ rfl q
  have hj1 : j < x.Q.L.length := by omega
  rw [getD_lt hj1] at hs
  exact List.pairwise_iff_getElem.1 hx.sh.td j k hj1 hk hj hs
 have hfor : hold_taskIsFor x x.Q.L[k] = some true := by
  unfold hold_taskIsFor
  rcases t3 with ⟨a, b, c⟩ | ⟨a, b, c⟩
  ·rw [if_pos (by simpa using a), lv_get (rt_iff.2 hR) b, Option.bind_some, c]
   rfl
  ·rw [if_neg (by simp [a]), if_pos (by simpa using a)]
   obtain ⟨n, hn⟩ : ∃ n : Nat, x.Q.L[k].At = n := ⟨x.Q.L[k].At.toNat, by omega⟩
   have hnl : n < x.Cells.length := by omega
   have e1 : ((decide (x.Q.L[k].At ≥ 0)) && (decide (x.Q.L[k].At < (x.Cells.length : Int)))) = true := by simp; omega
   rw [e1]
   simp only [beq_self_eq_true, onlyT, Bool.true_and]
   rw [hn, ix_at hnl, Option.bind_some]
   have : x.Cells[n].Intact = false := by
    rw [Bool.eq_false_iff]
    intro q
    have := ((hx.sh.cl n hnl).2.2.2.2 q).2
    rw [Bool.eq_false_iff] at this
    exact this (wts_iff'.2 ⟨_, hm, a, hn⟩)
   rw [this]
   rfl
 refine ⟨mput m (⟨x.Q.L[k].Kind, x.Q.L[k].At, 0⟩ : task_Task) true, ?_, fun t ht q => ?_⟩
 ·simp only [Int.ofNat_lt, hk, decide_true, if_true, ix_at hk, Option.bind_some]
  rw [hno, decide_eq_true (show x.Q.L[k].Prog ≥ 0 from t1), decide_eq_true (show x.Q.L[k].Prog < 6 by omega)]
  simp only [Bool.not_false, Bool.and_self, beq_self_eq_true, onlyT]
  rw [hfor, Option.bind_some, if_neg (by simp), w64_nat]
 ·rw [mgetG task_refl task_Task.beq_eq] at q
  by_cases e : (t == (⟨x.Q.L[k].Kind, x.Q.L[k].At, 0⟩ : task_Task)) = true
  ·have := task_Task.beq_eq _ _ e
   refine ⟨k, by omega, ?_⟩
   rw [getD_lt hk, this]
   exact ⟨rfl, rfl⟩
  ·rw [if_neg e] at q
   obtain ⟨j, hj, hs⟩ := hP t ht q
   exact ⟨j, by omega, hs⟩
theorem cellsFit_true : hold_cellsFit x = some true := by
 have hR := hx.sh.sr
 have c6 := hx.sh.c6
 unfold hold_cellsFit
 have : hold_all_weak_Cell__hold_cellsFit_1 x.Cells x = some true := by
  unfold hold_all_weak_Cell__hold_cellsFit_1 hold_cellsFit_1
  simp only [jn]
  refine lpb_up x.Cells.length (fun _ => True) (by omega) trivial (fun k hk _ => .inl ⟨?_, trivial⟩) (fun _ => ⟨.inr (), by simp, rfl⟩)
  obtain ⟨a1, a2, a3, a4, a5⟩ := hx.sh.cl k hk
  have hb := hB.cb _ (List.getElem_mem hk)
  simp only [Int.ofNat_lt, hk, decide_true, if_true, ix_at hk, Option.bind_some]
  rw [if_neg (by simp; omega)]
  by_cases hin : x.Cells[k].Intact = true
  ·rw [if_pos hin, isLive15 hR hb, Option.bind_some, Option.bind_some, decide_eq_true (a5 hin).1, if_neg (by simp), w64_nat]
  ·rw [if_neg hin]
   by_cases h0 : x.Cells[k].Target = 0
   ·have hno : ∀ i, ¬ AtD x.S x.Cells[k].Target i := fun i q => by have := q.rng hR; omega
    rw [at_find_no hR hb hno, Option.bind_some, Option.bind_some, h0, if_neg (by simp), w64_nat]
   ·obtain ⟨p, hp⟩ := a4 h0
    rw [at_find hR hp, Option.bind_some, Option.bind_some, if_neg (by simp), w64_nat]
 rw [this]
 rfl
theorem foundFit_true : hold_foundFit x = some true := by
 have hR := hx.sh.sr
 have c6 := hx.sh.c6
 have h24 := hR.len
 have l9 := hR.l9
 unfold hold_foundFit
 simp only [jn]
 refine lpb_up x.S.S.Cells.length (fun _ => True) (by omega) trivial (fun k hk _ => .inl ⟨?_, trivial⟩) (fun _ => ⟨.inr (), by simp, rfl⟩)
 have hc := hR.cell k hk
 simp only [Int.ofNat_lt, hk, decide_true, if_true]
 rw [ix_ce hk, Option.bind_some]
 by_cases ht : Th (ce x.S k)
 ·rw [if_neg (by unfold Th at ht; simp only [Bool.and_eq_true, bne_iff_ne, ne_eq]; omega), handle_Pack_eq (by omega) (by omega) hc.2.2.1 (by omega), Option.bind_some, naming_eq x.Cells (by omega), Option.bind_some]
  obtain ⟨g1, g2⟩ := hx.wk k hk ht
  rw [if_neg (by simpa using g1), if_neg, w64_nat]
  simp only [Bool.or_eq_true, Bool.and_eq_true, bne_iff_ne, ne_eq, beq_iff_eq, decide_eq_true_eq, not_or, not_and, Decidable.not_not]
  intro q
  obtain ⟨a, b, c⟩ := g2 q
  rw [b]
  exact ⟨⟨by omega, by simp⟩, c⟩
 ·rw [if_pos (by unfold Th at ht; simp only [Bool.and_eq_true, bne_iff_ne, ne_eq]; omega), w64_nat]
open Classical in
theorem hold_right_true : hold_Right x = some true := by
 have hR := hx.sh.sr
 have r6 := hx.sh.r6
 have q30 := hx.sh.q30
 unfold hold_Right
 have hsh : hold_shapesFit x = some true := by
  unfold hold_shapesFit
  have hsr : store_Right x.S = some true := by
   rw [storeRight06 x.S (by have := hR.len; omega)]
   congr 1
   rw [decide_eq_true_iff]
   exact rt_iff.2 hR
  obtain ⟨b, b1, b2⟩ := hright_eq x.T (by have := hx.sh.hr.l8; omega)
  rw [show task_New = some ⟨[], 30⟩ from rfl, Option.bind_some, hsr, Option.bind_some]
  simp only [beq_self_eq_true, onlyT, Bool.true_and]
  rw [b1, Option.bind_some, b2.2 hx.sh.hr, hx.sh.r6, hx.sh.c6, hx.sh.cap]
  have : decide ((x.Q.L.length : Int) ≤ 30) = true := by simp; omega
  rw [this]
  rfl
 rw [hsh, Option.bind_some, if_neg (by simp)]
 simp only [jn]
 have f1 : fvcall1 (some 147) x = some true := by
  unfold fvcall1
  rw [if_pos rfl]
  exact namesLive_true hx hB
 have f2 : fvcall1 (some 148) x = some true := by
  unfold fvcall1
  rw [if_neg (by decide), if_pos rfl]
  exact pairsLive_true hx hB
 have f3 : fvcall1 (some 149) x = some true := by
  unfold fvcall1
  rw [if_neg (by decide), if_neg (by decide), if_pos rfl]
  exact tasksFit_true hx hB
 have f4 : fvcall1 (some 150) x = some true := by
  unfold fvcall1
  rw [if_neg (by decide), if_neg (by decide), if_neg (by decide), if_pos rfl]
  exact cellsFit_true hx hB
 have f5 : fvcall1 (some 151) x = some true := by
  unfold fvcall1
  rw [if_neg (by decide), if_neg (by decide), if_neg (by decide), if_neg (by decide), if_pos rfl]
  exact foundFit_true hx hB
 refine lpb_up 5 (fun _ => True) (by omega) trivial (fun k hk _ => .inl ⟨?_, trivial⟩) (fun _ => ⟨.inr (), by kernel_rfl, ?_⟩)
 ·match k, hk with
  | 0, _ =>
   refine (if_pos (by rfl)).trans ?_
   refine bnd (a := some 147) (by kernel_rfl) ?_
   refine bnd f1 ?_
   kernel_rfl
  | 1, _ =>
   refine (if_pos (by rfl)).trans ?_
   refine bnd (a := some 148) (by kernel_rfl) ?_
   refine bnd f2 ?_
   kernel_rfl
  | 2, _ =>
   refine (if_pos (by rfl)).trans ?_
   refine bnd (a := some 149) (by kernel_rfl) ?_
   refine bnd f3 ?_
   kernel_rfl
  | 3, _ =>
   refine (if_pos (by rfl)).trans ?_
   refine bnd (a := some 150) (by kernel_rfl) ?_
   refine bnd f4 ?_
   kernel_rfl
  | 4, _ =>
   refine (if_pos (by rfl)).trans ?_
   refine bnd (a := some 151) (by kernel_rfl) ?_
   refine bnd f5 ?_
   kernel_rfl
 ·dsimp only
  rw [outer_eq (by omega) (by omega), Option.bind_some, fair_eq (rt_iff.2 hR) hx.sh.hr hB.sb (by have := otr_len (x := x) (by omega) (by omega); omega), Option.bind_some, decide_eq_true (fair_iff.2 hx.fair)]
end
end Go.Sh
set_option linter.unusedSectionVars false
namespace Go.Sh
set_option linter.unusedVariables false
set_option linter.unusedSimpArgs false
def SL (x : Hp) : Prop := ∀ k ∈ lv x.S, (ob x.S k).Strong ≤ 9223372036854775807
theorem SB.sl {x : Hp} (hR : SR x.S) (h : SB x.S) : SL x := fun k hk => strong_lv hR h k hk
theorem hb_of {x : Hp} (hx : HpR x) (hS : SL x) : HB x := by
 have hR := hx.sh.sr
 have bd : ∀ v, v = 0 ∨ v ∈ lv x.S → v ≤ 9223372036854775807 := fun v q => by
  rcases q with q | q
  ·omega
  ·have := lv_rng hR q; omega
 refine ⟨sb_ce.2 fun i hi => ?_, fb_ce.2 fun i hi v hv => ?_, fun v hv => bd v (hx.sh.rt v hv), fun c hc => ?_, fun p hp => ?_, fun t ht => ?_⟩
 ·by_cases t : Th (ce x.S i)
  ·rcases t with t | t
   ·have q : At x.S (1 + (i : Int) + 32 * (ce x.S i).Gen) i := ⟨hi, t, rfl⟩
    have := hS _ ((lv_at hR).2 ⟨i, q⟩)
    rwa [at_ob hR q] at this
   ·have := ((hx.wk i hi (.inr t)).2 t).2.2
    omega
  ·have := (hR.no i hi t).2.1
   simp only [oo] at this
   omega
 ·by_cases t : Th (ce x.S i)
  ·rcases t with t | t
   ·have q : At x.S (1 + (i : Int) + 32 * (ce x.S i).Gen) i := ⟨hi, t, rfl⟩
    have hm := (lv_at hR).2 ⟨i, q⟩
    exact bd v (hx.sh.fl _ hm v (by rw [at_ob hR q]; exact hv))
   ·rw [((hx.wk i hi (.inr t)).2 t).2.1] at hv
    cases hv
  ·have := (hR.no i hi t).2.2.2.2.2
   simp only [oo] at this
   rw [List.eq_nil_of_length_eq_zero this] at hv
   cases hv
 ·obtain ⟨i, hi, rfl⟩ := List.getElem_of_mem hc
  by_cases e : x.Cells[i].Target = 0
  ·omega
  ·obtain ⟨p, hp⟩ := (hx.sh.cl i hi).2.2.2.1 e
   have := hp.rng hR
   omega
 ·obtain ⟨i, hi, rfl⟩ := List.getElem_of_mem hp
  have e : pt x.T i = x.T[i] := by
   unfold pt
   rw [List.getD_eq_getElem?_getD, List.getElem?_eq_getElem hi]
   rfl
  by_cases s1 : (pt x.T i).State = 1
  ·obtain ⟨a, b⟩ := hx.sh.pr (pt x.T i).Key (pt x.T i).Val ⟨i, ⟨hi, s1, rfl⟩, rfl⟩
   rw [e] at a b
   exact ⟨bd _ (.inr a), bd _ (.inr b)⟩
  ·obtain ⟨a, b⟩ := (hx.sh.hr.st i hi).2 s1
   rw [e] at a b
   omega
 ·obtain ⟨_, _, q | q⟩ := hx.sh.tk t ht
  ·exact bd _ (.inr q.2.1)
  ·omega
theorem incN_le (c : Int) : incN c ≤ 12 := by unfold incN; split <;> (try split) <;> omega
theorem decN_le {c : Int} (h : c ≤ 9223372036854775807) : decN c ≤ 9223372036854775807 := by unfold decN; split <;> (try split) <;> omega
theorem SL.of {x y : Hp} (h : SL x) (hl : lv y.S = lv x.S) (hs : ∀ k ∈ lv x.S, (ob y.S k).Strong = (ob x.S k).Strong) : SL y := fun k hk => by
 rw [hl] at hk
 rw [hs k hk]
 exact h k hk
theorem SL.st {x : Hp} (h : SL x) (hR : SR x.S) (v : Int) {f : Int → Int} (hf : ∀ c, 0 ≤ c → 0 ≤ f c) (hb : ∀ c, c ≤ 9223372036854775807 → f c ≤ 9223372036854775807) : SL (stO x v f) := fun k hk => by
 rw [(stO_kin hR v hf).lv] at hk
 rw [stO_st hR v hf hk]
 split
 ·exact hb _ (h k hk)
 ·exact h k hk
theorem SL.rtn {x : Hp} (h : SL x) (hR : SR x.S) (v : Int) : SL (rtn x v) := h.st hR v (fun c => incN_nn) fun c _ => by have := incN_le c; omega
theorem SL.rls {x : Hp} (h : SL x) (hR : SR x.S) (v : Int) : SL (rlsH x v) := h.st hR v (fun c => decN_nn) fun c hc => decN_le hc
theorem rls_sr {x : Hp} (hR : SR x.S) (v : Int) : SR (rlsH x v).S := (stO_kin hR v fun c => decN_nn).sr
theorem rootH_sl {x : Hp} (hR : SR x.S) (h : SL x) (r : Nat) (v : Int) : SL (rootH x r v) := by
 unfold rootH
 exact SL.rls (x := wR (rtn x v) (x.Roots.set r v)) (h.rtn hR v) (rtn_sr hR v) _
section
variable {x : Hp} (hx : HpR x) (hS : SL x)
include hx hS
theorem rootP (k : Int) {h : Int} (hh : h ≤ 9223372036854775807) : ∃ y e, HpR y ∧ SL y ∧ hold_Root x k h = some (y, e) := by
 rw [root_eq hx hS k hh]
 split
 ·exact ⟨x, 6, hx, hS, rfl⟩
 ·rename_i c
  split
  ·rename_i d
   exact ⟨_, 0, rootH_right hx (by omega) d, rootH_sl hx.sh.sr hS _ _, rfl⟩
  ·exact ⟨x, 3, hx, hS, rfl⟩
end
end Go.Sh
namespace Go.Sh
set_option linter.unusedVariables false
set_option linter.unusedSimpArgs false
end Go.Sh
namespace Go.Sh
set_option linter.unusedVariables false
set_option linter.unusedSimpArgs false
end Go.Sh
set_option linter.unusedSectionVars false
namespace Go.Sh
set_option linter.unusedVariables false
set_option linter.unusedSimpArgs false
def Few15 (x : Hp) : Prop := Sm x.S ∧ x.Roots.length ≤ 20 ∧ x.Cells.length ≤ 20 ∧ x.T.length ≤ 20 ∧ x.Q.L.length ≤ 60
instance (x : Hp) : Decidable (Few15 x) := by unfold Few15; infer_instance
end Go.Sh
set_option linter.unusedSectionVars false
namespace Go.Sh
set_option linter.unusedVariables false
set_option linter.unusedSimpArgs false
def hz15 : Hp := ⟨⟨⟨[], 0⟩, 0⟩, [], [], [], ⟨[], 0⟩⟩
def allB (x : Hp) : Bool := x.S.S.Cells.all (fun c => decide (c.Val.Strong ≤ 9223372036854775807) && c.Val.Fields.all fun v => decide (v ≤ 9223372036854775807)) && (x.Roots.all (fun v => decide (v ≤ 9223372036854775807)) && (x.Cells.all (fun c => decide (c.Target ≤ 9223372036854775807)) && (x.T.all (fun p => decide (p.Key ≤ 9223372036854775807 ∧ p.Val ≤ 9223372036854775807)) && x.Q.L.all fun t => decide (t.At ≤ 9223372036854775807))))
theorem hb_all {x : Hp} (h : allB x = true) : HB x := by
 unfold allB at h
 simp only [Bool.and_eq_true, List.all_eq_true, decide_eq_true_iff] at h
 obtain ⟨h1, h2, h3, h4, h5⟩ := h
 exact ⟨fun c hc => (h1 c hc).1, fun c hc => (h1 c hc).2, h2, h3, h4, h5⟩
section
variable {x : Hp} (hB : HB x)
include hB
end
end Go.Sh
set_option linter.unusedSectionVars false
namespace Go.Sh
set_option linter.unusedVariables false
set_option linter.unusedSimpArgs false
abbrev ded (o : store_Obj) : store_Obj := ⟨o.Serial, 0, o.Weak, o.Prog, o.Started, []⟩
def gnC (s : store_Store) (i : Nat) : slab_Cell_store_Obj :=
 if (ce s i).Val.Weak = 0 then (if (ce s i).Gen = s.S.Last then ⟨3, (ce s i).Gen, z0⟩ else ⟨0, (ce s i).Gen + 1, z0⟩) else ⟨2, (ce s i).Gen, ded (ce s i).Val⟩
def gnA (s : store_Store) (d : Int) : store_Store := setC s (pls d) (gnC s (pls d))
def gnL (s : store_Store) (ds : List Int) : store_Store := ds.foldl gnA s
theorem gnC_st (s : store_Store) (i : Nat) : (gnC s i).State ≠ 1 := by
 unfold gnC
 split
 ·split <;> simp
 ·simp
theorem pls_ne {s : store_Store} (hR : SR s) {a b : Int} (ha : a ∈ lv s) (hb : b ∈ lv s) (h : a ≠ b) : pls a ≠ pls b := fun e => by
 have h1 := lv_place hR ha
 have h2 := lv_place hR hb
 rw [e] at h1
 exact h (h1.2.2.trans h2.2.2.symm)
section
variable {s : store_Store} (hR : SR s) {d : Int} (hd : d ∈ lv s)
include hR hd
theorem gnA_sr : SR (gnA s d) := by
 have q := lv_place hR hd
 have hc := hR.cell _ q.1
 have ho := hR.ok _ q.1 (.inl q.2.1)
 have no : ObNo (oo z0) := ⟨rfl, rfl, rfl, rfl, rfl, rfl⟩
 unfold gnA gnC
 split
 ·split
  ·exact hR.setC q.1 ⟨by simp, by simp, hc.2.2.1, hc.2.2.2⟩ (fun _ => no) (fun q => absurd q (by unfold Th; simp))
  ·refine hR.setC q.1 ⟨by simp, by simp, ?_, ?_⟩ (fun _ => no) (fun q => absurd q (by unfold Th; simp))
   ·show 0 ≤ (ce s (pls d)).Gen + 1; omega
   ·show (ce s (pls d)).Gen + 1 ≤ s.S.Last; omega
 ·exact hR.setC q.1 ⟨by simp, by simp, hc.2.2.1, hc.2.2.2⟩ (fun q => absurd (.inr rfl) q) (fun _ => ⟨⟨ho.s1, ho.s2, Int.le_refl _, ho.wk, ho.p1, ho.p2, Nat.zero_le _⟩, .inl q.2.1, rfl⟩)
theorem gnA_ce (j : Nat) : ce (gnA s d) j = if j = pls d then gnC s (pls d) else ce s j := ce_setC (lv_place hR hd).1 _ j
theorem gnA_lv : lv (gnA s d) = (lv s).filter fun h => decide (h ≠ d) := by
 have hS := gnA_sr hR hd
 unfold gnA at hS ⊢
 have hc := gnC_st s (pls d)
 rw [lv_setC hR (lv_place hR hd).1 hc hS]
 refine List.filter_congr fun h hh => decide_eq_decide.2 ⟨fun q e => q (by rw [e]), fun q => pls_ne hR hh hd q⟩
theorem gnA_ob {k : Int} (hk : k ∈ lv s) (hne : k ≠ d) : ob (gnA s d) k = ob s k := by
 have hS := gnA_sr hR hd
 unfold gnA at hS ⊢
 exact ob_setC hR (lv_place hR hd).1 hS hk (pls_ne hR hk hd hne)
end
structure Gn (s s' : store_Store) (ds : List Int) : Prop where
 sr : SR s'
 len : s'.S.Cells.length = s.S.Cells.length
 last : s'.S.Last = s.S.Last
 ser : s'.Serial = s.Serial
 lv : lv s' = (lv s).filter fun h => decide (h ∉ ds)
 ob : ∀ k ∈ Sh.lv s, k ∉ ds → ob s' k = ob s k
 ce : ∀ j, ce s' j = if j ∈ ds.map pls then gnC s j else ce s j
theorem gnL_gn : ∀ (ds : List Int) {s : store_Store} (hR : SR s), ds.Nodup → (∀ d ∈ ds, d ∈ lv s) → Gn s (gnL s ds) ds
 | [], s, hR, _, _ => ⟨hR, rfl, rfl, rfl, (List.filter_eq_self.2 (fun a _ => by simp)).symm, fun _ _ _ => rfl, fun j => by simp [gnL]⟩
 | d :: ds, s, hR, hn, hm => by
  rw [List.nodup_cons] at hn
  have hd := hm d (List.mem_cons_self ..)
  have hlv := gnA_lv hR hd
  have hm' : ∀ e ∈ ds, e ∈ lv (gnA s d) := fun e he => by
   rw [hlv, List.mem_filter, decide_eq_true_iff]
   exact ⟨hm e (List.mem_cons_of_mem _ he), fun q => hn.1 (q ▸ he)⟩
  have ih := gnL_gn ds (gnA_sr hR hd) hn.2 hm'
  refine ⟨ih.sr, ih.len.trans (setC_len ..), ih.last, ih.ser, ?_, fun k hk hne => ?_, fun j => ?_⟩
  ·show lv (gnL (gnA s d) ds) = _
   rw [ih.lv, hlv, List.filter_filter]
   refine List.filter_congr fun h hh => ?_
   rw [Bool.eq_iff_iff]
   simp only [Bool.and_eq_true, decide_eq_true_iff, List.mem_cons, not_or]
   exact ⟨fun q => ⟨q.2, q.1⟩, fun q => ⟨q.2, q.1⟩⟩
  ·show ob (gnL (gnA s d) ds) k = _
   rw [List.mem_cons, not_or] at hne
   rw [ih.ob k (by rw [hlv, List.mem_filter, decide_eq_true_iff]; exact ⟨hk, hne.1⟩) hne.2, gnA_ob hR hd hk hne.1]
  ·show ce (gnL (gnA s d) ds) j = _
   have hg : ∀ e ∈ ds, pls e ≠ pls d := fun e he => pls_ne hR (hm e (List.mem_cons_of_mem _ he)) hd fun q => hn.1 (q ▸ he)
   rw [ih.ce]
   by_cases h1 : j ∈ ds.map pls
   ·obtain ⟨e, he, rfl⟩ := List.mem_map.1 h1
    rw [if_pos h1, if_pos (by rw [List.map_cons]; exact List.mem_cons_of_mem _ h1)]
    unfold gnC
    rw [gnA_ce hR hd, if_neg (hg e he)]
    rfl
   ·rw [if_neg h1, gnA_ce hR hd, List.map_cons]
    by_cases h2 : j = pls d
    ·subst h2
     rw [if_pos rfl, if_pos (List.mem_cons_self ..)]
    ·rw [if_neg h2, if_neg]
     rw [List.mem_cons]
     exact fun q => q.elim h2 h1
theorem sum_split {α : Type} (p : α → Bool) (f : α → Nat) : ∀ l : List α, (l.map f).sum = ((l.filter p).map f).sum + ((l.filter fun x => !p x).map f).sum
 | [] => rfl
 | x :: l => by
  rw [List.map_cons, List.sum_cons, sum_split p f l, List.filter_cons, List.filter_cons]
  cases p x <;> simp <;> omega
theorem tms_flat (f : Int → List Int) (y : Int) : ∀ l : List Int, tms (l.flatMap f) y = (l.map fun x => tms (f x) y).sum
 | [] => tms_nil y
 | x :: l => by rw [List.flatMap_cons, tms_append, tms_flat f y l, List.map_cons, List.sum_cons]
theorem Gn.inn {s s' : store_Store} {ds : List Int} (hR : SR s) (hn : ds.Nodup) (hm : ∀ d ∈ ds, d ∈ Sh.lv s) (g : Gn s s' ds) (y : Int) : inn s' y + tms (ds.flatMap (outs s)) y = inn s y := by
 unfold Sh.inn
 rw [g.lv, sum_split (fun h => decide (h ∉ ds)) (fun x => tms (outs s x) y) (Sh.lv s), tms_flat]
 have h1 : ((Sh.lv s).filter fun h => decide (h ∉ ds)).map (fun x => tms (outs s' x) y) = ((Sh.lv s).filter fun h => decide (h ∉ ds)).map fun x => tms (outs s x) y := List.map_congr_left fun x hx => by
  rw [List.mem_filter, decide_eq_true_iff] at hx
  unfold Sh.outs
  rw [g.ob x hx.1 hx.2]
 have h2 : ((Sh.lv s).filter fun x => !decide (x ∉ ds)).Perm ds := by
  rw [List.perm_ext_iff_of_nodup ((lv_nodup (rt_iff.2 hR)).filter _) hn]
  intro a
  rw [List.mem_filter]
  simp only [decide_not, Bool.not_not, decide_eq_true_iff]
  exact ⟨fun q => q.2, fun q => ⟨hm a q, q⟩⟩
 rw [h1, (h2.map fun x => tms (outs s x) y).sum_nat]
theorem nodup_at {L : List task_Task} (hd : L.Pairwise fun a b => ¬ (a.Kind = b.Kind ∧ a.At = b.At)) (k : Int) : ((L.filter (·.Kind == k)).map (·.At)).Nodup := by
 unfold List.Nodup
 rw [List.pairwise_map]
 refine (hd.filter _).imp_of_mem fun {a b} ha hb h e => ?_
 rw [List.mem_filter, beq_iff_eq] at ha hb
 exact h ⟨ha.2.trans hb.2.symm, e⟩
theorem tasks_le {L : List task_Task} {m : List Int} (hd : L.Pairwise fun a b => ¬ (a.Kind = b.Kind ∧ a.At = b.At)) (h : ∀ t ∈ L, (t.Kind = 1 ∧ t.At ∈ m) ∨ (t.Kind = 2 ∧ 0 ≤ t.At ∧ t.At ≤ 5)) : L.length ≤ m.length + 6 := by
 have h1 : L.length = (L.filter (·.Kind == 1)).length + (L.filter (·.Kind == 2)).length := by
  rw [filter_split (fun t : task_Task => t.Kind == 1) L]
  congr 2
  refine List.filter_congr fun t ht => ?_
  rcases h t ht with q | q
  ·simp [q.1]
  ·simp [q.1]
 have h2 := nodup_le (nodup_at hd 1) (m := m) fun a ha => by
  obtain ⟨t, ht, rfl⟩ := List.mem_map.1 ha
  rw [List.mem_filter, beq_iff_eq] at ht
  rcases h t ht.1 with q | q
  ·exact q.2
  ·omega
 have h3 := nodup_le (nodup_at hd 2) (m := [0, 1, 2, 3, 4, 5]) fun a ha => by
  obtain ⟨t, ht, rfl⟩ := List.mem_map.1 ha
  rw [List.mem_filter, beq_iff_eq] at ht
  rcases h t ht.1 with q | q
  ·omega
  ·simp only [List.mem_cons, List.not_mem_nil, or_false]
   omega
 rw [List.length_map] at h2 h3
 simp only [List.length_cons, List.length_nil] at h3
 omega
theorem wts_iff {q : TQ} {w : Int} : wts q w = true ↔ ∃ t ∈ q.L, t.Kind = 2 ∧ t.At = w := by
 unfold wts
 rw [List.any_eq_true]
 simp
theorem mem_hlds {q : TQ} {h : Int} : h ∈ hlds q ↔ ∃ t ∈ q.L, t.Kind = 1 ∧ t.At = h := by
 unfold hlds
 rw [List.mem_map]
 simp only [List.mem_filter, beq_iff_eq]
 exact ⟨fun ⟨t, ⟨a, b⟩, c⟩ => ⟨t, a, b, c⟩, fun ⟨t, a, b, c⟩ => ⟨t, ⟨a, b⟩, c⟩⟩
abbrev cz : weak_Cell := ⟨0, false, 0⟩
def hitB (ds : List Int) (c : weak_Cell) : Bool := c.Intact && c.Target != 0 && decide (c.Target ∈ ds)
def clrC (ds : List Int) (c : weak_Cell) : weak_Cell := if hitB ds c then ⟨c.Target, false, c.Call⟩ else c
def clr (l : List weak_Cell) (ds : List Int) : List weak_Cell := l.map (clrC ds)
def cls (l : List weak_Cell) (ds : List Int) : List Nat := (List.range l.length).filter fun w => hitB ds (l.getD w cz) && decide (0 ≤ (l.getD w cz).Call)
def clt (l : List weak_Cell) (ds : List Int) : List task_Task := (cls l ds).map fun (w : Nat) => ⟨2, (w : Int), (l.getD w cz).Call⟩
theorem clrC_t (ds : List Int) (c : weak_Cell) : (clrC ds c).Target = c.Target ∧ (clrC ds c).Call = c.Call ∧ ((clrC ds c).Intact = true ↔ c.Intact = true ∧ hitB ds c = false) := by
 unfold clrC
 cases h : hitB ds c
 ·rw [if_neg (by simp)]
  simp
 ·rw [if_pos rfl]
  simp
theorem nmg_clr (l : List weak_Cell) (ds : List Int) (h : Int) : nmg (clr l ds) h = nmg l h := by
 unfold nmg clr
 rw [List.countP_map]
 congr 1
 funext c
 simp only [Function.comp_apply, (clrC_t ds c).1]
theorem mem_clt {l : List weak_Cell} {ds : List Int} {t : task_Task} : t ∈ clt l ds ↔ ∃ w, ∃ hw : w < l.length, t = ⟨2, (w : Int), l[w].Call⟩ ∧ hitB ds l[w] = true ∧ 0 ≤ l[w].Call := by
 unfold clt cls
 rw [List.mem_map]
 constructor
 ·rintro ⟨w, hw, rfl⟩
  rw [List.mem_filter, List.mem_range] at hw
  obtain ⟨h1, h2⟩ := hw
  have e : l.getD w cz = l[w] := by rw [List.getD_eq_getElem?_getD, List.getElem?_eq_getElem h1]; rfl
  rw [e] at h2 ⊢
  rw [Bool.and_eq_true, decide_eq_true_iff] at h2
  exact ⟨w, h1, rfl, h2.1, h2.2⟩
 ·rintro ⟨w, hw, rfl, h2, h3⟩
  have e : l.getD w cz = l[w] := by rw [List.getD_eq_getElem?_getD, List.getElem?_eq_getElem hw]; rfl
  refine ⟨w, ?_, by rw [e]⟩
  rw [List.mem_filter, List.mem_range, e, Bool.and_eq_true, decide_eq_true_iff]
  exact ⟨hw, h2, h3⟩
theorem clt_nodup (l : List weak_Cell) (ds : List Int) : (clt l ds).Pairwise fun a b => ¬ (a.Kind = b.Kind ∧ a.At = b.At) := by
 unfold clt cls
 rw [List.pairwise_map]
 refine (List.Pairwise.filter _ (List.nodup_range (n := l.length))).imp fun {a b} h => ?_
 rintro ⟨_, e⟩
 dsimp only at e
 omega
end Go.Sh
