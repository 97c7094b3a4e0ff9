/-
  Stores: which are right.
-/
import Derived.Test.YtpnajadblhkomaaT06e
namespace Go.Sh
set_option linter.unusedVariables false
set_option linter.unusedSimpArgs false

instance (t : r06_Store) (o : r06_Obj) : Decidable (ObOK t o) := by unfold ObOK; infer_instance
instance (o : r06_Obj) : Decidable (ObNo o) := by unfold ObNo; infer_instance

theorem holds06 (c : slab_Cell_store_Obj) : store_holdsObject c = some (decide (Thr (cO c))) := by
  unfold store_holdsObject
  congr 1
  rw [Bool.eq_iff_iff, decide_eq_true_iff, Bool.or_eq_true, beq_iff_eq, beq_iff_eq]
  rfl

theorem objFits (s : store_Store) (c : slab_Cell_store_Obj) : store_objectFits s c = some (decide (Thr (cO c) → ObOK (sO s) (oo c.Val))) := by
  unfold store_objectFits
  rw [holds06, Option.bind_some]
  by_cases h : Thr (cO c)
  · rw [decide_eq_true h]
    by_cases q : 1 ≤ c.Val.Serial ∧ c.Val.Serial ≤ s.Serial ∧ 0 ≤ c.Val.Strong ∧ 0 ≤ c.Val.Weak
    · have e : (((decide (c.Val.Serial ≥ 1)) && (decide (c.Val.Serial ≤ s.Serial))) && (decide (c.Val.Strong ≥ 0)) && (decide (c.Val.Weak ≥ 0))) = true := by simp; omega
      rw [e]
      simp only [Bool.not_true, beq_self_eq_true, Bool.and_self, onlyT, store_programFits, Option.bind_some, Bool.false_or, Bool.true_and]
      congr 1
      rw [Bool.eq_iff_iff, decide_eq_true_iff]
      simp only [Bool.and_eq_true, decide_eq_true_eq, ObOK, oo, sO]
      constructor
      · intro k _; omega
      · intro k; have := k h; omega
    · have e : (((decide (c.Val.Serial ≥ 1)) && (decide (c.Val.Serial ≤ s.Serial))) && (decide (c.Val.Strong ≥ 0)) && (decide (c.Val.Weak ≥ 0))) = false := by
        rw [Bool.eq_false_iff]; simp only [ne_eq, Bool.and_eq_true, decide_eq_true_eq]; omega
      rw [e]
      rw [show (decide (Thr (cO c) → ObOK (sO s) (oo c.Val))) = false by
        rw [decide_eq_false_iff_not]
        intro k
        have := k h
        simp only [ObOK, oo, sO] at this
        omega]
      rfl
  · rw [decide_eq_false h, decide_eq_true (fun k => absurd k h)]
    rfl

theorem noLeft (s : store_Store) (c : slab_Cell_store_Obj) : store_nothingIsLeft s c = some (decide (¬ Thr (cO c) → ObNo (oo c.Val))) := by
  unfold store_nothingIsLeft
  rw [holds06, Option.bind_some]
  by_cases h : Thr (cO c)
  · rw [decide_eq_true h, decide_eq_true (fun k => absurd h k)]
    rfl
  · rw [decide_eq_false h]
    congr 1
    rw [Bool.eq_iff_iff, decide_eq_true_iff]
    simp only [Bool.false_or, Bool.and_eq_true, beq_iff_eq, Bool.not_eq_true', ObNo, oo]
    constructor
    · intro k _; obtain ⟨⟨⟨k1, k2, k3, k4, _⟩, k5⟩, k6⟩ := k; exact ⟨k1, k2, k3, k4, k5, by omega⟩
    · intro k; obtain ⟨k1, k2, k3, k4, k5, k6⟩ := k h; exact ⟨⟨⟨k1, k2, k3, k4, trivial⟩, k5⟩, by omega⟩

/-- What the rules say of a cell. -/
def bb (s : store_Store) (c : slab_Cell_store_Obj) : Nat → Bool
  | 0 => decide (0 ≤ c.State ∧ c.State ≤ 3)
  | 1 => decide (0 ≤ c.Gen ∧ c.Gen ≤ s.S.Last)
  | 2 => decide (Thr (cO c) → ObOK (sO s) (oo c.Val))
  | _ => decide (¬ Thr (cO c) → ObNo (oo c.Val))

def rls : List store_rule := [(⟨some 103⟩ : store_rule), (⟨some 104⟩ : store_rule), (⟨some 105⟩ : store_rule), (⟨some 106⟩ : store_rule)]

theorem rule_at (s : store_Store) (c : slab_Cell_store_Obj) {m : Nat} (hm : m < rls.length) : fvcall0 rls[m].kept s c = some (bb s c m) := by
  have hm' : m < 4 := hm
  match m, hm' with
  | 0, _ =>
    show store_stateFits s c = some (decide (0 ≤ c.State ∧ c.State ≤ 3))
    unfold store_stateFits
    congr 1
    rw [Bool.eq_iff_iff, Bool.and_eq_true, decide_eq_true_iff, decide_eq_true_iff, decide_eq_true_iff]
  | 1, _ =>
    show store_generationFits s c = some (decide (0 ≤ c.Gen ∧ c.Gen ≤ s.S.Last))
    unfold store_generationFits
    congr 1
    rw [Bool.eq_iff_iff, Bool.and_eq_true, decide_eq_true_iff, decide_eq_true_iff, decide_eq_true_iff]
  | 2, _ =>
    show store_objectFits s c = _
    rw [objFits]; rfl
  | 3, _ =>
    show store_nothingIsLeft s c = _
    rw [noLeft]; rfl

def Dif (s : store_Store) : Prop := ∀ i (h : i < s.S.Cells.length) k (hk : k < i), Thr (cO s.S.Cells[i]) → Thr (cO s.S.Cells[k]) → s.S.Cells[k].Val.Serial ≠ s.S.Cells[i].Val.Serial

open Classical in
theorem differ (s : store_Store) (hl : s.S.Cells.length ≤ 1000) : store_serialsDiffer s = some (decide (Dif s)) := by
  unfold store_serialsDiffer
  simp only [jn]
  refine lpb_upS s.S.Cells.length (fun k m => (∀ x, (mget m x).getD false = true ↔ ∃ j, ∃ h : j < s.S.Cells.length, j < k ∧ Thr (cO s.S.Cells[j]) ∧ s.S.Cells[j].Val.Serial = x) ∧
    ∀ i (h : i < s.S.Cells.length) j (hj : j < i), i < k → Thr (cO s.S.Cells[i]) → Thr (cO s.S.Cells[j]) → s.S.Cells[j].Val.Serial ≠ s.S.Cells[i].Val.Serial) (by omega) ⟨fun x => ⟨fun q => by simp [mget] at q, fun ⟨j, h, q, _⟩ => by omega⟩, fun i h j hj q => by omega⟩ (fun k m hk hP => ?_) (fun m hP => ?_)
  · obtain ⟨h1, h2⟩ := hP
    simp only [Int.ofNat_lt, hk, decide_true, if_true, ix_at hk, Option.bind_some, holds06]
    by_cases ht : Thr (cO s.S.Cells[k])
    · rw [decide_eq_true ht]
      simp only [Bool.not_true, Bool.false_eq_true, if_false]
      by_cases hd : (mget m s.S.Cells[k].Val.Serial).getD false = true
      · right
        refine ⟨.inl false, by rw [if_pos hd], ?_⟩
        simp only
        obtain ⟨j, hj, q1, q2, q3⟩ := (h1 _).1 hd
        rw [decide_eq_false (fun q : Dif s => q k hk j q1 ht q2 q3)]
      · left
        refine ⟨_, by rw [if_neg hd, w64_nat], fun x => ?_, fun i h j hj q a b => ?_⟩
        · rw [mget_mput]
          constructor
          · intro q
            split at q
            · rename_i e
              exact ⟨k, hk, by omega, ht, e.symm⟩
            · obtain ⟨j, hj, q1, q2, q3⟩ := (h1 x).1 q
              exact ⟨j, hj, by omega, q2, q3⟩
          · rintro ⟨j, hj, q1, q2, q3⟩
            split
            · rfl
            · rename_i e
              refine (h1 x).2 ⟨j, hj, ?_, q2, q3⟩
              rcases Nat.lt_or_ge j k with q | q
              · exact q
              · have : j = k := by omega
                subst this
                exact absurd q3.symm e
        · rcases Nat.lt_or_ge i k with q' | q'
          · exact h2 i h j hj q' a b
          · have : i = k := by omega
            subst this
            exact fun e => hd ((h1 _).2 ⟨j, by omega, hj, b, e⟩)
    · rw [decide_eq_false ht]
      left
      refine ⟨_, by rw [if_pos (by rfl), w64_nat], fun x => ?_, fun i h j hj q a b => ?_⟩
      · rw [h1 x]
        constructor
        · rintro ⟨j, hj, q1, q2, q3⟩; exact ⟨j, hj, by omega, q2, q3⟩
        · rintro ⟨j, hj, q1, q2, q3⟩
          refine ⟨j, hj, ?_, q2, q3⟩
          rcases Nat.lt_or_ge j k with q | q
          · exact q
          · have : j = k := by omega
            subst this
            exact absurd q2 ht
      · rcases Nat.lt_or_ge i k with q' | q'
        · exact h2 i h j hj q' a b
        · have : i = k := by omega
          subst this
          exact absurd a ht
  · refine ⟨.inr (), by simp only [Int.lt_irrefl, decide_false, Bool.false_eq_true, if_false], ?_⟩
    simp only
    rw [decide_eq_true (show Dif s from fun i h k hk a b => hP.2 i h k hk h a b)]

end Go.Sh
