/-
  Stores: the law of those that are right.
-/
import Derived.Test.YtpnajadblhkomaaT06f
namespace Go.Sh
set_option linter.unusedVariables false
set_option linter.unusedSimpArgs false

open Classical in
theorem storeRight06 (s : store_Store) (hl : s.S.Cells.length ≤ 1000) : store_Right s = some (decide (RtR (sO s))) := by
  unfold store_Right
  by_cases h0 : s.S.Cells.length ≤ 24 ∧ 0 ≤ s.S.Last ∧ s.S.Last ≤ 9 ∧ 0 ≤ s.Serial
  · rw [if_neg (by simp; omega)]
    simp only [jn]
    have key : ((∀ i (h : i < s.S.Cells.length), ∀ m, m < 4 → bb s s.S.Cells[i] m = true) ∧ Dif s) ↔ RtR (sO s) := by
      constructor
      · rintro ⟨h1, h2⟩
        have at_ : ∀ i (h : i < (sO s).Cells.length), (sO s).Cells[i] = cO (s.S.Cells[i]'(by simpa [sO] using h)) := fun i h => by simp [sO]
        refine ⟨by simpa [sO] using h0.1, h0.2.1, h0.2.2.1, h0.2.2.2, fun i h => ?_, fun i h => ?_, fun i h => ?_, fun i h k hk => ?_⟩
        · have hi : i < s.S.Cells.length := by simpa [sO] using h
          have q0 := of_decide_eq_true (h1 i hi 0 (by omega))
          have q1 := of_decide_eq_true (h1 i hi 1 (by omega))
          rw [at_ i h]
          exact ⟨q0.1, q0.2, q1.1, q1.2⟩
        · have hi : i < s.S.Cells.length := by simpa [sO] using h
          rw [at_ i h]
          exact of_decide_eq_true (h1 i hi 3 (by omega))
        · have hi : i < s.S.Cells.length := by simpa [sO] using h
          rw [at_ i h]
          exact of_decide_eq_true (h1 i hi 2 (by omega))
        · have hi : i < s.S.Cells.length := by simpa [sO] using h
          rw [at_ i h, at_ k (by omega)]
          exact h2 i hi k hk
      · intro q
        have at_ : ∀ i (h : i < s.S.Cells.length), (sO s).Cells[i]'(by simpa [sO] using h) = cO s.S.Cells[i] := fun i h => by simp [sO]
        refine ⟨fun i h m hm => ?_, fun i h k hk a b => ?_⟩
        · have hi : i < (sO s).Cells.length := by simpa [sO] using h
          have c := q.cell i hi
          have n := q.no i hi
          have o := q.ok i hi
          rw [at_ i h] at c n o
          match m, hm with
          | 0, _ => exact decide_eq_true ⟨c.1, c.2.1⟩
          | 1, _ => exact decide_eq_true ⟨c.2.2.1, c.2.2.2⟩
          | 2, _ => exact decide_eq_true o
          | 3, _ => exact decide_eq_true n
        · have hi : i < (sO s).Cells.length := by simpa [sO] using h
          have d := q.dif i hi k hk
          rw [at_ i h, at_ k (by omega)] at d
          exact d a b
    refine lpb_up s.S.Cells.length (fun k => ∀ i (h : i < s.S.Cells.length), i < k → ∀ m, m < 4 → bb s s.S.Cells[i] m = true) (by omega) (fun _ _ h => by omega) (fun k hk hP => ?_) (fun hP => ?_)
    · have e : store_rules = some rls := rfl
      simp only [Int.ofNat_lt, hk, decide_true, if_true, ix_at hk, Option.bind_some, e]
      by_cases hall : ∀ m, m < 4 → bb s s.S.Cells[k] m = true
      · refine .inl ⟨?_, fun i h q => ?_⟩
        · refine lpb_up rls.length (fun _ => True) (by decide) trivial (fun m hm _ => .inl ⟨?_, trivial⟩) (fun _ => ⟨.inr (), by simp, by rw [w64_nat]⟩)
          simp only [Int.ofNat_lt, hm, decide_true, if_true, ix_at hm, Option.bind_some, rule_at s _ hm]
          rw [hall m hm, if_neg (by simp), w64_nat (by have : m < 4 := hm; omega)]
        · rcases Nat.lt_or_ge i k with q' | q'
          · exact hP i h q'
          · have : i = k := by omega
            subst this; exact hall
      · refine .inr ⟨.inl false, ?_, ?_⟩
        · obtain ⟨m, ⟨hm, hb⟩, hmin⟩ := exists_min (p := fun m => m < 4 ∧ bb s s.S.Cells[k] m = false) (by
            obtain ⟨m, q⟩ := Classical.not_forall.1 hall
            obtain ⟨h, q⟩ := Classical.not_forall.1 q
            exact ⟨m, h, by simpa using q⟩)
          refine lpb_up rls.length (fun j => j ≤ m) (by decide) (Nat.zero_le _) (fun j hj hP2 => ?_) (fun hP2 => by have : rls.length = 4 := rfl; omega)
          simp only [Int.ofNat_lt, hj, decide_true, if_true, ix_at hj, Option.bind_some, rule_at s _ hj]
          have hj4 : j < 4 := hj
          rcases Nat.lt_or_ge j m with g | g
          · refine .inl ⟨?_, g⟩
            have : bb s s.S.Cells[k] j = true := by
              cases hq : bb s s.S.Cells[k] j
              · have := hmin j ⟨hj4, hq⟩; omega
              · rfl
            rw [this, if_neg (by simp), w64_nat]
          · have : j = m := by omega
            subst this
            refine .inr ⟨.inl false, ?_, rfl⟩
            rw [hb, if_pos (by simp)]
        · simp only
          rw [decide_eq_false (fun q : RtR (sO s) => hall fun m hm => (key.2 q).1 k hk m hm)]
    · refine ⟨.inr (), by simp only [Int.lt_irrefl, decide_false, Bool.false_eq_true, if_false], ?_⟩
      simp only
      rw [differ s hl, Option.bind_some]
      congr 1
      rw [decide_eq_decide, ← key]
      exact ⟨fun q => ⟨fun i h => hP i h h, q⟩, fun q => q.2⟩
  · rw [if_pos (by simp; omega)]
    rw [decide_eq_false (fun q : RtR (sO s) => h0 ⟨by simpa [sO] using q.len, q.l0, q.l9, q.ser⟩)]

theorem new06 (n last : Int) : ∃ a, store_New n last = some a ∧ r06_New n last = some (sO a) ∧ RtR (sO a) ∧ a.S.Cells.length ≤ 24 ∧ ∀ i (h : i < a.S.Cells.length), a.S.Cells[i].Val.Fields.length ≤ 4 := by
  unfold store_New r06_New slab_New_store_Obj r03_New
  by_cases h : 0 ≤ n ∧ n ≤ 24 ∧ 0 ≤ last ∧ last ≤ 9
  · obtain ⟨h1, h2, h3, h4⟩ := h
    obtain ⟨k, rfl⟩ : ∃ k : Nat, n = k := ⟨n.toNat, by omega⟩
    rw [if_neg (by simp; omega), if_neg (by simp; omega), mk_ok (by omega) (by omega), mk_ok (by omega) (by omega)]
    simp only [Option.bind_some, List.length_replicate]
    rw [mk_ok (by omega) (by omega)]
    refine ⟨_, rfl, ?_, ?_, by simp; omega, fun i h => by simp⟩
    · simp [sO, cO, oo]
    · refine ⟨by simp [sO]; omega, h3, h4, by simp [sO], fun i h => ?_, fun i h => ?_, fun i h q => ?_, fun i h k hk q => ?_⟩
      · simp [sO, cO]; omega
      · simp [sO, cO, oo, ObNo]
      · exfalso; simp [sO, cO, oo, Thr] at q
      · exfalso; simp [sO, cO, oo, Thr] at q
  · rw [if_pos (by simp; omega), if_pos (by simp; omega)]
    simp only [Option.bind_some, List.length_nil]
    rw [show mk 80 ((0 : Nat) : Int) (⟨0, 0, ⟨0, 0, 0, 0, false, []⟩⟩ : r06_Cell) = some [] from rfl]
    refine ⟨_, rfl, rfl, ⟨by simp [sO], by simp [sO], by simp [sO], by simp [sO], ?_, ?_, ?_, ?_⟩, by simp, fun i h => by simp at h⟩ <;> (intro i h; simp [sO] at h)

open Classical in
theorem storeRight (s : store_Store) (n last : Int) : w06_StoreRight s n last = some true := by
  unfold w06_StoreRight
  rw [small06, Option.bind_some, shown06]
  by_cases h : Sm s
  · rw [decide_eq_true h]
    simp only [Bool.not_true, beq_self_eq_true, onlyT, Option.bind_some, Bool.or_self, Bool.false_eq_true, if_false]
    obtain ⟨a, e1, e2, e3, e4, e5⟩ := new06 n last
    obtain ⟨b, b1, b2⟩ := Right06 (sO s) (by have := h.1; rw [sO_len]; omega)
    rw [e1, Option.bind_some, storeRight06 s (by have := h.1; omega), Option.bind_some, its06 s h.1, Option.bind_some, b1, Option.bind_some]
    have hb : decide (RtR (sO s)) = b := by
      cases b
      · exact decide_eq_false (fun q => by have := b2.2 q; cases this)
      · exact decide_eq_true (b2.1 rfl)
    rw [hb, show (decide ((a.S.Cells.length : Int) ≤ 24)) = true by simp; omega]
    simp only [beq_self_eq_true, Bool.and_self, onlyT]
    rw [its06 a (by omega), Option.bind_some, e2, Option.bind_some, Same_refl _ (by rw [sO_len]; omega) (fun i h => by
      have := e5 i (by simpa [sO] using h)
      simp only [sO, List.getElem_map, cO, oo]
      omega), Option.bind_some]
    simp only [Bool.and_self, beq_self_eq_true, onlyT]
    rw [storeRight06 a (by omega), Option.bind_some, decide_eq_true e3]
    rfl
  · rw [decide_eq_false h]
    simp [onlyIf]

end Go.Sh
