/-
  Stores: objects that are got and set; the laws on them.
-/
import Derived.Test.YtpnajadblhkomaaT06d
namespace Go.Sh
set_option linter.unusedVariables false
set_option linter.unusedSimpArgs false

theorem Ints_eq (a b : List Int) (ha : a.length < 4611686018427387904) : r02_Ints a b = some (decide (a = b)) := by
  unfold r02_Ints
  by_cases hl : a.length = b.length
  · rw [if_neg (by simp [hl])]
    simp only [jn]
    refine lpb_up a.length (fun k => ∀ j (h1 : j < a.length) (h2 : j < b.length), j < k → a[j] = b[j]) ha (fun _ _ _ h => by omega) (fun k hk hP => ?_) (fun hP => ?_)
    · have hk2 : k < b.length := by omega
      simp only [Int.ofNat_lt, hk, decide_true, if_true, ix_at hk, ix_at hk2, Option.bind_some]
      by_cases e : a[k] = b[k]
      · refine .inl ⟨?_, fun j h1 h2 hj => ?_⟩
        · rw [if_neg (by simpa using e), w64_nat]
        · rcases Nat.lt_or_ge j k with q | q
          · exact hP j h1 h2 q
          · have : j = k := by omega
            subst this; exact e
      · refine .inr ⟨.inl false, by rw [if_pos (by simpa using e)], ?_⟩
        simp only
        rw [decide_eq_false (fun q => e (by subst q; rfl))]
    · refine ⟨.inr (), by simp, ?_⟩
      simp only
      rw [decide_eq_true (List.ext_getElem hl fun i h1 h2 => hP i h1 h2 h1)]
  · rw [if_pos (by rw [bne_iff_ne]; omega)]
    rw [decide_eq_false (fun q => hl (by rw [q]))]

theorem Alike_refl (o : r06_Obj) (h : o.Fields.length < 4611686018427387904) : r06_Alike o o = some true := by
  unfold r06_Alike
  simp only [beq_self_eq_true, Bool.and_self, Bool.true_and, onlyT]
  rw [Ints_eq _ _ h, Option.bind_some, decide_eq_true rfl]

theorem Same_refl (t : r06_Store) (h : t.Cells.length < 4611686018427387904) (hf : ∀ i (h : i < t.Cells.length), t.Cells[i].Val.Fields.length < 4611686018427387904) : r06_Same t t = some true := by
  unfold r06_Same
  rw [if_neg (by simp)]
  simp only [jn]
  refine lpb_up t.Cells.length (fun _ => True) h trivial (fun k hk _ => .inl ⟨?_, trivial⟩) (fun _ => ⟨.inr (), by simp, rfl⟩)
  simp only [Int.ofNat_lt, hk, decide_true, if_true, ix_at hk, Option.bind_some, bne_self_eq_false, Bool.or_self, beq_self_eq_true, onlyT]
  rw [Alike_refl _ (hf k hk), Option.bind_some, if_neg (by simp), w64_nat]

theorem sO_len (s : store_Store) : (sO s).Cells.length = s.S.Cells.length := by simp [sO]
theorem sO_ix (s : store_Store) (i : Int) : ix (sO s).Cells i = (ix s.S.Cells i).map cO := ix_map' cO s.S.Cells i
theorem pl_len (t : r06_Store) : (pl t).Cells.length = t.Cells.length := by simp [pl]
theorem pl_at {t : r06_Store} {k : Nat} (h : k < t.Cells.length) : ix (pl t).Cells k = some (plc k t.Cells[k]) := by
  rw [ix_at (by simpa [pl] using h)]
  simp [pl]

theorem find06 (s : store_Store) {h : Int} (hh : h ≤ 9223372036854775807) : r03_Find (pl (sO s)) h = slab_Find_store_Obj s.S h := by
  unfold r03_Find slab_Find_store_Obj
  rw [r01_Slot_eq, handle_Slot_eq hh, r01_Gen_eq, handle_Gen_eq hh]
  simp only [Option.bind_some, pl_len, sO_len]
  generalize (if Hnd h then (h - 1) % 32 else -1 : Int) = v
  generalize (if Hnd h then (h - 1) / 32 else -1 : Int) = g
  split
  · rfl
  · split
    · rfl
    · rename_i q
      have q : 0 ≤ v ∧ v < s.S.Cells.length := by simp at q; omega
      obtain ⟨k, rfl⟩ : ∃ k : Nat, v = k := ⟨v.toNat, by omega⟩
      have hk : k < s.S.Cells.length := by omega
      rw [pl_at (by rw [sO_len]; exact hk), ix_at hk]
      simp only [Option.bind_some, plc, sO, List.getElem_map, cO]

theorem set06 (s : store_Store) (hl : s.S.Cells.length ≤ 24) {h : Int} (hh : h ≤ 9223372036854775807) (o : store_Obj) : r06_Set (sO s) h (oo o) = (store_Set s h o).map fun p => (sO p.1, p.2) := by
  unfold r06_Set store_Set
  rw [plain06 _ (by rw [sO_len]; omega), Option.bind_some, find06 s hh]
  rcases find_cases_o s.S hh with ⟨i, hf, e⟩ | ⟨hf, e⟩
  · obtain ⟨hi, e2⟩ := set_of_o (v := o) hl hf
    rw [e, e2]
    simp only [Option.bind_some, bne_self_eq_false, Bool.false_eq_true, if_false, Option.map_some]
    unfold r06_with
    rw [app_nil (by omega) (by rw [sO_len]; omega), Option.bind_some, ix_at (by rw [sO_len]; exact hi), Option.bind_some]
    simp [sO, cO, oo, List.map_set]
  · rw [e, set_no_o hh hf]
    simp only [Option.bind_some]
    rw [if_pos (by simpa using err_ne_o h)]
    rfl

theorem storeSets (s : store_Store) {h : Int} (o : store_Obj) (hh : h ≤ 9223372036854775807) : w06_StoreSets s h o = some true := by
  unfold w06_StoreSets
  obtain ⟨b, hb, hR⟩ := right06 s
  rw [hb, Option.bind_some, shown06]
  by_cases hg : b = true ∧ o.Fields.length ≤ 10
  · obtain ⟨rfl, ho⟩ := hg
    have hR := hR.1 rfl
    have hl : s.S.Cells.length ≤ 24 := by have := hR.rt.len; rwa [sO_len] at this
    rw [show ((!true) || decide ((o.Fields.length : Int) > 10)) = false by simp; omega]
    simp only [beq_self_eq_true, onlyT, Option.bind_some, Bool.not_true, Bool.or_self, Bool.false_eq_true, if_false]
    have hobj : w06_obj o = some (oo o) := rfl
    rw [its06 s (by omega)]
    simp only [Option.bind_some, hobj, set06 s hl hh o]
    have hfl : ∀ (a : store_Store) (e : Int), store_Set s h o = some (a, e) → a.S.Cells.length ≤ 24 ∧ ∀ i (hi : i < a.S.Cells.length), a.S.Cells[i].Val.Fields.length ≤ 10 := by
      intro a e q
      unfold store_Set at q
      rcases find_cases_o s.S hh with ⟨i, hf, _⟩ | ⟨hf, _⟩
      · obtain ⟨hi, e2⟩ := set_of_o (v := o) hl hf
        rw [e2] at q
        simp only [Option.bind_some, Option.some.injEq, Prod.mk.injEq] at q
        obtain ⟨rfl, rfl⟩ := q
        refine ⟨by simpa using hl, fun j hj => ?_⟩
        simp only [List.getElem_set]
        split
        · exact ho
        · exact hR.fl j (by simpa using hj)
      · rw [set_no_o hh hf] at q
        simp only [Option.bind_some, Option.some.injEq, Prod.mk.injEq] at q
        obtain ⟨rfl, rfl⟩ := q
        exact ⟨hl, hR.fl⟩
    obtain ⟨a, e, hset⟩ : ∃ a e, store_Set s h o = some (a, e) := by
      unfold store_Set
      rcases find_cases_o s.S hh with ⟨i, hf, _⟩ | ⟨hf, _⟩
      · obtain ⟨hi, e2⟩ := set_of_o (v := o) hl hf
        rw [e2]; exact ⟨_, _, rfl⟩
      · rw [set_no_o hh hf]; exact ⟨_, _, rfl⟩
    obtain ⟨ha, haf⟩ := hfl a e hset
    rw [hset]
    simp only [Option.map_some, Option.bind_some]
    rw [its06 a (by omega), Option.bind_some, Same_refl _ (by rw [sO_len]; omega) (fun i hi => by
      have := haf i (by simpa [sO] using hi)
      simp only [sO, List.getElem_map, cO, oo]
      omega), Option.bind_some]
    rw [if_neg (by simp)]
    obtain ⟨c, hc, _⟩ := Right06 (sO a) (by rw [sO_len]; omega)
    rw [hc, Option.bind_some]
    split
    · rfl
    · -- what is got
      have hobj' : ∀ x : store_Obj, w06_obj x = some (oo x) := fun _ => rfl
      unfold store_Set at hset
      rcases find_cases_o s.S hh with ⟨i, hf, _⟩ | ⟨hf, _⟩
      · obtain ⟨hi, e2⟩ := set_of_o (v := o) hl hf
        rw [e2] at hset
        simp only [Option.bind_some, Option.some.injEq, Prod.mk.injEq] at hset
        obtain ⟨rfl, rfl⟩ := hset
        obtain ⟨hi2, hg1⟩ := get_of_o hf
        have hf2 : FndO ⟨s.S.Cells.set i ⟨s.S.Cells[i].State, s.S.Cells[i].Gen, o⟩, s.S.Last⟩ h i := by
          obtain ⟨q1, q2, q3, q4, q5⟩ := hf
          refine ⟨by simpa using hi, q2, q3, ?_, ?_⟩
          · simpa using q4
          · simpa using q5
        obtain ⟨hi3, hg2⟩ := get_of_o hf2
        unfold store_Get
        simp only [hg1, hg2, Option.bind_some, List.getElem_set_self]
        by_cases h2 : s.S.Cells[i].State = 2
        · simp only [h2, if_true, hobj', Option.bind_some, beq_self_eq_true, Bool.true_and]
          rfl
        · simp only [h2, if_false, hobj', Option.bind_some, beq_self_eq_true, Bool.true_and, bne_self_eq_false, onlyT]
          rw [Alike_refl _ (by simp only [oo]; omega)]
          rfl
      · rw [set_no_o hh hf] at hset
        simp only [Option.bind_some, Option.some.injEq, Prod.mk.injEq] at hset
        obtain ⟨rfl, rfl⟩ := hset
        unfold store_Get
        simp only [get_no_o hh hf, Option.bind_some, hobj', beq_self_eq_true, Bool.true_and]
        have hne : ((if h = 0 then 2 else 3 : Int) != 0) = true := by simpa using err_ne_o h
        rw [hne]
        rfl
  · have hc : ((!b) || decide ((o.Fields.length : Int) > 10)) = true := by
      cases b
      · rfl
      · have : ¬ o.Fields.length ≤ 10 := fun q => hg ⟨rfl, q⟩
        simp; omega
    rw [hc]
    simp [onlyIf]

end Go.Sh
