/-
  Values of keys: what the plain functions come to.
-/
import Derived.Test.YtkjilddlbaibfaaT10d
namespace Go.Sh
set_option linter.unusedVariables false
set_option linter.unusedSimpArgs false

theorem its11 (t : Tb) (h : t.length ≤ 1000) : w11_its t = some (t.map pl) := by
  unfold w11_its
  simp only [jn]
  have e := lp_collect (b := 24) pl t (by omega) (by omega)
  simp only [pl] at e
  rw [e]
  rfl
theorem right11 (t : Tb) : ∃ b, w11_right t = some b ∧ (b = true ↔ HR t) := by
  unfold w11_right
  by_cases h : t.length ≤ 8
  · have hd : decide ((t.length : Int) ≤ 8) = true := by simp; omega
    rw [hd]
    obtain ⟨b, hb, hbR⟩ := rright_eq t (by omega)
    simp only [onlyIf, beq_self_eq_true, if_true, its11 t (by omega), Option.bind_some, hb, Bool.true_and]
    exact ⟨b, rfl, hbR⟩
  · have hd : decide ((t.length : Int) ≤ 8) = false := by simp; omega
    rw [hd]
    exact ⟨false, by simp [onlyIf], ⟨fun q => (by cases q), fun hR => absurd hR.l8 h⟩⟩
theorem shown11 : w11_shown = some true := by kernel_rfl

abbrev pp (p : ephem_Pair) : r11_Pair := ⟨p.Key, p.Val⟩
/-- The pairs of a table. -/
def prs (t : Tb) : List ephem_Pair := (t.filter (·.State == 1)).map fun p => ⟨p.Key, p.Val⟩
theorem keys_prs (t : Tb) : keys t = (prs t).map (·.Key) := by
  unfold keys prs
  rw [List.map_map]
  rfl
theorem prs_len (t : Tb) : (prs t).length = (keys t).length := by rw [keys_prs, List.length_map]
theorem prs_le {t : Tb} (h : t.length ≤ 8) : (prs t).length ≤ 8 := by
  rw [prs_len, keys_len]
  exact Nat.le_trans List.countP_le_length h
theorem mem_prs {t : Tb} {p : ephem_Pair} : p ∈ prs t ↔ Has t p.Key p.Val := by
  unfold prs Has
  rw [List.mem_map]
  constructor
  · rintro ⟨q, hq, rfl⟩
    obtain ⟨h1, h2⟩ := List.mem_filter.1 hq
    obtain ⟨i, hi, rfl⟩ := List.getElem_of_mem h1
    refine ⟨i, ⟨hi, ?_, ?_⟩, ?_⟩ <;> rw [pt_lt hi]
    simpa using h2
  · rintro ⟨i, ⟨hi, h1, h2⟩, h3⟩
    rw [pt_lt hi] at h1 h2 h3
    refine ⟨t[i], List.mem_filter.2 ⟨List.getElem_mem hi, by simpa using h1⟩, ?_⟩
    cases p
    simp at h2 h3 ⊢
    exact ⟨h2, h3⟩
theorem prs_get {t : Tb} (hR : HR t) {j : Nat} (h : j < (prs t).length) : hash_Get t (prs t)[j].Key = some ((prs t)[j].Val, 0) := get_has hR (mem_prs.1 (List.getElem_mem h))

theorem bind3 {E R : Type} {x : Option E} {r : E} {κ : E → Option R} {y : Option R} (h : x = some r) (hy : κ r = y) : ((x.bind fun e => some e).bind κ) = y := by rw [h]; exact hy

theorem pairs_eq {t : Tb} (hR : HR t) : ephem_Pairs t = some (prs t) := by
  have h8 := hR.l8
  have hp := prs_le h8
  unfold ephem_Pairs ephem_gathered_ephem_Pair__ephem_pairs_1__ephem_Pairs_1 ephem_pairs ephem_Pairs_1
  simp only [jn, Option.bind_some]
  rw [keys_eq (by omega), Option.bind_some]
  refine bind3 (some_of (lp_upS (prs t).length (fun k l => l = (prs t).take k) (fun e => e = prs t) (by omega) (by simp) ?_ ?_)) rfl
  · rintro k l hk rfl
    refine .inl ⟨_, ?_, rfl⟩
    dsimp only
    rw [if_pos (by rw [← prs_len]; simpa using hk), ix_at (by rw [← prs_len]; exact hk), Option.bind_some]
    have e : (keys t)[k]'(by rw [← prs_len]; exact hk) = (prs t)[k].Key := by simp [keys_prs]
    rw [e, prs_get hR hk, Option.bind_some, if_pos (by trivial), app_ok (by omega) (by simp; omega), Option.bind_some, w64_nat (by omega), List.take_succ_eq_append_getElem hk]
  · rintro l rfl
    exact ⟨_, by rw [← prs_len]; simp; rfl, by simp⟩

theorem rpairs_eq {t : Tb} (hR : HR t) : r11_Pairs (t.map pl) = some ((prs t).map pp) := by
  have h8 := hR.l8
  have hp := prs_le h8
  unfold r11_Pairs
  simp only [jn]
  rw [rkeys_eq (by omega), Option.bind_some]
  refine lpb_upS (prs t).length (fun k l => l = ((prs t).take k).map pp) (by omega) (by simp) ?_ (fun l hl => ⟨_, by rw [← prs_len]; simp; rfl, by rw [hl, List.take_length]⟩)
  rintro k l hk rfl
  refine .inl ⟨_, ?_, rfl⟩
  rw [if_pos (by rw [← prs_len]; simpa using hk), ix_at (by rw [← prs_len]; exact hk), Option.bind_some]
  have e : (keys t)[k]'(by rw [← prs_len]; exact hk) = (prs t)[k].Key := by simp [keys_prs]
  rw [e, rgetR hR, prs_get hR hk, Option.bind_some, app_ok (by omega) (by simp; omega), Option.bind_some, w64_nat (by omega), List.take_succ_eq_append_getElem hk, List.map_append]
  rfl

/-- How often a value is owned. -/
def own (t : Tb) (h : Int) : Nat := (prs t).countP fun p => (h != 0) && (p.Val == h)
theorem owned_eq {t : Tb} (hR : HR t) (h : Int) : ephem_Owned t h = some (own t h : Int) := by
  have h8 := hR.l8
  have hp := prs_le h8
  unfold ephem_Owned ephem_gathered_ephem_Pair__ephem_pairs_1__ephem_Owned_1 ephem_pairs ephem_Owned_1
  simp only [jn, Option.bind_some]
  rw [keys_eq (by omega), Option.bind_some]
  refine bind3 (r := (prs t).filter fun p => (h != 0) && (p.Val == h)) (some_of (lp_upS (prs t).length (fun k l => l = ((prs t).take k).filter fun p => (h != 0) && (p.Val == h)) (fun e => e = (prs t).filter fun p => (h != 0) && (p.Val == h)) (by omega) (by simp) ?_ ?_)) (by unfold own; rw [List.countP_eq_length_filter])
  · rintro k l hk rfl
    refine .inl ⟨((prs t).take (k + 1)).filter fun p => (h != 0) && (p.Val == h), ?_, rfl⟩
    dsimp only
    rw [if_pos (by rw [← prs_len]; simpa using hk), ix_at (by rw [← prs_len]; exact hk), Option.bind_some]
    have e : (keys t)[k]'(by rw [← prs_len]; exact hk) = (prs t)[k].Key := by simp [keys_prs]
    have hle : (((prs t).take k).filter fun p => (h != 0) && (p.Val == h)).length ≤ 8 := Nat.le_trans (List.length_filter_le ..) (by simp; omega)
    rw [e, prs_get hR hk, Option.bind_some, w64_nat (by omega), List.take_succ_eq_append_getElem hk, List.filter_append, List.filter_cons, List.filter_nil]
    by_cases c : ((h != 0) && ((prs t)[k].Val == h)) = true
    · rw [if_pos c, if_pos c, app_ok (by omega) (by simp only [List.length_cons, List.length_nil]; omega), Option.bind_some]
    · rw [if_neg c, if_neg c, List.append_nil]
  · rintro l rfl
    exact ⟨_, by rw [← prs_len]; simp; rfl, by simp⟩

theorem rowned_eq {t : Tb} (hR : HR t) (h : Int) : r11_Owned (t.map pl) h = some (own t h : Int) := by
  have h8 := hR.l8
  have hp := prs_le h8
  unfold r11_Owned
  simp only [jn]
  rw [rpairs_eq hR, Option.bind_some, List.length_map]
  refine lpb_ind (fun s => ∃ k : Nat, k ≤ (prs t).length ∧ s.2 = (k : Int) ∧ s.1 = ((((prs t).take k).countP fun p => (h != 0) && (p.Val == h) : Nat) : Int)) (fun s => (prs t).length + 1 - s.2.toNat) ⟨0, by omega, rfl, by simp⟩ (by simp; omega) ?_
  rintro ⟨_, _⟩ ⟨k, hk, rfl, rfl⟩
  dsimp only
  by_cases hlt : k < (prs t).length
  · left
    rw [if_pos (by simpa using hlt), ix_map', ix_at hlt, Option.map_some, Option.bind_some, w64_nat (n := k) (by omega)]
    have hle : (((prs t).take k).countP fun p => (h != 0) && (p.Val == h)) ≤ 8 := Nat.le_trans List.countP_le_length (by simp; omega)
    have hstep : (((prs t).take (k + 1)).countP fun p => (h != 0) && (p.Val == h)) = (((prs t).take k).countP fun p => (h != 0) && (p.Val == h)) + if ((h != 0) && ((prs t)[k].Val == h)) = true then 1 else 0 := by
      rw [List.take_succ_eq_append_getElem hlt, List.countP_append, List.countP_cons, List.countP_nil, Nat.zero_add]
    by_cases c : ((h != 0) && ((prs t)[k].Val == h)) = true
    · rw [if_pos (by simp only [Bool.and_eq_true] at c ⊢; exact ⟨c.2, c.1⟩), w64_nat (by omega)]
      rw [if_pos c] at hstep
      exact ⟨_, rfl, ⟨k + 1, by omega, rfl, by rw [hstep]⟩, by simp; omega⟩
    · rw [if_neg (by simp only [Bool.and_eq_true] at c ⊢; exact fun q => c ⟨q.2, q.1⟩)]
      rw [if_neg c] at hstep
      exact ⟨_, rfl, ⟨k + 1, by omega, rfl, by rw [hstep]; rfl⟩, by simp; omega⟩
  · right
    have : k = (prs t).length := by omega
    subst this
    exact ⟨_, by rw [if_neg (by simp)], by rw [List.take_length]; rfl⟩

/-! ### A pair is set -/
theorem set_cases {t : Tb} (hR : HR t) (k v : Int) : ∃ r, ephem_Set t k v = some r ∧ HR r.1 ∧ r.1.length = t.length ∧ r11_Set (t.map pl) k v = some (r.1.map pl, r.2) ∧
    ((k = 0 ∧ r = (t, 0, 2)) ∨ (k ≠ 0 ∧ v = 0 ∧ ((∃ i, Fk t k i ∧ r = (t.set i ⟨2, 0, 0⟩, (pt t i).Val, 0)) ∨ ((∀ i, ¬ Fk t k i) ∧ r = (t, 0, 0)))) ∨
     (k ≠ 0 ∧ v ≠ 0 ∧ ((∃ i, Fk t k i ∧ r = (t.set i ⟨1, k, v⟩, (pt t i).Val, 0)) ∨ (∃ d, (∀ i, ¬ Fk t k i) ∧ d < t.length ∧ (pt t d).State ≠ 1 ∧ PutR t k v (t.set d ⟨1, k, v⟩, 0) ∧ r = (t.set d ⟨1, k, v⟩, 0, 0)) ∨ ((∀ i, ¬ Fk t k i) ∧ (∀ i, i < t.length → (pt t i).State = 1) ∧ r = (t, 0, 8))))) := by
  unfold ephem_Set r11_Set
  by_cases hk : k = 0
  · rw [if_pos (by simpa using hk), if_pos (by simpa using hk)]
    exact ⟨_, rfl, hR, rfl, rfl, .inl ⟨hk, rfl⟩⟩
  · rw [if_neg (by simpa using hk), if_neg (by simpa using hk), rgetR hR]
    obtain ⟨g, hg, hgv⟩ : ∃ g, hash_Get t k = some g ∧ ((∃ i, Fk t k i ∧ g = ((pt t i).Val, 0)) ∨ ((∀ i, ¬ Fk t k i) ∧ g = (0, 9))) := by
      rcases fk_or t k with ⟨i, hi⟩ | hn
      · exact ⟨_, get_of hR hi, .inl ⟨i, hi, rfl⟩⟩
      · exact ⟨_, get_no hR hn, .inr ⟨hn, rfl⟩⟩
    rw [hg, Option.bind_some, Option.bind_some]
    by_cases hv : v = 0
    · rw [if_pos (by simpa using hv), if_pos (by simpa using hv), rdropR hR]
      rcases hgv with ⟨i, hi, rfl⟩ | ⟨hn, rfl⟩
      · rw [drop_of hR hi, Option.bind_some]
        exact ⟨_, rfl, dropR_right hR hi.1, by simp, rfl, .inr (.inl ⟨hk, hv, .inl ⟨i, hi, rfl⟩⟩)⟩
      · rw [drop_no hR hn, Option.bind_some]
        exact ⟨_, rfl, hR, rfl, rfl, .inr (.inl ⟨hk, hv, .inr ⟨hn, rfl⟩⟩)⟩
    · rw [if_neg (by simpa using hv), if_neg (by simpa using hv)]
      obtain ⟨r, hr, hp⟩ := put_eq hR k v
      rw [hr, Option.bind_some, rputR hR k v hp, Option.bind_some]
      have hRr := putR_right hR hp
      have hl := putR_len hp
      have hp' := hp
      cases hp with
      | old i hi =>
        rcases hgv with ⟨j, hj, rfl⟩ | ⟨hn, rfl⟩
        · rw [hR.uq j i hj.1 hi.1 hj.2.1 hi.2.1 (hj.2.2.trans hi.2.2.symm)]
          exact ⟨_, rfl, hRr, hl, rfl, .inr (.inr ⟨hk, hv, .inl ⟨i, hi, rfl⟩⟩)⟩
        · exact absurd hi (hn i)
      | new d hn hd hb hf =>
        rcases hgv with ⟨j, hj, rfl⟩ | ⟨_, rfl⟩
        · exact absurd hj (hn j)
        · exact ⟨_, rfl, hRr, hl, rfl, .inr (.inr ⟨hk, hv, .inr (.inl ⟨_, hn, pos_lt hR.l1 k d, hf, hp', rfl⟩)⟩)⟩
      | full hn ha => exact ⟨_, rfl, hR, rfl, rfl, .inr (.inr ⟨hk, hv, .inr (.inr ⟨hn, ha, rfl⟩)⟩)⟩

theorem own_count (t : Tb) (h : Int) : own t h = t.countP fun p => (p.State == 1) && ((h != 0) && (p.Val == h)) := by
  unfold own prs
  rw [List.countP_map, List.countP_filter]
  congr 1
  funext p
  simp [Bool.and_comm]
theorem own_set {t : Tb} {i : Nat} (hi : i < t.length) (p : hash_Place) (h : Int) : own (t.set i p) h + (if (((pt t i).State == 1) && ((h != 0) && ((pt t i).Val == h))) = true then 1 else 0) = own t h + if ((p.State == 1) && ((h != 0) && (p.Val == h))) = true then 1 else 0 := by
  rw [own_count, own_count, List.countP_set hi, pt_lt hi]
  have : (if ((t[i].State == 1) && ((h != 0) && (t[i].Val == h))) = true then 1 else 0) ≤ t.countP fun p => (p.State == 1) && ((h != 0) && (p.Val == h)) := by
    split
    · rename_i e
      exact List.countP_pos_iff.2 ⟨t[i], List.getElem_mem hi, e⟩
    · exact Nat.zero_le _
  omega
theorem own_le {t : Tb} (h8 : t.length ≤ 8) (h : Int) : own t h ≤ 8 := Nat.le_trans List.countP_le_length (prs_le h8)

theorem ephemOwns (t : Tb) (k v : Int) : w11_EphemOwns t k v = some true := by
  unfold w11_EphemOwns
  obtain ⟨b, hb, hbR⟩ := right11 t
  rw [hb, Option.bind_some, shown11]
  by_cases c : b = true ∧ v ≠ 0
  · obtain ⟨rfl, hv⟩ := c
    have hR := hbR.1 rfl
    have h8 := hR.l8
    rw [show ((!true) || (v == 0)) = false by simpa using hv]
    rw [show onlyIf (false == false) false (some true) = some true from rfl, Option.bind_some, if_neg (by decide)]
    obtain ⟨r, hr, hRr, hl, _, hc⟩ := set_cases hR k v
    rw [hr, Option.bind_some, owned_eq hRr, owned_eq hR, owned_eq hRr, owned_eq hR]
    have l1 := own_le h8 v
    have l2 := own_le h8 r.2.1
    have l3 := own_le (t := r.1) (by omega) v
    have l4 := own_le (t := r.1) (by omega) r.2.1
    rcases hc with ⟨rfl, rfl⟩ | ⟨_, q, _⟩ | ⟨hk, _, ⟨i, hi, rfl⟩ | ⟨d, hn, hd, hf, _, rfl⟩ | ⟨hn, ha, rfl⟩⟩
    · simp
    · exact absurd q hv
    · have e1 := own_set hi.1 ⟨1, k, v⟩ v
      have e2 := own_set hi.1 ⟨1, k, v⟩ (pt t i).Val
      dsimp only at l1 l2 l3 l4 ⊢
      simp only [hi.2.1, beq_self_eq_true, Bool.true_and, Bool.and_true] at e1 e2
      by_cases ho : (pt t i).Val = v
      · rw [if_pos (by simpa using ho)]
        rw [ho] at e1
        simp only [beq_self_eq_true, Bool.and_true] at e1
        simp
        omega
      · rw [if_neg (by simpa using ho)]
        have q1 : ((v != 0) && ((pt t i).Val == v)) = false := by simp; omega
        rw [q1] at e1
        have q2 : (v != 0) = true := by simpa using hv
        rw [q2] at e1
        simp only [Bool.false_eq_true, if_false, if_true] at e1
        have e3 : ((own (t.set i ⟨1, k, v⟩) v : Int) == w64 ((own t v : Int) + 1)) = true := by
          rw [w64_in (by omega) (by omega)]; simp; omega
        simp only [Option.bind_some]
        rw [e3]
        by_cases hz : (pt t i).Val = 0
        · rw [hz]; rfl
        · have q3 : ((pt t i).Val == 0) = false := by simpa using hz
          rw [q3]
          simp only [beq_self_eq_true, Bool.and_self, onlyT, Option.bind_some, Bool.false_or, Bool.true_and]
          have q4 : ((pt t i).Val != 0) = true := by simpa using hz
          have q5 : (v == (pt t i).Val) = false := by simp; omega
          rw [q4, q5] at e2
          simp only [Bool.and_false, Bool.false_eq_true, if_false, if_true] at e2
          rw [w64_in (by omega) (by omega)]
          simp
          omega
    · have e1 := own_set hd ⟨1, k, v⟩ v
      have q2 : (v != 0) = true := by simpa using hv
      have q3 : ((pt t d).State == 1) = false := by simpa using hf
      rw [q2, q3] at e1
      simp only [beq_self_eq_true, Bool.and_self, Bool.false_and, Bool.false_eq_true, if_false, if_true] at e1
      dsimp only at l1 l2 l3 l4 ⊢
      rw [if_neg (by simp; omega)]
      have e3 : ((own (t.set d ⟨1, k, v⟩) v : Int) == w64 ((own t v : Int) + 1)) = true := by
        rw [w64_in (by omega) (by omega)]; simp; omega
      simp only [Option.bind_some]
      rw [e3]
      rfl
    · simp
  · have : ((!b) || (v == 0)) = true := by
      cases b with
      | false => rfl
      | true => simp at c ⊢; exact c
    rw [this]
    rfl
end Go.Sh
