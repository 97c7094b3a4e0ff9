/-
  Tables: what stands under keys; the document's own acts.
-/
import Derived.Test.YtkjilddlbaibfaaT10b
namespace Go.Sh
set_option linter.unusedVariables false
set_option linter.unusedSimpArgs false

/-- What stands under a key. -/
def Has (t : Tb) (k v : Int) : Prop := ∃ i, Fk t k i ∧ (pt t i).Val = v
theorem has_fk {t : Tb} {k : Int} : (∀ v, ¬ Has t k v) ↔ ∀ i, ¬ Fk t k i := by
  constructor
  · intro h i hi; exact h _ ⟨i, hi, rfl⟩
  · rintro h v ⟨i, hi, _⟩; exact h i hi
theorem has_or (t : Tb) (k : Int) : (∃ v, Has t k v) ∨ ∀ v, ¬ Has t k v := by
  by_cases h : ∃ v, Has t k v
  · exact .inl h
  · exact .inr fun v hv => h ⟨v, hv⟩
theorem Has.fn {t : Tb} (hR : HR t) {k v v' : Int} (h : Has t k v) (h' : Has t k v') : v = v' := by
  obtain ⟨i, a, rfl⟩ := h
  obtain ⟨j, b, rfl⟩ := h'
  rw [hR.uq i j a.1 b.1 a.2.1 b.2.1 (a.2.2.trans b.2.2.symm)]
theorem get_has {t : Tb} (hR : HR t) {k v : Int} (h : Has t k v) : hash_Get t k = some (v, 0) := by
  obtain ⟨i, a, rfl⟩ := h
  exact get_of hR a
theorem get_hasno {t : Tb} (hR : HR t) {k : Int} (h : ∀ v, ¬ Has t k v) : hash_Get t k = some (0, 9) := get_no hR (has_fk.1 h)

theorem has_set {t : Tb} {i : Nat} (hi : i < t.length) {k v : Int} (p : hash_Place) (h : ∀ j, j ≠ i → Fk t p.Key j → p.State ≠ 1) (k' v' : Int) :
    Has (t.set i p) k' v' ↔ (p.State = 1 ∧ p.Key = k' ∧ p.Val = v') ∨ ∃ j, j ≠ i ∧ Fk t k' j ∧ (pt t j).Val = v' := by
  unfold Has Fk
  simp only [List.length_set, pt_set hi]
  constructor
  · rintro ⟨j, ⟨h1, h2, h3⟩, h4⟩
    by_cases e : j = i
    · rw [if_pos e] at h2 h3 h4; exact .inl ⟨h2, h3, h4⟩
    · rw [if_neg e] at h2 h3 h4; exact .inr ⟨j, e, ⟨h1, h2, h3⟩, h4⟩
  · rintro (⟨h1, h2, h3⟩ | ⟨j, e, ⟨h1, h2, h3⟩, h4⟩)
    · exact ⟨i, by simp [hi, h1, h2, h3]⟩
    · exact ⟨j, by simp [e, h1, h2, h3, h4]⟩

theorem put_has {t : Tb} (hR : HR t) {k v : Int} {r : Tb × Int} (h : PutR t k v r) (h0 : r.2 = 0) (k' v' : Int) : Has r.1 k' v' ↔ (k' = k ∧ v' = v) ∨ (k' ≠ k ∧ Has t k' v') := by
  cases h with
  | old i hi =>
    rw [has_set (k := k) (v := v) hi.1 _ (fun j hj q => absurd (hR.uq j i q.1 hi.1 q.2.1 hi.2.1 (q.2.2.trans hi.2.2.symm)) hj)]
    constructor
    · rintro (⟨_, rfl, rfl⟩ | ⟨j, e, h1, h2⟩)
      · exact .inl ⟨rfl, rfl⟩
      · refine .inr ⟨fun q => ?_, j, h1, h2⟩
        subst q
        exact e (hR.uq j i h1.1 hi.1 h1.2.1 hi.2.1 (h1.2.2.trans hi.2.2.symm))
    · rintro (⟨rfl, rfl⟩ | ⟨e, j, h1, h2⟩)
      · exact .inl ⟨rfl, rfl, rfl⟩
      · refine .inr ⟨j, fun q => ?_, h1, h2⟩
        subst q
        exact e (h1.2.2.symm.trans hi.2.2)
  | new d hn hd hb hf =>
    rw [has_set (k := k) (v := v) (pos_lt hR.l1 k d) _ (fun j hj q => absurd q (hn j))]
    constructor
    · rintro (⟨_, rfl, rfl⟩ | ⟨j, e, h1, h2⟩)
      · exact .inl ⟨rfl, rfl⟩
      · refine .inr ⟨fun q => ?_, j, h1, h2⟩
        subst q
        exact hn j h1
    · rintro (⟨rfl, rfl⟩ | ⟨e, j, h1, h2⟩)
      · exact .inl ⟨rfl, rfl, rfl⟩
      · refine .inr ⟨j, fun q => ?_, h1, h2⟩
        subst q
        exact hf h1.2.1
  | full hn ha => cases h0

theorem drop_has {t : Tb} (hR : HR t) {k : Int} {i : Nat} (hi : Fk t k i) (k' v' : Int) : Has (t.set i ⟨2, 0, 0⟩) k' v' ↔ k' ≠ k ∧ Has t k' v' := by
  rw [has_set (k := k) (v := 0) hi.1 _ (fun j hj q => by simp)]
  constructor
  · rintro (⟨h, _⟩ | ⟨j, e, h1, h2⟩)
    · cases h
    · refine ⟨fun q => ?_, j, h1, h2⟩
      subst q
      exact e (hR.uq j i h1.1 hi.1 h1.2.1 hi.2.1 (h1.2.2.trans hi.2.2.symm))
  · rintro ⟨e, j, h1, h2⟩
    refine .inr ⟨j, fun q => ?_, h1, h2⟩
    subst q
    exact e (h1.2.2.symm.trans hi.2.2)

/-- The same table. -/
theorem same_refl {l : List r10_Place} (h : l.length ≤ 100000) : r10_Same l l = some true := by
  unfold r10_Same
  rw [if_neg (by simp)]
  simp only [jn]
  refine lpb_up l.length (fun _ => True) (by omega) trivial (fun k hk _ => .inl ⟨?_, trivial⟩) (fun _ => ⟨.inr (), by simp, rfl⟩)
  rw [if_pos (by simpa using hk), ix_at hk, Option.bind_some, Option.bind_some, if_neg (by simp), w64_nat (by omega)]
theorem ints_refl' {l : List Int} (h : l.length ≤ 100000) : r02_Ints l l = some true := by
  unfold r02_Ints
  rw [if_neg (by simp)]
  simp only [jn]
  refine lpb_up l.length (fun _ => True) (by omega) trivial (fun k hk _ => .inl ⟨?_, trivial⟩) (fun _ => ⟨.inr (), by simp, rfl⟩)
  rw [if_pos (by simpa using hk), ix_at hk, Option.bind_some, Option.bind_some, if_neg (by simp), w64_nat (by omega)]

def keys (t : Tb) : List Int := (t.filter (·.State == 1)).map (·.Key)
theorem filt_snoc' {α β : Type} (p : α → Bool) (f : α → β) (l : List α) (k : Nat) (h : k < l.length) : ((l.take (k + 1)).filter p).map f = ((l.take k).filter p).map f ++ (if p l[k] then [f l[k]] else []) := by
  rw [List.take_succ_eq_append_getElem h, List.filter_append, List.map_append]
  congr 1
  simp only [List.filter_cons, List.filter_nil]
  split <;> rfl
theorem keys_eq {t : Tb} (h : t.length ≤ 1000) : hash_Keys t = some (keys t) := by
  unfold hash_Keys keys
  simp only [jn]
  refine lpb_upS t.length (fun k l => l = ((t.take k).filter (·.State == 1)).map (·.Key)) (by omega) (by simp) ?_ (fun l hl => ⟨_, by simp; rfl, by rw [hl, List.take_length]⟩)
  rintro k l hk rfl
  left
  rw [filt_snoc' _ _ _ _ hk]
  rw [if_pos (by simpa using hk), ix_at hk, Option.bind_some, w64_nat (by omega)]
  have hle : (List.map (·.Key) (List.filter (·.State == 1) (List.take k t))).length ≤ 1000 := by
    rw [List.length_map]
    exact Nat.le_trans (List.length_filter_le ..) (by simp; omega)
  by_cases c : (t[k].State == 1) = true
  · rw [if_pos c, if_pos c, app_ok (by omega) (by simp only [List.length_cons, List.length_nil]; omega), Option.bind_some]
    exact ⟨_, rfl, rfl⟩
  · rw [if_neg c, if_neg c]
    exact ⟨_, rfl, by simp⟩
theorem rkeys_eq {t : Tb} (h : t.length ≤ 1000) : r10_Keys (t.map pl) = some (keys t) := by
  unfold r10_Keys keys
  simp only [jn]
  refine lpb_upS t.length (fun k l => l = ((t.take k).filter (·.State == 1)).map (·.Key)) (by omega) (by simp) ?_ (fun l hl => ⟨_, by simp; rfl, by rw [hl, List.take_length]⟩)
  rintro k l hk rfl
  left
  rw [filt_snoc' _ _ _ _ hk]
  rw [if_pos (by simpa using hk), ix_map', ix_at hk, Option.map_some, Option.bind_some, w64_nat (by omega)]
  have hle : (List.map (·.Key) (List.filter (·.State == 1) (List.take k t))).length ≤ 1000 := by
    rw [List.length_map]
    exact Nat.le_trans (List.length_filter_le ..) (by simp; omega)
  by_cases c : (t[k].State == 1) = true
  · rw [if_pos (by simpa [pl] using c), if_pos c, app_ok (by omega) (by simp only [List.length_cons, List.length_nil]; omega), Option.bind_some]
    exact ⟨_, rfl, rfl⟩
  · rw [if_neg (by simpa [pl] using c), if_neg c]
    exact ⟨_, rfl, by simp⟩

/-! ### The document's own acts -/
theorem rfindR {t : Tb} (hR : HR t) (k : Int) : r10_Find (t.map pl) k = hash_Find t k := by
  have h8 := hR.l8
  rcases fk_or t k with ⟨i, hi⟩ | hn
  · rw [find_of hR hi]
    obtain ⟨f, hf1, hf2⟩ := first_fk ⟨i, hi⟩
    rw [rfind_of (by omega) hf1 hf2, hR.uq f i hf1.1 hi.1 hf1.2.1 hi.2.1 (hf1.2.2.trans hi.2.2.symm)]
  · rw [find_no hR.l1 hR.l8 hn, rfind_no (by omega) hn]
theorem rgetR {t : Tb} (hR : HR t) (k : Int) : r10_Get (t.map pl) k = hash_Get t k := by
  unfold r10_Get hash_Get
  rw [rfindR hR]
  rcases fk_or t k with ⟨i, hi⟩ | hn
  · rw [find_of hR hi, Option.bind_some, Option.bind_some, if_neg (by simp), if_neg (by simp), ixm hi.1, ix_pt hi.1]; rfl
  · rw [find_no hR.l1 hR.l8 hn]; rfl
theorem rdropR {t : Tb} (hR : HR t) (k : Int) : r10_Drop (t.map pl) k = (hash_Drop t k).map fun r => (r.1.map pl, r.2) := by
  have h8 := hR.l8
  rcases fk_or t k with ⟨i, hi⟩ | hn
  · rw [drop_of hR hi]
    unfold r10_Drop
    rw [rfindR hR, find_of hR hi, Option.bind_some, if_neg (by simp)]
    have := rwith_set (t := t) (by omega) hi.1 ⟨2, 0, 0⟩
    dsimp only [pl] at this
    rw [this, Option.bind_some, ixm hi.1]
    rfl
  · rw [drop_no hR hn]
    unfold r10_Drop
    rw [rfindR hR, find_no hR.l1 hR.l8 hn]
    rfl
theorem rputR {t : Tb} (hR : HR t) (k v : Int) {r : Tb × Int} (h : PutR t k v r) : r10_Put (t.map pl) k v = some (r.1.map pl, r.2) := by
  have h1 := hR.l1
  have h8 := hR.l8
  unfold r10_Put
  rw [rfindR hR]
  have hw : ∀ i, i < t.length → r10_with (t.map pl) (i : Int) ⟨1, k, v⟩ = some ((t.set i ⟨1, k, v⟩).map pl) := fun i hi => rwith_set (t := t) (by omega) hi ⟨1, k, v⟩
  cases h with
  | old i hi =>
    rw [find_of hR hi, Option.bind_some, if_pos (by simp), hw i hi.1]
    rfl
  | new d hn hd hb hf =>
    rw [find_no h1 h8 hn, Option.bind_some, if_neg (by decide), List.length_map, rhome_eq, home_eq h1 (by omega), Option.bind_some]
    simp only [jn]
    rw [← pos_zero h1 k]
    obtain ⟨e, he, hQ⟩ := lp_road (f := fun ((s15, s16) : Int × Int) =>
      if (decide (s16 < (t.length : Int))) then
        (ix (t.map pl) s15).bind fun v19 =>
        if (v19.State != 1) then
          (r10_with (t.map pl) s15 (⟨1, k, v⟩ : r10_Place)).bind fun v20 =>
          some (Sum.inr (Sum.inl (β := Unit) (v20, (0 : Int))))
        else
        (rem (w64 (s15 + 1)) (t.length : Int)).bind fun v21 =>
        some (Sum.inl (v21, w64 (s16 + 1)))
      else
      some (Sum.inr (Sum.inr ()))) (fun d => (((pos t.length k d : Nat) : Int), (d : Int))) d (fun _ => True) (fun e => e = .inl ((t.set (pos t.length k d) ⟨1, k, v⟩).map pl, 0)) (by omega) trivial (fun j hj _ => by
        have hp := pos_lt h1 k j
        dsimp only
        rw [if_pos (by simp; omega), ixm hp, Option.bind_some, if_neg (by simpa [pl] using hb j hj), rnext h1 h8, Option.bind_some, w64_nat (by omega)]
        exact .inl ⟨rfl, trivial⟩) (fun _ => by
        have hp := pos_lt h1 k d
        dsimp only
        rw [if_pos (by simpa using hd), ixm hp, Option.bind_some, if_pos (by simpa [pl] using hf), hw _ hp]
        exact ⟨_, rfl, rfl⟩)
    have he' : lp _ (((pos t.length k 0 : Nat) : Int), (0 : Int)) = some e := he
    rw [he', hQ]
    rfl
  | full hn ha =>
    rw [find_no h1 h8 hn, Option.bind_some, if_neg (by decide), List.length_map, rhome_eq, home_eq h1 (by omega), Option.bind_some]
    simp only [jn]
    rw [← pos_zero h1 k]
    obtain ⟨e, he, hQ⟩ := lp_road (f := fun ((s15, s16) : Int × Int) =>
      if (decide (s16 < (t.length : Int))) then
        (ix (t.map pl) s15).bind fun v19 =>
        if (v19.State != 1) then
          (r10_with (t.map pl) s15 (⟨1, k, v⟩ : r10_Place)).bind fun v20 =>
          some (Sum.inr (Sum.inl (β := Unit) (v20, (0 : Int))))
        else
        (rem (w64 (s15 + 1)) (t.length : Int)).bind fun v21 =>
        some (Sum.inl (v21, w64 (s16 + 1)))
      else
      some (Sum.inr (Sum.inr ()))) (fun d => (((pos t.length k d : Nat) : Int), (d : Int))) t.length (fun _ => True) (fun e => e = .inr ()) (by omega) trivial (fun j hj _ => by
        have hp := pos_lt h1 k j
        dsimp only
        rw [if_pos (by simp; omega), ixm hp, Option.bind_some, if_neg (by simpa [pl] using ha _ hp), rnext h1 h8, Option.bind_some, w64_nat (by omega)]
        exact .inl ⟨rfl, trivial⟩) (fun _ => ⟨.inr (), by simp, rfl⟩)
    have he' : lp _ (((pos t.length k 0 : Nat) : Int), (0 : Int)) = some e := he
    rw [he', hQ]
    rfl

theorem putR_len {t : Tb} {k v : Int} {r : Tb × Int} (h : PutR t k v r) : r.1.length = t.length := by cases h <;> simp

end Go.Sh
