/-
  Tables: the laws.
-/
import Derived.Test.YtpeoafbdnlellaaT10b
namespace Go.Sh
set_option linter.unusedVariables false
set_option linter.unusedSimpArgs false

theorem shown10 : w10_shown = some true := by kernel_rfl

/-- What stands under a key. -/
def Has (t : Tb) (k v : Int) : Prop := ∃ i, Fk t k i ∧ (pt t i).Val = v
theorem has_fk {t : Tb} {k : Int} : (∀ v, ¬ Has t k v) ↔ ∀ i, ¬ Fk t k i := by
  constructor
  · intro h i hi; exact h _ ⟨i, hi, rfl⟩
  · rintro h v ⟨i, hi, _⟩; exact h i hi
theorem has_or (t : Tb) (k : Int) : (∃ v, Has t k v) ∨ ∀ v, ¬ Has t k v := by
  by_cases h : ∃ v, Has t k v
  · exact .inl h
  · exact .inr fun v hv => h ⟨v, hv⟩
theorem Has.fn {t : Tb} (hR : HR t) {k v v' : Int} (h : Has t k v) (h' : Has t k v') : v = v' := by
  obtain ⟨i, a, rfl⟩ := h
  obtain ⟨j, b, rfl⟩ := h'
  rw [hR.uq i j a.1 b.1 a.2.1 b.2.1 (a.2.2.trans b.2.2.symm)]
theorem get_has {t : Tb} (hR : HR t) {k v : Int} (h : Has t k v) : hash_Get t k = some (v, 0) := by
  obtain ⟨i, a, rfl⟩ := h
  exact get_of hR a
theorem get_hasno {t : Tb} (hR : HR t) {k : Int} (h : ∀ v, ¬ Has t k v) : hash_Get t k = some (0, 9) := get_no hR (has_fk.1 h)

theorem has_set {t : Tb} {i : Nat} (hi : i < t.length) {k v : Int} (p : hash_Place) (h : ∀ j, j ≠ i → Fk t p.Key j → p.State ≠ 1) (k' v' : Int) :
    Has (t.set i p) k' v' ↔ (p.State = 1 ∧ p.Key = k' ∧ p.Val = v') ∨ ∃ j, j ≠ i ∧ Fk t k' j ∧ (pt t j).Val = v' := by
  unfold Has Fk
  simp only [List.length_set, pt_set hi]
  constructor
  · rintro ⟨j, ⟨h1, h2, h3⟩, h4⟩
    by_cases e : j = i
    · rw [if_pos e] at h2 h3 h4; exact .inl ⟨h2, h3, h4⟩
    · rw [if_neg e] at h2 h3 h4; exact .inr ⟨j, e, ⟨h1, h2, h3⟩, h4⟩
  · rintro (⟨h1, h2, h3⟩ | ⟨j, e, ⟨h1, h2, h3⟩, h4⟩)
    · exact ⟨i, by simp [hi, h1, h2, h3]⟩
    · exact ⟨j, by simp [e, h1, h2, h3, h4]⟩

theorem put_has {t : Tb} (hR : HR t) {k v : Int} {r : Tb × Int} (h : PutR t k v r) (h0 : r.2 = 0) (k' v' : Int) : Has r.1 k' v' ↔ (k' = k ∧ v' = v) ∨ (k' ≠ k ∧ Has t k' v') := by
  cases h with
  | old i hi =>
    rw [has_set (k := k) (v := v) hi.1 _ (fun j hj q => absurd (hR.uq j i q.1 hi.1 q.2.1 hi.2.1 (q.2.2.trans hi.2.2.symm)) hj)]
    constructor
    · rintro (⟨_, rfl, rfl⟩ | ⟨j, e, h1, h2⟩)
      · exact .inl ⟨rfl, rfl⟩
      · refine .inr ⟨fun q => ?_, j, h1, h2⟩
        subst q
        exact e (hR.uq j i h1.1 hi.1 h1.2.1 hi.2.1 (h1.2.2.trans hi.2.2.symm))
    · rintro (⟨rfl, rfl⟩ | ⟨e, j, h1, h2⟩)
      · exact .inl ⟨rfl, rfl, rfl⟩
      · refine .inr ⟨j, fun q => ?_, h1, h2⟩
        subst q
        exact e (h1.2.2.symm.trans hi.2.2)
  | new d hn hd hb hf =>
    rw [has_set (k := k) (v := v) (pos_lt hR.l1 k d) _ (fun j hj q => absurd q (hn j))]
    constructor
    · rintro (⟨_, rfl, rfl⟩ | ⟨j, e, h1, h2⟩)
      · exact .inl ⟨rfl, rfl⟩
      · refine .inr ⟨fun q => ?_, j, h1, h2⟩
        subst q
        exact hn j h1
    · rintro (⟨rfl, rfl⟩ | ⟨e, j, h1, h2⟩)
      · exact .inl ⟨rfl, rfl, rfl⟩
      · refine .inr ⟨j, fun q => ?_, h1, h2⟩
        subst q
        exact hf h1.2.1
  | full hn ha => cases h0

theorem drop_has {t : Tb} (hR : HR t) {k : Int} {i : Nat} (hi : Fk t k i) (k' v' : Int) : Has (t.set i ⟨2, 0, 0⟩) k' v' ↔ k' ≠ k ∧ Has t k' v' := by
  rw [has_set (k := k) (v := 0) hi.1 _ (fun j hj q => by simp)]
  constructor
  · rintro (⟨h, _⟩ | ⟨j, e, h1, h2⟩)
    · cases h
    · refine ⟨fun q => ?_, j, h1, h2⟩
      subst q
      exact e (hR.uq j i h1.1 hi.1 h1.2.1 hi.2.1 (h1.2.2.trans hi.2.2.symm))
  · rintro ⟨e, j, h1, h2⟩
    refine .inr ⟨j, fun q => ?_, h1, h2⟩
    subst q
    exact e (h1.2.2.symm.trans hi.2.2)

/-- The same table. -/
theorem same_refl {l : List r10_Place} (h : l.length ≤ 100000) : r10_Same l l = some true := by
  unfold r10_Same
  rw [if_neg (by simp)]
  simp only [jn]
  refine lpb_up l.length (fun _ => True) (by omega) trivial (fun k hk _ => .inl ⟨?_, trivial⟩) (fun _ => ⟨.inr (), by simp, rfl⟩)
  rw [if_pos (by simpa using hk), ix_at hk, Option.bind_some, Option.bind_some, if_neg (by simp), w64_nat (by omega)]
theorem ints_refl' {l : List Int} (h : l.length ≤ 100000) : r02_Ints l l = some true := by
  unfold r02_Ints
  rw [if_neg (by simp)]
  simp only [jn]
  refine lpb_up l.length (fun _ => True) (by omega) trivial (fun k hk _ => .inl ⟨?_, trivial⟩) (fun _ => ⟨.inr (), by simp, rfl⟩)
  rw [if_pos (by simpa using hk), ix_at hk, Option.bind_some, Option.bind_some, if_neg (by simp), w64_nat (by omega)]

def keys (t : Tb) : List Int := (t.filter (·.State == 1)).map (·.Key)
theorem filt_snoc' {α β : Type} (p : α → Bool) (f : α → β) (l : List α) (k : Nat) (h : k < l.length) : ((l.take (k + 1)).filter p).map f = ((l.take k).filter p).map f ++ (if p l[k] then [f l[k]] else []) := by
  rw [List.take_succ_eq_append_getElem h, List.filter_append, List.map_append]
  congr 1
  simp only [List.filter_cons, List.filter_nil]
  split <;> rfl
theorem keys_eq {t : Tb} (h : t.length ≤ 1000) : hash_Keys t = some (keys t) := by
  unfold hash_Keys keys
  simp only [jn]
  refine lpb_upS t.length (fun k l => l = ((t.take k).filter (·.State == 1)).map (·.Key)) (by omega) (by simp) ?_ (fun l hl => ⟨_, by simp; rfl, by rw [hl, List.take_length]⟩)
  rintro k l hk rfl
  left
  rw [filt_snoc' _ _ _ _ hk]
  rw [if_pos (by simpa using hk), ix_at hk, Option.bind_some, w64_nat (by omega)]
  have hle : (List.map (·.Key) (List.filter (·.State == 1) (List.take k t))).length ≤ 1000 := by
    rw [List.length_map]
    exact Nat.le_trans (List.length_filter_le ..) (by simp; omega)
  by_cases c : (t[k].State == 1) = true
  · rw [if_pos c, if_pos c, app_ok (by omega) (by simp only [List.length_cons, List.length_nil]; omega), Option.bind_some]
    exact ⟨_, rfl, rfl⟩
  · rw [if_neg c, if_neg c]
    exact ⟨_, rfl, by simp⟩
theorem rkeys_eq {t : Tb} (h : t.length ≤ 1000) : r10_Keys (t.map pl) = some (keys t) := by
  unfold r10_Keys keys
  simp only [jn]
  refine lpb_upS t.length (fun k l => l = ((t.take k).filter (·.State == 1)).map (·.Key)) (by omega) (by simp) ?_ (fun l hl => ⟨_, by simp; rfl, by rw [hl, List.take_length]⟩)
  rintro k l hk rfl
  left
  rw [filt_snoc' _ _ _ _ hk]
  rw [if_pos (by simpa using hk), ix_map', ix_at hk, Option.map_some, Option.bind_some, w64_nat (by omega)]
  have hle : (List.map (·.Key) (List.filter (·.State == 1) (List.take k t))).length ≤ 1000 := by
    rw [List.length_map]
    exact Nat.le_trans (List.length_filter_le ..) (by simp; omega)
  by_cases c : (t[k].State == 1) = true
  · rw [if_pos (by simpa [pl] using c), if_pos c, app_ok (by omega) (by simp only [List.length_cons, List.length_nil]; omega), Option.bind_some]
    exact ⟨_, rfl, rfl⟩
  · rw [if_neg (by simpa [pl] using c), if_neg c]
    exact ⟨_, rfl, by simp⟩

/-! ### The document's own acts -/
theorem rfindR {t : Tb} (hR : HR t) (k : Int) : r10_Find (t.map pl) k = hash_Find t k := by
  have h8 := hR.l8
  rcases fk_or t k with ⟨i, hi⟩ | hn
  · rw [find_of hR hi]
    obtain ⟨f, hf1, hf2⟩ := first_fk ⟨i, hi⟩
    rw [rfind_of (by omega) hf1 hf2, hR.uq f i hf1.1 hi.1 hf1.2.1 hi.2.1 (hf1.2.2.trans hi.2.2.symm)]
  · rw [find_no hR.l1 hR.l8 hn, rfind_no (by omega) hn]
theorem rgetR {t : Tb} (hR : HR t) (k : Int) : r10_Get (t.map pl) k = hash_Get t k := by
  unfold r10_Get hash_Get
  rw [rfindR hR]
  rcases fk_or t k with ⟨i, hi⟩ | hn
  · rw [find_of hR hi, Option.bind_some, Option.bind_some, if_neg (by simp), if_neg (by simp), ixm hi.1, ix_pt hi.1]; rfl
  · rw [find_no hR.l1 hR.l8 hn]; rfl
theorem rdropR {t : Tb} (hR : HR t) (k : Int) : r10_Drop (t.map pl) k = (hash_Drop t k).map fun r => (r.1.map pl, r.2) := by
  have h8 := hR.l8
  rcases fk_or t k with ⟨i, hi⟩ | hn
  · rw [drop_of hR hi]
    unfold r10_Drop
    rw [rfindR hR, find_of hR hi, Option.bind_some, if_neg (by simp)]
    have := rwith_set (t := t) (by omega) hi.1 ⟨2, 0, 0⟩
    dsimp only [pl] at this
    rw [this, Option.bind_some, ixm hi.1]
    rfl
  · rw [drop_no hR hn]
    unfold r10_Drop
    rw [rfindR hR, find_no hR.l1 hR.l8 hn]
    rfl
theorem rputR {t : Tb} (hR : HR t) (k v : Int) {r : Tb × Int} (h : PutR t k v r) : r10_Put (t.map pl) k v = some (r.1.map pl, r.2) := by
  have h1 := hR.l1
  have h8 := hR.l8
  unfold r10_Put
  rw [rfindR hR]
  have hw : ∀ i, i < t.length → r10_with (t.map pl) (i : Int) ⟨1, k, v⟩ = some ((t.set i ⟨1, k, v⟩).map pl) := fun i hi => rwith_set (t := t) (by omega) hi ⟨1, k, v⟩
  cases h with
  | old i hi =>
    rw [find_of hR hi, Option.bind_some, if_pos (by simp), hw i hi.1]
    rfl
  | new d hn hd hb hf =>
    rw [find_no h1 h8 hn, Option.bind_some, if_neg (by decide), List.length_map, rhome_eq, home_eq h1 (by omega), Option.bind_some]
    simp only [jn]
    rw [← pos_zero h1 k]
    obtain ⟨e, he, hQ⟩ := lp_road (f := fun ((s15, s16) : Int × Int) =>
      if (decide (s16 < (t.length : Int))) then
        (ix (t.map pl) s15).bind fun v19 =>
        if (v19.State != 1) then
          (r10_with (t.map pl) s15 (⟨1, k, v⟩ : r10_Place)).bind fun v20 =>
          some (Sum.inr (Sum.inl (β := Unit) (v20, (0 : Int))))
        else
        (rem (w64 (s15 + 1)) (t.length : Int)).bind fun v21 =>
        some (Sum.inl (v21, w64 (s16 + 1)))
      else
      some (Sum.inr (Sum.inr ()))) (fun d => (((pos t.length k d : Nat) : Int), (d : Int))) d (fun _ => True) (fun e => e = .inl ((t.set (pos t.length k d) ⟨1, k, v⟩).map pl, 0)) (by omega) trivial (fun j hj _ => by
        have hp := pos_lt h1 k j
        dsimp only
        rw [if_pos (by simp; omega), ixm hp, Option.bind_some, if_neg (by simpa [pl] using hb j hj), rnext h1 h8, Option.bind_some, w64_nat (by omega)]
        exact .inl ⟨rfl, trivial⟩) (fun _ => by
        have hp := pos_lt h1 k d
        dsimp only
        rw [if_pos (by simpa using hd), ixm hp, Option.bind_some, if_pos (by simpa [pl] using hf), hw _ hp]
        exact ⟨_, rfl, rfl⟩)
    have he' : lp _ (((pos t.length k 0 : Nat) : Int), (0 : Int)) = some e := he
    rw [he', hQ]
    rfl
  | full hn ha =>
    rw [find_no h1 h8 hn, Option.bind_some, if_neg (by decide), List.length_map, rhome_eq, home_eq h1 (by omega), Option.bind_some]
    simp only [jn]
    rw [← pos_zero h1 k]
    obtain ⟨e, he, hQ⟩ := lp_road (f := fun ((s15, s16) : Int × Int) =>
      if (decide (s16 < (t.length : Int))) then
        (ix (t.map pl) s15).bind fun v19 =>
        if (v19.State != 1) then
          (r10_with (t.map pl) s15 (⟨1, k, v⟩ : r10_Place)).bind fun v20 =>
          some (Sum.inr (Sum.inl (β := Unit) (v20, (0 : Int))))
        else
        (rem (w64 (s15 + 1)) (t.length : Int)).bind fun v21 =>
        some (Sum.inl (v21, w64 (s16 + 1)))
      else
      some (Sum.inr (Sum.inr ()))) (fun d => (((pos t.length k d : Nat) : Int), (d : Int))) t.length (fun _ => True) (fun e => e = .inr ()) (by omega) trivial (fun j hj _ => by
        have hp := pos_lt h1 k j
        dsimp only
        rw [if_pos (by simp; omega), ixm hp, Option.bind_some, if_neg (by simpa [pl] using ha _ hp), rnext h1 h8, Option.bind_some, w64_nat (by omega)]
        exact .inl ⟨rfl, trivial⟩) (fun _ => ⟨.inr (), by simp, rfl⟩)
    have he' : lp _ (((pos t.length k 0 : Nat) : Int), (0 : Int)) = some e := he
    rw [he', hQ]
    rfl

theorem putR_len {t : Tb} {k v : Int} {r : Tb × Int} (h : PutR t k v r) : r.1.length = t.length := by cases h <;> simp

/-! ### The laws -/

theorem hashActs (t : Tb) (k v : Int) : w10_HashActs t k v = some true := by
  unfold w10_HashActs
  obtain ⟨b, hb, hbR⟩ := right10 t
  rw [hb, Option.bind_some, shown10]
  cases b with
  | false => simp [onlyIf]
  | true =>
    have hR := hbR.1 rfl
    have h8 := hR.l8
    obtain ⟨r, hr, hp⟩ := put_eq hR k v
    have hlp := putR_len hp
    obtain ⟨q, hq, hql⟩ : ∃ q, hash_Drop t k = some q ∧ q.1.length = t.length := by
      rcases fk_or t k with ⟨i, hi⟩ | hn
      · exact ⟨_, drop_of hR hi, by simp⟩
      · exact ⟨_, drop_no hR hn, rfl⟩
    obtain ⟨g, hg⟩ : ∃ g, hash_Get t k = some g := by
      rcases fk_or t k with ⟨i, hi⟩ | hn
      · exact ⟨_, get_of hR hi⟩
      · exact ⟨_, get_no hR hn⟩
    obtain ⟨f, hf⟩ : ∃ f, hash_Find t k = some f := by
      rcases fk_or t k with ⟨i, hi⟩ | hn
      · exact ⟨_, find_of hR hi⟩
      · exact ⟨_, find_no hR.l1 hR.l8 hn⟩
    have hlk : (keys t).length ≤ 1000 := by
      unfold keys
      rw [List.length_map]
      exact Nat.le_trans (List.length_filter_le ..) (by omega)
    have e1 := its10 t (by omega)
    have e2 := rgetR hR k
    have e3 := rputR hR k v hp
    have e4 := rdropR hR k
    have e5 := rfindR hR k
    have e6 := its10 r.1 (by omega)
    have e7 := its10 q.1 (by omega)
    have e8 := keys_eq (t := t) (by omega)
    have e9 := rkeys_eq (t := t) (by omega)
    have s1 := same_refl (l := r.1.map pl) (by simp; omega)
    have s2 := same_refl (l := q.1.map pl) (by simp; omega)
    have s3 := ints_refl' (l := keys t) (by omega)
    rw [hg] at e2
    rw [hq, Option.map_some] at e4
    rw [hf] at e5
    have c1 : (((f == f) && (g.1 == g.1)) && (g.2 == g.2)) = true := by simp
    have c2 : (r.2 == r.2) = true := by simp
    have c3 : (q.2.1 == q.2.1) = true := by simp
    have c4 : (q.2.2 == q.2.2) = true := by simp
    rw [show onlyIf ((!true) == false) false (some true) = some true from rfl, Option.bind_some, if_neg (by decide), e1, Option.bind_some, hg, Option.bind_some, e2, Option.bind_some, hr, Option.bind_some, e3, Option.bind_some, hq, Option.bind_some, e4, Option.bind_some, hf, Option.bind_some, e5, Option.bind_some]
    rw [c1, show (true == true) = true from rfl, onlyT, e6, Option.bind_some, onlyT, s1, Option.bind_some, c2]
    rw [show ((true && true && true) == true) = true from rfl, onlyT, e7, Option.bind_some, onlyT, s2, Option.bind_some, c3, c4]
    rw [show ((true && true && true && true && true && true) == true) = true from rfl, onlyT, e8, Option.bind_some, onlyT, e9, Option.bind_some, onlyT, s3, Option.bind_some]
    rfl

theorem hashOthers (t : Tb) (k v o : Int) : w10_HashOthers t k v o = some true := by
  unfold w10_HashOthers
  obtain ⟨b, hb, hbR⟩ := right10 t
  rw [hb, Option.bind_some, shown10]
  by_cases c : b = true ∧ k ≠ o
  · obtain ⟨rfl, hne⟩ := c
    have hR := hbR.1 rfl
    obtain ⟨r, hr, hp⟩ := put_eq hR k v
    have hRr := putR_right hR hp
    have hhas : ∀ x, Has r.1 o x ↔ Has t o x := fun x => by
      by_cases h0 : r.2 = 0
      · rw [put_has hR hp h0]
        constructor
        · rintro (⟨e, _⟩ | ⟨_, e⟩)
          · exact absurd e.symm hne
          · exact e
        · exact fun e => .inr ⟨fun q => hne q.symm, e⟩
      · cases hp <;> first | exact absurd rfl h0 | exact Iff.rfl
    obtain ⟨q, hq, hRq, hhq⟩ : ∃ q, hash_Drop t k = some q ∧ HR q.1 ∧ ∀ x, Has q.1 o x ↔ Has t o x := by
      rcases fk_or t k with ⟨i, hi⟩ | hn
      · exact ⟨_, drop_of hR hi, dropR_right hR hi.1, fun x => by
          rw [drop_has hR hi]
          exact ⟨fun h => h.2, fun h => ⟨fun q => hne q.symm, h⟩⟩⟩
      · exact ⟨_, drop_no hR hn, hR, fun x => Iff.rfl⟩
    have hk : ((!true) || (k == o)) = false := by simpa using hne
    rw [hk]
    rw [show onlyIf (false == false) false (some true) = some true from rfl, Option.bind_some, if_neg (by decide), hr, hq]
    simp only [Option.bind_some]
    rcases has_or t o with ⟨x, hx⟩ | hn
    · rw [get_has hR hx, get_has hRr ((hhas x).2 hx), get_has hRq ((hhq x).2 hx)]
      simp
    · rw [get_hasno hR hn, get_hasno hRr (fun x hx => hn x ((hhas x).1 hx)), get_hasno hRq (fun x hx => hn x ((hhq x).1 hx))]
      simp
  · have : ((!b) || (k == o)) = true := by
      cases b with
      | false => rfl
      | true => simp at c ⊢; exact c
    rw [this]
    simp [onlyIf]

theorem hashHomes {n k : Int} (t : Tb) : w10_HashHomes n k t = some true := by
  unfold w10_HashHomes
  rw [shown10]
  by_cases h : (t.length : Int) > 20
  · simp [h, onlyIf]
  · have hd : decide ((t.length : Int) > 20) = false := by simpa using h
    rw [hd, rhome_eq]
    have hh : ∃ x, hash_Home n k = some x := by
      unfold hash_Home
      split
      · exact ⟨_, rfl⟩
      · rename_i q
        have q : ¬ n < 1 := by simpa using q
        unfold rem
        rw [if_neg (by omega), Option.bind_some]
        split <;> exact ⟨_, rfl⟩
    obtain ⟨x, hx⟩ := hh
    have hnew : ∃ l, hash_New n = some l ∧ l.length ≤ 8 ∧ r10_New n = some (l.map pl) := by
      unfold hash_New r10_New
      split
      · exact ⟨_, rfl, by simp, rfl⟩
      · rename_i q
        have q : 1 ≤ n ∧ n ≤ 8 := by simp at q; omega
        obtain ⟨m, rfl⟩ := Int.eq_ofNat_of_zero_le (a := n) (by omega)
        have e1 : mk 24 (m : Int) (⟨0, 0, 0⟩ : hash_Place) = some (List.replicate m ⟨0, 0, 0⟩) := mk_ok (by omega) (by omega)
        have e2 : mk 24 (m : Int) (⟨0, 0, 0⟩ : r10_Place) = some (List.replicate m ⟨0, 0, 0⟩) := mk_ok (by omega) (by omega)
        simp only [Int.ofNat_eq_natCast, e1, e2, Option.bind_some]
        exact ⟨_, rfl, by simp; omega, by simp [pl]⟩
    obtain ⟨l, hl, hl8, hrl⟩ := hnew
    obtain ⟨b, hb, hbR⟩ := hright_eq t (by omega)
    obtain ⟨b', hb', hbR'⟩ := rright_eq t (by omega)
    have hbb : b = b' := by
      cases b <;> cases b' <;> simp_all
    rw [show onlyIf (false == false) false (some true) = some true from rfl, Option.bind_some, if_neg (by decide), hx, Option.bind_some, Option.bind_some, hl, hrl, its10 t (by omega), hb]
    simp only [beq_self_eq_true, onlyIf, if_true, Option.bind_some, its10 l (by omega), same_refl (l := l.map pl) (by simp; omega), Bool.and_self, hb', hbb]

theorem hashStays (t : Tb) (l : List Int) : w10_HashStays t l = some true := by
  unfold w10_HashStays
  obtain ⟨b, hb, hbR⟩ := right10 t
  rw [hb, Option.bind_some, shown10]
  by_cases c : b = true ∧ ¬ (l.length : Int) > 60
  · obtain ⟨rfl, hlen⟩ := c
    have hR := hbR.1 rfl
    have hd : ((!true) || decide ((l.length : Int) > 60)) = false := by simpa using hlen
    rw [hd, show onlyIf (false == false) false (some true) = some true from rfl, Option.bind_some, if_neg (by decide)]
    simp only [jn]
    obtain ⟨e, he, hQ⟩ := lp_ind (f := fun ((s27, s28) : (List hash_Place) × Int) =>
      if (decide ((w64 (s28 + 1)) < (l.length : Int))) then
          (ix l s28).bind fun v40 =>
          (rem v40 3).bind fun v41 =>
          if (v41 == 0) then
            (ix l (w64 (s28 + 1))).bind fun v42 =>
            (hash_Drop s27 v42).bind fun v43 =>
            (w10_right v43.1).bind fun v39 =>
            if (!v39) then
              some (Sum.inr (Sum.inl (β := Unit) false))
            else
            some (.inl (v43.1, w64 (s28 + 2)))
          else
          (ix l (w64 (s28 + 1))).bind fun v44 =>
          (hash_Put s27 v44 v40).bind fun v45 =>
          (w10_right v45.1).bind fun v39 =>
          if (!v39) then
            some (.inr (.inl false))
          else
          some (.inl (v45.1, w64 (s28 + 2)))
      else
      some (.inr (.inr ()))) (s0 := (t, 0)) (fun s => HR s.1 ∧ ∃ k : Nat, s.2 = (k : Int) ∧ k ≤ l.length + 1) (fun e => e = .inr ()) (fun s => l.length + 1 - s.2.toNat) ⟨hR, 0, rfl, by omega⟩ (by simp; omega) (by
        rintro ⟨u, _⟩ ⟨hRu, k, rfl, hk⟩
        dsimp only
        have hRu : HR u := hRu
        have hk : k ≤ l.length + 1 := hk
        rw [w64_nat (by omega), w64_in (n := (k : Int) + 2) (by omega) (by omega)]
        by_cases hlt : k + 1 < l.length
        · left
          have good : ∀ u' : Tb, HR u' → ((w10_right u').bind fun v39 => if (!v39) then some (Sum.inr (Sum.inl (β := Unit) false)) else some (.inl (u', (k : Int) + 2))) = some (.inl (u', (k : Int) + 2)) := fun u' h' => by
            obtain ⟨b, hb, hbR⟩ := right10 u'
            rw [hb, Option.bind_some, hbR.2 h', if_neg (by decide)]
          rw [if_pos (by simp; omega), ix_at (by omega : k < l.length), Option.bind_some, ix_at hlt]
          unfold rem
          rw [if_neg (by decide), Option.bind_some]
          simp only [Option.bind_some]
          split
          · rcases fk_or u l[k + 1] with ⟨i, hi⟩ | hn
            · rw [drop_of hRu hi, Option.bind_some, good _ (dropR_right hRu hi.1)]
              exact ⟨_, rfl, ⟨dropR_right hRu hi.1, k + 2, by simp, by omega⟩, by simp; omega⟩
            · rw [drop_no hRu hn, Option.bind_some, good _ hRu]
              exact ⟨_, rfl, ⟨hRu, k + 2, by simp, by omega⟩, by simp; omega⟩
          · obtain ⟨r, hr, hp⟩ := put_eq hRu l[k + 1] l[k]
            rw [hr, Option.bind_some, good _ (putR_right hRu hp)]
            exact ⟨(r.1, (k : Int) + 2), rfl, ⟨putR_right (r := r) hRu hp, k + 2, by simp, by omega⟩, by simp; omega⟩
        · right
          exact ⟨.inr (), by rw [if_neg (by simp; omega)], rfl⟩)
    rw [he, hQ]
    rfl
  · have : ((!b) || decide ((l.length : Int) > 60)) = true := by
      cases b with
      | false => rfl
      | true => simp at c ⊢; omega
    rw [this]
    simp [onlyIf]
end Go.Sh
