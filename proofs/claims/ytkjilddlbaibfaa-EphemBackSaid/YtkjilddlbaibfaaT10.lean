/-
  Tables: what the plain functions come to.
-/
import Derived.Test.YtkjilddlbaibfaaH11Sh
import Derived.Test.YtkjilddlbaibfaaSh1
namespace Go.Sh
set_option linter.unusedVariables false
set_option linter.unusedSimpArgs false

abbrev Tb := List hash_Place
abbrev pl (p : hash_Place) : r10_Place := ⟨p.State, p.Key, p.Val⟩
/-- A place. -/
def pt (t : Tb) (j : Nat) : hash_Place := t.getD j ⟨0, 0, 0⟩
theorem pt_lt {t : Tb} {j : Nat} (h : j < t.length) : pt t j = t[j] := by unfold pt; rw [List.getD_eq_getElem?_getD, List.getElem?_eq_getElem h]; rfl
theorem ix_pt {t : Tb} {j : Nat} (h : j < t.length) : ix t (j : Int) = some (pt t j) := by rw [ix_at h, pt_lt h]
theorem pt_set {t : Tb} {i : Nat} (h : i < t.length) (p : hash_Place) (j : Nat) : pt (t.set i p) j = if j = i then p else pt t j := by
  unfold pt
  rw [List.getD_eq_getElem?_getD, List.getD_eq_getElem?_getD, List.getElem?_set]
  by_cases e : i = j
  · subst e; simp [h]
  · rw [if_neg e, if_neg (Ne.symm e)]

/-- The home of a key. -/
def hm (n : Nat) (k : Int) : Nat := (w64 ((w64 (5 * k)) + 1) % (n : Int)).toNat
theorem hm_lt {n : Nat} (h : 1 ≤ n) (k : Int) : hm n k < n := by
  unfold hm
  have h1 := Int.emod_nonneg (w64 ((w64 (5 * k)) + 1)) (show (n : Int) ≠ 0 by omega)
  have h2 := Int.emod_lt_of_pos (w64 ((w64 (5 * k)) + 1)) (show (0 : Int) < n by omega)
  omega
theorem home_eq {n : Nat} (h : 1 ≤ n) (h2 : n ≤ 1000) (k : Int) : hash_Home n k = some (hm n k : Int) := by
  unfold hash_Home hm
  rw [if_neg (by simp; omega)]
  generalize w64 ((w64 (5 * k)) + 1) = a
  have hp := Int.emod_nonneg a (show (n : Int) ≠ 0 by omega)
  have hl := Int.emod_lt_of_pos a (show (0 : Int) < n by omega)
  unfold rem
  rw [if_neg (by omega), Option.bind_some, Int.toNat_of_nonneg hp]
  rw [Int.tmod_eq_emod]
  split
  · rw [show a % (n : Int) - ((0 : Nat) : Int) = a % n by simp, if_neg (by simp; omega)]
  · have : ((n : Int).natAbs : Int) = n := by simp
    rw [this]
    rw [if_pos (by simp; omega), w64_in (by omega) (by omega)]
    congr 1
    omega

/-- The d-th place of the road of a key. -/
def pos (n : Nat) (k : Int) (d : Nat) : Nat := (hm n k + d) % n
theorem pos_lt {n : Nat} (h : 1 ≤ n) (k : Int) (d : Nat) : pos n k d < n := Nat.mod_lt _ h
theorem upto8 {n : Nat} (h : 1 ≤ n) (h8 : n ≤ 8) : n = 1 ∨ n = 2 ∨ n = 3 ∨ n = 4 ∨ n = 5 ∨ n = 6 ∨ n = 7 ∨ n = 8 := by omega
theorem mod_surj {n m i : Nat} (h : 1 ≤ n) (h8 : n ≤ 8) (hm : m < n) (hi : i < n) : ∃ d, d < n ∧ (m + d) % n = i := by
  refine ⟨(i + n - m) % n, Nat.mod_lt _ h, ?_⟩
  rcases upto8 h h8 with rfl | rfl | rfl | rfl | rfl | rfl | rfl | rfl <;> omega
theorem mod_inj {n m d d' : Nat} (h : 1 ≤ n) (h8 : n ≤ 8) (hd : d < n) (hd' : d' < n) (e : (m + d) % n = (m + d') % n) : d = d' := by
  rcases upto8 h h8 with rfl | rfl | rfl | rfl | rfl | rfl | rfl | rfl <;> omega
theorem pos_surj {n : Nat} (h : 1 ≤ n) (h8 : n ≤ 8) (k : Int) {i : Nat} (hi : i < n) : ∃ d, d < n ∧ pos n k d = i := mod_surj h h8 (hm_lt h k) hi
theorem pos_inj {n : Nat} (h : 1 ≤ n) (h8 : n ≤ 8) {k : Int} {d d' : Nat} (hd : d < n) (hd' : d' < n) (e : pos n k d = pos n k d') : d = d' := mod_inj h h8 hd hd' e

/-- Tables that are right. -/
structure HR (t : Tb) : Prop where
  l1 : 1 ≤ t.length
  l8 : t.length ≤ 8
  st : ∀ i, i < t.length → ((pt t i).State = 0 ∨ (pt t i).State = 1 ∨ (pt t i).State = 2) ∧ ((pt t i).State ≠ 1 → (pt t i).Key = 0 ∧ (pt t i).Val = 0)
  uq : ∀ i j, i < t.length → j < t.length → (pt t i).State = 1 → (pt t j).State = 1 → (pt t i).Key = (pt t j).Key → i = j
  rd : ∀ i, i < t.length → (pt t i).State = 1 → ∀ d, d < t.length → (∀ d', d' ≤ d → pos t.length (pt t i).Key d' ≠ i) → (pt t (pos t.length (pt t i).Key d)).State ≠ 0

def Fk (t : Tb) (k : Int) (i : Nat) : Prop := i < t.length ∧ (pt t i).State = 1 ∧ (pt t i).Key = k
instance (t : Tb) (k : Int) (i : Nat) : Decidable (Fk t k i) := by unfold Fk; infer_instance

theorem step_eq {n : Nat} (h : 1 ≤ n) (h2 : n ≤ 1000) (k : Int) {d : Nat} (hd : d < n) : rem (w64 ((hm n k : Int) + d)) n = some ((pos n k d : Nat) : Int) := by
  have := hm_lt h k
  rw [w64_in (by omega) (by omega), rem_pos (by omega) (by omega)]
  unfold pos
  simp [Int.natCast_emod]

/-- What a walk along the road comes to. -/
theorem find_walk {t : Tb} (h1 : 1 ≤ t.length) (h8 : t.length ≤ 8) (k : Int) :
    (∃ d, d < t.length ∧ (∀ j, j < d → (pt t (pos t.length k j)).State ≠ 0 ∧ ¬ Fk t k (pos t.length k j)) ∧ Fk t k (pos t.length k d) ∧ hash_Find t k = some ((pos t.length k d : Nat) : Int)) ∨
    (∃ d, d ≤ t.length ∧ (∀ j, j < d → (pt t (pos t.length k j)).State ≠ 0 ∧ ¬ Fk t k (pos t.length k j)) ∧ (d = t.length ∨ (pt t (pos t.length k d)).State = 0) ∧ hash_Find t k = some (-1)) := by
  unfold hash_Find
  simp only [jn, hash_road, Option.bind_some]
  generalize hq : (lp (S := Int) (E := Int ⊕ Unit) _ 0) = q
  have body : ∀ d : Nat, d < t.length → (if (decide ((d : Int) < (t.length : Int))) then
        (hash_Home (t.length : Int) k).bind fun v14 =>
        (rem (w64 (v14 + d)) (t.length : Int)).bind fun v15 =>
        (ix t v15).bind fun v16 =>
        if (v16.State == 0) then
          some (.inr (.inr ()))
        else
        if ((v16.State == 1) && (v16.Key == k)) then
          some (.inr (.inl v15))
        else
        some (.inl (w64 ((d : Int) + 1)))
      else
      some (.inr (.inr ())) : Option (Int ⊕ (Int ⊕ Unit))) = if (pt t (pos t.length k d)).State = 0 then some (.inr (.inr ())) else if Fk t k (pos t.length k d) then some (.inr (.inl ((pos t.length k d : Nat) : Int))) else some (.inl ((d + 1 : Nat) : Int)) := fun d hd => by
    have hp := pos_lt h1 k d
    rw [if_pos (by simpa using hd), home_eq h1 (by omega), Option.bind_some, step_eq h1 (by omega) k hd, Option.bind_some, ix_pt hp, Option.bind_some, w64_nat (by omega)]
    by_cases a : (pt t (pos t.length k d)).State = 0
    · rw [if_pos (by simpa using a), if_pos a]
    · rw [if_neg (by simpa using a), if_neg a]
      by_cases b : Fk t k (pos t.length k d)
      · rw [if_pos (by simp [b.2.1, b.2.2]), if_pos b]
      · rw [if_neg (by simp; exact fun h1 h2 => b ⟨hp, h1, h2⟩), if_neg b]
  have key := lp_up (f := fun (s12 : Int) => if (decide (s12 < (t.length : Int))) then
        (hash_Home (t.length : Int) k).bind fun v14 =>
        (rem (w64 (v14 + s12)) (t.length : Int)).bind fun v15 =>
        (ix t v15).bind fun v16 =>
        if (v16.State == 0) then
          some (.inr (.inr ()))
        else
        if ((v16.State == 1) && (v16.Key == k)) then
          some (.inr (.inl v15))
        else
        some (.inl (w64 (s12 + 1)))
      else
      some (.inr (.inr ()))) t.length (fun d => ∀ j, j < d → (pt t (pos t.length k j)).State ≠ 0 ∧ ¬ Fk t k (pos t.length k j))
      (fun (e : Int ⊕ Unit) => (∃ d, d < t.length ∧ (∀ j, j < d → (pt t (pos t.length k j)).State ≠ 0 ∧ ¬ Fk t k (pos t.length k j)) ∧ Fk t k (pos t.length k d) ∧ e = .inl ((pos t.length k d : Nat) : Int)) ∨
        (∃ d, d ≤ t.length ∧ (∀ j, j < d → (pt t (pos t.length k j)).State ≠ 0 ∧ ¬ Fk t k (pos t.length k j)) ∧ (d = t.length ∨ (pt t (pos t.length k d)).State = 0) ∧ e = .inr ())) (by omega) (fun j hj => by omega)
      (fun d hd hP => by
        rw [body d hd]
        by_cases a : (pt t (pos t.length k d)).State = 0
        · rw [if_pos a]
          exact .inr ⟨_, rfl, .inr ⟨d, by omega, hP, .inr a, rfl⟩⟩
        · rw [if_neg a]
          by_cases b : Fk t k (pos t.length k d)
          · rw [if_pos b]
            exact .inr ⟨_, rfl, .inl ⟨d, hd, hP, b, rfl⟩⟩
          · rw [if_neg b]
            refine .inl ⟨rfl, fun j hj => ?_⟩
            rcases Nat.lt_or_ge j d with q | q
            · exact hP j q
            · have : j = d := by omega
              subst this; exact ⟨a, b⟩)
      (fun hP => ⟨.inr (), by simp, .inr ⟨t.length, Nat.le_refl _, hP, .inl rfl, rfl⟩⟩)
  obtain ⟨e, he, hQ⟩ := key
  rw [he] at hq
  subst hq
  rcases hQ with ⟨d, a1, a2, a3, rfl⟩ | ⟨d, a1, a2, a3, rfl⟩
  · exact .inl ⟨d, a1, a2, a3, rfl⟩
  · exact .inr ⟨d, a1, a2, a3, rfl⟩

theorem find_of {t : Tb} (hR : HR t) {k : Int} {i : Nat} (hi : Fk t k i) : hash_Find t k = some (i : Int) := by
  obtain ⟨di, hdi, hpi⟩ := pos_surj hR.l1 hR.l8 k hi.1
  have road : ∀ d, d < di → (pt t (pos t.length k d)).State ≠ 0 := fun d hd => by
    have := hR.rd i hi.1 hi.2.1 d (by omega) (fun d' hd' e => by
      rw [hi.2.2] at e
      have := pos_inj hR.l1 hR.l8 (by omega) hdi (e.trans hpi.symm)
      omega)
    rwa [hi.2.2] at this
  rcases find_walk hR.l1 hR.l8 k with ⟨d, a1, a2, a3, a4⟩ | ⟨d, a1, a2, a3, a4⟩
  · rw [a4, hR.uq _ i (pos_lt hR.l1 k d) hi.1 a3.2.1 hi.2.1 (by rw [a3.2.2, hi.2.2])]
  · exfalso
    rcases Nat.lt_or_ge di d with q | q
    · exact (a2 di q).2 (by rw [hpi]; exact hi)
    · rcases a3 with rfl | a3
      · omega
      · rcases Nat.lt_or_ge d di with q' | q'
        · exact road d q' a3
        · have : d = di := by omega
          subst this
          rw [hpi, hi.2.1] at a3
          cases a3
theorem find_no {t : Tb} (h1 : 1 ≤ t.length) (h8 : t.length ≤ 8) {k : Int} (hi : ∀ i, ¬ Fk t k i) : hash_Find t k = some (-1) := by
  rcases find_walk h1 h8 k with ⟨d, a1, a2, a3, a4⟩ | ⟨d, a1, a2, a3, a4⟩
  · exact absurd a3 (hi _)
  · exact a4
theorem fk_or (t : Tb) (k : Int) : (∃ i, Fk t k i) ∨ ∀ i, ¬ Fk t k i := by
  by_cases h : ∃ i, Fk t k i
  · exact .inl h
  · exact .inr fun i hi => h ⟨i, hi⟩

theorem with_set {t : Tb} {i : Nat} (h8 : t.length ≤ 1000) (hi : i < t.length) (p : hash_Place) : hash_with t (i : Int) p = some (t.set i p) := by
  unfold hash_with slices_Clone_hash_Place_hash_Place
  rw [app_nil (by omega) (by omega), Option.bind_some, ix_at hi, Option.bind_some, Int.toNat_natCast]

/-- What is put. -/
inductive PutR (t : Tb) (k v : Int) : Tb × Int → Prop
  | old (i : Nat) (hi : Fk t k i) : PutR t k v (t.set i ⟨1, k, v⟩, 0)
  | new (d : Nat) (hn : ∀ i, ¬ Fk t k i) (hd : d < t.length) (hb : ∀ j, j < d → (pt t (pos t.length k j)).State = 1) (hf : (pt t (pos t.length k d)).State ≠ 1) : PutR t k v (t.set (pos t.length k d) ⟨1, k, v⟩, 0)
  | full (hn : ∀ i, ¬ Fk t k i) (ha : ∀ i, i < t.length → (pt t i).State = 1) : PutR t k v (t, 8)

theorem put_eq {t : Tb} (hR : HR t) (k v : Int) : ∃ r, hash_Put t k v = some r ∧ PutR t k v r := by
  have h1 := hR.l1
  have h8 := hR.l8
  unfold hash_Put
  rcases fk_or t k with ⟨i, hi⟩ | hn
  · rw [find_of hR hi, Option.bind_some, if_pos (by simp), with_set (by omega) hi.1]
    exact ⟨_, rfl, .old i hi⟩
  · rw [find_no h1 h8 hn, Option.bind_some, if_neg (by decide)]
    simp only [jn, hash_road, Option.bind_some]
    have key := lp_up (f := fun (s15 : Int) =>
      if (decide (s15 < (t.length : Int))) then
        (hash_Home (t.length : Int) k).bind fun v17 =>
        (rem (w64 (v17 + s15)) (t.length : Int)).bind fun v18 =>
        (ix t v18).bind fun v19 =>
        if (v19.State != 1) then
          (hash_with t v18 (⟨1, k, v⟩ : hash_Place)).bind fun v20 =>
          some (Sum.inr (.inl (v20, (0 : Int))))
        else
        some (.inl (w64 (s15 + 1)))
      else
      some (.inr (.inr ()))) t.length (fun d => ∀ j, j < d → (pt t (pos t.length k j)).State = 1)
      (fun (e : (Tb × Int) ⊕ Unit) => (∃ r, e = .inl r ∧ PutR t k v r) ∨ (e = .inr () ∧ PutR t k v (t, 8))) (by omega) (fun j hj => by omega)
      (fun d hd hP => by
        have hp := pos_lt h1 k d
        rw [if_pos (by simpa using hd), home_eq h1 (by omega), Option.bind_some, step_eq h1 (by omega) k hd, Option.bind_some, ix_pt hp, Option.bind_some]
        by_cases a : (pt t (pos t.length k d)).State = 1
        · rw [if_neg (by simpa using a), w64_nat (by omega)]
          refine .inl ⟨rfl, fun j hj => ?_⟩
          rcases Nat.lt_or_ge j d with q | q
          · exact hP j q
          · have : j = d := by omega
            subst this; exact a
        · rw [if_pos (by simpa using a), with_set (by omega) hp, Option.bind_some]
          exact .inr ⟨_, rfl, .inl ⟨_, rfl, .new d hn hd hP a⟩⟩)
      (fun hP => ⟨.inr (), by simp, .inr ⟨rfl, .full hn fun i hi => by
        obtain ⟨d, hd, rfl⟩ := pos_surj h1 h8 k hi
        exact hP d hd⟩⟩)
    obtain ⟨e, he, hQ⟩ := key
    rw [he, Option.bind_some]
    rcases hQ with ⟨r, rfl, hr⟩ | ⟨rfl, hr⟩
    · exact ⟨r, rfl, hr⟩
    · exact ⟨_, rfl, hr⟩

theorem get_of {t : Tb} (hR : HR t) {k : Int} {i : Nat} (hi : Fk t k i) : hash_Get t k = some ((pt t i).Val, 0) := by
  unfold hash_Get
  rw [find_of hR hi, Option.bind_some, if_neg (by simp), ix_pt hi.1, Option.bind_some]
theorem get_no {t : Tb} (hR : HR t) {k : Int} (hi : ∀ i, ¬ Fk t k i) : hash_Get t k = some (0, 9) := by
  unfold hash_Get
  rw [find_no hR.l1 hR.l8 hi, Option.bind_some, if_pos (by decide)]
theorem drop_of {t : Tb} (hR : HR t) {k : Int} {i : Nat} (hi : Fk t k i) : hash_Drop t k = some (t.set i ⟨2, 0, 0⟩, (pt t i).Val, 0) := by
  have := hR.l8
  unfold hash_Drop
  rw [find_of hR hi, Option.bind_some, if_neg (by simp), with_set (by omega) hi.1, Option.bind_some, ix_pt hi.1, Option.bind_some]
theorem drop_no {t : Tb} (hR : HR t) {k : Int} (hi : ∀ i, ¬ Fk t k i) : hash_Drop t k = some (t, 0, 9) := by
  unfold hash_Drop
  rw [find_no hR.l1 hR.l8 hi, Option.bind_some, if_pos (by decide)]

theorem HR.set {t : Tb} (hR : HR t) {i : Nat} (hi : i < t.length) {p : hash_Place} (h0 : p.State = 1 ∨ p = ⟨2, 0, 0⟩)
    (hu : p.State = 1 → ∀ j, j ≠ i → ¬ Fk t p.Key j) (hr : p.State = 1 → ∀ d, d < t.length → (∀ d', d' ≤ d → pos t.length p.Key d' ≠ i) → (pt t (pos t.length p.Key d)).State ≠ 0) : HR (t.set i p) := by
  have hnz : p.State ≠ 0 := by
    rcases h0 with h | rfl
    · omega
    · simp
  refine ⟨by simpa using hR.l1, by simpa using hR.l8, fun j hj => ?_, fun j j' hj hj' s1 s2 hk => ?_, fun j hj s1 d hd hne => ?_⟩ <;> simp only [List.length_set] at *
  · rw [pt_set hi]
    split
    · rcases h0 with h | rfl
      · exact ⟨.inr (.inl h), fun q => absurd h q⟩
      · exact ⟨.inr (.inr rfl), fun _ => ⟨rfl, rfl⟩⟩
    · exact hR.st j hj
  · rw [pt_set hi] at s1 s2 hk
    rw [pt_set hi] at hk
    by_cases e1 : j = i <;> by_cases e2 : j' = i
    · rw [e1, e2]
    · rw [if_pos e1] at s1 hk
      rw [if_neg e2] at s2 hk
      exact absurd ⟨hj', s2, hk.symm⟩ (hu s1 j' e2)
    · rw [if_neg e1] at s1 hk
      rw [if_pos e2] at s2 hk
      exact absurd ⟨hj, s1, hk⟩ (hu s2 j e1)
    · rw [if_neg e1] at s1 hk
      rw [if_neg e2] at s2 hk
      exact hR.uq j j' hj hj' s1 s2 hk
  · simp only [pt_set hi] at s1 hne ⊢
    by_cases e1 : j = i
    · simp only [if_pos e1] at s1 hne ⊢
      split
      · exact hnz
      · exact hr s1 d hd (by rw [← e1]; exact hne)
    · simp only [if_neg e1] at s1 hne ⊢
      split
      · exact hnz
      · exact hR.rd j hj s1 d hd hne

theorem putR_right {t : Tb} (hR : HR t) {k v : Int} {r : Tb × Int} (h : PutR t k v r) : HR r.1 := by
  cases h with
  | old i hi =>
    refine hR.set hi.1 (.inl rfl) (fun _ j hj q => hj (hR.uq j i q.1 hi.1 q.2.1 hi.2.1 (q.2.2.trans hi.2.2.symm))) fun _ d hd hne => ?_
    have := hR.rd i hi.1 hi.2.1 d hd (by rw [hi.2.2]; exact hne)
    rwa [hi.2.2] at this
  | new d hn hd hb hf =>
    refine hR.set (pos_lt hR.l1 k d) (.inl rfl) (fun _ j _ => hn j) fun _ d' hd' hne => ?_
    rcases Nat.lt_or_ge d' d with q | q
    · have := hb d' q
      simp only
      omega
    · exact absurd rfl (hne d q)
  | full hn ha => exact hR
theorem dropR_right {t : Tb} (hR : HR t) {i : Nat} (hi : i < t.length) : HR (t.set i ⟨2, 0, 0⟩) := hR.set hi (.inr rfl) (fun q => by cases q) fun q => by cases q
end Go.Sh
