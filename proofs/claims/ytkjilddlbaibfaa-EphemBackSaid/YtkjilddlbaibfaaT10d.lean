/-
  Tables: the laws that hold one against a map.
-/
import Derived.Test.YtkjilddlbaibfaaT10k
namespace Go.Sh
set_option linter.unusedVariables false
set_option linter.unusedSimpArgs false

theorem keys_len (t : Tb) : (keys t).length = t.countP (·.State == 1) := by
  unfold keys
  rw [List.length_map, List.countP_eq_length_filter]
theorem keys_set {t : Tb} {i : Nat} (h : i < t.length) (p : hash_Place) : (keys (t.set i p)).length + (if (pt t i).State = 1 then 1 else 0) = (keys t).length + if p.State = 1 then 1 else 0 := by
  rw [keys_len, keys_len, List.countP_set h, pt_lt h]
  simp only [beq_iff_eq]
  have : (if t[i].State = 1 then 1 else 0) ≤ t.countP fun c => c.State == 1 := by
    split
    · rename_i e
      exact List.countP_pos_iff.2 ⟨t[i], List.getElem_mem h, by simpa using e⟩
    · exact Nat.zero_le _
  omega
theorem keys_full {t : Tb} (h : ∀ i, i < t.length → (pt t i).State = 1) : (keys t).length = t.length := by
  rw [keys_len, List.countP_eq_length]
  intro a ha
  obtain ⟨i, hi, rfl⟩ := List.getElem_of_mem ha
  have := h i hi
  rw [pt_lt hi] at this
  simpa using this
theorem keys_lt {t : Tb} {i : Nat} (hi : i < t.length) (h : (pt t i).State ≠ 1) : (keys t).length < t.length := by
  have h1 : (keys t).length ≤ t.length := by rw [keys_len]; exact List.countP_le_length
  rcases Nat.lt_or_ge (keys t).length t.length with q | q
  · exact q
  · exfalso
    have e : (keys t).length = t.length := by omega
    rw [keys_len, List.countP_eq_length] at e
    have := e t[i] (List.getElem_mem hi)
    rw [pt_lt hi] at h
    exact h (by simpa using this)

/-- A table stands for a map. -/
structure TM {V : Type} (φ : V → Int → Prop) (t : Tb) (m : List (Int × V)) : Prop where
  R : HR t
  nd : (m.map (·.1)).Nodup
  len : (keys t).length = m.length
  has : ∀ k, (∀ v, Has t k v → ∃ u, mget m k = some u ∧ φ u v) ∧ ((mget m k).isSome = true → ∃ v, Has t k v)

theorem TM.some {V : Type} {φ : V → Int → Prop} {t : Tb} {m : List (Int × V)} (h : TM φ t m) (k : Int) : (∃ v u, Has t k v ∧ mget m k = some u ∧ φ u v) ∨ (mget m k = none ∧ ∀ v, ¬ Has t k v) := by
  rcases has_or t k with ⟨v, hv⟩ | hn
  · obtain ⟨u, h1, h2⟩ := (h.has k).1 v hv
    exact .inl ⟨v, u, hv, h1, h2⟩
  · refine .inr ⟨?_, hn⟩
    cases hq : mget m k with
    | none => rfl
    | some u =>
      obtain ⟨v, hv⟩ := (h.has k).2 (by rw [hq]; rfl)
      exact absurd hv (hn v)

theorem TM.put {V : Type} {φ : V → Int → Prop} {t : Tb} {m : List (Int × V)} (h : TM φ t m) (k v : Int) (u : V) (hφ : φ u v) : ∃ r, hash_Put t k v = .some r ∧ r.1.length = t.length ∧ ((r.2 = 0 ∧ TM φ r.1 (mput m k u) ∧ ((mget m k).isSome = true ∨ m.length < t.length)) ∨ (r = (t, 8) ∧ (mget m k) = none ∧ m.length = t.length)) := by
  obtain ⟨r, hr, hp⟩ := put_eq h.R k v
  refine ⟨r, hr, putR_len hp, ?_⟩
  have hRr := putR_right h.R hp
  by_cases h0 : r.2 = 0
  · left
    have hh := put_has h.R hp h0
    have hmem : ∀ k', (∀ w, Has r.1 k' w → ∃ x, mget (mput m k u) k' = .some x ∧ φ x w) ∧ ((mget (mput m k u) k').isSome = true → ∃ w, Has r.1 k' w) := fun k' => by
      rw [mget_mput]
      by_cases e : k' = k
      · subst e
        rw [if_pos rfl]
        refine ⟨fun w hw => ?_, fun _ => ⟨v, (hh _ _).2 (.inl ⟨rfl, rfl⟩)⟩⟩
        rcases (hh _ _).1 hw with ⟨_, rfl⟩ | ⟨q, _⟩
        · exact ⟨u, rfl, hφ⟩
        · exact absurd rfl q
      · rw [if_neg e]
        refine ⟨fun w hw => ?_, fun q => ?_⟩
        · rcases (hh _ _).1 hw with ⟨q, _⟩ | ⟨_, q⟩
          · exact absurd q e
          · exact (h.has k').1 w q
        · obtain ⟨w, hw⟩ := (h.has k').2 q
          exact ⟨w, (hh _ _).2 (.inr ⟨e, hw⟩)⟩
    have hlen : (keys r.1).length = (mput m k u).length ∧ ((mget m k).isSome = true ∨ m.length < t.length) := by
      rw [mput_len]
      cases hp with
      | old i hi =>
        have h1 : (mget m k).isSome = true := by
          obtain ⟨x, h1, _⟩ := (h.has k).1 _ ⟨i, hi, rfl⟩
          rw [h1]; rfl
        have := keys_set hi.1 ⟨1, k, v⟩
        rw [if_pos hi.2.1, if_pos rfl, h.len] at this
        rw [if_pos h1]
        exact ⟨by simp only; omega, .inl h1⟩
      | new d hn hd hb hf =>
        have h1 : (mget m k) = none := by
          rcases h.some k with ⟨w, x, hw, _⟩ | ⟨q, _⟩
          · obtain ⟨i, hi, _⟩ := hw
            exact absurd hi (hn i)
          · exact q
        have hlt := pos_lt h.R.l1 k d
        have := keys_set hlt ⟨1, k, v⟩
        rw [if_neg hf, if_pos rfl, h.len] at this
        rw [h1]
        have h2 := keys_lt hlt hf
        rw [h.len] at h2
        exact ⟨by simpa using this, .inr h2⟩
      | full hn ha => cases h0
    exact ⟨h0, ⟨hRr, mput_nodup h.nd k u, hlen.1, hmem⟩, hlen.2⟩
  · right
    cases hp with
    | old i hi => exact absurd rfl h0
    | new d hn hd hb hf => exact absurd rfl h0
    | full hn ha =>
      refine ⟨rfl, ?_, ?_⟩
      · rcases h.some k with ⟨w, x, hw, _⟩ | ⟨q, _⟩
        · obtain ⟨i, hi, _⟩ := hw
          exact absurd hi (hn i)
        · exact q
      · rw [← h.len, keys_full ha]

theorem TM.drop {V : Type} {φ : V → Int → Prop} {t : Tb} {m : List (Int × V)} (h : TM φ t m) (k : Int) : (∃ r v u, hash_Drop t k = .some (r, v, 0) ∧ r.length = t.length ∧ mget m k = .some u ∧ φ u v ∧ TM φ r (mdel m k)) ∨ (hash_Drop t k = .some (t, 0, 9) ∧ mget m k = none ∧ mdel m k = m) := by
  rcases fk_or t k with ⟨i, hi⟩ | hn
  · left
    obtain ⟨u, h1, h2⟩ := (h.has k).1 _ ⟨i, hi, rfl⟩
    refine ⟨_, _, u, drop_of h.R hi, by simp, h1, h2, dropR_right h.R hi.1, (mdel_sub m k).nodup h.nd, ?_, fun k' => ?_⟩
    · have := keys_set hi.1 ⟨2, 0, 0⟩
      rw [if_pos hi.2.1, if_neg (by decide), h.len] at this
      rw [mdel_len, h1]
      simp only [Option.isSome_some, if_true]
      omega
    · have hh := drop_has h.R hi
      rw [mget_mdel h.nd]
      by_cases e : k' = k
      · subst e
        rw [if_pos rfl]
        exact ⟨fun w hw => absurd rfl ((hh _ _).1 hw).1, fun q => by cases q⟩
      · rw [if_neg e]
        refine ⟨fun w hw => (h.has k').1 w ((hh _ _).1 hw).2, fun q => ?_⟩
        obtain ⟨w, hw⟩ := (h.has k').2 q
        exact ⟨w, (hh _ _).2 ⟨e, hw⟩⟩
  · right
    have h1 : mget m k = none := by
      rcases h.some k with ⟨w, x, hw, _⟩ | ⟨q, _⟩
      · obtain ⟨i, hi, _⟩ := hw
        exact absurd hi (hn i)
      · exact q
    refine ⟨drop_no h.R hn, h1, ?_⟩
    have : ∀ (l : List (Int × V)), mget l k = none → mdel l k = l := by
      intro l
      induction l with
      | nil => intro _; rfl
      | cons p l ih =>
        intro q
        unfold mget at q
        unfold mdel
        by_cases e : k = p.1
        · rw [if_pos (by simpa using e)] at q; cases q
        · rw [if_neg (by simpa using e)] at q
          rw [if_neg (by simpa using e), ih q]
    exact this m h1

theorem new_eq {n : Nat} (h1 : 1 ≤ n) (h8 : n ≤ 8) : hash_New (n : Int) = some (List.replicate n ⟨0, 0, 0⟩) := by
  unfold hash_New
  rw [if_neg (by simp; omega), mk_ok (by omega) (by omega)]
  rfl
theorem pt_rep {n j : Nat} : pt (List.replicate n ⟨0, 0, 0⟩) j = ⟨0, 0, 0⟩ := by
  unfold pt
  rw [List.getD_eq_getElem?_getD, List.getElem?_replicate]
  split <;> rfl
theorem tm_new {V : Type} (φ : V → Int → Prop) {n : Nat} (h1 : 1 ≤ n) (h8 : n ≤ 8) : TM φ (List.replicate n ⟨0, 0, 0⟩) [] := by
  refine ⟨⟨by simpa using h1, by simpa using h8, fun i hi => ?_, fun i j hi hj s => ?_, fun i hi s => ?_⟩, by simp, ?_, fun k => ⟨fun v hv => ?_, fun q => by cases q⟩⟩
  · rw [pt_rep]; exact ⟨.inl rfl, fun _ => ⟨rfl, rfl⟩⟩
  · rw [pt_rep] at s; cases s
  · rw [pt_rep] at s; cases s
  · rw [keys_len, List.countP_replicate]; rfl
  · obtain ⟨i, hi, _⟩ := hv
    have := hi.2.1
    rw [pt_rep] at this
    cases this

end Go.Sh
