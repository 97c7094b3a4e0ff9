/-
  Tables: the laws that hold one against a map.
-/
import Derived.Test.YtpeoafbdnlellaaT10c
namespace Go.Sh
set_option linter.unusedVariables false
set_option linter.unusedSimpArgs false

theorem keys_len (t : Tb) : (keys t).length = t.countP (·.State == 1) := by
  unfold keys
  rw [List.length_map, List.countP_eq_length_filter]
theorem keys_set {t : Tb} {i : Nat} (h : i < t.length) (p : hash_Place) : (keys (t.set i p)).length + (if (pt t i).State = 1 then 1 else 0) = (keys t).length + if p.State = 1 then 1 else 0 := by
  rw [keys_len, keys_len, List.countP_set h, pt_lt h]
  simp only [beq_iff_eq]
  have : (if t[i].State = 1 then 1 else 0) ≤ t.countP fun c => c.State == 1 := by
    split
    · rename_i e
      exact List.countP_pos_iff.2 ⟨t[i], List.getElem_mem h, by simpa using e⟩
    · exact Nat.zero_le _
  omega
theorem keys_full {t : Tb} (h : ∀ i, i < t.length → (pt t i).State = 1) : (keys t).length = t.length := by
  rw [keys_len, List.countP_eq_length]
  intro a ha
  obtain ⟨i, hi, rfl⟩ := List.getElem_of_mem ha
  have := h i hi
  rw [pt_lt hi] at this
  simpa using this
theorem keys_lt {t : Tb} {i : Nat} (hi : i < t.length) (h : (pt t i).State ≠ 1) : (keys t).length < t.length := by
  have h1 : (keys t).length ≤ t.length := by rw [keys_len]; exact List.countP_le_length
  rcases Nat.lt_or_ge (keys t).length t.length with q | q
  · exact q
  · exfalso
    have e : (keys t).length = t.length := by omega
    rw [keys_len, List.countP_eq_length] at e
    have := e t[i] (List.getElem_mem hi)
    rw [pt_lt hi] at h
    exact h (by simpa using this)

/-- A table stands for a map. -/
structure TM {V : Type} (φ : V → Int → Prop) (t : Tb) (m : List (Int × V)) : Prop where
  R : HR t
  nd : (m.map (·.1)).Nodup
  len : (keys t).length = m.length
  has : ∀ k, (∀ v, Has t k v → ∃ u, mget m k = some u ∧ φ u v) ∧ ((mget m k).isSome = true → ∃ v, Has t k v)

theorem TM.some {V : Type} {φ : V → Int → Prop} {t : Tb} {m : List (Int × V)} (h : TM φ t m) (k : Int) : (∃ v u, Has t k v ∧ mget m k = some u ∧ φ u v) ∨ (mget m k = none ∧ ∀ v, ¬ Has t k v) := by
  rcases has_or t k with ⟨v, hv⟩ | hn
  · obtain ⟨u, h1, h2⟩ := (h.has k).1 v hv
    exact .inl ⟨v, u, hv, h1, h2⟩
  · refine .inr ⟨?_, hn⟩
    cases hq : mget m k with
    | none => rfl
    | some u =>
      obtain ⟨v, hv⟩ := (h.has k).2 (by rw [hq]; rfl)
      exact absurd hv (hn v)

theorem TM.put {V : Type} {φ : V → Int → Prop} {t : Tb} {m : List (Int × V)} (h : TM φ t m) (k v : Int) (u : V) (hφ : φ u v) : ∃ r, hash_Put t k v = .some r ∧ r.1.length = t.length ∧ ((r.2 = 0 ∧ TM φ r.1 (mput m k u) ∧ ((mget m k).isSome = true ∨ m.length < t.length)) ∨ (r = (t, 8) ∧ (mget m k) = none ∧ m.length = t.length)) := by
  obtain ⟨r, hr, hp⟩ := put_eq h.R k v
  refine ⟨r, hr, putR_len hp, ?_⟩
  have hRr := putR_right h.R hp
  by_cases h0 : r.2 = 0
  · left
    have hh := put_has h.R hp h0
    have hmem : ∀ k', (∀ w, Has r.1 k' w → ∃ x, mget (mput m k u) k' = .some x ∧ φ x w) ∧ ((mget (mput m k u) k').isSome = true → ∃ w, Has r.1 k' w) := fun k' => by
      rw [mget_mput]
      by_cases e : k' = k
      · subst e
        rw [if_pos rfl]
        refine ⟨fun w hw => ?_, fun _ => ⟨v, (hh _ _).2 (.inl ⟨rfl, rfl⟩)⟩⟩
        rcases (hh _ _).1 hw with ⟨_, rfl⟩ | ⟨q, _⟩
        · exact ⟨u, rfl, hφ⟩
        · exact absurd rfl q
      · rw [if_neg e]
        refine ⟨fun w hw => ?_, fun q => ?_⟩
        · rcases (hh _ _).1 hw with ⟨q, _⟩ | ⟨_, q⟩
          · exact absurd q e
          · exact (h.has k').1 w q
        · obtain ⟨w, hw⟩ := (h.has k').2 q
          exact ⟨w, (hh _ _).2 (.inr ⟨e, hw⟩)⟩
    have hlen : (keys r.1).length = (mput m k u).length ∧ ((mget m k).isSome = true ∨ m.length < t.length) := by
      rw [mput_len]
      cases hp with
      | old i hi =>
        have h1 : (mget m k).isSome = true := by
          obtain ⟨x, h1, _⟩ := (h.has k).1 _ ⟨i, hi, rfl⟩
          rw [h1]; rfl
        have := keys_set hi.1 ⟨1, k, v⟩
        rw [if_pos hi.2.1, if_pos rfl, h.len] at this
        rw [if_pos h1]
        exact ⟨by simp only; omega, .inl h1⟩
      | new d hn hd hb hf =>
        have h1 : (mget m k) = none := by
          rcases h.some k with ⟨w, x, hw, _⟩ | ⟨q, _⟩
          · obtain ⟨i, hi, _⟩ := hw
            exact absurd hi (hn i)
          · exact q
        have hlt := pos_lt h.R.l1 k d
        have := keys_set hlt ⟨1, k, v⟩
        rw [if_neg hf, if_pos rfl, h.len] at this
        rw [h1]
        have h2 := keys_lt hlt hf
        rw [h.len] at h2
        exact ⟨by simpa using this, .inr h2⟩
      | full hn ha => cases h0
    exact ⟨h0, ⟨hRr, mput_nodup h.nd k u, hlen.1, hmem⟩, hlen.2⟩
  · right
    cases hp with
    | old i hi => exact absurd rfl h0
    | new d hn hd hb hf => exact absurd rfl h0
    | full hn ha =>
      refine ⟨rfl, ?_, ?_⟩
      · rcases h.some k with ⟨w, x, hw, _⟩ | ⟨q, _⟩
        · obtain ⟨i, hi, _⟩ := hw
          exact absurd hi (hn i)
        · exact q
      · rw [← h.len, keys_full ha]

theorem TM.drop {V : Type} {φ : V → Int → Prop} {t : Tb} {m : List (Int × V)} (h : TM φ t m) (k : Int) : (∃ r v u, hash_Drop t k = .some (r, v, 0) ∧ r.length = t.length ∧ mget m k = .some u ∧ φ u v ∧ TM φ r (mdel m k)) ∨ (hash_Drop t k = .some (t, 0, 9) ∧ mget m k = none ∧ mdel m k = m) := by
  rcases fk_or t k with ⟨i, hi⟩ | hn
  · left
    obtain ⟨u, h1, h2⟩ := (h.has k).1 _ ⟨i, hi, rfl⟩
    refine ⟨_, _, u, drop_of h.R hi, by simp, h1, h2, dropR_right h.R hi.1, (mdel_sub m k).nodup h.nd, ?_, fun k' => ?_⟩
    · have := keys_set hi.1 ⟨2, 0, 0⟩
      rw [if_pos hi.2.1, if_neg (by decide), h.len] at this
      rw [mdel_len, h1]
      simp only [Option.isSome_some, if_true]
      omega
    · have hh := drop_has h.R hi
      rw [mget_mdel h.nd]
      by_cases e : k' = k
      · subst e
        rw [if_pos rfl]
        exact ⟨fun w hw => absurd rfl ((hh _ _).1 hw).1, fun q => by cases q⟩
      · rw [if_neg e]
        refine ⟨fun w hw => (h.has k').1 w ((hh _ _).1 hw).2, fun q => ?_⟩
        obtain ⟨w, hw⟩ := (h.has k').2 q
        exact ⟨w, (hh _ _).2 ⟨e, hw⟩⟩
  · right
    have h1 : mget m k = none := by
      rcases h.some k with ⟨w, x, hw, _⟩ | ⟨q, _⟩
      · obtain ⟨i, hi, _⟩ := hw
        exact absurd hi (hn i)
      · exact q
    refine ⟨drop_no h.R hn, h1, ?_⟩
    have : ∀ (l : List (Int × V)), mget l k = none → mdel l k = l := by
      intro l
      induction l with
      | nil => intro _; rfl
      | cons p l ih =>
        intro q
        unfold mget at q
        unfold mdel
        by_cases e : k = p.1
        · rw [if_pos (by simpa using e)] at q; cases q
        · rw [if_neg (by simpa using e)] at q
          rw [if_neg (by simpa using e), ih q]
    exact this m h1

theorem new_eq {n : Nat} (h1 : 1 ≤ n) (h8 : n ≤ 8) : hash_New (n : Int) = some (List.replicate n ⟨0, 0, 0⟩) := by
  unfold hash_New
  rw [if_neg (by simp; omega), mk_ok (by omega) (by omega)]
  rfl
theorem pt_rep {n j : Nat} : pt (List.replicate n ⟨0, 0, 0⟩) j = ⟨0, 0, 0⟩ := by
  unfold pt
  rw [List.getD_eq_getElem?_getD, List.getElem?_replicate]
  split <;> rfl
theorem tm_new {V : Type} (φ : V → Int → Prop) {n : Nat} (h1 : 1 ≤ n) (h8 : n ≤ 8) : TM φ (List.replicate n ⟨0, 0, 0⟩) [] := by
  refine ⟨⟨by simpa using h1, by simpa using h8, fun i hi => ?_, fun i j hi hj s => ?_, fun i hi s => ?_⟩, by simp, ?_, fun k => ⟨fun v hv => ?_, fun q => by cases q⟩⟩
  · rw [pt_rep]; exact ⟨.inl rfl, fun _ => ⟨rfl, rfl⟩⟩
  · rw [pt_rep] at s; cases s
  · rw [pt_rep] at s; cases s
  · rw [keys_len, List.countP_replicate]; rfl
  · obtain ⟨i, hi, _⟩ := hv
    have := hi.2.1
    rw [pt_rep] at this
    cases this

theorem hashMaps (l : List Int) : w10_HashMaps l = some true := by
  unfold w10_HashMaps
  rw [shown10]
  by_cases hb : (l.length : Int) > 60
  · rw [show decide ((l.length : Int) > 60) = true by simpa using hb]
    rfl
  · rw [show decide ((l.length : Int) > 60) = false by simpa using hb]
    rw [show onlyIf (false == false) false (some true) = some true from rfl, Option.bind_some, if_neg (by decide)]
    have e8 : hash_New 8 = some (List.replicate 8 ⟨0, 0, 0⟩) := new_eq (n := 8) (by omega) (by omega)
    rw [e8, Option.bind_some]
    simp only [jn]
    refine lpb_ind (fun s => TM (fun u v => u = v) s.1 s.2.2 ∧ s.1.length = 8 ∧ ∃ i : Nat, s.2.1 = (i : Int) ∧ i ≤ l.length + 1) (fun s => l.length + 1 - s.2.1.toNat) ⟨tm_new _ (by omega) (by omega), by simp, 0, rfl, by omega⟩ (by simp; omega) ?_
    rintro ⟨t, _, m⟩ ⟨hT, ht8, i, rfl, hi⟩
    have hT : TM (fun u v => u = v) t m := hT
    have ht8 : t.length = 8 := ht8
    dsimp only
    rw [w64_nat (by omega), w64_in (n := (i : Int) + 2) (by omega) (by omega)]
    by_cases hlt : i + 1 < l.length
    · left
      rw [if_pos (by simp; omega), ix_at hlt, Option.bind_some, ix_at (by omega : i < l.length), Option.bind_some]
      -- what is done behind each act
      have behind : ∀ (t' : Tb) (m' : List (Int × Int)), TM (fun u v => u = v) t' m' →
          ((lp (S := Int) (E := Bool ⊕ Unit) (fun (s150 : Int) =>
                if (decide (s150 ≤ (((i + 1 : Nat) : Int)))) then
                  (ix l s150).bind fun v152 =>
                  (hash_Get t' v152).bind fun v153 =>
                  if (((v153.2 == 0) != ((mget m' v152).isSome)) || ((mget m' v152).isSome && (v153.1 != ((mget m' v152).getD (0 : Int))))) then
                    some (.inr (.inl false))
                  else
                  some (.inl (w64 (s150 + 2)))
                else
                some (.inr (.inr ()))) 1).bind fun e149 =>
              match e149 with
              | .inl w => some (.inr (.inl w))
              | .inr w => (hash_Keys t').bind fun v148 =>
              if ((v148.length : Int) != (m'.length : Int)) then
                some (.inr (.inl false))
              else
              some (.inl (t', (i : Int) + 2, m'))) = some (Sum.inl (β := Bool ⊕ Unit) (t', (i : Int) + 2, m')) := by
        intro t' m' h'
        refine lpb_ind (fun s => ∃ j : Nat, s = (j : Int) ∧ j ≤ i + 3) (fun s => i + 4 - s.toNat) ⟨1, rfl, by omega⟩ (by simp; omega) ?_
        rintro _ ⟨j, rfl, hj⟩
        by_cases hji : j ≤ i + 1
        · left
          rw [if_pos (by simp; omega), ix_at (by omega : j < l.length), Option.bind_some, w64_in (n := (j : Int) + 2) (by omega) (by omega)]
          refine ⟨((j + 2 : Nat) : Int), ?_, ⟨j + 2, rfl, by omega⟩, by simp; omega⟩
          rcases h'.some l[j] with ⟨v, u, h1, h2, rfl⟩ | ⟨h1, h2⟩
          · rw [get_has h'.R h1, Option.bind_some, h2, if_neg (by simp)]
            simp
          · rw [get_hasno h'.R h2, Option.bind_some, h1, if_neg (by simp)]
            simp
        · right
          refine ⟨.inr (), by rw [if_neg (by simp; omega)], ?_⟩
          have h8' := h'.R.l8
          dsimp only
          rw [keys_eq (by omega), Option.bind_some, h'.len, if_neg (by simp)]
      have fin : ∀ (t' : Tb) (m' : List (Int × Int)), TM (fun u v => u = v) t' m' → t'.length = 8 → ∀ {x : Option (((List hash_Place) × Int × (List (Int × Int))) ⊕ (Bool ⊕ Unit))}, x = some (Sum.inl (t', (i : Int) + 2, m')) → ∃ s', x = some (.inl s') ∧ (TM (fun u v => u = v) s'.1 s'.2.2 ∧ s'.1.length = 8 ∧ ∃ j : Nat, s'.2.1 = (j : Int) ∧ j ≤ l.length + 1) ∧ l.length + 1 - s'.2.1.toNat < l.length + 1 - ((i : Int)).toNat := fun t' m' h' h8' x hx =>
        ⟨_, hx, ⟨h', h8', i + 2, rfl, by omega⟩, by simp; omega⟩
      unfold rem
      rw [if_neg (by decide), Option.bind_some]
      split
      · rcases hT.drop l[i + 1] with ⟨r, v, u, h1, h2, h3, rfl, h5⟩ | ⟨h1, h2, h3⟩
        · rw [h1, Option.bind_some, h3]
          dsimp only
          rw [if_pos (by simp), if_neg (by simp)]
          exact fin _ _ h5 (by omega) (behind _ _ h5)
        · rw [h1, Option.bind_some, h2]
          dsimp only
          rw [if_neg (by simp), if_neg (by simp), h3]
          exact fin _ _ hT ht8 (behind _ _ hT)
      · obtain ⟨r, h1, h2, h3⟩ := hT.put l[i + 1] l[i] l[i] rfl
        rw [h1, Option.bind_some]
        rcases h3 with ⟨h3, h4, h5⟩ | ⟨rfl, h4, h5⟩
        · rw [h3]
          split
          · rename_i q
            have q' : (mget m l[i + 1]).isSome = false := by simpa using q
            rw [if_neg (by
              rcases h5 with h5 | h5
              · rw [q'] at h5; cases h5
              · simp; omega), if_pos (by simp)]
            exact fin _ _ h4 (by omega) (behind _ _ h4)
          · rw [if_neg (by simp), if_pos (by simp)]
            exact fin _ _ h4 (by omega) (behind _ _ h4)
        · rw [if_pos (by rw [h4]; rfl), if_neg (by simp; omega), if_neg (by simp)]
          exact fin _ _ hT ht8 (behind _ _ hT)
    · right
      exact ⟨.inr (), by rw [if_neg (by simp; omega)], rfl⟩

theorem hashFull {n : Int} (h0 : 0 ≤ n) (h255 : n < 256) (l : List Int) (more : Int) : w10_HashFull n l more = some true := by
  unfold w10_HashFull
  rw [w64_in (n := n) (by omega) (by omega), rem_pos h0 (by omega), Option.bind_some, shown10]
  by_cases hb : (l.length : Int) > 60
  · rw [show decide ((l.length : Int) > 60) = true by simpa using hb]
    rfl
  · rw [show decide ((l.length : Int) > 60) = false by simpa using hb]
    rw [show onlyIf (false == false) false (some true) = some true from rfl, Option.bind_some, if_neg (by decide)]
    obtain ⟨k, hk⟩ : ∃ k : Nat, w64 (1 + n % 8) = (k : Int) := ⟨(1 + n % 8).toNat, by rw [w64_in (by omega) (by omega)]; omega⟩
    have hk1 : 1 ≤ k ∧ k ≤ 8 := by rw [w64_in (by omega) (by omega)] at hk; omega
    rw [hk, new_eq hk1.1 hk1.2, Option.bind_some]
    simp only [jn]
    refine lpb_ind (fun s => TM (fun u v => u = true) s.1 s.2.2 ∧ s.1.length = k ∧ ∃ i : Nat, s.2.1 = (i : Int) ∧ i ≤ l.length) (fun s => l.length + 1 - s.2.1.toNat) ⟨tm_new _ hk1.1 hk1.2, by simp, 0, rfl, by omega⟩ (by simp; omega) ?_
    rintro ⟨t, _, m⟩ ⟨hT, htk, i, rfl, hi⟩
    have hT : TM (fun u v => u = true) t m := hT
    have htk : t.length = k := htk
    dsimp only
    -- the end
    have fin : (if ((decide ((m.length : Int) < (k : Int))) == false) then
      if ((mget m more).getD (false : Bool)) then
        some true
      else
      (hash_Keys t).bind fun v17 =>
      if ((v17.length : Int) != (k : Int)) then
        some false
      else
      (hash_Put t more 1).bind fun v18 =>
      (ix v17 0).bind fun v19 =>
      (hash_Drop t v19).bind fun v20 =>
      (hash_Put v20.1 more 1).bind fun v21 =>
      (hash_Get v21.1 more).bind fun v22 =>
      (onlyIf ((((((v18.2 == 8) && (v20.2.2 == 0)) && (v21.2 == 0)) && (v22.1 == 1)) && (v22.2 == 0)) == true) [] (hash_Keys v21.1)).bind fun v23 =>
      some ((((((v18.2 == 8) && (v20.2.2 == 0)) && (v21.2 == 0)) && (v22.1 == 1)) && (v22.2 == 0)) && ((v23.length : Int) == (k : Int)))
    else
    some true) = some true := by
      by_cases hf : m.length < k
      · rw [if_neg (by simp; omega)]
      · rw [if_pos (by simp; omega)]
        have h8 := hT.R.l8
        have hml : m.length = k := by
          have h1 : (keys t).length ≤ t.length := by rw [keys_len]; exact List.countP_le_length
          have := hT.len
          omega
        have hkl : (keys t).length = k := by rw [hT.len, hml]
        by_cases hm : (mget m more).isSome = true
        · obtain ⟨v, hv⟩ := (hT.has more).2 hm
          obtain ⟨u, h1, h2⟩ := (hT.has more).1 v hv
          rw [if_pos (by rw [h1, h2]; rfl)]
        · have hm0 : mget m more = none := by
            cases hq : mget m more with
            | none => rfl
            | some _ => rw [hq] at hm; exact absurd rfl hm
          rw [if_neg (by rw [hm0]; decide), keys_eq (by omega), Option.bind_some, hkl, if_neg (by simp)]
          obtain ⟨r, h1, h2, h3⟩ := hT.put more 1 true rfl
          rcases h3 with ⟨_, _, q | q⟩ | ⟨rfl, _, _⟩
          · exact absurd q hm
          · omega
          · rw [h1, Option.bind_some]
            have e0 : ix (keys t) 0 = some (keys t)[0] := ix_at (xs := keys t) (i := 0) (by omega)
            rw [e0, Option.bind_some]
            have hmem : ∃ i, Fk t (keys t)[0] i := by
              have : (keys t)[0] ∈ keys t := List.getElem_mem _
              unfold keys at this
              obtain ⟨p, hp, he⟩ := List.mem_map.1 this
              obtain ⟨hp1, hp2⟩ := List.mem_filter.1 hp
              obtain ⟨i, hi, rfl⟩ := List.getElem_of_mem hp1
              exact ⟨i, hi, by rw [pt_lt hi]; simpa using hp2, by rw [pt_lt hi]; exact he⟩
            obtain ⟨i0, hi0⟩ := hmem
            rcases hT.drop (keys t)[0] with ⟨r, v, u, g1, g2, g3, g4, g5⟩ | ⟨g1, g2, _⟩
            · rw [g1, Option.bind_some]
              obtain ⟨r2, k1, k2, k3⟩ := g5.put more 1 true rfl
              have hne : more ≠ (keys t)[0] := fun e => by rw [← e, hm0] at g3; cases g3
              have hml2 : (mdel m (keys t)[0]).length = m.length - 1 := by rw [mdel_len, g3]; rfl
              rcases k3 with ⟨k3, k4, _⟩ | ⟨_, _, q⟩
              · rw [k1, Option.bind_some]
                have hg : Has r2.1 more 1 := by
                  obtain ⟨rr, q1, q2⟩ := put_eq g5.R more 1
                  rw [k1] at q1
                  cases q1
                  exact (put_has g5.R q2 k3 _ _).2 (.inl ⟨rfl, rfl⟩)
                have hr8 := k4.R.l8
                rw [get_has k4.R hg, Option.bind_some, k3]
                dsimp only
                rw [show (((((((8 : Int) == 8) && ((0 : Int) == 0)) && ((0 : Int) == 0)) && ((1 : Int) == 1)) && ((0 : Int) == 0)) == true) = true from rfl, onlyT, keys_eq (by omega), Option.bind_some, k4.len, mput_len]
                have : mget (mdel m (keys t)[0]) more = none := by rw [mget_mdel hT.nd, if_neg hne, hm0]
                rw [this]
                have e : (mdel m (keys t)[0]).length + 1 = k := by omega
                simp
                omega
              · omega
            · obtain ⟨u, q1, _⟩ := (hT.has (keys t)[0]).1 _ ⟨i0, hi0, rfl⟩
              rw [g2] at q1
              cases q1
    by_cases hlt : i < l.length
    · rw [if_pos (by simp; omega)]
      by_cases hf : m.length < k
      · left
        rw [if_pos (by simp; omega), ix_at hlt, Option.bind_some]
        obtain ⟨r, h1, h2, h3⟩ := hT.put l[i] i true rfl
        rw [h1, Option.bind_some]
        rcases h3 with ⟨h3, h4, _⟩ | ⟨_, _, q⟩
        · rw [h3, if_neg (by decide), w64_nat (by omega)]
          exact ⟨_, rfl, ⟨h4, by dsimp only; omega, i + 1, rfl, by omega⟩, by simp; omega⟩
        · omega
      · right
        rw [if_neg (by simp; omega)]
        exact ⟨_, rfl, fin⟩
    · right
      rw [if_neg (by simp; omega)]
      exact ⟨_, rfl, fin⟩
end Go.Sh
