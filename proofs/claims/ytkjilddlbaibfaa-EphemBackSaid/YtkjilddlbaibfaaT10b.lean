/-
  Tables: the document's own, and the laws that hold one against the other.
-/
import Derived.Test.YtkjilddlbaibfaaT10
namespace Go.Sh
set_option linter.unusedVariables false
set_option linter.unusedSimpArgs false

theorem ixm {t : Tb} {j : Nat} (h : j < t.length) : ix (t.map pl) (j : Int) = some (pl (pt t j)) := by rw [ix_map', ix_pt h]; rfl

theorem rfind_of {t : Tb} (h8 : t.length ≤ 1000) {k : Int} {i : Nat} (hi : Fk t k i) (hf : ∀ j, j < i → ¬ Fk t k j) : r10_Find (t.map pl) k = some (i : Int) := by
  unfold r10_Find
  simp only [jn]
  refine lpb_up t.length (fun j => j ≤ i) (by omega) (Nat.zero_le _) (fun j hj hP => ?_) (fun hP => by have := hi.1; omega)
  rw [if_pos (by simpa using hj), ixm hj, Option.bind_some]
  by_cases e : j = i
  · subst e
    exact .inr ⟨.inl (j : Int), by rw [if_pos (by simp [pl, hi.2.1, hi.2.2])], rfl⟩
  · have := hf j (by omega)
    refine .inl ⟨by rw [if_neg (by simp [pl]; exact fun h1 h2 => this ⟨hj, h1, h2⟩), w64_nat (by omega)], by omega⟩
theorem rfind_no {t : Tb} (h8 : t.length ≤ 1000) {k : Int} (hf : ∀ j, ¬ Fk t k j) : r10_Find (t.map pl) k = some (-1) := by
  unfold r10_Find
  simp only [jn]
  refine lpb_up t.length (fun j => True) (by omega) trivial (fun j hj hP => ?_) (fun hP => ⟨.inr (), by simp, rfl⟩)
  rw [if_pos (by simpa using hj), ixm hj, Option.bind_some]
  refine .inl ⟨by rw [if_neg (by simp [pl]; exact fun h1 h2 => hf j ⟨hj, h1, h2⟩), w64_nat (by omega)], trivial⟩
theorem first_fk {t : Tb} {k : Int} (h : ∃ i, Fk t k i) : ∃ i, Fk t k i ∧ ∀ j, j < i → ¬ Fk t k j := by
  obtain ⟨i, h1, h2⟩ := exists_min h
  exact ⟨i, h1, fun j hj q => by have := h2 j q; omega⟩

theorem rwith_set {t : Tb} {i : Nat} (h8 : t.length ≤ 1000) (hi : i < t.length) (p : hash_Place) : r10_with (t.map pl) (i : Int) (pl p) = some ((t.set i p).map pl) := by
  unfold r10_with
  rw [app_nil (by omega) (by simp; omega), Option.bind_some, ixm hi, Option.bind_some, Int.toNat_natCast, List.map_set]

theorem rhome_eq : r10_Home = hash_Home := rfl
theorem rnext {n : Nat} (h1 : 1 ≤ n) (h8 : n ≤ 8) (k : Int) (d : Nat) : rem (w64 (((pos n k d : Nat) : Int) + 1)) n = some ((pos n k (d + 1) : Nat) : Int) := by
  have := pos_lt h1 k d
  rw [w64_in (by omega) (by omega), rem_pos (by omega) (by omega)]
  unfold pos
  congr 1
  have : ((hm n k + d) % n + 1) % n = (hm n k + (d + 1)) % n := by rw [Nat.mod_add_mod]; rfl
  rw [← this]
  simp [Int.natCast_emod]
theorem pos_zero {n : Nat} (h1 : 1 ≤ n) (k : Int) : pos n k 0 = hm n k := by
  unfold pos
  rw [Nat.add_zero, Nat.mod_eq_of_lt (hm_lt h1 k)]

theorem rwalk {t : Tb} (h1 : 1 ≤ t.length) (h8 : t.length ≤ 8) (k : Int) {i di : Nat} (hi : i < t.length) (hdi : di < t.length) (hp : pos t.length k di = i) :
    ∃ e, lp (S := Int) (E := Bool ⊕ Unit) (fun (s41 : Int) =>
            if (s41 != (i : Int)) then
              (ix (t.map pl) s41).bind fun v43 =>
              if (v43.State == 0) then
                some (.inr (.inl false))
              else
              (rem (w64 (s41 + 1)) (t.length : Int)).bind fun v44 =>
              some (.inl v44)
            else
            some (.inr (.inr ()))) (hm t.length k : Int) = some e ∧ ((e = .inr () ∧ ∀ d, d < di → (pt t (pos t.length k d)).State ≠ 0) ∨ (e = .inl false ∧ ∃ d, d < di ∧ (pt t (pos t.length k d)).State = 0)) := by
  rw [← pos_zero h1 k]
  refine lp_road (fun d => ((pos t.length k d : Nat) : Int)) di (fun d => ∀ d', d' < d → (pt t (pos t.length k d')).State ≠ 0) _ (by omega) (fun d' hd' => by omega) (fun d hd hP => ?_) (fun hP => ?_)
  · have hne : pos t.length k d ≠ i := fun e => by
      have := pos_inj h1 h8 (by omega) hdi (e.trans hp.symm)
      omega
    have hlt := pos_lt h1 k d
    rw [if_pos (by simp; omega), ixm hlt, Option.bind_some]
    by_cases a : (pt t (pos t.length k d)).State = 0
    · rw [if_pos (by simpa [pl] using a)]
      exact .inr ⟨_, rfl, .inr ⟨rfl, d, hd, a⟩⟩
    · rw [if_neg (by simpa [pl] using a), rnext h1 h8, Option.bind_some]
      refine .inl ⟨rfl, fun d' hd' => ?_⟩
      rcases Nat.lt_or_ge d' d with q | q
      · exact hP d' q
      · have : d' = d := by omega
        subst this; exact a
  · rw [if_neg (by simp; omega)]
    exact ⟨_, rfl, .inl ⟨rfl, hP⟩⟩

/-- What is asked of one place. -/
def Ok (t : Tb) (i : Nat) : Prop := ((pt t i).State = 0 ∨ (pt t i).State = 1 ∨ (pt t i).State = 2) ∧ ((pt t i).State ≠ 1 → (pt t i).Key = 0 ∧ (pt t i).Val = 0) ∧ ((pt t i).State = 1 → (∀ j, j < i → ¬ Fk t (pt t i).Key j) ∧ ∀ d, d < t.length → (∀ d', d' ≤ d → pos t.length (pt t i).Key d' ≠ i) → (pt t (pos t.length (pt t i).Key d)).State ≠ 0)
theorem hr_ok {t : Tb} (h1 : 1 ≤ t.length) (h8 : t.length ≤ 8) : HR t ↔ ∀ i, i < t.length → Ok t i := by
  constructor
  · intro hR i hi
    exact ⟨(hR.st i hi).1, (hR.st i hi).2, fun s => ⟨fun j hj q => by have := hR.uq j i q.1 hi q.2.1 s q.2.2; omega, hR.rd i hi s⟩⟩
  · intro hO
    refine ⟨h1, h8, fun i hi => ⟨(hO i hi).1, (hO i hi).2.1⟩, fun i j hi hj s1 s2 hk => ?_, fun i hi s => ((hO i hi).2.2 s).2⟩
    rcases Nat.lt_trichotomy i j with q | q | q
    · exact absurd ⟨hi, s1, hk⟩ (((hO j hj).2.2 s2).1 i q)
    · exact q
    · exact absurd ⟨hj, s2, hk.symm⟩ (((hO i hi).2.2 s1).1 j q)

theorem rright_eq (t : Tb) (h : t.length ≤ 1000) : ∃ b, r10_Right (t.map pl) = some b ∧ (b = true ↔ HR t) := by
  unfold r10_Right
  rw [List.length_map]
  by_cases hl : 1 ≤ t.length ∧ t.length ≤ 8
  · obtain ⟨h1, h8⟩ := hl
    rw [if_neg (by simp; omega)]
    simp only [jn]
    suffices hs : ∀ (b : Bool), (b = true ↔ HR t) → _ = some b by
      by_cases q : HR t
      · exact ⟨true, hs true (by simp [q]), by simp [q]⟩
      · exact ⟨false, hs false (by simp [q]), by simp [q]⟩
    intro b hb
    refine lpb_up t.length (fun i => ∀ j, j < i → Ok t j) (by omega) (fun j hj => by omega) (fun i hi hP => ?_) (fun hP => ⟨.inr (), by simp, by
      simp only
      rw [hb.2 ((hr_ok h1 h8).2 hP)]⟩)
    have good : Ok t i → ∀ j, j < i + 1 → Ok t j := fun o j hj => by
      rcases Nat.lt_or_ge j i with q | q
      · exact hP j q
      · have : j = i := by omega
        subst this; exact o
    have bad : ¬ Ok t i → some false = some b := fun o => by
      have : b = false := by
        cases hbb : b with
        | false => rfl
        | true => exact absurd ((hr_ok h1 h8).1 (hb.1 hbb) i hi) o
      rw [this]
    rw [if_pos (by simpa using hi)]
    rw [ixm hi, Option.bind_some, w64_nat (by omega)]
    dsimp only [pl]
    by_cases a : ((pt t i).State = 0 ∨ (pt t i).State = 1 ∨ (pt t i).State = 2) ∧ ((pt t i).State ≠ 1 → (pt t i).Key = 0 ∧ (pt t i).Val = 0)
    · rw [if_neg (by
        have a1 := a.1
        have a2 := a.2
        simp only [Bool.or_eq_true, Bool.and_eq_true, decide_eq_true_eq, bne_iff_ne, ne_eq, not_or, not_and]
        refine ⟨⟨by omega, by omega⟩, fun q => ?_⟩
        have := a2 q
        omega)]
      by_cases s : (pt t i).State = 1
      · rw [if_neg (by simpa using s)]
        obtain ⟨f, hf1, hf2⟩ := first_fk (t := t) (k := (pt t i).Key) ⟨i, hi, s, rfl⟩
        rw [rfind_of h hf1 hf2, Option.bind_some]
        by_cases e : f = i
        · rw [e] at hf2
          rw [if_neg (by simp [e]), rhome_eq, home_eq h1 (by omega), Option.bind_some]
          obtain ⟨di, hdi, hpi⟩ := pos_surj h1 h8 (pt t i).Key hi
          obtain ⟨e, he, hQ⟩ := rwalk h1 h8 (pt t i).Key hi hdi hpi
          rw [he, Option.bind_some]
          rcases hQ with ⟨rfl, q⟩ | ⟨rfl, d, hd, q⟩
          · refine .inl ⟨rfl, good ⟨a.1, a.2, fun _ => ⟨hf2, fun d hd hne => ?_⟩⟩⟩
            rcases Nat.lt_or_ge d di with q' | q'
            · exact q d q'
            · exact absurd hpi (hne di q')
          · refine .inr ⟨_, rfl, bad fun o => (o.2.2 s).2 d (by omega) (fun d' hd' e => ?_) q⟩
            have := pos_inj h1 h8 (by omega) hdi (e.trans hpi.symm)
            omega
        · rw [if_pos (by simp; omega)]
          refine .inr ⟨_, rfl, bad fun o => ?_⟩
          rcases Nat.lt_or_ge f i with q | q
          · exact (o.2.2 s).1 f q hf1
          · exact hf2 i (by omega) ⟨hi, s, rfl⟩
      · rw [if_pos (by simpa using s)]
        exact .inl ⟨rfl, good ⟨a.1, a.2, fun q => absurd q s⟩⟩
    · rw [if_pos (by
        simp only [Bool.or_eq_true, Bool.and_eq_true, decide_eq_true_eq, bne_iff_ne, ne_eq]
        omega)]
      exact .inr ⟨_, rfl, bad fun o => a ⟨o.1, o.2.1⟩⟩
  · rw [if_pos (by simp; omega)]
    exact ⟨false, rfl, ⟨fun q => (by cases q), fun hR => absurd ⟨hR.l1, hR.l8⟩ hl⟩⟩

end Go.Sh
