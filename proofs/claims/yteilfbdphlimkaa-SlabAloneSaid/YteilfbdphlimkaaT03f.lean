/-
  Slabs: each slot is taken and given back once for each of its generations.
-/
import Derived.Test.YteilfbdphlimkaaT03e
namespace Go.Sh
set_option linter.unusedVariables false
set_option linter.unusedSimpArgs false

/-- The first q cells are retired, the next one is of generation r. -/
def tkc (g : Int) (q r j : Nat) : slab_Cell_int := if j < q then ⟨3, g, 0⟩ else if j = q then ⟨0, r, 0⟩ else ⟨0, 0, 0⟩
def tks (k : Nat) (g : Int) (q r : Nat) : slab_Slab_int := ⟨(List.range k).map (tkc g q r), g⟩

theorem tks_len (k : Nat) (g : Int) (q r : Nat) : (tks k g q r).Cells.length = k := by simp [tks]
theorem tks_at {k : Nat} {g : Int} {q r j : Nat} (h : j < (tks k g q r).Cells.length) : (tks k g q r).Cells[j] = tkc g q r j := by simp [tks]
theorem tks_R {k : Nat} {g : Nat} {q r : Nat} (hk : k ≤ 24) (hg : g ≤ 9) (hr : r ≤ g) : SlR (tks k g q r) := by
  refine ⟨by rw [tks_len]; exact hk, by simp [tks], by simp [tks]; omega, fun i hi => ?_⟩
  rw [tks_at hi]
  unfold tkc
  have : (tks k g q r).Last = g := rfl
  rw [this]
  split
  · simp
  · split
    · simp; omega
    · simp

theorem takes_step {k g q r : Nat} (hk : k ≤ 24) (hg : g ≤ 9) (hr : r ≤ g) (hq : q < k) (v : Int) : ∃ a h b, slab_Take_int (tks k g q r) v = some (a, h, 0) ∧ slab_Give_int a h = some (b, 0) ∧ h ≠ 0 ∧ b = if r = g then tks k g (q + 1) 0 else tks k g q (r + 1) := by
  have hR := tks_R (q := q) hk hg hr
  rcases take_cases hR v with ⟨i, hi, h0, hmin, ht⟩ | ⟨hno, ht⟩
  · have hiq : i = q := by
      rcases Nat.lt_trichotomy i q with h | h | h
      · rw [tks_at hi] at h0
        unfold tkc at h0
        rw [if_pos h] at h0
        cases h0
      · exact h
      · have := hmin q h
        rw [tks_at] at this
        unfold tkc at this
        rw [if_neg (by omega), if_pos rfl] at this
        exact absurd rfl this
    subst hiq
    have hgen : (tks k g i r).Cells[i].Gen = r := by
      rw [tks_at hi]; unfold tkc; rw [if_neg (by omega), if_pos rfl]
    rw [hgen] at ht
    have hRa : SlR ⟨(tks k g i r).Cells.set i ⟨1, r, v⟩, (tks k g i r).Last⟩ := hR.set ⟨by simp, by simp, by simp, by show (r : Int) ≤ g; omega⟩
    have hf : Fnd ⟨(tks k g i r).Cells.set i ⟨1, r, v⟩, (tks k g i r).Last⟩ (1 + i + 32 * r) i := by
      refine ⟨by simpa using hi, ?_, by omega, ?_, ?_⟩
      · unfold Hnd; omega
      · simp; omega
      · simp
    obtain ⟨hi', hg'⟩ := give_of hRa hf
    refine ⟨_, _, _, ht, hg', by omega, ?_⟩
    have hL : (tks k g i r).Last = g := rfl
    simp only [List.getElem_set_self, hL, List.set_set]
    by_cases e : r = g
    · rw [if_pos e, if_pos (by omega)]
      unfold tks
      congr 1
      refine List.ext_getElem (by simp) fun j h1 h2 => ?_
      simp only [List.getElem_set, List.getElem_map, List.getElem_range]
      unfold tkc
      split
      · rename_i e2; subst e2; rw [if_pos (by omega), e]
      · by_cases h3 : j < i
        · rw [if_pos h3, if_pos (by omega)]
        · rw [if_neg h3, if_neg (by omega), if_neg (by omega)]
          split <;> simp
    · rw [if_neg e, if_neg (by omega)]
      unfold tks
      congr 1
      refine List.ext_getElem (by simp) fun j h1 h2 => ?_
      simp only [List.getElem_set, List.getElem_map, List.getElem_range]
      unfold tkc
      split
      · rename_i e2; subst e2; rw [if_neg (by omega), if_pos rfl]; simp
      · by_cases h3 : j < i
        · rw [if_pos h3, if_pos h3]
        · rw [if_neg h3, if_neg h3, if_neg (by omega), if_neg (by omega)]
  · exfalso
    have := hno q (by rw [tks_len]; exact hq)
    rw [tks_at] at this
    unfold tkc at this
    rw [if_neg (by omega), if_pos rfl] at this
    exact this rfl

theorem slabTakes {n last : Int} (h1 : 0 ≤ n) (h2 : n < 256) (h3 : 0 ≤ last) (h4 : last < 256) : w03_SlabTakes n last = some true := by
  unfold w03_SlabTakes
  rw [w64_sm (n := n) (by omega) (by omega), w64_sm (n := last) (by omega) (by omega), rem_pos h1 (by omega), Option.bind_some, rem_pos h3 (by omega), Option.bind_some]
  obtain ⟨k, hk⟩ : ∃ k : Nat, n % 25 = k := ⟨(n % 25).toNat, by omega⟩
  obtain ⟨g, hg⟩ : ∃ g : Nat, last % 10 = g := ⟨(last % 10).toNat, by omega⟩
  rw [hk, hg]
  have hk24 : k ≤ 24 := by omega
  have hg9 : g ≤ 9 := by omega
  have hnew : slab_New_int k g = some (tks k g 0 0) := by
    unfold slab_New_int
    rw [if_neg (by simp; omega), mk_ok (by omega) (by omega), Option.bind_some]
    congr 2
    refine List.ext_getElem (by simp) fun j h1 h2 => ?_
    simp [tkc]
  rw [hnew, Option.bind_some]
  simp only [jn]
  have hm : k * (g + 1) ≤ 24 * 10 := Nat.mul_le_mul hk24 (by omega)
  have hlim : w64 ((k : Int) * w64 ((g : Int) + 1)) = ((k * (g + 1) : Nat) : Int) := by
    rw [w64_nat, ← Int.natCast_mul, w64_sm (by omega) (by omega)]
  rw [hlim]
  refine lpb_upS (k * (g + 1)) (fun i s => ∃ q r, i = q * (g + 1) + r ∧ r ≤ g ∧ q ≤ k ∧ s = tks k g q r) (by omega) ⟨0, 0, by simp, Nat.zero_le _, Nat.zero_le _, rfl⟩ ?_ ?_
  · rintro i _ hi ⟨q, r, rfl, hr, hq, rfl⟩
    have hqk : q < k := by
      rcases Nat.lt_or_ge q k with h | h
      · exact h
      · have := Nat.mul_le_mul_right (g + 1) h
        omega
    obtain ⟨a, h, b, ht, hgv, hne, hb⟩ := takes_step hk24 hg9 hr hqk ((q * (g + 1) + r : Nat) : Int)
    left
    refine ⟨b, ?_, ?_⟩
    · simp only [Int.ofNat_lt, hi, decide_true, if_true]
      rw [ht, Option.bind_some, hgv, Option.bind_some, if_neg (by simpa using hne), w64_nat]
    · subst hb
      split
      · rename_i e
        exact ⟨q + 1, 0, by rw [Nat.add_mul]; omega, Nat.zero_le _, hqk, rfl⟩
      · exact ⟨q, r + 1, by omega, by omega, hq, rfl⟩
  · rintro _ ⟨q, r, hi, hr, hq, rfl⟩
    have hqk : q = k ∧ r = 0 := by
      rcases Nat.lt_or_ge q k with h | h
      · have h5 : (q + 1) * (g + 1) ≤ k * (g + 1) := Nat.mul_le_mul_right _ h
        rw [Nat.add_mul] at h5
        omega
      · have : q = k := by omega
        subst this
        omega
    obtain ⟨rfl, rfl⟩ := hqk
    refine ⟨.inr (tks q g q 0), by simp, ?_⟩
    have hR := tks_R (k := q) (q := q) (r := 0) hk24 hg9 (Nat.zero_le g)
    have hall : ∀ i (h : i < (tks q g q 0).Cells.length), (tks q g q 0).Cells[i] = ⟨3, g, 0⟩ := fun i h => by
      have h' := h
      rw [tks_len] at h'
      rw [tks_at h]; unfold tkc; rw [if_pos h']
    simp only
    rcases take_cases hR 1 with ⟨i, hi', h0, _, ht⟩ | ⟨_, ht⟩
    · rw [hall i hi'] at h0; cases h0
    · rw [ht, Option.bind_some, tally_eq hR]
      have hc : ∀ j : Int, j ≠ 3 → cnt (tks q g q 0).Cells j = 0 := fun j hj => by
        unfold cnt
        rw [List.countP_eq_zero]
        intro c hc
        obtain ⟨i, hi, rfl⟩ := List.getElem_of_mem hc
        rw [hall i hi]
        simpa using Ne.symm hj
      have hs := cnt_sum (l := (tks q g q 0).Cells) (fun c hc => by
        obtain ⟨i, hi, rfl⟩ := List.getElem_of_mem hc
        rw [hall i hi]; simp)
      rw [hc 0 (by decide), hc 1 (by decide), hc 2 (by decide), tks_len] at hs
      rw [hc 0 (by decide), hc 1 (by decide), hc 2 (by decide), shown]
      have e : cnt (tks q g q 0).Cells 3 = q := by omega
      rw [e]
      simp [onlyIf]
end Go.Sh
