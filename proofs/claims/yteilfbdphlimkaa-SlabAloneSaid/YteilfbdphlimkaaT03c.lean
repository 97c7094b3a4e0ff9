/-
  Slabs: more of what the laws ask.
-/
import Derived.Test.YteilfbdphlimkaaT03b
namespace Go.Sh
set_option linter.unusedVariables false
set_option linter.unusedSimpArgs false

theorem fnd_one {s : slab_Slab_int} {h : Int} {i j : Nat} (a : Fnd s h i) (b : Fnd s h j) : i = j := by
  obtain ⟨_, _, e1, _⟩ := a
  obtain ⟨_, _, e2, _⟩ := b
  omega

/-- What a handle finds depends on its own cell only. -/
theorem fnd_set_ne {s : slab_Slab_int} {c : slab_Cell_int} {h : Int} {i k : Nat} (hk : (h - 1) % 32 ≠ k) : Fnd ⟨s.Cells.set k c, s.Last⟩ h i ↔ Fnd s h i := by
  unfold Fnd
  simp only [List.length_set]
  constructor
  · rintro ⟨hi, h1, h2, h3⟩
    refine ⟨hi, h1, h2, ?_⟩
    rw [List.getElem_set_ne (by omega)] at h3
    exact h3
  · rintro ⟨hi, h1, h2, h3⟩
    refine ⟨hi, h1, h2, ?_⟩
    rw [List.getElem_set_ne (by omega)]
    exact h3

theorem get_set_ne {s : slab_Slab_int} {c : slab_Cell_int} {h : Int} {k : Nat} (hh : h ≤ 9223372036854775807) (hk : ∀ i, Fnd s h i ∨ Fnd ⟨s.Cells.set k c, s.Last⟩ h i → i ≠ k) : slab_Get_int ⟨s.Cells.set k c, s.Last⟩ h = slab_Get_int s h := by
  by_cases q : ∃ i, Fnd s h i
  · obtain ⟨i, hf⟩ := q
    have hne : i ≠ k := hk i (.inl hf)
    have hm : (h - 1) % 32 ≠ k := fun e => hne (by have := hf.2.2.1; omega)
    obtain ⟨hi, hg⟩ := get_of hf
    obtain ⟨hi', hg'⟩ := get_of ((fnd_set_ne (c := c) hm).2 hf)
    rw [hg, hg']
    simp only [List.getElem_set_ne (Ne.symm hne)]
  · have q : ∀ i, ¬ Fnd s h i := fun i hi => q ⟨i, hi⟩
    rw [get_no hh q]
    by_cases q' : ∃ i, Fnd ⟨s.Cells.set k c, s.Last⟩ h i
    · obtain ⟨i, hf⟩ := q'
      have hne : i ≠ k := hk i (.inr hf)
      have hm : (h - 1) % 32 ≠ k := fun e => hne (by have := hf.2.2.1; omega)
      exact absurd ((fnd_set_ne (c := c) hm).1 hf) (q i)
    · exact get_no hh fun i hi => q' ⟨i, hi⟩

theorem hnd_eq {h g : Int} (a : Hnd h) (b : Hnd g) (h1 : (h - 1) % 32 = (g - 1) % 32) (h2 : (h - 1) / 32 = (g - 1) / 32) : h = g := by omega

/-- The cell behind a handle is turned, and no other handle's. -/
theorem get_other {s : slab_Slab_int} {h other : Int} {k : Nat} {c : slab_Cell_int} (ho : other ≤ 9223372036854775807) (hne : h ≠ other) (hf : Fnd s h k) (hc : (c.Gen = (h - 1) / 32) ∨ (c.State = 0) ∨ c.State = 3) : slab_Get_int ⟨s.Cells.set k c, s.Last⟩ other = slab_Get_int s other := by
  refine get_set_ne ho fun i hi e => ?_
  subst e
  obtain ⟨hk, h1, h2, h3, h4⟩ := hf
  rcases hi with ⟨_, k1, k2, k3, k4⟩ | ⟨_, k1, k2, k3, k4⟩
  · exact hne (hnd_eq h1 k1 (by omega) (by omega))
  · simp only [List.getElem_set_self] at k3 k4
    rcases hc with hc | hc | hc
    · exact hne (hnd_eq h1 k1 (by omega) (by omega))
    · omega
    · omega

theorem slabAlone (s : slab_Slab_int) {h other : Int} (v : Int) (hh : h ≤ 9223372036854775807) (ho : other ≤ 9223372036854775807) : w03_SlabAlone s h v other = some true := by
  unfold w03_SlabAlone
  obtain ⟨b, hb, hbR⟩ := right_eq s
  rw [hb, Option.bind_some, shown]
  by_cases hne : h = other
  · subst hne
    simp [onlyIf]
  have hd : (h == other) = false := by simpa using hne
  rw [hd]
  cases b with
  | false => simp [onlyIf]
  | true =>
    have hR := hbR.1 rfl
    have hl := hR.len
    rw [show onlyIf ((!true || false) == false) false (some true) = some true from rfl, Option.bind_some, if_neg (by decide)]
    by_cases q : ∃ i, Fnd s h i
    · obtain ⟨i, hf⟩ := q
      obtain ⟨hi, h1⟩ := set_of (v := v) hl hf
      obtain ⟨_, h2⟩ := kill_of hl hf
      obtain ⟨_, h3⟩ := give_of hR hf
      obtain ⟨x, e, hg⟩ := get_some s ho
      have g1 := get_other (c := ⟨s.Cells[i].State, s.Cells[i].Gen, v⟩) ho hne hf (.inl hf.2.2.2.1)
      have g3 := get_other (c := if s.Cells[i].Gen = s.Last then ⟨3, s.Cells[i].Gen, 0⟩ else ⟨0, s.Cells[i].Gen + 1, 0⟩) ho hne hf (.inr (by split <;> simp))
      have g2 := get_other (c := ⟨2, s.Cells[i].Gen, s.Cells[i].Val⟩) ho hne hf (.inl hf.2.2.2.1)
      rw [hg, h1, h2, h3]
      simp only [Option.bind_some]
      rw [g1, g3, hg]
      simp only [Option.bind_some]
      split
      · simp [hg]
      · simp [g2, hg]
    · have q : ∀ i, ¬ Fnd s h i := fun i hi => q ⟨i, hi⟩
      obtain ⟨x, e, hg⟩ := get_some s ho
      rw [hg, set_no hh q, kill_no hh q, give_no hh q]
      simp only [Option.bind_some]
      rw [hg]
      simp

theorem slabFirst (s : slab_Slab_int) {other : Int} (v : Int) (ho : other ≤ 9223372036854775807) : w03_SlabFirst s v other = some true := by
  unfold w03_SlabFirst
  obtain ⟨b, hb, hbR⟩ := right_eq s
  rw [hb, Option.bind_some, shown]
  cases b with
  | false => simp [onlyIf]
  | true =>
    have hR := hbR.1 rfl
    have hl := hR.len
    rw [show onlyIf ((!true) == false) false (some true) = some true from rfl, Option.bind_some, if_neg (by decide)]
    obtain ⟨x, e, hg⟩ := get_some s ho
    rcases take_cases hR v with ⟨i, hi, h0, hmin, ht⟩ | ⟨hno, ht⟩
    · have hc := hR.cell i hi
      have h9 := hR.l9
      have hf : Fnd ⟨s.Cells.set i ⟨1, s.Cells[i].Gen, v⟩, s.Last⟩ (1 + i + 32 * s.Cells[i].Gen) i := by
        refine ⟨by simpa using hi, ?_, by omega, ?_, ?_⟩
        · unfold Hnd; omega
        · simp; omega
        · simp
      obtain ⟨hi', hg'⟩ := get_of hf
      rw [hg, ht]
      simp only [Option.bind_some]
      have hoth : 1 + (i : Int) + 32 * s.Cells[i].Gen ≠ other → slab_Get_int ⟨s.Cells.set i ⟨1, s.Cells[i].Gen, v⟩, s.Last⟩ other = slab_Get_int s other := by
        intro hne
        refine get_set_ne ho fun j hj e => ?_
        subst e
        rcases hj with ⟨_, k1, k2, k3, k4⟩ | ⟨_, k1, k2, k3, k4⟩
        · omega
        · simp only [List.getElem_set_self] at k3
          exact hne (hnd_eq hf.2.1 k1 (by omega) (by omega))
      obtain ⟨x2, e2, hg2⟩ := get_some ⟨s.Cells.set i ⟨1, s.Cells[i].Gen, v⟩, s.Last⟩ ho
      rw [hg2, Option.bind_some, if_neg (by simp), find_of hf, Option.bind_some]
      have hlt : ¬ ((i : Int) ≥ (s.Cells.length : Int)) := by omega
      simp only [hlt, decide_false, show decide ((i : Int) < 0) = false by simp, show ((0 : Int) != 0) = false from rfl, Bool.or_false]
      rw [show onlyIf (false == false) (⟨0, 0, 0⟩ : slab_Cell_int) (ix s.Cells i) = ix s.Cells i from rfl, ix_at hi, Option.bind_some, if_neg (by simp [h0])]
      simp only [jn]
      refine lpb_up i (fun _ => True) (by omega) trivial (fun k hk _ => .inl ⟨?_, trivial⟩) (fun _ => ⟨.inr (), by simp, ?_⟩)
      · have hk' : k < s.Cells.length := by omega
        simp only [Int.ofNat_lt, hk, decide_true, if_true, ix_at hk', Option.bind_some]
        rw [if_neg (by simpa using hmin k hk), w64_nat]
      · simp only
        rw [hg']
        simp
        by_cases hne : 1 + (i : Int) + 32 * s.Cells[i].Gen = other
        · exact .inl hne.symm
        · right
          have := hoth hne
          rw [hg, hg2] at this
          simp at this
          exact ⟨this.1.symm, this.2.symm⟩
    · rw [hg, ht]
      simp only [Option.bind_some]
      rw [hg]
      simp
end Go.Sh
