/-
  Slabs: a handle that was given back; what is taken and given back till there is no more.
-/
import Derived.Test.YteilfbdphlimkaaT03d
namespace Go.Sh
set_option linter.unusedVariables false
set_option linter.unusedSimpArgs false

/-- The handle will never find anything again. -/
structure Gone (s : slab_Slab_int) (h : Int) (i : Nat) : Prop where
  R : SlR s
  hd : Hnd h
  at_ : (h - 1) % 32 = i
  lt : i < s.Cells.length
  cell : (h - 1) / 32 < s.Cells[i].Gen ∨ (s.Cells[i].Gen = (h - 1) / 32 ∧ s.Cells[i].State = 3)

theorem Gone.no {s : slab_Slab_int} {h : Int} {i : Nat} (g : Gone s h i) : ∀ j, ¬ Fnd s h j := by
  rintro j ⟨hj, _, h1, h2, h3⟩
  have := g.at_
  have : j = i := by omega
  subst this
  have := g.cell
  omega

theorem Gone.give {s : slab_Slab_int} (hR : SlR s) {h : Int} {i : Nat} (hf : Fnd s h i) (hi : i < s.Cells.length) : Gone ⟨s.Cells.set i (if s.Cells[i].Gen = s.Last then ⟨3, s.Cells[i].Gen, 0⟩ else ⟨0, s.Cells[i].Gen + 1, 0⟩), s.Last⟩ h i := by
  obtain ⟨_, hd, h1, h2, h3⟩ := hf
  have hc := hR.cell i hi
  refine ⟨hR.set (by split <;> simp <;> omega), hd, h1, by simpa using hi, ?_⟩
  simp only [List.getElem_set_self]
  split
  · right; exact ⟨h2, rfl⟩
  · left; simp only; omega

theorem Gone.take {s a : slab_Slab_int} {h v t e : Int} {i : Nat} (g : Gone s h i) (ht : slab_Take_int s v = some (a, t, e)) : Gone a h i ∧ (e = 0 → t ≠ h ∧ 1 ≤ t ∧ t ≤ 320) := by
  rcases take_cases g.R v with ⟨j, hj, h0, _, hk⟩ | ⟨_, hk⟩
  · rw [hk] at ht
    simp only [Option.some.injEq, Prod.mk.injEq] at ht
    obtain ⟨rfl, rfl, rfl⟩ := ht
    have hc := g.R.cell j hj
    have h9 := g.R.l9
    have hlen := g.R.len
    have hat := g.at_
    have hcell := g.cell
    refine ⟨⟨g.R.set ⟨by simp, by simp, hc.2.2⟩, g.hd, g.at_, by simpa using g.lt, ?_⟩, fun _ => ⟨fun q => ?_, by omega, by omega⟩⟩
    · simp only [List.getElem_set]
      split
      · rename_i q
        subst q
        left
        simp only
        omega
      · exact g.cell
    · have : j = i := by omega
      subst this
      omega
  · rw [hk] at ht
    simp only [Option.some.injEq, Prod.mk.injEq] at ht
    obtain ⟨rfl, rfl, rfl⟩ := ht
    exact ⟨g, fun q => by cases q⟩

theorem Gone.gives {s : slab_Slab_int} {h t : Int} {i : Nat} (g : Gone s h i) (ht : t ≤ 9223372036854775807) : ∃ a e, slab_Give_int s t = some (a, e) ∧ Gone a h i := by
  by_cases q : ∃ j, Fnd s t j
  · obtain ⟨j, hf⟩ := q
    obtain ⟨hj, hk⟩ := give_of g.R hf
    have hc := g.R.cell j hj
    have hcell := g.cell
    refine ⟨_, _, hk, g.R.set (by split <;> simp <;> omega), g.hd, g.at_, by simpa using g.lt, ?_⟩
    simp only [List.getElem_set]
    split
    · rename_i q
      subst q
      have := hf.2.2.2.2
      left
      split <;> simp only <;> omega
    · exact g.cell
  · exact ⟨_, _, give_no ht fun i hi => q ⟨i, hi⟩, g⟩

theorem slabStale (s : slab_Slab_int) {h : Int} (l : List Int) (hh : h ≤ 9223372036854775807) (hl0 : ∀ x ∈ l, -9223372036854775808 ≤ x ∧ x ≤ 9223372036854775807) : w03_SlabStale s h l = some true := by
  unfold w03_SlabStale
  obtain ⟨b, hb, hbR⟩ := right_eq s
  rw [hb, Option.bind_some, shown]
  cases b with
  | false => simp [onlyIf]
  | true =>
    have hR := hbR.1 rfl
    by_cases hlen : (l.length : Int) > 40
    · rw [decide_eq_true hlen]; simp [onlyIf]
    rw [decide_eq_false hlen]
    rw [show onlyIf ((!true || false) == false) false (some true) = some true from rfl, Option.bind_some, if_neg (by decide)]
    by_cases q : ∃ i, Fnd s h i
    rotate_left
    · rw [give_no hh fun i hi => q ⟨i, hi⟩, Option.bind_some, if_pos (by simpa using err_ne h)]
    obtain ⟨i, hf⟩ := q
    obtain ⟨hi, hk⟩ := give_of hR hf
    have g0 := Gone.give hR hf hi
    rw [hk, Option.bind_some, if_neg (by simp)]
    simp only [jn]
    have hd := hnd_le hf.2.1
    refine lpb_ind (fun (x : Int × Int × slab_Slab_int) => ∃ k : Nat, x.2.1 = (k : Int) ∧ k ≤ l.length ∧ Gone x.2.2 h i ∧ x.1 ≠ h ∧ 0 ≤ x.1 ∧ x.1 ≤ 320) (fun x => l.length - x.2.1.toNat) ⟨0, rfl, Nat.zero_le _, g0, by omega, by omega, by omega⟩ (by show l.length - _ < _; omega) ?_
    rintro ⟨last, _, a⟩ ⟨k, rfl, hkl, ga, hne, hl1, hl2⟩
    simp only at ga hne hl1 hl2 ⊢
    rcases Nat.lt_or_ge k l.length with hlt | hge
    · left
      simp only [Int.ofNat_lt, hlt, decide_true, if_true, ix_at hlt, Option.bind_some]
      have hx : ∃ r, rem l[k] 2 = some r := by unfold rem; exact ⟨_, if_neg (by omega)⟩
      obtain ⟨r, hr⟩ := hx
      rw [hr, Option.bind_some]
      -- behind the act
      have rest : ∀ (t : Int) (c : slab_Slab_int), Gone c h i → t ≠ h → 0 ≤ t → t ≤ 320 → ∃ s' : Int × Int × slab_Slab_int, ((slab_Get_int c h).bind fun v47 => (slab_Find_int c h).bind fun v48 => if ((v47.2 != 3) || (v48.2 != 3)) || (t == h) then some (Sum.inr (Sum.inl false)) else some (Sum.inl (t, w64 ((k : Int) + 1), c))) = (some (Sum.inl s') : Option ((Int × Int × slab_Slab_int) ⊕ (Bool ⊕ Unit))) ∧
          (∃ k : Nat, s'.2.1 = (k : Int) ∧ k ≤ l.length ∧ Gone s'.2.2 h i ∧ s'.1 ≠ h ∧ 0 ≤ s'.1 ∧ s'.1 ≤ 320) ∧ l.length - s'.2.1.toNat < l.length - k := by
        intro t c gc h1 h2 h3
        refine ⟨(t, ((k + 1 : Nat) : Int), c), ?_, ⟨k + 1, rfl, hlt, gc, h1, h2, h3⟩, by show l.length - (k + 1) < _; omega⟩
        rw [get_no hh gc.no, find_no hh gc.no, Option.bind_some, Option.bind_some, if_neg (show ¬ h = 0 by omega), w64_nat]
        rw [if_neg]
        simpa using h1
      split
      · obtain ⟨c, t, e, ht, _⟩ := take_some ga.R l[k]
        obtain ⟨gc, gt⟩ := ga.take ht
        rw [ht, Option.bind_some]
        simp only
        split
        · rename_i e0
          have e0 : e = 0 := by simpa using e0
          exact rest t c gc (gt e0).1 (by have := gt e0; omega) (gt e0).2.2
        · exact rest last c gc hne hl1 hl2
      · obtain ⟨c, e, hc, gc⟩ := ga.gives (t := last) (by omega)
        rw [hc, Option.bind_some]
        exact rest last c gc hne hl1 hl2
    · right
      refine ⟨.inr (), ?_, rfl⟩
      rw [if_neg (by simp; omega)]
end Go.Sh
