/-
  A slice in a field of a struct that is handed in by value.
  Conditions: what the arguments' reading says.
-/
import Derived.Test.YtgleeglhdlnobaaBs
import Derived.Lib.SmallJoins
namespace Go.Proofs.Ytgleeglhdlnobaa.Fs
open Go.RowKit Go.ChangeShapes Go.WideShapes Go.Deep Bs
set_option linter.unusedVariables false
section
variable {H : Type} {enc : TypeId × Value → H} {P : Program} {w : World} {t e : TypeId} {v : Value}
theorem sl_of_field {α : Type} (f : α → Value) (G : α → Prop) (ht : P.underlying t = some (.slice e)) (he : P.cellsOf e = 1)
    (hd : ∀ (n : Nat) (u : Value) (y : DataW H × List MemPlace), DataW.trod enc P w 0 (fun _ => true) true n e [u] = some y → ∃ a, u = f a ∧ G a)
    {fuel : Nat} {y : DataW H × List MemPlace} (hf : DataW.trod enc P w 0 (fun _ => true) true fuel t [v] = some y) : ∃ l : List α, Sl w f v l ∧ ∀ a ∈ l, G a := by
  obtain ⟨d, p⟩ := y
  have hlt : ∀ x ∈ p, x.block < w.heap.size := DataW.trod_lt fuel _ _ _ hf
  rcases open_slice1 ht he hf with ⟨hcs, _⟩ | ⟨a, len, cap, m, n, V, D, Pl, hcs, _, hl, hm, hmm, hx, hi⟩
  · obtain rfl := (List.cons.inj hcs).1
    exact ⟨[], Sl.none_, fun a ha => absurd ha (List.not_mem_nil)⟩
  · obtain rfl := (List.cons.inj hcs).1
    simp only [if_true] at hmm
    subst hmm
    have hex : ∀ i, i < len → ∃ x : α, V i = f x ∧ G x := fun i hik => hd n _ _ (hi i (by omega)).2
    rcases Nat.eq_zero_or_pos len with h0 | h0
    · subst h0
      exact ⟨[], ⟨_, _, rfl, Nat.zero_le _, hm, fun h => (by cases h), fun h => absurd h (Nat.lt_irrefl _)⟩, fun a ha => absurd ha (List.not_mem_nil)⟩
    · obtain ⟨x0, _, _⟩ := hex 0 h0
      have : Inhabited α := ⟨x0⟩
      obtain ⟨F, hF⟩ := choose_lt hex
      obtain ⟨b, off, spot⟩ := a
      have hspot : spot = none := by simpa [Addr.add] using World.cell?_spot (hi 0 (by omega)).1
      subst hspot
      have hb : b < w.heap.size := by
        have hx2 := (Prod.mk.inj hx).2
        have := hlt (.cell b off) (by rw [hx2]; exact List.mem_append_left _ (by
          cases m with
          | zero => omega
          | succ m => simp [MemPlace.row, List.range_succ_eq_map]))
        exact this
      refine ⟨(List.range len).map F, ⟨some ⟨b, off, none⟩, m, by simp, by simpa using hl, hm, fun h => (by cases h), fun _ => ⟨b, off, rfl, hb, fun k u hu => ?_⟩⟩, ?_⟩
      · have hk : k < len := by
          rcases Nat.lt_or_ge k len with h1 | h1
          · exact h1
          · rw [List.getElem?_eq_none (by simpa using h1)] at hu; cases hu
        have hc := (hi k (by omega)).1
        rw [add_plain] at hc
        rw [hc]
        simp [hk] at hu
        rw [← hu, (hF k hk).1]
      · intro a ha
        obtain ⟨k, hk, rfl⟩ := List.mem_map.1 ha
        exact (hF k (List.mem_range.1 hk)).2

theorem ints_of_field (ht : P.underlying t = some (.slice e)) (he : P.cellsOf e = 1) (hu : P.underlying e = some (.int .i64)) {fuel : Nat} {y : DataW H × List MemPlace} (hf : DataW.trod enc P w 0 (fun _ => true) true fuel t [v] = some y) :
    ∃ l : List Int, Sl w (Value.int .i64) v l ∧ Wf l :=
  sl_of_field (Value.int .i64) (fun x => (Lit.int .i64 x).wf = true) ht he (fun n u y hy => by
    obtain ⟨x, hx, _, hw⟩ := DataW.trod_int hu hy
    exact ⟨x, by simpa using hx, hw⟩) hf
end
end Go.Proofs.Ytgleeglhdlnobaa.Fs
