/-
 Several texts of one kind, one behind the other.
-/
import Derived.Test.YtaodpepkobplkaaC17Sh0
import Derived.IntWalk
namespace Go.Sh
set_option linter.unusedVariables false
theorem w64_def (n : Int) : w64 n = (n + 9223372036854775808) % 18446744073709551616 - 9223372036854775808 := by
 show IntKind.i64.wrap n = _
 rw [IntKind.wrap_i64]
theorem w64_in {n : Int} (h1 : -9223372036854775808 ≤ n := by omega) (h2 : n ≤ 9223372036854775807 := by omega) : w64 n = n := by rw [w64_def]; omega
theorem w64_nat {n : Nat} (h : n < 9223372036854775807 := by omega) : w64 ((n : Int) + 1) = ((n + 1 : Nat) : Int) := by rw [w64_def]; omega
theorem ix_nat {α : Type} (xs : List α) (i : Nat) : ix xs (i : Int) = xs[i]? := by unfold ix; rw [if_pos (by omega)]; simp
theorem ix_at {α : Type} {xs : List α} {i : Nat} (h : i < xs.length) : ix xs (i : Int) = some xs[i] := by rw [ix_nat, List.getElem?_eq_getElem h]
theorem app_ok {α : Type} {b : Nat} {xs ys : List α} (hb : 0 < b) (h : (xs.length + ys.length) * b ≤ 140737488355328) : app b xs ys = some (xs ++ ys) := by
 have : (xs.length + ys.length) * 1 ≤ (xs.length + ys.length) * b := Nat.mul_le_mul_left _ hb
 unfold app
 rw [if_pos ⟨h, by omega⟩]
theorem lpN_ind {S E : Type} {f : S → Option (S ⊕ E)} (I : S → Prop) (Q : E → Prop) (μ : S → Nat) (h : ∀ s, I s → (∃ s', f s = some (.inl s') ∧ I s' ∧ μ s' < μ s) ∨ (∃ e, f s = some (.inr e) ∧ Q e)) :
  ∀ (N : Nat) (s : S), I s → μ s < N → ∃ e, lpN f N s = some e ∧ Q e := by
 intro N
 induction N with
 | zero => intro s _ hl; omega
 | succ N ih =>
  intro s hs hl
  rw [lpN_succ]
  rcases h s hs with ⟨s', h1, h2, h3⟩ | ⟨e, h1, h2⟩
  ·rw [h1]
   exact ih s' h2 (by omega)
  ·rw [h1]
   exact ⟨e, rfl, h2⟩
theorem lp_ind {S E : Type} {f : S → Option (S ⊕ E)} {s0 : S} (I : S → Prop) (Q : E → Prop) (μ : S → Nat) (h0 : I s0) (hμ : μ s0 < 4611686018427387904) (h : ∀ s, I s → (∃ s', f s = some (.inl s') ∧ I s' ∧ μ s' < μ s) ∨ (∃ e, f s = some (.inr e) ∧ Q e)) : ∃ e, lp f s0 = some e ∧ Q e :=
 lp_eq f s0 ▸ lpN_ind I Q μ h _ s0 h0 hμ
theorem lp_up {E : Type} {f : Int → Option (Int ⊕ E)} (n : Nat) (P : Nat → Prop) (Q : E → Prop) (hn : n < 4611686018427387904) (h0 : P 0) (hs : ∀ k : Nat, k < n → P k → (f k = some (.inl ((k + 1 : Nat) : Int)) ∧ P (k + 1)) ∨ (∃ e, f k = some (.inr e) ∧ Q e)) (he : P n → ∃ e, f n = some (.inr e) ∧ Q e) :
  ∃ e, lp f 0 = some e ∧ Q e := by
 refine lp_ind (fun (s : Int) => ∃ k : Nat, s = (k : Int) ∧ k ≤ n ∧ P k) Q (fun (s : Int) => n - s.toNat) ⟨0, rfl, Nat.zero_le _, h0⟩ (by show n - _ < _; omega) ?_
 rintro _ ⟨k, rfl, hk, hP⟩
 rcases Nat.lt_or_ge k n with h1 | h1
 ·rcases hs k h1 hP with ⟨k1, k2⟩ | k
  ·exact .inl ⟨_, k1, ⟨k + 1, rfl, h1, k2⟩, by show n - _ < n - _; omega⟩
  ·exact .inr k
 ·have : k = n := by omega
  subst this
  exact .inr (he hP)
theorem lp_upS {T E : Type} {f : Int × T → Option ((Int × T) ⊕ E)} {t0 : T} (n : Nat) (P : Nat → T → Prop) (Q : E → Prop) (hn : n < 4611686018427387904) (h0 : P 0 t0)
  (hs : ∀ (k : Nat) t, k < n → P k t → (∃ t', f ((k : Int), t) = some (.inl (((k + 1 : Nat) : Int), t')) ∧ P (k + 1) t') ∨ (∃ e, f ((k : Int), t) = some (.inr e) ∧ Q e)) (he : ∀ t, P n t → ∃ e, f ((n : Int), t) = some (.inr e) ∧ Q e) :
  ∃ e, lp f (0, t0) = some e ∧ Q e := by
 refine lp_ind (fun (s : Int × T) => ∃ k : Nat, s.1 = (k : Int) ∧ k ≤ n ∧ P k s.2) Q (fun (s : Int × T) => n - s.1.toNat) ⟨0, rfl, Nat.zero_le _, h0⟩ (by show n - _ < _; omega) ?_
 rintro ⟨_, t⟩ ⟨k, rfl, hk, hP⟩
 rcases Nat.lt_or_ge k n with h1 | h1
 ·rcases hs k t h1 hP with ⟨t', k1, k2⟩ | k
  ·exact .inl ⟨_, k1, ⟨k + 1, rfl, h1, k2⟩, by show n - _ < n - _; simp; omega⟩
  ·exact .inr k
 ·have : k = n := by omega
  subst this
  exact .inr (he t hP)
theorem some_of {E : Type} {x : Option E} {r : E} (h : ∃ e, x = some e ∧ e = r) : x = some r := by
 obtain ⟨e, h1, rfl⟩ := h
 exact h1
theorem rem_pos {a b : Int} (ha : 0 ≤ a) (hb : 0 < b) : rem a b = some (a % b) := by
 unfold rem
 rw [if_neg (by omega), Int.tmod_eq_emod_of_nonneg ha]
end Go.Sh
namespace Go.Sh
theorem ix_map' {α β : Type} (f : α → β) (xs : List α) (i : Int) : ix (xs.map f) i = (ix xs i).map f := by
 unfold ix
 split
 ·rw [List.getElem?_map]
 ·rfl
end Go.Sh
namespace Go.Sh
theorem lp_collect {α β : Type} {b : Nat} (g : α → β) (xs : List α) (hb : 0 < b) (h : xs.length * b ≤ 140737488355328) :
  lp (fun (x : Int × List β) => if decide (x.1 < (xs.length : Int)) = true then (ix xs x.1).bind fun v => (app b x.2 [g v]).bind fun v2 => some (Sum.inl (w64 (x.1 + 1), v2)) else some (Sum.inr x.2)) (0, []) = some (xs.map g) := by
 have hl : xs.length * 1 ≤ xs.length * b := Nat.mul_le_mul_left _ hb
 refine some_of (lp_upS xs.length (fun k l => l = (xs.take k).map g) (fun e => e = xs.map g) (by omega) (by simp) ?_ ?_)
 ·rintro k l hk rfl
  refine .inl ⟨_, ?_, rfl⟩
  have h3 : (k + 1) * b ≤ xs.length * b := Nat.mul_le_mul_right _ hk
  simp only [Int.ofNat_lt, hk, decide_true, if_true, ix_at hk, Option.bind_some]
  rw [app_ok hb (by simp [List.length_take, Nat.min_eq_left (Nat.le_of_lt hk)]; omega), Option.bind_some, w64_nat (by omega), List.take_succ_eq_append_getElem hk, List.map_append]
  rfl
 ·rintro l rfl
  exact ⟨_, by simp; rfl, by simp⟩
end Go.Sh
namespace Go.Sh
theorem lpb_up {E R : Type} {f : Int → Option (Int ⊕ E)} {κ : E → Option R} {r : R} (n : Nat) (P : Nat → Prop) (hn : n < 4611686018427387904) (h0 : P 0) (hs : ∀ k : Nat, k < n → P k → (f k = some (.inl ((k + 1 : Nat) : Int)) ∧ P (k + 1)) ∨ (∃ e, f k = some (.inr e) ∧ κ e = some r))
  (he : P n → ∃ e, f n = some (.inr e) ∧ κ e = some r) : (lp f 0).bind κ = some r := by
 obtain ⟨e, h1, h2⟩ := lp_up n P (fun e => κ e = some r) hn h0 hs he
 rw [h1]; exact h2
theorem lpb_upS {T E R : Type} {f : Int × T → Option ((Int × T) ⊕ E)} {t0 : T} {κ : E → Option R} {r : R} (n : Nat) (P : Nat → T → Prop) (hn : n < 4611686018427387904) (h0 : P 0 t0)
  (hs : ∀ (k : Nat) t, k < n → P k t → (∃ t', f ((k : Int), t) = some (.inl (((k + 1 : Nat) : Int), t')) ∧ P (k + 1) t') ∨ (∃ e, f ((k : Int), t) = some (.inr e) ∧ κ e = some r)) (he : ∀ t, P n t → ∃ e, f ((n : Int), t) = some (.inr e) ∧ κ e = some r) : (lp f (0, t0)).bind κ = some r := by
 obtain ⟨e, h1, h2⟩ := lp_upS n P (fun e => κ e = some r) hn h0 hs he
 rw [h1]; exact h2
end Go.Sh
namespace Go.Sh
end Go.Sh
namespace Go.Sh
end Go.Sh
namespace Go.Sh
end Go.Sh
namespace Go.Sh
end Go.Sh
namespace Go.Sh
end Go.Sh
namespace Go.Sh
set_option linter.unusedVariables false
set_option linter.unusedSimpArgs false
theorem lp_all {α E : Type} {f : Int → Option (Int ⊕ E)} (xs : List α) (p : α → Bool) (good bad : E) (hx : xs.length < 4611686018427387904)
  (hs : ∀ k (hk : k < xs.length), f (k : Int) = if p xs[k] then some (.inl ((k + 1 : Nat) : Int)) else some (.inr bad))
  (he : f (xs.length : Int) = some (.inr good)) : lp f 0 = some (if xs.all p then good else bad) := by
 refine some_of (lp_up xs.length (fun k => (xs.take k).all p = true) (fun e => e = if xs.all p then good else bad) hx (by simp) (fun k hk hP => ?_) (fun hP => ?_))
 ·rw [hs k hk]
  by_cases h : p xs[k] = true
  ·refine .inl ⟨by rw [if_pos h], ?_⟩
   rw [List.take_succ_eq_append_getElem hk, List.all_append, hP]
   simp [h]
  ·refine .inr ⟨bad, by rw [if_neg h], ?_⟩
   rw [if_neg]
   rw [List.all_eq_true]
   exact fun q => h (q _ (List.getElem_mem hk))
 ·rw [List.take_length] at hP
  exact ⟨_, he, by rw [if_pos hP]⟩
theorem bnd {α β : Type} {x : Option α} {a : α} {k : α → Option β} {r : Option β} (h : x = some a) (q : k a = r) : x.bind k = r := by
 rw [h]
 exact q
end Go.Sh
