/-
  From what a call answers to what a law asks.
-/
import Derived.Test.YtgleeglhdlnobaaPw19
namespace Go.Pw
open Go.RowKit
set_option linter.unusedVariables false

abbrev all (w : World) : Nat → Nat → Prop := fun b _ => b < w.heap.size

theorem calls_true {P : Program} {f : FuncId} {vs : Array Value} {ds : List PV} {w : World} (h : PCalls P f ds (.bool true)) (hr : RdL w (all w) vs ds) :
    Calls P f vs w fun e w' => e = .returned (.bool true) ∧ Below w.heap.size w w' :=
  (h w _ vs (fun _ _ q => q) hr).mono fun e w' ⟨v, he, hb, hv⟩ => by
    cases hv
    exact ⟨he, hb⟩

def RdLL (w : World) (imm : Nat → Nat → Prop) : List Value → List PV → Prop
  | [], [] => True
  | v :: vs, d :: ds => Rd0 w imm v d ∧ RdLL w imm vs ds
  | _, _ => False

theorem RdLL.spec {w : World} {imm : Nat → Nat → Prop} : ∀ {vs : List Value} {ds : List PV}, RdLL w imm vs ds → vs.length = ds.length ∧ ∀ (i : Nat) v d, vs[i]? = some v → ds[i]? = some d → Rd0 w imm v d
  | [], [], _ => ⟨rfl, fun i v d h => by simp at h⟩
  | v :: vs, d :: ds, h => by
    obtain ⟨k1, k2⟩ := RdLL.spec h.2
    refine ⟨by simp [k1], fun i u e hu he => ?_⟩
    cases i with
    | zero =>
      simp only [List.getElem?_cons_zero, Option.some.injEq] at hu he
      subst hu; subst he
      exact h.1
    | succ i => exact k2 i u e (by simpa using hu) (by simpa using he)
  | [], _ :: _, h => h.elim
  | _ :: _, [], h => h.elim

theorem rdL_of {w : World} {imm : Nat → Nat → Prop} {vs : List Value} {ds : List PV} (h : RdLL w imm vs ds) : RdL w imm vs.toArray ds := by
  obtain ⟨k1, k2⟩ := h.spec
  exact ⟨by simpa using k1, fun i v d hv hd => k2 i v d (by simpa using hv) hd⟩

/-- A slice of things of one cell. -/
theorem rd_sl {α : Type} {w : World} {f : α → Value} {p : α → PV} {v : Value} {l : List α} (hp : ∀ a, Rd0 w (all w) (f a) (p a)) (hc : ∀ a, (p a).cells = [p a]) (hel : ∀ a, (p a).el = true)
    (h : ∃ A c, v = .slice A l.length c ∧ l.length ≤ c ∧ c ≤ maxLen ∧ (A = none → c = 0) ∧
      (0 < l.length → ∃ b off, A = some ⟨b, off, none⟩ ∧ b < w.heap.size ∧ ∀ k u, (l.map f)[k]? = some u → w.cell? ⟨b, off + k, none⟩ = some u)) :
    Rd0 w (all w) v (.lst false (l.map p)) := by
  obtain ⟨A, c, rfl, h1, h2, h3, h4⟩ := h
  have key := Rd0.lst (w := w) (imm := all w) A c 1 false (l.map p) (fun i _ => ((l[i]?).map f).getD undef) (by simpa using h1) (fun q => by cases q) h3
    (fun x hx => by
      obtain ⟨a, _, rfl⟩ := List.mem_map.1 hx
      exact ⟨hel a, by rw [hc]; rfl⟩)
    (fun hl => by
      obtain ⟨b, off, k1, k2, k3⟩ := h4 (by simpa using hl)
      refine ⟨b, off, k1, fun i x j y hx hy => ?_⟩
      rw [List.getElem?_map] at hx
      cases hq : l[i]? with
      | none => rw [hq] at hx; cases hx
      | some a =>
        rw [hq] at hx
        cases hx
        rw [hc] at hy
        have hj : j = 0 := by
          cases j with
          | zero => rfl
          | succ j => simp at hy
        subst hj
        refine ⟨k2, ?_⟩
        have := k3 i (f a) (by rw [List.getElem?_map, hq]; rfl)
        simpa [hq] using this)
    (fun i x j y hx hy => by
      rw [List.getElem?_map] at hx
      cases hq : l[i]? with
      | none => rw [hq] at hx; cases hx
      | some a =>
        rw [hq] at hx
        cases hx
        rw [hc] at hy
        have hj : j = 0 ∧ y = p a := by
          cases j with
          | zero => simp at hy; exact ⟨rfl, hy.symm⟩
          | succ j => simp at hy
        rw [hj.2]
        exact hp a)
  simpa using key

theorem rd_ints {w : World} {v : Value} {l : List Int}
    (h : ∃ A c, v = .slice A l.length c ∧ l.length ≤ c ∧ c ≤ maxLen ∧ (A = none → c = 0) ∧
      (0 < l.length → ∃ b off, A = some ⟨b, off, none⟩ ∧ b < w.heap.size ∧ ∀ k u, (l.map (Value.int .i64))[k]? = some u → w.cell? ⟨b, off + k, none⟩ = some u)) :
    Rd0 w (all w) v (.lst false (l.map (PV.int .i64))) := rd_sl (fun a => .int _ _) (fun _ => rfl) (fun _ => rfl) h

theorem ints_map (l : List Int) : Ints (l.map (PV.int .i64)) := fun e he => by
  obtain ⟨a, _, rfl⟩ := List.mem_map.1 he
  exact ⟨a, rfl⟩

theorem Ints.snoc {L : List PV} (h : Ints L) (x : Int) : Ints (L ++ [.int .i64 x]) := fun e he => by
  rcases List.mem_append.1 he with he | he
  · exact h e he
  · cases List.mem_singleton.1 he
    exact ⟨x, rfl⟩

theorem rd_agg {w : World} {imm : Nat → Nat → Prop} {vs : List Value} {cs : List PV} (hsc : cs.all PV.sc = true) (h : RdLL w imm vs cs) : Rd0 w imm (.agg vs.toArray) (.agg cs) := by
  obtain ⟨k1, k2⟩ := h.spec
  exact .agg _ cs hsc (by simpa using k1) fun i v c hv hc => k2 i v c (by simpa using hv) hc

theorem flat_at {α β : Type} {f : α → List β} {s : Nat} (hf : ∀ a, (f a).length = s) : ∀ (l : List α) (k : Nat), k < l.length → ∀ j, j < s → (l.flatMap f)[k * s + j]? = ((l[k]?).map f).bind (fun r => r[j]?)
  | [], k, hk, _, _ => absurd hk (Nat.not_lt_zero _)
  | a :: l, 0, _, j, hj => by
    rw [List.flatMap_cons, Nat.zero_mul, Nat.zero_add, List.getElem?_append_left (by rw [hf]; exact hj)]; rfl
  | a :: l, k + 1, hk, j, hj => by
    have hk' : k < l.length := by simpa using hk
    rw [List.flatMap_cons, List.getElem?_append_right (by rw [hf, Nat.succ_mul]; omega), hf, Nat.succ_mul, show k * s + s + j - s = k * s + j from by omega, flat_at hf l k hk' j hj]
    rfl

/-- A slice of things of more cells. -/
theorem rd_ss {α : Type} {w : World} {s : Nat} {f : α → List Value} {p : α → PV} {v : Value} {l : List α} (hel : ∀ a, (p a).el = true) (hpl : ∀ a, (p a).cells.length = s)
    (hr : ∀ a (j : Nat) y, (p a).cells[j]? = some y → ∃ u, (f a)[j]? = some u ∧ Rd0 w (all w) u y)
    (h : (∀ a, (f a).length = s) ∧ ∃ A c, v = .slice A l.length c ∧ l.length ≤ c ∧ c ≤ maxLen ∧ (A = none → c = 0) ∧
      (0 < l.length → ∃ b off, A = some ⟨b, off, none⟩ ∧ b < w.heap.size ∧ ∀ k u, (l.flatMap f)[k]? = some u → w.cell? ⟨b, off + k, none⟩ = some u)) :
    Rd0 w (all w) v (.lst false (l.map p)) := by
  obtain ⟨hf, A, c, rfl, h1, h2, h3, h4⟩ := h
  have one : ∀ (i : Nat) x (j : Nat) y, (l.map p)[i]? = some x → x.cells[j]? = some y → ∃ a, l[i]? = some a ∧ x = p a := by
    intro i x j y hx hy
    rw [List.getElem?_map] at hx
    cases hq : l[i]? with
    | none => rw [hq] at hx; cases hx
    | some a => rw [hq] at hx; cases hx; exact ⟨a, rfl, rfl⟩
  have key := Rd0.lst (w := w) (imm := all w) A c s false (l.map p) (fun i j => (((l[i]?).map f).bind (fun r => r[j]?)).getD undef) (by simpa using h1) (fun q => by cases q) h3
    (fun x hx => by
      obtain ⟨a, _, rfl⟩ := List.mem_map.1 hx
      exact ⟨hel a, hpl a⟩)
    (fun hl => by
      obtain ⟨b, off, k1, k2, k3⟩ := h4 (by simpa using hl)
      refine ⟨b, off, k1, fun i x j y hx hy => ⟨k2, ?_⟩⟩
      obtain ⟨a, ha, rfl⟩ := one i x j y hx hy
      obtain ⟨u, hu, _⟩ := hr a j y hy
      have hi : i < l.length := (List.getElem?_eq_some_iff.1 ha).1
      have hj : j < s := by rw [← hpl a]; exact (List.getElem?_eq_some_iff.1 hy).1
      have := k3 (i * s + j) u (by rw [flat_at hf l i hi j hj, ha]; exact hu)
      rw [Nat.add_assoc]
      simpa [ha, hu] using this)
    (fun i x j y hx hy => by
      obtain ⟨a, ha, rfl⟩ := one i x j y hx hy
      obtain ⟨u, hu, hrd⟩ := hr a j y hy
      simpa [ha, hu] using hrd)
  simpa using key

theorem wf_u8 {n : Int} (h : (Lit.int .u8 n).wf = true) : 0 ≤ n ∧ n < 256 := by
  have e1 : IntKind.u8.min = 0 := by decide
  have e2 : IntKind.u8.max = 255 := by decide
  simp [Lit.wf, e1, e2] at h
  omega
theorem wf_i64 {n : Int} (h : (Lit.int .i64 n).wf = true) : -9223372036854775808 ≤ n ∧ n ≤ 9223372036854775807 := by
  have e1 : IntKind.i64.min = -9223372036854775808 := by decide
  have e2 : IntKind.i64.max = 9223372036854775807 := by decide
  simp [Lit.wf, e1, e2] at h
  omega
end Go.Pw
