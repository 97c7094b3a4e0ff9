/-
  Whatever an operation of the state does, the operation of the program does (IV): append.
-/
import Derived.Test.YtpnajadblhkomaaPw8
namespace Go.Pw
open Go.RowKit
set_option linter.unusedVariables false

section
variable {X : Ctx} {g : Gh} {st : St} {a : Act} {w : World} {n : Nat} {K : Act → World → Prop} {Q : Exit → Act → World → Prop} {ρ : Option Nat} {P : Program}

theorem info_of {T : TypeId} {z b : Nat} {v : Value} (h1 : tsize P T = some z) (h2 : tbytes P T = some b) (h3 : tzero P T = some v) :
    ∃ i, P.info? T = some i ∧ i.size = z ∧ i.bytes = b ∧ i.zero = some v := by
  unfold tsize at h1
  unfold tbytes at h2
  unfold tzero at h3
  cases hi : P.info? T with
  | none => rw [hi] at h1; cases h1
  | some i => rw [hi] at h1 h2 h3; exact ⟨i, rfl, by simpa using h1, by simpa using h2, by simpa using h3⟩

/-- Nothing is appended. -/
theorem run_append_0 {T E : TypeId} {ty : TypeId} {z nS C c : Nat} {base B : Option Addr} (hE : telem P T = some E) (hz : tsize P E = some z) (hC : nS ≤ C) :
    (Builtin.append_ #[T, T] ty #[.slice base nS C, .slice B 0 c]).run P w = .ok (.slice base nS C) w := by
  have hu := telem_inv hE
  unfold tsize at hz
  cases hi : P.info? E with
  | none => rw [hi] at hz; cases hz
  | some i =>
    cases B <;> cases base <;> simp [Builtin.append_, run_underlying hu, sizeOf, typeInfo, hi, Builtin.lenOf, hC, Builtin.firstCells, loadCells, loadCellsFrom, storeCells]

/-- There is room. -/
theorem run_append_room' {T E : TypeId} {ty : TypeId} {z nS C m c b s : Nat} {B : Addr} {vals : List Value} (hE : telem P T = some E) (hz : tsize P E = some z) (hC : nS + m ≤ C)
    (hl : vals.length = m * z) (hv : ∀ (j : Nat) u, vals[j]? = some u → w.cell? (B.add j) = some u) (h1 : ∀ u ∈ vals, one u = true)
    (hc : ∀ j, j < vals.length → (w.cell? ⟨b, s + nS * z + j, none⟩).isSome = true ∧ w.frozen? ⟨b, s + nS * z + j, none⟩ = false) :
    (Builtin.append_ #[T, T] ty #[.slice (some ⟨b, s, none⟩) nS C, .slice (some B) m c]).run P w = .ok (.slice (some ⟨b, s, none⟩) (nS + m) C) (w.setCells b (s + nS * z) vals) := by
  have hu := telem_inv hE
  unfold tsize at hz
  cases hi : P.info? E with
  | none => rw [hi] at hz; cases hz
  | some i =>
    rw [hi] at hz
    have hz' : i.size = z := by simpa using hz
    subst hz'
    have hf := run_firstCells_some (P := P) w i.size m B m c vals hl hv
    have hst := run_storeCells_cells (P := P) b (s + nS * i.size) vals 0 w (fun j hj => by simpa using (hc j hj).1) (fun j hj => by simpa using (hc j hj).2) (fun u hu => by rw [← one_eq]; exact h1 u hu)
    simp only [Nat.add_zero] at hst
    simp [Builtin.append_, run_underlying hu, sizeOf, typeInfo, hi, Builtin.lenOf, hC, hf, addr_add, hst]


theorem upd_upd {α : Type} (f : Nat → α) (k : Nat) (x y : α) : upd (upd f k x) k y = upd f k y := by
  funext i
  unfold upd
  split <;> rfl

theorem le_grownCap (w : World) (need old : Nat) (e : TypeId) : need ≤ grownCap w need old e := by
  simp only [grownCap, Question.cut]
  omega

/-- There is no room: a new block. -/
theorem run_append_big {T E : TypeId} {ty : TypeId} {z nS C m c by_ : Nat} {A : Option Addr} {B : Addr} {olds vals : List Value} {zv : Value} (hE : telem P T = some E) (hz : tsize P E = some z) (hb : tbytes P E = some by_)
    (hzv : tzero P E = some zv) (hzz : zv.cells.size = z) (hC : C < nS + m) (hnS : nS ≤ C) (hnil : A = none → C = 0)
    (hlo : olds.length = nS * z) (ho : 0 < nS → ∃ b s, A = some ⟨b, s, none⟩ ∧ ∀ (j : Nat) u, olds[j]? = some u → w.cell? ⟨b, s + j, none⟩ = some u)
    (hl : vals.length = m * z) (hv : ∀ (j : Nat) u, vals[j]? = some u → w.cell? (B.add j) = some u) (hfit : (nS + m) * by_ ≤ 140737488355328) (h63 : nS + m ≤ 9223372036854775807) :
    ∃ C' cs, (Builtin.append_ #[T, T] ty #[.slice A nS C, .slice (some B) m c]).run P w = .ok (.slice (some ⟨w.heap.size, 0, none⟩) (nS + m) C') (w.drew.alloc (.cells cs E)) ∧
      nS + m ≤ C' ∧ cs.size = C' * z ∧ ∃ rest, cs.toList = olds ++ vals ++ rest := by
  have hu := telem_inv hE
  obtain ⟨i, hi, rfl, rfl, hiz⟩ := info_of hz hb hzv
  have hm : 0 < m := by omega
  cases A with
  | none =>
    have h0 := hnil rfl
    subst h0
    obtain rfl : nS = 0 := by omega
    have : olds = [] := by cases olds <;> simp_all
    subst this
    simp only [Nat.zero_add] at hfit h63 hC ⊢
    have := run_append_nil (P := P) w T ty E i zv hu hi hiz B m c vals hl hv hm (by omega) (by omega)
    refine ⟨_, _, this, le_grownCap _ _ _ _, ?_, ?_⟩
    · simp only [Array.size_append, size_zeroCells, List.size_toArray, hl, hzz]
      rw [← Nat.add_mul]
      congr 1
      have := le_grownCap w m 0 E
      omega
    · exact ⟨(Builtin.zeroCells zv.cells (grownCap w m 0 E - m)).toList, by rw [Array.toList_append]; simp⟩
  | some a0 =>
    have hoc : ∀ (j : Nat) u, olds[j]? = some u → w.cell? (a0.add j) = some u := by
      intro j u hj
      have h0 : 0 < nS := by
        rcases Nat.eq_zero_or_pos nS with q | q
        · subst q
          have := lt_of_get hj
          omega
        · exact q
      obtain ⟨b, s, hA, h2⟩ := ho h0
      cases hA
      rw [addr_add]
      exact h2 j u hj
    have := run_append_grow (P := P) w T ty E i zv hu hi hiz a0 nS C olds hlo hoc B m c vals hl hv hC (by omega) (growslice_fits hC hfit)
    refine ⟨_, _, this, le_grownCap _ _ _ _, ?_, ?_⟩
    · simp only [Array.size_append, size_zeroCells, List.size_toArray, hl, hlo, hzz]
      rw [← Nat.add_mul, ← Nat.add_mul]
      congr 1
      have := le_grownCap w (nS + m) C E
      omega
    · exact ⟨(Builtin.zeroCells zv.cells (grownCap w (nS + m) C E - (nS + m))).toList, by rw [Array.toList_append, Array.toList_append]⟩

/-- The new block is a row. -/
theorem Sim.grown (h : Sim X g st a w) {l : Nat} {xs ys : List PV} {C z : Nat} {cl : Bool} {E : TypeId} {cs : Array Value} {olds vals rest : List Value} (hlm : l < MB) (hl : st.σ l = none)
    (hC : (xs ++ ys).length ≤ C) (hcs : cs.size = C * z) (hrest : cs.toList = olds ++ vals ++ rest) (hel : ∀ x ∈ xs ++ ys, x.el = true ∧ x.cells.length = z)
    (hA : olds.length = xs.length * z) (hB : vals.length = ys.length * z)
    (ha : ∀ (i : Nat) x (j : Nat) y u, xs[i]? = some x → x.cells[j]? = some y → olds[i * z + j]? = some u → Rd w g.imm g.μ st.pres u y ∧ (cl = true → Rd0 w g.imm u y))
    (hb : ∀ (i : Nat) x (j : Nat) y u, ys[i]? = some x → x.cells[j]? = some y → vals[i * z + j]? = some u → Rd w g.imm g.μ st.pres u y ∧ (cl = true → Rd0 w g.imm u y)) :
    ∃ g', Sim X g' ⟨st.env, upd st.σ l (some ⟨xs ++ ys, xs.length, true, z, cl⟩)⟩ a (w.drew.alloc (.cells cs E)) ∧ g'.μ l = ⟨some ⟨w.heap.size, 0, none⟩, (xs ++ ys).length, C, z⟩ := by
  have h1 := h.drew.rowNew (l := l) (els := xs ++ ys) (T := E) (C := C) (z := z) (opn := true) (cl := cl) cs hlm hl hC hcs hel (fun i x j y u hx hy hu => by
    have hu' : (olds ++ vals ++ rest)[i * z + j]? = some u := by rw [← hrest]; simpa using hu
    have := join_reads (R := fun u y => Rd w g.imm g.μ st.pres u y ∧ (cl = true → Rd0 w g.imm u y)) hA (fun x hx => (hel x hx).2) ha hb rest hB i x j y u hx hy hu'
    have hx0 : Ext w g.imm w.drew g.imm := ⟨fun _ _ q => q, fun _ _ _ => rfl, fun _ _ _ _ q _ => q⟩
    exact ⟨this.1.mono hx0 fun _ q => ⟨q, rfl⟩, fun q => (this.2 q).mono hx0⟩)
  have h2 := h1.frz (l := l) (upd_same _ _ _) xs.length (Nat.zero_le _) (by simp) true (fun _ => rfl)
  simp only [upd_upd] at h2
  exact ⟨_, h2, upd_same _ _ _⟩

end
end Go.Pw
