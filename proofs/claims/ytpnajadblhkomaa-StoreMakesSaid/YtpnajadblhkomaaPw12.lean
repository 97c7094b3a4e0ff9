/-
  Whatever an operation of the state does, the operation of the program does (VII): slices of slices, copies, lengths.
-/
import Derived.Test.YtpnajadblhkomaaPw11
namespace Go.Pw
open Go.RowKit
set_option linter.unusedVariables false

section
variable {X : Ctx} {g : Gh} {st : St} {a : Act} {w : World} {n : Nat} {K : Act → World → Prop} {Q : Exit → Act → World → Prop} {ρ : Option Nat} {P : Program}

theorem Bnd.val (h : Sim X g st a w) {x : Option Operand} {d m : Nat} (hb : Bnd (evP st.env) x d m) : (x.map a.eval = none ∧ m = d) ∨ ∃ k, x.map a.eval = some (.int k m) := by
  cases x with
  | none => exact .inl ⟨rfl, hb⟩
  | some y =>
    obtain ⟨k, hk⟩ := hb
    have := h.eval y
    rw [hk] at this
    exact .inr ⟨k, by simp [this.int_inv]⟩

theorem run_sliceBound {k : IntKind} {i y : Nat} {code : BoundsCode} (h : i ≤ y) : (Instr.sliceBound (.int k i) y code).run P w = .ok i w := by
  simp only [Instr.sliceBound, asIntOf, Sem.run_bind, Sem.run_pure, Result.andThen_ok]
  rw [if_pos ⟨by omega, by omega⟩]
  rfl

theorem run_sliceBounds (h : Sim X g st a w) {lo hi mx : Option Operand} {len cap i j k : Nat} (hlo : Bnd (evP st.env) lo 0 i) (hhi : Bnd (evP st.env) hi len j) (hmx : Bnd (evP st.env) mx cap k)
    (hmh : mx.isSome = true → hi.isSome = true) (hij : i ≤ j) (hjk : j ≤ k) (hk : k ≤ cap) :
    (Instr.sliceBounds true len cap (lo.map a.eval) (hi.map a.eval) (mx.map a.eval)).run P w = .ok (i, j, k) w := by
  rcases Bnd.val h hlo with ⟨e1, e1'⟩ | ⟨k1, e1⟩ <;> rcases Bnd.val h hhi with ⟨e2, e2'⟩ | ⟨k2, e2⟩ <;> rcases Bnd.val h hmx with ⟨e3, e3'⟩ | ⟨k3, e3⟩ <;> rw [e1, e2, e3] <;>
    first
      | (exfalso
         have h1 : mx.isSome = true := by cases mx <;> simp_all
         have h2 := hmh h1
         cases hi <;> simp_all
         done)
      | (simp only [Instr.sliceBounds, Sem.run_bind, Sem.run_pure, Result.andThen_ok, run_sliceBound, hij, hjk, hk]
         try subst e1'
         try subst e2'
         try subst e3'
         try simp only [run_sliceBound, hij, hjk, Result.andThen_ok]
         try rfl)

theorem run_slice' (h : Sim X g st a w) {T E : TypeId} {z : Nat} {A : Option Addr} {lo hi mx : Option Operand} {len cap i j k : Nat} (hE : telem P T = some E) (hz : tsize P E = some z)
    (hlo : Bnd (evP st.env) lo 0 i) (hhi : Bnd (evP st.env) hi len j) (hmx : Bnd (evP st.env) mx cap k)
    (hmh : mx.isSome = true → hi.isSome = true) (hij : i ≤ j) (hjk : j ≤ k) (hk : k ≤ cap) :
    (Instr.sliceAt T (.slice A len cap) (lo.map a.eval) (hi.map a.eval) (mx.map a.eval)).run P w = .ok (.slice (if k = i then A else A.map (·.add (i * z))) (j - i) (k - i)) w := by
  have hu := telem_inv hE
  have hb := run_sliceBounds (P := P) h hlo hhi hmx hmh hij hjk hk
  simp only [Instr.sliceAt, Instr.slice, Sem.run_bind, run_underlying hu, Result.andThen_ok, hb, run_sizeOf' hz]
  rfl

theorem take_drop_get {α : Type} {xs : List α} {i j p : Nat} {x : α} (h : ((xs.take j).drop i)[p]? = some x) : i + p < j ∧ xs[i + p]? = some x := by
  rw [List.getElem?_drop] at h
  have := lt_of_get h
  simp at this
  rw [List.getElem?_take_of_lt (by omega)] at h
  exact ⟨by omega, h⟩

theorem op_sliceL {o : Oper} {T E : TypeId} {z : Nat} {x : Operand} {lo hi mx : Option Operand} {t : Bool} {xs : List PV} {i j k : Nat} (h : Sim X g st a w) (ho : o.op = .slice T x lo hi mx)
    (hx : evP st.env x = .lst t xs) (hE : telem X.P T = some E) (hz : tsize X.P E = some z) (hel : ∀ e ∈ xs, e.cells.length = z) (hlo : Bnd (evP st.env) lo 0 i) (hhi : Bnd (evP st.env) hi xs.length j)
    (hmx : Bnd (evP st.env) mx xs.length k) (hmh : mx.isSome = true → hi.isSome = true) (hij : i ≤ j) (hjk : j ≤ k) (hk : k ≤ xs.length) :
    ∃ u, (execOp a.eval o).run X.P w = .ok (.value u) w ∧ Rd w g.imm g.μ st.pres u (.lst (if mx.isSome then decide (j = k) else t && decide (j = xs.length)) ((xs.take j).drop i)) := by
  have hv := h.eval x
  rw [hx] at hv
  obtain ⟨A, c, z', u, e, h1, h2, h3, h4, h5, h6⟩ := hv.lst_inv
  -- the third bound, as it is
  obtain ⟨m, hm, hjm, hmc, hmt⟩ : ∃ m, Bnd (evP st.env) mx c m ∧ j ≤ m ∧ m ≤ c ∧ ((if mx.isSome then decide (j = k) else t && decide (j = xs.length)) = true → m = j) := by
    cases mx with
    | none =>
      refine ⟨c, rfl, by omega, Nat.le_refl _, fun q => ?_⟩
      simp at q
      have := h2 q.1
      omega
    | some y => exact ⟨k, hmx, hjk, by omega, fun q => by simp at q; omega⟩
  have hr := run_slice' (P := X.P) h (A := A) hE hz hlo hhi hm hmh hij hjm hmc
  have hlen : ((xs.take j).drop i).length = j - i := by simp; omega
  refine ⟨.slice (if m = i then A else A.map (·.add (i * z))) (j - i) (m - i), ?_, ?_⟩
  · obtain ⟨dst, op, ty, pos, after, guard⟩ := o
    simp only at ho
    subst ho
    simp only [execOp, e]
    exact run_v hr
  · rw [← hlen]
    refine .cl (.lst _ _ z _ _ (fun p q => u (i + p) q) (by omega) (fun q => by have := hmt q; omega) (fun q => ?_) (fun x' hx' => ?_) (fun h0 => ?_) (fun p x' q y hx' hy => ?_))
    · have : A = none := by
        split at q
        · exact q
        · cases A
          · rfl
          · cases q
      have := h3 this
      omega
    · have := List.mem_of_mem_take (List.mem_of_mem_drop hx')
      exact ⟨(h4 x' this).1, hel x' this⟩
    · have hne : ¬ m = i := by omega
      obtain ⟨b, s, rfl, h7⟩ := h5 (by omega)
      rw [if_neg hne]
      refine ⟨b, s + i * z, by simp [addr_add], fun p x' q y hx' hy => ?_⟩
      obtain ⟨_, hg⟩ := take_drop_get hx'
      have hmem := List.mem_of_getElem? hg
      have : z' = z := by rw [← (h4 x' hmem).2, hel x' hmem]
      subst this
      have := h7 (i + p) x' q y hg hy
      rw [Nat.add_mul, ← Nat.add_assoc s] at this
      exact this
    · exact h6 _ _ _ _ (take_drop_get hx').2 hy

theorem op_sliceR {o : Oper} {T E : TypeId} {z : Nat} {x : Operand} {lo : Option Operand} {s l i : Nat} {r : Row} (h : Sim X g st a w) (ho : o.op = .slice T x lo none none) (hdst : ∀ t, o.dst = some t → t < X.N) (hlm : l < MB) (hl : st.σ l = none)
    (hx : evP st.env x = .sl s) (hs : st.σ s = some r) (hop : r.opn = true) (hE : telem X.P T = some E) (hz : tsize X.P E = some z) (hrz : r.z = z) (hlo : Bnd (evP st.env) lo 0 i) (hi : i ≤ r.els.length)
    (hK : ∀ g' a' w', Sim X g' ⟨putE st.env o.dst (.sl l), (Eff.app s l ⟨r.els.drop i, r.els.length - i, true, z, r.cl⟩).apply st.σ⟩ a' w' → K a' w') : o.wpIn (FX ρ) n X.P a w K Q := by
  have hsl : s ≠ l := fun q => by rw [q, hl] at hs; cases hs
  simp only [Eff.apply, hs] at hK
  have hv := h.eval x
  rw [hx] at hv
  obtain ⟨hp, e⟩ := hv.sl_inv
  have hR := h.rows s r hs
  have hn := hR.n
  have hC := hR.C
  have hmz : (g.μ s).z = z := by rw [hR.z, hrz]
  have hr := run_slice' (P := X.P) (mx := none) (hi := none) h (A := (g.μ s).A) (len := (g.μ s).n) (cap := (g.μ s).C) (j := (g.μ s).n) (k := (g.μ s).C) hE hz hlo rfl rfl (fun q => by cases q) (by omega) hC (Nat.le_refl _)
  have hF := h.frz hs r.els.length (by have := hR.lo; omega) (Nat.le_refl _) false (fun q => by cases q)
  have hFl : upd st.σ s (some { r with lo := r.els.length, opn := false }) l = none := by rw [upd_other _ _ (Ne.symm hsl)]; exact hl
  have hRF := hF.rows s { r with lo := r.els.length, opn := false } (upd_same _ _ _)
  generalize hA' : (if (g.μ s).C = i then (g.μ s).A else (g.μ s).A.map (·.add (i * z))) = A' at hr
  have hAt : ∀ b s', A' = some ⟨b, s', none⟩ → i < (g.μ s).C → ∃ s0, (g.μ s).A = some ⟨b, s0, none⟩ ∧ s' = s0 + i * z := by
    intro b s' q hlt
    obtain ⟨b0, s0, hA⟩ := hR.spot (by omega)
    rw [← hA', if_neg (by omega), hA] at q
    simp only [Option.map_some, Option.some.injEq, addr_add, Addr.mk.injEq] at q
    exact ⟨s0, by rw [hA, q.1], q.2.1.symm⟩
  have hown : ∀ b o', OwnR ⟨A', (g.μ s).n - i, (g.μ s).C - i, z⟩ ⟨r.els.drop i, r.els.length - i, true, z, r.cl⟩ b o' → OwnR (g.μ s) r b o' ∧ ∃ s0, (g.μ s).A = some ⟨b, s0, none⟩ ∧ s0 + r.els.length * z ≤ o' := by
    rintro b o' ⟨s', hA, q1, q2⟩
    simp only [if_true] at q1 q2
    have hlt : i < (g.μ s).C := by
      rcases Nat.lt_or_ge i (g.μ s).C with q | q
      · exact q
      · have : (g.μ s).C - i = 0 := by omega
        rw [this] at q2
        omega
    obtain ⟨s0, h0, rfl⟩ := hAt b s' hA hlt
    have e1 : (r.els.length - i) * z = r.els.length * z - i * z := Nat.sub_mul _ _ _
    have e2 : i * z ≤ r.els.length * z := Nat.mul_le_mul_right _ hi
    have e3 : ((g.μ s).C - i) * z = (g.μ s).C * z - i * z := Nat.sub_mul _ _ _
    have e4 : i * z ≤ (g.μ s).C * z := Nat.mul_le_mul_right _ (by omega)
    have e5 : r.lo * z ≤ r.els.length * z := Nat.mul_le_mul_right _ (by have := hR.lo; omega)
    refine ⟨⟨s0, h0, ?_, ?_⟩, s0, h0, by omega⟩
    · rw [hmz]; omega
    · rw [hop, if_pos rfl, hmz]; omega
  have hN := hF.row (l := l) (m := ⟨A', (g.μ s).n - i, (g.μ s).C - i, z⟩) (r := ⟨r.els.drop i, r.els.length - i, true, z, r.cl⟩) hlm hFl
    ⟨by simp [hn], rfl, by simp only; omega, by simp only; omega, fun e he => by rw [← hrz]; exact hR.el e (List.mem_of_mem_drop he), fun q => ?_, fun q => ?_, fun p x' q y hx' hy => ?_, fun b o' q => hR.own b o' (hown b o' q).1⟩
    (fun l' r' b o' q ho' k => ?_) (fun b o' q k => ?_)
  · refine wpIn_value (fun c => by rw [ho]; simp) ?_ (hK _ _ _ (hN.put hdst (sl_new (l := l) (m := ⟨A', (g.μ s).n - i, (g.μ s).C - i, z⟩) ⟨_, upd_same _ _ _⟩ (upd_same _ _ _))))
    obtain ⟨dst, op, ty, pos, after, guard⟩ := o
    simp only at ho
    subst ho
    simp only [execOp, e]
    exact run_v hr
  · simp only at q ⊢
    have hAn : (g.μ s).A = none := by
      rw [← hA'] at q
      split at q
      · exact q
      · cases hA : (g.μ s).A
        · rfl
        · rw [hA] at q; cases q
    have := hR.nil hAn
    omega
  · simp only at q ⊢
    obtain ⟨b0, s0, hA⟩ := hR.spot (by omega)
    rw [← hA', if_neg (by omega), hA]
    exact ⟨b0, s0 + i * z, by simp [addr_add]⟩
  · simp only at hx' ⊢
    rw [List.getElem?_drop] at hx'
    have hlt := lt_of_get hx'
    obtain ⟨b, s0, u, k1, k2, k3, k4, k5⟩ := hRF.cell (i + p) x' q y hx' hy
    simp only at k1 k2 k4 k5
    rw [hmz, Nat.add_mul, ← Nat.add_assoc s0] at k2 k4
    refine ⟨b, s0 + i * z, u, ?_, k2, k3, fun _ => k4 hlt, k5⟩
    rw [← hA', if_neg (by omega), k1]
    simp [addr_add]
  · obtain ⟨k1, s0, h0, k2⟩ := hown b o' k
    by_cases el : l' = s
    · subst el
      simp only [upd_same] at q
      cases q
      obtain ⟨s2, hA2, m1, m2⟩ := ho'
      simp only [Bool.false_eq_true, if_false] at m1 m2
      rw [hn] at m2
      omega
    · simp only [upd_other _ _ el] at q
      exact h.disj l' s r' r el q hs b o' ho' k1
  · obtain ⟨k1, s0, h0, k2⟩ := hown b o' q
    rcases k with k | ⟨r2, s2, hr2, _, hA2, k3⟩
    · exact h.ownimm s r b o' hs k1 k
    · rw [h0] at hA2
      cases hA2
      rw [hmz] at k3
      omega

theorem op_sliceF {o : Oper} {T E : TypeId} {z : Nat} {x : Operand} {lo hi : Option Operand} {s i j : Nat} {r : Row} (h : Sim X g st a w) (ho : o.op = .slice T x lo hi none) (hdst : ∀ t, o.dst = some t → t < X.N)
    (hx : evP st.env x = .sl s) (hs : st.σ s = some r) (hcl : r.cl = true) (hE : telem X.P T = some E) (hz : tsize X.P E = some z) (hrz : r.z = z) (hlo : Bnd (evP st.env) lo 0 i) (hhi : Bnd (evP st.env) hi r.els.length j) (hij : i ≤ j) (hj : j ≤ r.els.length)
    (hK : ∀ g' a' w', Sim X g' ⟨putE st.env o.dst (.lst false ((r.els.take j).drop i)), (Eff.frz [s]).apply st.σ⟩ a' w' → K a' w') : o.wpIn (FX ρ) n X.P a w K Q := by
  have hv := h.eval x
  rw [hx] at hv
  obtain ⟨hp, e⟩ := hv.sl_inv
  have hR := h.rows s r hs
  have hn := hR.n
  have hC := hR.C
  have hmz : (g.μ s).z = z := by rw [hR.z, hrz]
  have hr := run_slice' (P := X.P) (mx := none) h (A := (g.μ s).A) (len := (g.μ s).n) (cap := (g.μ s).C) (k := (g.μ s).C) hE hz hlo (by rw [hn]; exact hhi) rfl (fun q => by cases q) hij (by omega) (Nat.le_refl _)
  obtain ⟨imm', hF, hX, hSh⟩ := h.frzL [s]
  have hsh := hSh s (by simp) r hs
  have hlen : ((r.els.take j).drop i).length = j - i := by simp; omega
  refine wpIn_value (fun c => by rw [ho]; simp) (v := .slice (if (g.μ s).C = i then (g.μ s).A else (g.μ s).A.map (·.add (i * z))) (j - i) ((g.μ s).C - i)) (w' := w) ?_ (hK _ _ _ (hF.put hdst ?_))
  · obtain ⟨dst, op, ty, pos, after, guard⟩ := o
    simp only at ho
    subst ho
    simp only [execOp, e]
    exact run_v hr
  · rw [← hlen]
    have hcell : ∀ (p : Nat) x' (q : Nat) y b s0, ((r.els.take j).drop i)[p]? = some x' → x'.cells[q]? = some y → (g.μ s).A = some ⟨b, s0, none⟩ →
        imm' b (s0 + i * z + p * z + q) ∧ ∃ u, w.cell? ⟨b, s0 + i * z + p * z + q, none⟩ = some u ∧ Rd0 w imm' u y := by
      intro p x' q y b s0 hx' hy hA
      obtain ⟨_, hg⟩ := take_drop_get hx'
      obtain ⟨u, k1, _, k3⟩ := h.cell_of hs hg hy hA
      have k4 := hsh (i + p) x' q y b s0 hg hy hA
      rw [hmz, Nat.add_mul, ← Nat.add_assoc s0] at k1 k4
      exact ⟨k4, u, k1, (k3 hcl).mono hX⟩
    refine .cl (.lst _ _ z _ _ (fun p q => match (g.μ s).A with | some ⟨b, s0, _⟩ => (w.cell? ⟨b, s0 + i * z + p * z + q, none⟩).getD undef | none => undef) (by omega) (fun q => by cases q) (fun q => ?_) (fun x' hx' => ?_) (fun h0 => ?_) (fun p x' q y hx' hy => ?_))
    · have hAn : (g.μ s).A = none := by
        split at q
        · exact q
        · cases hA : (g.μ s).A
          · rfl
          · rw [hA] at q; cases q
      have := hR.nil hAn
      omega
    · rw [← hrz]
      exact hR.el x' (List.mem_of_mem_take (List.mem_of_mem_drop hx'))
    · obtain ⟨b, s0, hA⟩ := hR.spot (by omega)
      refine ⟨b, s0 + i * z, by rw [if_neg (by omega), hA]; simp [addr_add], fun p x' q y hx' hy => ?_⟩
      obtain ⟨k1, u, k2, _⟩ := hcell p x' q y b s0 hx' hy hA
      refine ⟨k1, ?_⟩
      rw [hA]
      simp only [k2, Option.getD_some]
    · have h0 := lt_of_get hx'
      obtain ⟨b, s0, hA⟩ := hR.spot (by omega)
      obtain ⟨k1, u, k2, k3⟩ := hcell p x' q y b s0 hx' hy hA
      rw [hA]
      simp only [k2, Option.getD_some]
      exact k3

end
end Go.Pw
