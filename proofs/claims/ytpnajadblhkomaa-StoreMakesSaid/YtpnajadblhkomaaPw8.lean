/-
  Whatever an operation of the state does, the operation of the program does (III): new memory.
-/
import Derived.Test.YtpnajadblhkomaaPw7
import Derived.Laws.AppendOwn
namespace Go.Pw
open Go.RowKit
set_option linter.unusedVariables false

section
variable {X : Ctx} {g : Gh} {st : St} {a : Act} {w : World} {n : Nat} {K : Act → World → Prop} {Q : Exit → Act → World → Prop} {ρ : Option Nat}

theorem ptr_new {w' : World} {imm : Nat → Nat → Prop} {μ : Nat → RLoc} {pres : Nat → Prop} {l b n C z : Nat} (hp : pres l) (hμ : μ l = ⟨some ⟨b, 0, none⟩, n, C, z⟩) :
    Rd w' imm μ pres (.pointer (some ⟨b, 0, none⟩)) (.ptr l 0 0) := by
  have := Rd.ptr (w := w') (imm := imm) (μ := μ) (pres := pres) l 0 0 b 0 hp (by rw [hμ])
  simpa using this

theorem sl_new {w' : World} {imm : Nat → Nat → Prop} {μ : Nat → RLoc} {pres : Nat → Prop} {l : Nat} {m : RLoc} (hp : pres l) (hμ : μ l = m) :
    Rd w' imm μ pres (.slice m.A m.n m.C) (.sl l) := by
  have := Rd.sl (w := w') (imm := imm) (μ := μ) (pres := pres) l hp
  rwa [hμ] at this

/-- A variable, with what it is given. -/
theorem Sim.var (h : Sim X g st a w) {l : Nat} {v : Value} {d : PV} {T : TypeId} {dst : Option Tmp} (hdst : ∀ t, dst = some t → t < X.N) (hlm : l < MB) (hl : st.σ l = none) (hv : Rd w g.imm g.μ st.pres v d) (hd : d.el = true) {cl : Bool} (hcl : cl = true → d.clo = true) :
    ∃ g', Sim X g' ⟨putE st.env dst (.ptr l 0 0), upd st.σ l (some ⟨[d], 0, false, d.cells.length, cl⟩)⟩ (a.put dst (.pointer (some ⟨w.heap.size, 0, none⟩))) (w.alloc (.cells v.cells T)) := by
  obtain ⟨hsz, hc⟩ := hv.cells hd
  have hclo : cl = true → ∀ (j : Nat) u y, v.cells[j]? = some u → d.cells[j]? = some y → Rd0 w g.imm u y := by
    intro q j u y hu hy
    have h0 := hv.clo (hcl q)
    exact ((Rd.cl h0 : Rd w g.imm g.μ (fun _ => False) v d).cells hd).2 j u y hu hy |>.clo (by
      have hm := List.mem_of_getElem? hy
      have hq := hcl q
      by_cases hs : d.sc = true
      · rw [PV.cells_of_sc hs] at hm
        simp at hm
        subst hm
        exact hq
      · cases d <;> first | (exact absurd rfl hs) | (exact absurd hd hs) | (exact absurd hm List.not_mem_nil) | skip
        rename_i cs
        simp only [PV.clo, List.all_eq_true] at hq
        have := hq y hm
        cases y <;> first | rfl | exact this | (simp [PV.clo1] at this) | skip
        all_goals simp_all [PV.clo, PV.clo1])
  have h1 := h.rowNew (l := l) (els := [d]) (T := T) (C := 1) (z := d.cells.length) (opn := false) (cl := cl) v.cells hlm hl (by simp) (by simp [hsz]) (by simp [hd])
    (fun i x j y u hx hy hu => by
      cases i with
      | zero =>
        simp at hx
        subst hx
        simp at hu
        exact ⟨hc j u y hu hy, fun q => hclo q j u y hu hy⟩
      | succ i => simp at hx)
  exact ⟨_, h1.put hdst (ptr_new (n := [d].length) (C := 1) (z := d.cells.length) ⟨_, upd_same _ _ _⟩ (upd_same _ _ _))⟩

theorem op_box {o : Oper} {T : TypeId} {x : Operand} (h : Sim X g st a w) (ho : o.op = .box T x) {l : Nat} (hdst : ∀ t, o.dst = some t → t < X.N) (hlm : l < MB) (hl : st.σ l = none) (hx : (evP st.env x).el = true)
    (hK : ∀ g' a' w', Sim X g' ⟨putE st.env o.dst (.ptr l 0 0), (Eff.new l ⟨[evP st.env x], 0, false, (evP st.env x).cells.length, (evP st.env x).clo⟩).apply st.σ⟩ a' w' → K a' w') : o.wpIn (FX ρ) n X.P a w K Q := by
  obtain ⟨g', h'⟩ := h.var (T := T) hdst hlm hl (h.eval x) hx (cl := (evP st.env x).clo) id
  refine wpIn_value (v := .pointer (some ⟨w.heap.size, 0, none⟩)) (w' := w.alloc (.cells (a.eval x).cells T)) (fun c => by rw [ho]; simp) ?_ (hK g' _ _ h')
  obtain ⟨dst, op, ty, pos, after, guard⟩ := o
  simp only at ho
  subst ho
  exact run_v rfl

theorem op_alloc {o : Oper} {T : TypeId} (h : Sim X g st a w) (ho : o.op = .alloc T) {l : Nat} {v : Value} (hdst : ∀ t, o.dst = some t → t < X.N) (hlm : l < MB) (hl : st.σ l = none) (hz : tzero X.P T = some v) (hx : (PV.ofV v).el = true)
    (hcl : (PV.ofV v).clo = true)
    (hK : ∀ g' a' w', Sim X g' ⟨putE st.env o.dst (.ptr l 0 0), (Eff.new l ⟨[PV.ofV v], 0, false, (PV.ofV v).cells.length, true⟩).apply st.σ⟩ a' w' → K a' w') : o.wpIn (FX ρ) n X.P a w K Q := by
  obtain ⟨g', h'⟩ := h.var (T := T) hdst hlm hl (.cl (rd_ofV w g.imm v)) hx (cl := true) (fun _ => hcl)
  refine wpIn_value (v := .pointer (some ⟨w.heap.size, 0, none⟩)) (w' := w.alloc (.cells v.cells T)) (fun c => by rw [ho]; simp) ?_ (hK g' _ _ h')
  obtain ⟨dst, op, ty, pos, after, guard⟩ := o
  simp only at ho
  subst ho
  refine run_v ?_
  simp only [Instr.alloc, Sem.run_bind, run_zero' hz, Result.andThen_ok]
  rfl

theorem ofV1_clo (v : Value) : (PV.ofV1 v).clo1 = true := by
  unfold PV.ofV1
  split <;> rfl

theorem ofV_clo (v : Value) : (PV.ofV v).clo = true := by
  unfold PV.ofV
  split
  · split
    · simp only [PV.clo, List.all_eq_true]
      intro y hy
      obtain ⟨u, _, rfl⟩ := List.mem_map.1 hy
      exact ofV1_clo u
    · rfl
  · split <;> rfl
  · unfold PV.ofV1
    split <;> rfl

theorem op_store {o : Oper} {T : TypeId} {x y : Operand} {l i f : Nat} (h : Sim X g st a w) (ho : o.op = .store T x y) (hdst : ∀ t, o.dst = some t → t < X.N) (hx : evP st.env x = .ptr l i f) {d : PV} (hd : evP st.env y = d ∨ (evP st.env y).w1 = d)
    (hy : d.el = true) (hs : tsize X.P T = some d.cells.length) (hpos : 0 < d.cells.length) (hok : (Eff.sto l i f d.cells).ok st.σ)
    (hK : ∀ g' a' w', Sim X g' ⟨putE st.env o.dst (.tup []), (Eff.sto l i f d.cells).apply st.σ⟩ a' w' → K a' w') : o.wpIn (FX ρ) n X.P a w K Q := by
  have hv := h.eval x
  rw [hx] at hv
  have hu : Rd w g.imm g.μ st.pres (a.eval y) d := by
    rcases hd with rfl | rfl
    · exact h.eval y
    · exact (h.eval y).w1
  obtain ⟨w', hr, h'⟩ := h.store hv hu hy hs hpos hok
  refine opIn_skip (w' := w') (fun c => by rw [ho]; simp) ?_ (hK g _ _ (h'.put hdst (.cl (.tup #[] [] rfl fun i v c _ hc => by simp at hc))))
  obtain ⟨dst, op, ty, pos, after, guard⟩ := o
  simp only at ho
  subst ho
  exact run_u hr


theorem divmod {i j z : Nat} (h : j < z) : (i * z + j) / z = i ∧ (i * z + j) % z = j := by
  constructor
  · rw [Nat.add_comm, Nat.add_mul_div_right _ _ (by omega), Nat.div_eq_of_lt h, Nat.zero_add]
  · rw [Nat.add_comm, Nat.add_mul_mod_self_right, Nat.mod_eq_of_lt h]

theorem Src.same {σ σF : Nat → Option Row} {d : PV} {ys : List PV} {cl : Bool} (hs : Same σ σF) (hp : ∀ l, d = .sl l → ∃ r0, σ l = some r0) (h : Src σF d ys cl) : Src σ d ys cl := by
  rcases h with h | ⟨l, r, h1, h2, h3, h4⟩
  · exact .inl h
  · obtain ⟨r0, k1, k2, k3, k4⟩ := hs.at (hp l h1) h2
    exact .inr ⟨l, r0, h1, k1, by rw [h3, k2], by rw [h4, k4]⟩

theorem Src.reads (h : Sim X g st a w) {v : Value} {d : PV} {ys : List PV} {cl : Bool} {z : Nat} (hv : Rd w g.imm g.μ st.pres v d) (hd : Src st.σ d ys cl) (hz : ∀ y ∈ ys, y.cells.length = z) :
    ∃ B c, ∃ vals : List Value, v = .slice B ys.length c ∧ (∀ x ∈ ys, x.el = true) ∧ vals.length = ys.length * z ∧
      (∀ (i : Nat) x (j : Nat) y u, ys[i]? = some x → x.cells[j]? = some y → vals[i * z + j]? = some u → Rd w g.imm g.μ st.pres u y ∧ (cl = true → Rd0 w g.imm u y)) ∧
      (∀ u ∈ vals, one u = true) ∧ (0 < ys.length → ∃ b s, B = some ⟨b, s, none⟩ ∧ ∀ (j : Nat) u, vals[j]? = some u → w.cell? ⟨b, s + j, none⟩ = some u) := by
  -- one form for both
  have key : ∃ B c, v = .slice B ys.length c ∧ (∀ x ∈ ys, x.el = true) ∧ (0 < ys.length → ∃ b s, B = some ⟨b, s, none⟩ ∧
      ∀ (i : Nat) x (j : Nat) y, ys[i]? = some x → x.cells[j]? = some y → ∃ u, w.cell? ⟨b, s + (i * z + j), none⟩ = some u ∧ Rd w g.imm g.μ st.pres u y ∧ (cl = true → Rd0 w g.imm u y)) := by
    rcases hd with ⟨t, rfl, rfl⟩ | ⟨l, r, rfl, h2, rfl, rfl⟩
    · obtain ⟨A, c, z', u, rfl, h1, h2, h3, h4, h5, h6⟩ := hv.lst_inv
      refine ⟨A, c, rfl, fun x hx => (h4 x hx).1, fun h0 => ?_⟩
      obtain ⟨b, s, hA, h7⟩ := h5 h0
      refine ⟨b, s, hA, fun i x j y hx hy => ?_⟩
      have hm := List.mem_of_getElem? hx
      have : z' = z := by rw [← (h4 x hm).2, hz x hm]
      subst this
      have := (h7 i x j y hx hy).2
      rw [Nat.add_assoc] at this
      exact ⟨_, this, .cl (h6 i x j y hx hy), fun _ => h6 i x j y hx hy⟩
    · obtain ⟨hp, e⟩ := hv.sl_inv
      have hR := h.rows l r h2
      refine ⟨_, _, by rw [e, hR.n], fun x hx => (hR.el x hx).1, fun h0 => ?_⟩
      obtain ⟨b, s, hA⟩ := hR.spot (by have := hR.C; have := hR.n; omega)
      refine ⟨b, s, hA, fun i x j y hx hy => ?_⟩
      have hm := List.mem_of_getElem? hx
      have : (g.μ l).z = z := by rw [hR.z, ← (hR.el x hm).2, hz x hm]
      obtain ⟨u, k1, k2, k3⟩ := h.cell_of h2 hx hy hA
      rw [this, Nat.add_assoc] at k1
      exact ⟨u, k1, k2, k3⟩
  obtain ⟨B, c, e, hel, hk⟩ := key
  by_cases h0 : 0 < ys.length
  · obtain ⟨b, s, hB, hc⟩ := hk h0
    have hat : ∀ k, k < ys.length * z → ∃ u, w.cell? ⟨b, s + k, none⟩ = some u ∧ one u = true := by
      intro k hk'
      have hz0 : 0 < z := Nat.pos_of_ne_zero (fun q => by subst q; omega)
      have hi : k / z < ys.length := (Nat.div_lt_iff_lt_mul hz0).2 hk'
      have hx := List.getElem?_eq_getElem hi
      have hj : k % z < (ys[k / z]).cells.length := by rw [hz _ (List.getElem_mem hi)]; exact Nat.mod_lt _ hz0
      obtain ⟨u, k1, k2, _⟩ := hc _ _ _ _ hx (List.getElem?_eq_getElem hj)
      have : k / z * z + k % z = k := by rw [Nat.mul_comm]; exact Nat.div_add_mod k z
      rw [this] at k1
      exact ⟨u, k1, k2.one (PV.el_cells (hel _ (List.getElem_mem hi)) _ (List.getElem_mem hj))⟩
    refine ⟨B, c, (List.range (ys.length * z)).map fun k => (w.cell? ⟨b, s + k, none⟩).getD undef, e, hel, by simp, fun i x j y u hx hy hu => ?_, fun u hu => ?_, fun _ => ⟨b, s, hB, fun j u hu => ?_⟩⟩
    · obtain ⟨u', k1, k2⟩ := hc i x j y hx hy
      have hlt := lt_of_get hu
      simp at hlt
      simp [hlt, k1] at hu
      subst hu
      exact k2
    · obtain ⟨k, hk', rfl⟩ := List.mem_map.1 hu
      obtain ⟨u', k1, k2⟩ := hat k (by simpa using hk')
      rw [k1]
      exact k2
    · have hlt := lt_of_get hu
      simp at hlt
      obtain ⟨u', k1, _⟩ := hat j hlt
      simp [hlt, k1] at hu
      rw [k1, hu]
  · have : ys = [] := by cases ys <;> simp_all
    subst this
    exact ⟨B, c, [], e, hel, by simp, fun i x j y u hx => by simp at hx, fun u hu => by simp at hu, fun q => absurd q h0⟩

/-- The elements of a joined list. -/
theorem join_reads {xs ys : List PV} {z : Nat} {A B : List Value} {R : Value → PV → Prop} (hA : A.length = xs.length * z) (hz : ∀ x ∈ xs ++ ys, x.cells.length = z)
    (ha : ∀ (i : Nat) x (j : Nat) y u, xs[i]? = some x → x.cells[j]? = some y → A[i * z + j]? = some u → R u y)
    (hb : ∀ (i : Nat) x (j : Nat) y u, ys[i]? = some x → x.cells[j]? = some y → B[i * z + j]? = some u → R u y) (C : List Value) (hB : B.length = ys.length * z) :
    ∀ (i : Nat) x (j : Nat) y u, (xs ++ ys)[i]? = some x → x.cells[j]? = some y → (A ++ B ++ C)[i * z + j]? = some u → R u y := by
  intro i x j y u hx hy hu
  have hj : j < z := by rw [← hz x (List.mem_of_getElem? hx)]; exact PV.cells_len_pos hy
  have hi := lt_of_get hx
  simp at hi
  rcases Nat.lt_or_ge i xs.length with q | q
  · rw [List.getElem?_append_left q] at hx
    have : (i + 1) * z ≤ xs.length * z := Nat.mul_le_mul_right _ (by omega)
    rw [Nat.add_mul, Nat.one_mul] at this
    rw [List.append_assoc, List.getElem?_append_left (by omega)] at hu
    exact ha i x j y u hx hy hu
  · rw [List.getElem?_append_right q] at hx
    have h1 : (i - xs.length) * z = i * z - xs.length * z := Nat.sub_mul _ _ _
    have h2 : xs.length * z ≤ i * z := Nat.mul_le_mul_right _ q
    have h3 : (i + 1) * z ≤ (xs.length + ys.length) * z := Nat.mul_le_mul_right _ (by omega)
    rw [Nat.add_mul, Nat.one_mul, Nat.add_mul] at h3
    rw [List.append_assoc, List.getElem?_append_right (by omega), List.getElem?_append_left (by omega)] at hu
    refine hb (i - xs.length) x j y u hx hy ?_
    rw [h1, show i * z - xs.length * z + j = i * z + j - A.length by omega]
    exact hu

end
end Go.Pw
