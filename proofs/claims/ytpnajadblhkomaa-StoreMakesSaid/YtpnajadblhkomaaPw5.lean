/-
  One operation, carried out, does to the world what it does to the state.
-/
import Derived.Test.YtpnajadblhkomaaPw4
namespace Go.Pw
open Go.RowKit
set_option linter.unusedVariables false

def FX (ρ : Option Nat) : Fence := { fn := fun _ => True, depth := none, alive := false, round := ρ }

section
variable {X : Ctx} {g : Gh} {st : St} {a : Act} {w : World} {o : Oper} {n : Nat} {K : Act → World → Prop} {Q : Exit → Act → World → Prop} {ρ : Option Nat} {P : Program}

theorem wpIn_value {v : Value} {w' : World} (hd : ∀ c, o.op ≠ .defer c) (h : (execOp a.eval o).run P w = .ok (.value v) w') (hk : K (a.put o.dst v) w') :
    o.wpIn (FX ρ) n P a w K Q := by
  refine ⟨fun _ _ => trivial, ?_⟩
  rw [Oper.semAt_eq _ _ _ hd, h]
  exact hk

theorem opIn_skip {w' : World} (hd : ∀ c, o.op ≠ .defer c) (h : (execOp a.eval o).run P w = .ok .skip w') (hk : K (a.put o.dst undef) w') :
    o.wpIn (FX ρ) n P a w K Q := by
  refine ⟨fun _ _ => trivial, ?_⟩
  rw [Oper.semAt_eq _ _ _ hd, h]
  exact hk

theorem wpIn_enter {f : FuncId} {args : Array Value} {w' : World} (hd : ∀ c, o.op ≠ .defer c) (h : (execOp a.eval o).run P w = .ok (.enter f args) w')
    (hc : Calls P f args w' fun e w'' => ∃ v, e = .returned v ∧ K (a.put o.dst v) w'') : o.wpIn (FX ρ) n P a w K Q := by
  refine ⟨fun _ _ => trivial, ?_⟩
  rw [Oper.semAt_eq _ _ _ hd, h]
  refine ⟨fun q => by simp [FX] at q, ?_⟩
  have h1 : CallsIn Fence.wide (n - 1) P f args w' fun e w'' => ∃ v, e = .returned v ∧ K (a.put o.dst v) w'' := callsIn_wide.2 hc
  have h2 : CallsIn (FX ρ) (n - 1) P f args w' fun e w'' => ∃ v, e = .returned v ∧ K (a.put o.dst v) w'' := h1
  refine h2.mono fun e w'' hr => ?_
  obtain ⟨v, rfl, hk⟩ := hr
  exact hk

theorem run_pure_value (v : Value) : (do pure (.value (← (pure v : Sem Value))) : Sem Next).run P w = .ok (.value v) w := rfl

theorem run_v {s : Sem Value} {v : Value} {w' : World} (h : s.run P w = .ok v w') : (do pure (.value (← s)) : Sem Next).run P w = .ok (.value v) w' := by
  simp only [Sem.run_bind, h, Result.andThen_ok]
  rfl

theorem run_u {s : Sem Unit} {w' : World} (h : s.run P w = .ok () w') : (do s; pure .skip : Sem Next).run P w = .ok .skip w' := by
  simp only [Sem.run_bind, h, Result.andThen_ok]
  rfl
end

/-- The store that is read, as far as the rows that are here go. -/
def Same (σ σF : Nat → Option Row) : Prop := ∀ l r, σ l = some r → ∃ r', σF l = some r' ∧ r'.els = r.els ∧ r'.z = r.z ∧ r'.cl = r.cl

theorem Same.refl (σ : Nat → Option Row) : Same σ σ := fun _ r h => ⟨r, h, rfl, rfl, rfl⟩

section
variable {X : Ctx} {g : Gh} {st : St} {a : Act} {w : World}

theorem Sim.cell_of (h : Sim X g st a w) {l : Nat} {r : Row} (hl : st.σ l = some r) {i j : Nat} {x y : PV} (hx : r.els[i]? = some x) (hy : x.cells[j]? = some y) {b s : Nat}
    (hA : (g.μ l).A = some ⟨b, s, none⟩) : ∃ u, w.cell? ⟨b, s + i * (g.μ l).z + j, none⟩ = some u ∧ Rd w g.imm g.μ st.pres u y ∧ (r.cl = true → Rd0 w g.imm u y) := by
  obtain ⟨b', s', u, h1, h2, h3, h4, h5⟩ := (h.rows l r hl).cell i x j y hx hy
  rw [hA] at h1
  cases h1
  exact ⟨u, h2, h3, h5⟩

theorem el_of_cells {cs : List PV} {f n : Nat} {y : PV} (hy : y.el = true) (h : cs = (y.cells.drop f).take n) : cs.all PV.sc = true := by
  rw [List.all_eq_true]
  intro c hc
  rw [h] at hc
  exact PV.el_cells hy c (List.mem_of_mem_drop (List.mem_of_mem_take hc))

/-- Loads of a struct out of a row. -/
theorem Sim.loadA (h : Sim X g st a w) {T : TypeId} {l i f n : Nat} {v : Value} {r : Row} {y : PV} (hv : Rd w g.imm g.μ st.pres v (.ptr l i f)) (hl : st.σ l = some r) (hy : r.els[i]? = some y)
    (ha : tagg X.P T = some true) (hs : tsize X.P T = some n) (hf : f + n ≤ y.cells.length) :
    ∃ u, (Instr.loadAt T v).run X.P w = .ok u w ∧ Rd w g.imm g.μ st.pres u (.agg ((y.cells.drop f).take n)) := by
  obtain ⟨hp, b, s, hA, rfl⟩ := hv.ptr_inv
  have hc : ∀ j, j < n → ∃ u, w.cell? ⟨b, s + i * (g.μ l).z + f + j, none⟩ = some u ∧ ∀ q, ((y.cells.drop f).take n)[j]? = some q → Rd w g.imm g.μ st.pres u q := by
    intro j hj
    have hlt : f + j < y.cells.length := by omega
    obtain ⟨u, h1, h2, _⟩ := h.cell_of hl hy (List.getElem?_eq_getElem hlt) hA
    refine ⟨u, by rw [Nat.add_assoc _ f j]; exact h1, fun q hq => ?_⟩
    rw [List.getElem?_take_of_lt hj, List.getElem?_drop, List.getElem?_eq_getElem hlt] at hq
    cases hq
    exact h2
  have hu : ∀ j, j < n → w.cell? ⟨b, s + i * (g.μ l).z + f + j, none⟩ = some ((w.cell? ⟨b, s + i * (g.μ l).z + f + j, none⟩).getD undef) := fun j hj => by
    obtain ⟨u, h1, _⟩ := hc j hj
    rw [h1]; rfl
  refine ⟨_, run_loadVar_agg ha hs (fun j => (w.cell? ⟨b, s + i * (g.μ l).z + f + j, none⟩).getD undef) hu, ?_⟩
  refine .agg _ _ (el_of_cells ((h.rows l r hl).el y (List.mem_of_getElem? hy)).1 rfl) (by simp; omega) fun j v c hv hc' => ?_
  have hj : j < n := by have := lt_of_get hc'; simp at this; omega
  obtain ⟨u, h1, h2⟩ := hc j hj
  have : v = u := by
    simp [hj] at hv
    rw [← hv, h1]; rfl
  rw [this]
  exact h2 c hc'

theorem Sim.loadS (h : Sim X g st a w) {T : TypeId} {l i f : Nat} {v : Value} {r : Row} {y d : PV} (hv : Rd w g.imm g.μ st.pres v (.ptr l i f)) (hl : st.σ l = some r) (hy : r.els[i]? = some y)
    (ha : tagg X.P T = some false) (hf : y.cells[f]? = some d) :
    ∃ u, (Instr.loadAt T v).run X.P w = .ok u w ∧ Rd w g.imm g.μ st.pres u d := by
  obtain ⟨hp, b, s, hA, rfl⟩ := hv.ptr_inv
  obtain ⟨u, h1, h2, _⟩ := h.cell_of hl hy hf hA
  exact ⟨u, run_loadVar_one ha h1, h2⟩

theorem Sim.loadRA (h : Sim X g st a w) {T : TypeId} {n : Nat} {v : Value} {cs : List PV} (hv : Rd w g.imm g.μ st.pres v (.rptr cs))
    (ha : tagg X.P T = some true) (hs : tsize X.P T = some n) (hf : n ≤ cs.length) :
    ∃ u, (Instr.loadAt T v).run X.P w = .ok u w ∧ Rd w g.imm g.μ st.pres u (.agg (cs.take n)) := by
  obtain ⟨b, o, u, rfl, hsc, hc⟩ := hv.rptr_inv
  refine ⟨_, run_loadVar_agg ha hs u (fun j hj => (hc j cs[j] (List.getElem?_eq_getElem (by omega))).2.1), ?_⟩
  refine .agg _ _ ?_ (by simp; omega) fun j v c hv hc' => ?_
  · rw [List.all_eq_true] at hsc ⊢
    exact fun c hc => hsc c (List.mem_of_mem_take hc)
  · have hj : j < n := by have := lt_of_get hc'; simp at this; omega
    rw [List.getElem?_take_of_lt hj] at hc'
    simp [hj] at hv
    rw [← hv]
    exact .cl (hc j c hc').2.2

theorem Sim.loadRS (h : Sim X g st a w) {T : TypeId} {v : Value} {cs : List PV} {d : PV} (hv : Rd w g.imm g.μ st.pres v (.rptr cs))
    (ha : tagg X.P T = some false) (hf : cs[0]? = some d) :
    ∃ u, (Instr.loadAt T v).run X.P w = .ok u w ∧ Rd w g.imm g.μ st.pres u d := by
  obtain ⟨b, o, u, rfl, hsc, hc⟩ := hv.rptr_inv
  obtain ⟨_, h1, h2⟩ := hc 0 d hf
  exact ⟨u 0, run_loadVar_one ha (by simpa using h1), .cl h2⟩

theorem setC_cells {x : PV} {f : Nat} {cs : List PV} (hx : x.el = true) (hf : f + cs.length ≤ x.cells.length) (hsc : cs.all PV.sc = true) :
    (setC x f cs).cells = x.cells.take f ++ cs ++ x.cells.drop (f + cs.length) ∧ (setC x f cs).el = true := by
  rw [List.all_eq_true] at hsc
  by_cases hd : x.sc = true
  · have hc := PV.cells_of_sc hd
    rw [hc] at hf ⊢
    have e : setC x f cs = setC1 x cs := by cases x <;> first | rfl | (simp [PV.sc] at hd)
    rw [e]
    match cs, hf, hsc with
    | [], _, _ =>
      refine ⟨?_, hx⟩
      simp [setC1, hc]
    | [c], hf, hsc =>
      simp at hf
      subst hf
      have := hsc c (by simp)
      refine ⟨by simp [setC1, PV.cells_of_sc this], ?_⟩
      simp only [setC1]
      cases c <;> first | exact this | (simp [PV.sc] at this)
    | _ :: _ :: _, hf, _ => simp at hf; omega
  · cases x <;> first | (exact absurd rfl hd) | (exact absurd hx hd) | (simp only [PV.cells, List.length_nil, Nat.le_zero_eq, Nat.add_eq_zero_iff, List.length_eq_zero_iff] at hf; obtain ⟨rfl, rfl⟩ := hf; exact ⟨rfl, rfl⟩) | skip
    rename_i es
    simp only [PV.el, List.all_eq_true] at hx
    refine ⟨rfl, ?_⟩
    simp only [setC, PV.el, List.all_eq_true, List.mem_append]
    rintro c ((q | q) | q)
    · exact hx c (List.mem_of_mem_take q)
    · exact hsc c q
    · exact hx c (List.mem_of_mem_drop q)

theorem Sim.store (h : Sim X g st a w) {T : TypeId} {l i f : Nat} {v u : Value} {d : PV} (hv : Rd w g.imm g.μ st.pres v (.ptr l i f)) (hu : Rd w g.imm g.μ st.pres u d) (hd : d.el = true)
    (hs : tsize X.P T = some d.cells.length) (hpos : 0 < d.cells.length) (hok : (Eff.sto l i f d.cells).ok st.σ) :
    ∃ w', (Instr.storeAt T v u).run X.P w = .ok () w' ∧ Sim X g ⟨st.env, (Eff.sto l i f d.cells).apply st.σ⟩ a w' := by
  obtain ⟨hp, b, s, hA, rfl⟩ := hv.ptr_inv
  obtain ⟨q, x, hl, hx, hlo, hf, hsc⟩ := hok
  have hR := h.rows l q hl
  obtain ⟨hsz, hcs⟩ := hu.cells hd
  have hxz : x.cells.length = (g.μ l).z := by rw [hR.z]; exact (hR.el x (List.mem_of_getElem? hx)).2
  have hmine : ∀ j, j < u.cells.toList.length → OwnR (g.μ l) q b (s + i * (g.μ l).z + f + j) := fun j hj => by
    have hj' : f + j < x.cells.length := by simp only [Array.length_toList, hsz] at hj; omega
    have := hR.mine hx (List.getElem?_eq_getElem hj') hA (by omega)
    rwa [← Nat.add_assoc] at this
  have hone : ∀ z ∈ u.cells.toList, one z = true := fun z hz => by
    obtain ⟨j, hj⟩ := List.getElem?_of_mem hz
    have hj' : j < d.cells.length := by have := lt_of_get hj; simp only [Array.length_toList, hsz] at this; exact this
    exact (hcs j z _ (by simpa using hj) (List.getElem?_eq_getElem hj')).one (List.all_eq_true.1 hsc _ (List.getElem_mem hj'))
  refine ⟨_, run_storeVar hs hsz (fun j hj => (hR.own b _ (hmine j (by simpa [hsz] using hj))).2) hone, ?_⟩
  have he : (Eff.sto l i f d.cells).apply st.σ = upd st.σ l (some { q with els := q.els.set i (setC x f d.cells), cl := q.cl && d.cells.all PV.clo1 }) := by
    simp only [Eff.apply, hl, hx]
  rw [he]
  obtain ⟨hc1, hc2⟩ := setC_cells ((hR.el x (List.mem_of_getElem? hx)).1) hf hsc
  have hlen : (setC x f d.cells).cells.length = x.cells.length := by rw [hc1]; simp; omega
  refine h.write hl hmine (by simp) (fun e he => ?_) (fun i' x' j y hx' hy => ?_) (by simpa [hsz] using hpos)
  · rcases List.mem_or_eq_of_mem_set he with q' | rfl
    · exact hR.el e q'
    · exact ⟨hc2, by rw [hlen]; exact (hR.el x (List.mem_of_getElem? hx)).2⟩
  · by_cases e : i' = i
    · subst e
      have hi := lt_of_get hx
      rw [List.getElem?_set_self hi] at hx'
      cases hx'
      rw [hc1] at hy
      have hj := lt_of_get hy
      simp at hj
      by_cases q1 : f ≤ j ∧ j < f + d.cells.length
      · have hw := World.cell?_setCells_in b u.cells.toList (s + i' * (g.μ l).z + f) w (fun j hj => (hR.own b _ (hmine j hj)).2.1) (j - f) (by simp [hsz]; omega)
        rw [show s + i' * (g.μ l).z + f + (j - f) = s + i' * (g.μ l).z + j by omega] at hw
        have hy' : d.cells[j - f]? = some y := by
          rw [List.append_assoc, List.getElem?_append_right (by simp; omega), List.getElem?_append_left (by simp; omega)] at hy
          simpa [List.length_take, Nat.min_eq_left (show f ≤ x.cells.length by omega)] using hy
        have hr := hcs (j - f) _ y (by rw [← Array.getElem?_toList]; exact List.getElem?_eq_getElem (by simp [hsz]; omega)) hy'
        refine ⟨b, s, _, hA, hw, hr, fun q' => by omega, fun q' => ?_⟩
        simp only [Bool.and_eq_true] at q'
        exact hr.clo1 (List.all_eq_true.1 q'.2 y (List.mem_of_getElem? hy'))
      · have hy' : x.cells[j]? = some y := by
          rcases Nat.lt_or_ge j f with q2 | q2
          · rw [List.append_assoc, List.getElem?_append_left (by simp; omega), List.getElem?_take_of_lt q2] at hy
            exact hy
          · rw [List.getElem?_append_right (by simp; omega)] at hy
            simp only [List.length_append, List.length_take, List.getElem?_drop, Nat.min_eq_left (show f ≤ x.cells.length by omega)] at hy
            rwa [show f + d.cells.length + (j - (f + d.cells.length)) = j by omega] at hy
        obtain ⟨u', k1, k2, k3⟩ := h.cell_of hl hx hy' hA
        refine ⟨b, s, u', hA, ?_, k2, fun q' => by omega, fun q' => ?_⟩
        · rw [World.cell?_setCells_out b _ _ w _ fun _ _ => by simp [hsz]; omega]
          exact k1
        · simp only [Bool.and_eq_true] at q'
          exact k3 q'.1
    · rw [List.getElem?_set_ne (Ne.symm e)] at hx'
      obtain ⟨b', s', u', k1, k2, k3, k4, k5⟩ := hR.cell i' x' j y hx' hy
      rw [hA] at k1
      cases k1
      refine ⟨b, s, u', hA, ?_, k3, k4, fun q' => ?_⟩
      · rw [World.cell?_setCells_out b _ _ w _ fun _ _ => ?_]
        · exact k2
        · simp only [Array.length_toList, hsz]
          have hj := PV.cells_len_pos hy
          have hz' : x'.cells.length = (g.μ l).z := by rw [hR.z]; exact (hR.el x' (List.mem_of_getElem? hx')).2
          rcases Nat.lt_or_gt_of_ne e with q2 | q2
          · left
            have : (i' + 1) * (g.μ l).z ≤ i * (g.μ l).z := Nat.mul_le_mul_right _ (by omega)
            rw [Nat.add_mul, Nat.one_mul] at this
            omega
          · right
            have : (i + 1) * (g.μ l).z ≤ i' * (g.μ l).z := Nat.mul_le_mul_right _ (by omega)
            rw [Nat.add_mul, Nat.one_mul] at this
            omega
      · simp only [Bool.and_eq_true] at q'
        exact k5 q'.1

end
end Go.Pw
