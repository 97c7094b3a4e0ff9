/-
  Whatever an operation of the state does, the operation of the program does (V): append, as operations.
-/
import Derived.Test.YtpnajadblhkomaaPw9
namespace Go.Pw
open Go.RowKit
set_option linter.unusedVariables false

section
variable {X : Ctx} {g : Gh} {st : St} {a : Act} {w : World} {n : Nat} {K : Act → World → Prop} {Q : Exit → Act → World → Prop} {ρ : Option Nat} {P : Program}

theorem exec_append {o : Oper} {x y : Operand} {ts : Array TypeId} (ho : o.op = .call { callee := .builtin .append, args := #[x, y], argTypes := ts }) {v : Value} {w' : World}
    (h : (Builtin.append_ ts o.type #[a.eval x, a.eval y]).run P w = .ok v w') : (execOp a.eval o).run P w = .ok (.value v) w' := by
  obtain ⟨dst, op, ty, pos, after, guard⟩ := o
  simp only at ho
  subst ho
  have e : Array.map a.eval #[x, y] = #[a.eval x, a.eval y] := by simp
  rw [← e] at h
  exact run_v h

/-- A row's word, with nothing new in it. -/
theorem Sim.sameRow (h : Sim X g st a w) {l : Nat} {A : Option Addr} {xs : List PV} {z : Nat} (hlm : l < MB) (hl : st.σ l = none) (hA : A = none → xs.length = 0)
    (hel : ∀ x ∈ xs, x.el = true ∧ x.cells.length = z)
    (hc : 0 < xs.length → ∃ b s, A = some ⟨b, s, none⟩ ∧ ∀ (i : Nat) x (j : Nat) y, xs[i]? = some x → x.cells[j]? = some y → ∃ u, g.imm b (s + i * z + j) ∧ w.cell? ⟨b, s + i * z + j, none⟩ = some u ∧ Rd0 w g.imm u y) (cl : Bool) :
    Sim X ⟨g.imm, upd g.μ l ⟨A, xs.length, xs.length, z⟩⟩ ⟨st.env, upd st.σ l (some ⟨xs, xs.length, true, z, cl⟩)⟩ a w := by
  have hno : ∀ b o, ¬ OwnR ⟨A, xs.length, xs.length, z⟩ ⟨xs, xs.length, true, z, cl⟩ b o := by
    rintro b o ⟨s, _, h1, h2⟩
    simp only [if_true] at h1 h2
    omega
  refine h.row hlm hl ⟨rfl, rfl, Nat.le_refl _, Nat.le_refl _, hel, hA, fun q => ?_, fun i x j y hx hy => ?_, fun b o q => absurd q (hno b o)⟩ (fun _ _ b o _ _ => hno b o) (fun b o q => absurd q (hno b o))
  · obtain ⟨b, s, e, _⟩ := hc q
    exact ⟨b, s, e⟩
  · obtain ⟨b, s, e, k⟩ := hc (by have := lt_of_get hx; simp only at this; omega)
    obtain ⟨u, k1, k2, k3⟩ := k i x j y hx hy
    exact ⟨b, s, u, e, k2, .cl k3, fun _ => k1, fun _ => k3⟩

theorem op_appT {o : Oper} {x y : Operand} {T E : TypeId} {xs ys : List PV} {cl : Bool} {z by_ l : Nat} {zv : Value} (h : Sim X g st a w)
    (ho : o.op = .call { callee := .builtin .append, args := #[x, y], argTypes := #[T, T] }) (hdst : ∀ t, o.dst = some t → t < X.N) (hlm : l < MB) (hl : st.σ l = none)
    (hx : evP st.env x = .lst true xs) (hy : Src st.σ (evP st.env y) ys cl) (hE : telem X.P T = some E) (hz : tsize X.P E = some z) (hb : tbytes X.P E = some by_) (hzv : tzero X.P E = some zv) (hzz : zv.cells.size = z)
    (hel : ∀ e ∈ xs ++ ys, e.cells.length = z) (hfit : (xs.length + ys.length) * by_ ≤ 140737488355328) (h63 : xs.length + ys.length ≤ 9223372036854775807)
    (hK : ∀ g' a' w', Sim X g' ⟨putE st.env o.dst (.sl l), (Eff.new l ⟨xs ++ ys, xs.length, true, z, cl⟩).apply st.σ⟩ a' w' → K a' w') : o.wpIn (FX ρ) n X.P a w K Q := by
  have hnd : ∀ c, o.op ≠ .defer c := fun c => by rw [ho]; simp
  have hv := h.eval x
  have hu := h.eval y
  rw [hx] at hv
  obtain ⟨A, c, z', u, e, h1, h2, h3, h4, h5, h6⟩ := hv.lst_inv
  have hc := h2 rfl
  subst hc
  obtain ⟨B, cB, vals, eB, hyel, hlv, hvr, hone, hvc⟩ := Src.reads h hu hy (z := z) (fun y hy => hel y (List.mem_append_right _ hy))
  rcases Nat.eq_zero_or_pos ys.length with hm | hm
  · have : ys = [] := by cases ys <;> simp_all
    subst this
    simp only [List.append_nil] at hel hK
    have hr : (execOp a.eval o).run X.P w = .ok (.value (.slice A xs.length xs.length)) w :=
      exec_append ho (by rw [e, eB]; exact run_append_0 hE hz (Nat.le_refl _))
    have hs := h.sameRow (l := l) (A := A) (xs := xs) (z := z) hlm hl h3 (fun x hx => ⟨(h4 x hx).1, hel x hx⟩) (fun h0 => by
      obtain ⟨b, s, hA, h7⟩ := h5 h0
      refine ⟨b, s, hA, fun i x j y hx hy => ?_⟩
      have hmx := List.mem_of_getElem? hx
      have : z' = z := by rw [← (h4 x hmx).2, hel x hmx]
      subst this
      exact ⟨_, (h7 i x j y hx hy).1, (h7 i x j y hx hy).2, h6 i x j y hx hy⟩) cl
    exact wpIn_value hnd hr (hK _ _ _ (hs.put hdst (sl_new ⟨_, upd_same _ _ _⟩ (upd_same _ _ _))))
  · obtain ⟨bB, sB, rfl, hBc⟩ := hvc hm
    obtain ⟨A', cA, olds, eA, hxel, hlo, hor, _, hoc⟩ := Src.reads h hv (.inl ⟨true, rfl, rfl⟩ : Src st.σ (.lst true xs) xs true) (z := z) (fun y hy => hel y (List.mem_append_left _ hy))
    rw [e] at eA
    cases eA
    obtain ⟨C', cs, hr, hC', hcs, rest, hrest⟩ := run_append_big (P := X.P) (w := w) (ty := o.type) (c := cB) (B := ⟨bB, sB, none⟩) (m := ys.length) hE hz hb hzv hzz (by omega) (Nat.le_refl _) h3 hlo (fun q => hoc q) hlv
      (fun j u hj => by rw [addr_add]; exact hBc j u hj) hfit h63
    obtain ⟨g', hs, hμ⟩ := h.grown (l := l) (xs := xs) (ys := ys) (C := C') (z := z) (cl := cl) (E := E) hlm hl (by simpa using hC') hcs hrest
      (fun e he => ⟨(List.mem_append.1 he).elim (hxel e) (hyel e), hel e he⟩) hlo hlv (fun i x j y u hx hy hu => ⟨(hor i x j y u hx hy hu).1, fun _ => (hor i x j y u hx hy hu).2 rfl⟩) hvr
    refine wpIn_value hnd (exec_append ho (by rw [e, eB]; exact hr)) (hK g' _ _ (hs.put hdst ?_))
    have := sl_new (w' := w.drew.alloc (.cells cs E)) (imm := g'.imm) (μ := g'.μ) (pres := St.pres ⟨st.env, upd st.σ l (some ⟨xs ++ ys, xs.length, true, z, cl⟩)⟩) ⟨_, upd_same _ _ _⟩ hμ
    simpa using this

theorem op_appR {o : Oper} {x y : Operand} {T E : TypeId} {ys : List PV} {cl : Bool} {z by_ l s : Nat} {r : Row} {zv : Value} (h : Sim X g st a w)
    (ho : o.op = .call { callee := .builtin .append, args := #[x, y], argTypes := #[T, T] }) (hdst : ∀ t, o.dst = some t → t < X.N) (hlm : l < MB) (hl : st.σ l = none)
    (hx : evP st.env x = .sl s) (hsr : st.σ s = some r) (hop : r.opn = true) (hy : Src st.σ (evP st.env y) ys cl) (hE : telem X.P T = some E) (hz : tsize X.P E = some z) (hb : tbytes X.P E = some by_) (hzv : tzero X.P E = some zv)
    (hzz : zv.cells.size = z) (hel : ∀ e ∈ r.els ++ ys, e.cells.length = z) (hrz : r.z = z) (hfit : (r.els.length + ys.length) * by_ ≤ 140737488355328) (h63 : r.els.length + ys.length ≤ 9223372036854775807)
    (hK : ∀ g' a' w', Sim X g' ⟨putE st.env o.dst (.sl l), (Eff.app s l ⟨r.els ++ ys, r.els.length, true, z, r.cl && cl⟩).apply st.σ⟩ a' w' → K a' w') : o.wpIn (FX ρ) n X.P a w K Q := by
  have hnd : ∀ c, o.op ≠ .defer c := fun c => by rw [ho]; simp
  have hsl : s ≠ l := fun q => by rw [q, hl] at hsr; cases hsr
  simp only [Eff.apply, hsr] at hK
  have hv := h.eval x
  have hu := h.eval y
  rw [hx] at hv
  obtain ⟨hp, e⟩ := hv.sl_inv
  have hR := h.rows s r hsr
  obtain ⟨B, cB, vals, eB, hyel, hlv, hvr, hone, hvc⟩ := Src.reads h hu hy (z := z) (fun y hy => hel y (List.mem_append_right _ hy))
  -- the row that is appended to, let go
  have hF := h.frz hsr r.els.length (by have := hR.lo; have := hR.n; omega) (Nat.le_refl _) false (fun q => by cases q)
  have hFl : upd st.σ s (some { r with lo := r.els.length, opn := false }) l = none := by rw [upd_other _ _ (Ne.symm hsl)]; exact hl
  have hxF : Ext w g.imm w (frzImm g st.σ s r.els.length) := ⟨fun _ _ q => .inl q, fun _ _ _ => rfl, fun _ _ _ _ q _ => q⟩
  have hpF : ∀ l', st.pres l' → St.pres ⟨st.env, upd st.σ s (some { r with lo := r.els.length, opn := false })⟩ l' ∧ g.μ l' = g.μ l' := by
    rintro l' ⟨r', hr'⟩
    refine ⟨?_, rfl⟩
    by_cases q : l' = s
    · exact ⟨_, by rw [q]; exact upd_same _ _ _⟩
    · exact ⟨r', by rw [show (St.mk st.env (upd st.σ s (some { r with lo := r.els.length, opn := false }))).σ l' = st.σ l' from upd_other _ _ q]; exact hr'⟩
  have hRF := hF.rows s { r with lo := r.els.length, opn := false } (upd_same _ _ _)
  have hmz : (g.μ s).z = z := by rw [hR.z, hrz]
  rcases Nat.lt_or_ge (g.μ s).C ((g.μ s).n + ys.length) with hbig | hroom
  · -- a new block
    have hm : 0 < ys.length := by have := hR.C; omega
    obtain ⟨bB, sB, rfl, hBc⟩ := hvc hm
    obtain ⟨A', cA, olds, eA, hxel, hlo, hor, _, hoc⟩ := Src.reads h hv (.inr ⟨s, r, rfl, hsr, rfl, rfl⟩ : Src st.σ (.sl s) r.els r.cl) (z := z) (fun y hy => hel y (List.mem_append_left _ hy))
    rw [e] at eA
    simp only [Value.slice.injEq] at eA
    obtain ⟨rfl, hn', rfl⟩ := eA
    rw [hn'] at e hbig
    obtain ⟨C', cs, hr, hC', hcs, rest, hrest⟩ := run_append_big (P := X.P) (w := w) (ty := o.type) (c := cB) (B := ⟨bB, sB, none⟩) (m := ys.length) hE hz hb hzv hzz hbig (by rw [← hn']; exact hR.C) hR.nil hlo (fun q => hoc q) hlv
      (fun j u hj => by rw [addr_add]; exact hBc j u hj) hfit h63
    obtain ⟨g', hs, hμ⟩ := hF.grown (l := l) (xs := r.els) (ys := ys) (C := C') (z := z) (cl := r.cl && cl) (E := E) hlm hFl (by simpa using hC') hcs hrest
      (fun e he => ⟨(List.mem_append.1 he).elim (hxel e) (hyel e), hel e he⟩) hlo hlv
      (fun i x j y u hx hy hu => ⟨(hor i x j y u hx hy hu).1.mono hxF hpF, fun q => ((hor i x j y u hx hy hu).2 (by simp at q; exact q.1)).mono hxF⟩)
      (fun i x j y u hx hy hu => ⟨(hvr i x j y u hx hy hu).1.mono hxF hpF, fun q => ((hvr i x j y u hx hy hu).2 (by simp at q; exact q.2)).mono hxF⟩)
    refine wpIn_value hnd (exec_append ho (by rw [e, eB]; exact hr)) (hK g' _ _ (hs.put hdst ?_))
    have := sl_new (w' := w.drew.alloc (.cells cs E)) (imm := g'.imm) (μ := g'.μ)
      (pres := St.pres ⟨st.env, upd (upd st.σ s (some { r with lo := r.els.length, opn := false })) l (some ⟨r.els ++ ys, r.els.length, true, z, r.cl && cl⟩)⟩) ⟨_, upd_same _ _ _⟩ hμ
    simpa using this
  · -- in place
    have hn := hR.n
    -- the cells behind the row
    have hT : ∀ b s', (g.μ s).A = some ⟨b, s', none⟩ → ∀ o', s' + (g.μ s).n * z ≤ o' → o' < s' + (g.μ s).C * z → OwnR (g.μ s) r b o' := fun b s' hA o' q1 q2 =>
      ⟨s', hA, by have : r.lo * (g.μ s).z ≤ (g.μ s).n * (g.μ s).z := Nat.mul_le_mul_right _ hR.lo; rw [hmz] at *; omega, by rw [hop, if_pos rfl, hmz]; exact q2⟩
    have hTi : ∀ b o', (∃ s', (g.μ s).A = some ⟨b, s', none⟩ ∧ s' + (g.μ s).n * z ≤ o' ∧ o' < s' + (g.μ s).C * z) → ¬ frzImm g st.σ s r.els.length b o' := by
      rintro b o' ⟨s', hA, q1, q2⟩ (q | ⟨r2, s2, hr2, _, hA2, q3⟩)
      · exact h.ownimm s r b o' hsr (hT b s' hA o' q1 q2) q
      · rw [hA] at hA2
        cases hA2
        rw [hmz, ← hn] at q3
        omega
    have hnew : ∀ (w' : World) (v' : Value), (Builtin.append_ #[T, T] o.type #[.slice (g.μ s).A (g.μ s).n (g.μ s).C, a.eval y]).run X.P w = .ok (.slice (g.μ s).A ((g.μ s).n + ys.length) (g.μ s).C) w' →
        (w' = w ∧ ys.length = 0 ∨ ∃ b s', (g.μ s).A = some ⟨b, s', none⟩ ∧ w' = w.setCells b (s' + (g.μ s).n * z) vals) → o.wpIn (FX ρ) n X.P a w K Q := by
      intro w' v' hrun hw'
      have hcell : ∀ b o', ¬ (∃ s', (g.μ s).A = some ⟨b, s', none⟩ ∧ s' + (g.μ s).n * z ≤ o' ∧ o' < s' + (g.μ s).C * z) → w'.cell? ⟨b, o', none⟩ = w.cell? ⟨b, o', none⟩ ∧ w'.frozen? ⟨b, o', none⟩ = w.frozen? ⟨b, o', none⟩ := by
        intro b o' q
        rcases hw' with ⟨rfl, _⟩ | ⟨b', s', hA, rfl⟩
        · exact ⟨rfl, rfl⟩
        · refine ⟨World.cell?_setCells_out b' vals _ w ⟨b, o', none⟩ fun q1 _ => ?_, World.frozen?_setCells b' vals _ w _⟩
          simp only at q1 ⊢
          subst q1
          rcases Nat.lt_or_ge o' (s' + (g.μ s).n * z) with q2 | q2
          · exact .inl q2
          · right
            rcases Nat.lt_or_ge o' (s' + (g.μ s).n * z + vals.length) with q3 | q3
            · exfalso
              refine q ⟨s', hA, q2, ?_⟩
              have : ((g.μ s).n + ys.length) * z ≤ (g.μ s).C * z := Nat.mul_le_mul_right _ hroom
              rw [Nat.add_mul] at this
              omega
            · exact q3
      have hxw : Ext w (frzImm g st.σ s r.els.length) w' (frzImm g st.σ s r.els.length) := ⟨fun _ _ q => q, fun b o' q => (hcell b o' fun q' => hTi b o' q' q).1, fun k _ x _ hx hc => by
        rcases hw' with ⟨rfl, _⟩ | ⟨b', s', hA, rfl⟩
        · exact hx
        · exact (heap_setCells_same b' vals _ w).same k x hx (not_cells_of_map hc)⟩
      have hlw : w'.heap.size = w.heap.size := by
        rcases hw' with ⟨rfl, _⟩ | ⟨b', s', hA, rfl⟩
        · rfl
        · exact size_setCells _ _ _ _
      have hbw : Bel X.w0.heap.size X.w0 w' := by
        rcases hw' with ⟨rfl, _⟩ | ⟨b', s', hA, rfl⟩
        · exact h.below
        · rcases Nat.eq_zero_or_pos vals.length with q | q
          · have : vals = [] := List.eq_nil_of_length_eq_zero q
            subst this
            exact h.below
          · refine below_setCells b' ?_ vals _ w h.below
            refine (h.own_lt hsr (hT b' s' hA (s' + (g.μ s).n * z) (Nat.le_refl _) ?_)).1
            have : ((g.μ s).n + ys.length) * z ≤ (g.μ s).C * z := Nat.mul_le_mul_right _ hroom
            rw [Nat.add_mul] at this
            omega
      -- the rows stand
      have hother : ∀ l' r' b o', upd st.σ s (some { r with lo := r.els.length, opn := false }) l' = some r' → OwnR (g.μ l') r' b o' → ¬ ∃ s', (g.μ s).A = some ⟨b, s', none⟩ ∧ s' + (g.μ s).n * z ≤ o' ∧ o' < s' + (g.μ s).C * z := by
        rintro l' r' b o' q ho' ⟨s', hA, q1, q2⟩
        by_cases el : l' = s
        · subst el
          rw [upd_same] at q
          cases q
          obtain ⟨s2, hA2, k1, k2⟩ := ho'
          simp only [Bool.false_eq_true, if_false] at k1 k2
          rw [hn] at k2
          omega
        · rw [upd_other _ _ el] at q
          exact h.disj l' s r' r el q hsr b o' ho' (hT b s' hA o' q1 q2)
      have hM := hF.move (w' := w') (imm' := frzImm g st.σ s r.els.length) hxw (fun l' r' b o' q ho' => ⟨(hcell b o' (hother l' r' b o' q ho')).1, (hcell b o' (hother l' r' b o' q ho')).2, hF.ownimm l' r' b o' q ho'⟩)
        (fun b o' q => by rw [hlw]; exact hF.immlt b o' q) hF.immsub hbw (fun k x hx hc => by
          rcases hw' with ⟨rfl, _⟩ | ⟨b', s', hA, rfl⟩
          · exact hx
          · exact (heap_setCells_same b' vals _ w).same k x hx hc) (fun _ _ _ q _ _ => q)
      have hown : ∀ b o', OwnR ⟨(g.μ s).A, (g.μ s).n + ys.length, (g.μ s).C, z⟩ ⟨r.els ++ ys, r.els.length, true, z, r.cl && cl⟩ b o' → ∃ s', (g.μ s).A = some ⟨b, s', none⟩ ∧ s' + (g.μ s).n * z ≤ o' ∧ o' < s' + (g.μ s).C * z := by
        rintro b o' ⟨s', hA, q1, q2⟩
        simp only [if_true] at q1 q2
        exact ⟨s', hA, by rw [hn]; exact q1, q2⟩
      have hN := hM.row (l := l) (m := ⟨(g.μ s).A, (g.μ s).n + ys.length, (g.μ s).C, z⟩) (r := ⟨r.els ++ ys, r.els.length, true, z, r.cl && cl⟩) hlm hFl
        ⟨by simp [hn], rfl, hroom, by simp only; omega, fun e he => ⟨(List.mem_append.1 he).elim (fun q => (hR.el e q).1) (hyel e), hel e he⟩, hR.nil, hR.spot, fun i x j y hx hy => ?_, fun b o' q => ?_⟩
        (fun l' r' b o' q ho' k => hother l' r' b o' q ho' (hown b o' k)) (fun b o' q => hTi b o' (hown b o' q))
      · refine wpIn_value hnd (exec_append ho (by rw [e]; exact hrun)) (hK _ _ _ (hN.put hdst ?_))
        exact sl_new (l := l) (m := ⟨(g.μ s).A, (g.μ s).n + ys.length, (g.μ s).C, z⟩) ⟨_, upd_same _ _ _⟩ (upd_same _ _ _)
      · simp only at hx ⊢
        have hi := lt_of_get hx
        simp at hi
        have hxz : x.cells.length = z := hel x (List.mem_of_getElem? hx)
        have hj := PV.cells_len_pos hy
        rcases Nat.lt_or_ge i r.els.length with q | q
        · rw [List.getElem?_append_left q] at hx
          obtain ⟨b, s', u, k1, k2, k3, k4, k5⟩ := hRF.cell i x j y hx hy
          simp only at k1 k2 k4 k5
          rw [hmz] at k2 k4
          have hi' := k4 q
          exact ⟨b, s', u, k1, by rw [hxw.cl b _ hi']; exact k2, k3.mono hxw fun _ q => ⟨q, rfl⟩, fun _ => hi', fun q' => (k5 (by simp at q'; exact q'.1)).mono hxw⟩
        · rw [List.getElem?_append_right q] at hx
          have hm : 0 < ys.length := by omega
          rcases hw' with ⟨_, q0⟩ | ⟨b', s', hA, rfl⟩
          · omega
          · have e1 : (i - r.els.length) * z = i * z - r.els.length * z := Nat.sub_mul _ _ _
            have e2 : r.els.length * z ≤ i * z := Nat.mul_le_mul_right _ q
            have e3 : (i - r.els.length + 1) * z ≤ ys.length * z := Nat.mul_le_mul_right _ (by omega)
            rw [Nat.add_mul, Nat.one_mul] at e3
            have hlt : (i - r.els.length) * z + j < vals.length := by omega
            have hu' := List.getElem?_eq_getElem hlt
            have hrd := hvr _ x j y _ hx hy hu'
            have hin := World.cell?_setCells_in b' vals (s' + (g.μ s).n * z) w (fun j' hj' => (hR.own b' _ (hT b' s' hA _ (by omega) (by
              have : ((g.μ s).n + ys.length) * z ≤ (g.μ s).C * z := Nat.mul_le_mul_right _ hroom
              rw [Nat.add_mul] at this
              omega))).2.1) _ hlt
            rw [show s' + (g.μ s).n * z + ((i - r.els.length) * z + j) = s' + i * z + j by rw [hn]; omega] at hin
            exact ⟨b', s', _, hA, hin, (hrd.1.mono hxF hpF).mono hxw fun _ q => ⟨q, rfl⟩, fun q' => by omega, fun q' => ((hrd.2 (by simp at q'; exact q'.2)).mono hxF).mono hxw⟩
      · obtain ⟨s', hA, q1, q2⟩ := hown b o' q
        obtain ⟨k1, k2, k3⟩ := hR.own b o' (hT b s' hA o' q1 q2)
        refine ⟨k1, ?_, ?_⟩
        · rcases hw' with ⟨rfl, _⟩ | ⟨b', s2, hA2, rfl⟩
          · exact k2
          · rw [hA] at hA2
            cases hA2
            by_cases q3 : o' < s' + (g.μ s).n * z + vals.length
            · have := World.cell?_setCells_in b vals (s' + (g.μ s).n * z) w (fun j' hj' => (hR.own b _ (hT b s' hA _ (by omega) (by
                have : ((g.μ s).n + ys.length) * z ≤ (g.μ s).C * z := Nat.mul_le_mul_right _ hroom
                rw [Nat.add_mul] at this
                omega))).2.1) (o' - (s' + (g.μ s).n * z)) (by omega)
              rw [show s' + (g.μ s).n * z + (o' - (s' + (g.μ s).n * z)) = o' by omega] at this
              rw [this]; rfl
            · rw [World.cell?_setCells_out b vals _ w ⟨b, o', none⟩ fun _ _ => by simp only; omega]
              exact k2
        · rcases hw' with ⟨rfl, _⟩ | ⟨b', s2, hA2, rfl⟩
          · exact k3
          · rw [World.frozen?_setCells]; exact k3
    rcases Nat.eq_zero_or_pos ys.length with hm | hm
    · refine hnew w undef ?_ (.inl ⟨rfl, hm⟩)
      rw [eB, hm]
      exact run_append_0 hE hz hR.C
    · obtain ⟨bB, sB, rfl, hBc⟩ := hvc hm
      obtain ⟨b, s', hA⟩ := hR.spot (by omega)
      refine hnew _ undef ?_ (.inr ⟨b, s', hA, rfl⟩)
      rw [eB, hA]
      refine run_append_room' hE hz hroom hlv (fun j u hj => by rw [addr_add]; exact hBc j u hj) hone fun j hj => (hR.own b _ (hT b s' hA _ (by omega) (by
        have : ((g.μ s).n + ys.length) * z ≤ (g.μ s).C * z := Nat.mul_le_mul_right _ hroom
        rw [Nat.add_mul] at this
        omega))).2

end
end Go.Pw
