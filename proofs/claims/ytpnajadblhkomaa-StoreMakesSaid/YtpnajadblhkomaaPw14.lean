/-
  Whatever an operation of the state does, the operation of the program does: all of them.
-/
import Derived.Test.YtpnajadblhkomaaPw13
namespace Go.Pw
open Go.RowKit
set_option linter.unusedVariables false

section
variable {X : Ctx} {g : Gh} {st : St} {a : Act} {w : World} {n : Nat} {K : Act → World → Prop} {Q : Exit → Act → World → Prop} {ρ : Option Nat} {P : Program}

theorem RdL.w2 {w : World} {imm : Nat → Nat → Prop} {vs : Array Value} {ds : List PV} {σ : Nat → Option Row} (h : RdL w imm vs (ds.map (PV.view σ))) : RdL w imm vs (ds.map (PV.vw σ)) := by
  refine ⟨by simpa using h.1, fun i v d hv hd => ?_⟩
  obtain ⟨c0, k1, rfl⟩ := map_get hd
  exact (h.2 i v (c0.view σ) hv (by rw [List.getElem?_map, k1]; rfl)).w2

theorem op_call {o : Oper} {x : Operand} {args : Array Operand} {ts : Array TypeId} {f : FuncId} {cap : List PV} {d : PV} {σF : Nat → Option Row} (h : Sim X g st a w) (hs : Same st.σ σF) (ho : o.op = .call { callee := .value x, args, argTypes := ts })
    (hdst : ∀ t, o.dst = some t → t < X.N) (hf : evP st.env x = .fn (.func f) cap) (hb : ∃ fn c, X.P.funcs[f]? = some fn ∧ fn.body = some c ∧ fn.name ≠ "runtime.NumGoroutine")
    (hok : (args.toList.map (evP st.env) ++ cap).all (PV.vok σF) = true) (hc : PCalls X.P f ((args.toList.map (evP st.env) ++ cap).map (PV.vw σF)) d) (hfl : d.flat = true)
    (hK : ∀ g' a' w', Sim X g' ⟨putE st.env o.dst d, st.σ⟩ a' w' → K a' w') : o.wpIn (FX ρ) n X.P a w K Q := by
  have hv := h.eval x
  rw [hf] at hv
  obtain ⟨vs, e, hn, hcap⟩ := fn_inv hv
  obtain ⟨hsz, hrd⟩ := args_rd h (args := args) hn hcap
  -- what is shown for the time of the call
  obtain ⟨imm2, hF, hX, hSh⟩ := h.frzL ((args.toList.map (evP st.env) ++ cap).flatMap (PV.vrefs σF))
  have hargs := view_args h hs hX hsz hrd hok (fun l hl r hr => hSh l hl r hr) |>.w2
  refine wpIn_enter (fun c => by rw [ho]; simp) (exec_call ho e hb) ((hc w imm2 _ hF.immlt hargs).mono fun ev w' hr => ?_)
  obtain ⟨v, rfl, hbel, hres⟩ := hr
  refine ⟨v, rfl, ?_⟩
  have hS := h.called hbel (fun _ _ => False)
  exact hK _ _ _ (hS.put hdst (.cl (hres.flat hfl _ _)))

theorem op_callF {o : Oper} {x : Operand} {args : Array Operand} {ts : Array TypeId} {f : FuncId} {cap : List PV} {d : PV} {σF : Nat → Option Row} (h : Sim X g st a w) (hs : Same st.σ σF) (ho : o.op = .call { callee := .value x, args, argTypes := ts })
    (hdst : ∀ t, o.dst = some t → t < X.N) (hf : evP st.env x = .fn (.func f) cap) (hb : ∃ fn c, X.P.funcs[f]? = some fn ∧ fn.body = some c ∧ fn.name ≠ "runtime.NumGoroutine")
    (hok : (args.toList.map (evP st.env) ++ cap).all (PV.vok σF) = true) (hc : PCalls X.P f ((args.toList.map (evP st.env) ++ cap).map (PV.vw σF)) d)
    (hK : ∀ g' a' w', Sim X g' ⟨putE st.env o.dst d, frzL st.σ ((args.toList.map (evP st.env) ++ cap).flatMap (PV.vrefs σF))⟩ a' w' → K a' w') : o.wpIn (FX ρ) n X.P a w K Q := by
  have hv := h.eval x
  rw [hf] at hv
  obtain ⟨vs, e, hn, hcap⟩ := fn_inv hv
  obtain ⟨hsz, hrd⟩ := args_rd h (args := args) hn hcap
  obtain ⟨imm2, hF, hX, hSh⟩ := h.frzL ((args.toList.map (evP st.env) ++ cap).flatMap (PV.vrefs σF))
  have hargs := view_args h hs hX hsz hrd hok (fun l hl r hr => hSh l hl r hr) |>.w2
  refine wpIn_enter (fun c => by rw [ho]; simp) (exec_call ho e hb) ((hc w imm2 _ hF.immlt hargs).mono fun ev w' hr => ?_)
  obtain ⟨v, rfl, hbel, hres⟩ := hr
  refine ⟨v, rfl, ?_⟩
  have hS := hF.called hbel (fun _ _ => True)
  refine hK _ _ _ (hS.put hdst (.cl (hres.mono ⟨fun b o q => ?_, fun _ _ _ => rfl, fun _ _ _ _ q _ => q⟩)))
  rcases q with q | ⟨q1, q2⟩
  · exact .inl q
  · exact .inr ⟨trivial, q1, q2⟩

theorem op_callN {o : Oper} {x : Operand} {args : Array Operand} {ts : Array TypeId} {f : FuncId} {cap : List PV} {r : Row} {l : Nat} {σF : Nat → Option Row} (h : Sim X g st a w) (hs : Same st.σ σF) (ho : o.op = .call { callee := .value x, args, argTypes := ts })
    (hdst : ∀ t, o.dst = some t → t < X.N) (hlm : l < MB) (hl : st.σ l = none) (hf : evP st.env x = .fn (.func f) cap) (hb : ∃ fn c, X.P.funcs[f]? = some fn ∧ fn.body = some c ∧ fn.name ≠ "runtime.NumGoroutine")
    (hok : (args.toList.map (evP st.env) ++ cap).all (PV.vok σF) = true) (hc : PCallsN X.P f ((args.toList.map (evP st.env) ++ cap).map (PV.vw σF)) r)
    (hK : ∀ g' a' w', Sim X g' ⟨putE st.env o.dst (.sl l), upd (frzL st.σ ((args.toList.map (evP st.env) ++ cap).flatMap (PV.vrefs σF))) l (some r)⟩ a' w' → K a' w') : o.wpIn (FX ρ) n X.P a w K Q := by
  have hv := h.eval x
  rw [hf] at hv
  obtain ⟨vs, e, hn, hcap⟩ := fn_inv hv
  obtain ⟨hsz, hrd⟩ := args_rd h (args := args) hn hcap
  generalize hls : (args.toList.map (evP st.env) ++ cap).flatMap (PV.vrefs σF) = ls at hK
  obtain ⟨imm2, hF, hX, hSh⟩ := h.frzL ls
  have hargs := view_args h hs hX hsz hrd hok (fun l hl r hr => hSh l (by rw [← hls]; exact hl) r hr) |>.w2
  refine wpIn_enter (fun c => by rw [ho]; simp) (exec_call ho e hb) ((hc w imm2 _ hF.immlt hargs).mono fun ev w' hr => ?_)
  obtain ⟨m, rfl, hbel, hRow, hown⟩ := hr
  refine ⟨_, rfl, ?_⟩
  have hS := hF.called hbel (fun b o => ¬ OwnR m r b o)
  have hl' : frzL st.σ ls l = none := by
    clear hS hRow hargs hSh hF hK hc hls
    revert hl
    generalize st.σ = σ
    intro hl
    induction ls generalizing σ with
    | nil => exact hl
    | cons k ls ih =>
      refine ih (frz1 σ k) ?_
      unfold frz1
      cases hk : σ k with
      | none => exact hl
      | some q =>
        by_cases e : l = k
        · subst e; rw [hl] at hk; cases hk
        · simp only [upd_other _ _ e]; exact hl
  have hx2 : Ext w' (fun b o => newImm imm2 w w' b o ∧ ¬ OwnR m r b o) w' (fun b o => imm2 b o ∨ (¬ OwnR m r b o ∧ w.heap.size ≤ b ∧ b < w'.heap.size)) := by
    refine ⟨fun b o q => ?_, fun _ _ _ => rfl, fun _ _ _ _ q _ => q⟩
    rcases q with ⟨q | ⟨q1, q2⟩, q3⟩
    · exact .inl q
    · exact .inr ⟨q3, q1, q2⟩
  have hRow' := hRow.mono (μ' := g.μ) (pres' := St.pres ⟨st.env, frzL st.σ ls⟩) hx2 (fun _ q => q.elim) (fun b o ho => ⟨rfl, rfl⟩)
  have hbase := h.below.size
  have hN := hS.row (l := l) (m := m) (r := r) hlm hl' ⟨hRow'.n, hRow'.z, hRow'.C, hRow'.lo, hRow'.el, hRow'.nil, hRow'.spot, hRow'.cell, fun b o ho => ⟨by have := (hRow'.own b o ho).1; omega, (hRow'.own b o ho).2⟩⟩
    (fun l' r' b o q ho k => by have := (hF.own_lt q ho).2; have := hown b o k; omega)
    (fun b o q k => by
      rcases k with k | ⟨k, _⟩
      · have := hF.immlt b o k; have := hown b o q; omega
      · exact k q)
  exact hK _ _ _ (hN.put hdst (sl_new ⟨_, upd_same _ _ _⟩ (upd_same _ _ _)))

theorem small (h : Sim X g st a w) {dst : Option Tmp} (hdst : ∀ t, dst = some t → t < X.N) {l : Nat} (hd : dst = some l) : l < MB := by
  exact Nat.lt_of_lt_of_le (hdst l hd) (Nat.le_trans h.big.1 (by decide))

set_option maxHeartbeats 2000000 in
/-- Whatever an operation of the state does, the operation of the program does. -/
theorem op_sound {o : Oper} {σF : Nat → Option Row} {d : PV} {e : Eff} (h : Sim X g st a w) (hop : OpR X.P σF (evP st.env) o.dst o.op d e) (hs : Same st.σ σF) (hok : e.ok st.σ) (hdst : ∀ t, o.dst = some t → t < X.N)
    (hK : ∀ g' a' w', Sim X g' ⟨putE st.env o.dst d, e.apply st.σ⟩ a' w' → K a' w') : o.wpIn (FX ρ) n X.P a w K Q := by
  by_cases hl : match o.op with | .move _ | .assign _ | .pick .. | .load .. | .nilCheck _ | .unOp .. | .binOp .. | .convert .. | .fieldAddr .. | .field .. | .indexAddr .. | .extract .. | .makeFunc .. => True | _ => False
  · obtain ⟨rfl, hu⟩ := op_look h hop hs hl
    refine fin_look h (fun c q => ?_) hdst hu hK
    rw [q] at hl
    exact hl
  obtain ⟨dst, op, ty, pos, after, guard⟩ := o
  simp only at hop hl
  have hsrc : ∀ {y : Operand} {ys : List PV} {cl : Bool}, Src σF (evP st.env y) ys cl → Src st.σ (evP st.env y) ys cl := fun {y ys cl} hy => hy.same hs fun l e => by
    have := h.eval y
    rw [e] at this
    exact this.sl_inv.1
  have hrow : ∀ {y : Operand} {l : Nat} {r : Row}, evP st.env y = .sl l → σF l = some r → ∃ r0, st.σ l = some r0 ∧ r0.els = r.els ∧ r0.z = r.z ∧ r0.cl = r.cl := fun {y l r} e hr => by
    have := h.eval y
    rw [e] at this
    exact hs.at this.sl_inv.1 hr
  cases hop <;> first | (exact absurd trivial hl) | skip
  case pureV hnd hnl hc => exact fin_look h hnd hdst (hc _ w g.imm g.μ st.pres a.eval rfl fun x _ => h.eval x) hK
  case box T x l hd hx => exact op_box h rfl hdst (small h hdst hd) hok hx hK
  case alloc T l v hd hz hx => exact op_alloc h rfl hdst (small h hdst hd) hok hz hx (ofV_clo v) hK
  case store T x y l i f d hx hd hy hsz hpos => exact op_store h rfl hdst hx hd hy hsz hpos hok hK
  case build T parts pl z zs cs hpl hz hzs hsc hf => exact fin_look h (fun c q => by cases q) hdst (op_build h rfl hpl hz hzs hf hsc) hK
  case mkSlice T x y l k k' m E z v hd hx hy h0 hE hz hv hel hvz b hb hbm hn => exact op_mkSlice h rfl hdst (small h hdst hd) hok hx hy h0 hE hz hv hel hvz hb hbm hn hK
  case lenL x t xs T hx hT ts hts => exact fin_look h (fun c q => by cases q) hdst (op_lenL h rfl hx hT hts) hK
  case lenR x l r T hx hl' hT ts hts =>
    obtain ⟨r0, k1, k2, _⟩ := hrow hx hl'
    have := op_lenR h (o := ⟨dst, .call { callee := .builtin .len, args := #[x], argTypes := ts }, ty, pos, after, guard⟩) rfl hx k1 hT hts
    rw [k2] at this
    exact fin_look h (fun c q => by cases q) hdst this hK
  case lenS x s T hx hT ts hts => exact fin_look h (fun c q => by cases q) hdst (op_lenS h rfl hx hT hts) hK
  case min2 x y k p q ts hx hy => exact fin_look h (fun c q => by cases q) hdst (op_min h rfl hx hy) hK
  case max2 x y k p q ts hx hy => exact fin_look h (fun c q => by cases q) hdst (op_max h rfl hx hy) hK
  case call f args ts cap x hf hb hok' hc hfl => exact op_call h hs rfl hdst hf hb hok' hc hfl hK
  case callF f args ts cap x hf hb hok' hc => exact op_callF h hs rfl hdst hf hb hok' hc hK
  case callN f args ts cap l r x hd hf hb hok' hc hcl => exact op_callN h hs rfl hdst (small h hdst hd) hok hf hb hok' hc hK
  case appT x y T E xs ys cl z by_ l zv hd hx hy hE hz hb hzv hzz hel hfit h63 => exact op_appT h rfl hdst (small h hdst hd) hok hx (hsrc hy) hE hz hb hzv hzz hel hfit h63 hK
  case appR x y T E s r ys cl z by_ l zv hd hx hs' hy hE hz hb hzv hzz hel hrz hfit h63 =>
    obtain ⟨r0, k1, k2, k3, k4⟩ := hrow hx hs'
    obtain ⟨hl', q, hq, hop⟩ := hok
    rw [k1] at hq
    cases hq
    rw [← k2, ← k4] at hK
    rw [← k2] at hel hfit h63
    rw [← k3] at hrz
    exact op_appR h rfl hdst (small h hdst hd) hl' hx k1 hop (hsrc hy) hE hz hb hzv hzz hel hrz hfit h63 hK
  case buildSlice T E parts len z l zv els cl hd hE hz hzv hlen hel hbig hf hcl => exact op_buildSlice h rfl hdst (small h hdst hd) hok hE hz hzv hlen hel hbig hf hcl hK
  case buildI T E parts len z zv els hE hz hzv hlen hel hbig hf hcl => exact op_buildI h rfl hdst hE hz hzv hlen hel hbig hf hcl hK
  case nilSlice T E parts l z hd hE hz hp =>
    subst hp
    have hu := telem_inv hE
    refine wpIn_value (v := .slice (some ⟨w.heap.size, 0, none⟩) 0 0) (w' := w.alloc (.cells #[] E)) (fun c q => by cases q) ?_ (hK g _ _ ((h.alloc _).put hdst (.cl ?_)))
    · refine run_v ?_
      simp only [Instr.buildSlice, Sem.run_bind, run_underlying hu, Result.andThen_ok, run_sizeOf' hz]
      simp [Instr.fill, newRow, Array.range_zero']
    · exact .lst (some ⟨w.heap.size, 0, none⟩) 0 1 true [] (fun _ _ => undef) (Nat.le_refl _) (fun _ => rfl) (fun q => by cases q) (fun _ q => by simp at q) (fun q => absurd q (Nat.lt_irrefl _)) (fun i x j y q => by simp at q)
  case sliceL T E z x lo hi mx t xs i j k hx hE hz hel hlo hhi hmx hmh hij hjk hk => exact fin_look h (fun c q => by cases q) hdst (op_sliceL h rfl hx hE hz hel hlo hhi hmx hmh hij hjk hk) hK
  case sliceR T E z x lo s r i l hd hx hs' hE hz hrz hlo hi =>
    obtain ⟨r0, k1, k2, k3, k4⟩ := hrow hx hs'
    obtain ⟨hl', q, hq, hop⟩ := hok
    rw [k1] at hq
    cases hq
    rw [← k2, ← k4] at hK
    rw [← k2] at hi
    rw [← k3] at hrz
    exact op_sliceR h rfl hdst (small h hdst hd) hl' hx k1 hop hE hz hrz hlo hi hK
  case sliceF T E z x lo hi s r i j hx hs' hcl hE hz hrz hlo hhi hij hj =>
    obtain ⟨r0, k1, k2, k3, k4⟩ := hrow hx hs'
    rw [← k2] at hK hhi hj
    rw [← k3] at hrz
    rw [← k4] at hcl
    exact op_sliceF h rfl hdst hx k1 hcl hE hz hrz hlo hhi hij hj hK
  case copy x y T U E l r ys z hx hl' hcl hy hE hz hrz hel hn hzp =>
    obtain ⟨r0, k1, k2, k3, k4⟩ := hrow hx hl'
    obtain ⟨q, hq, hlo, _⟩ := hok
    rw [k1] at hq
    cases hq
    rw [← k2] at hn
    rw [← k3] at hrz
    rw [← k4] at hcl
    exact op_copy h rfl hdst hx k1 hcl hlo (hsrc hy) hE hz hrz hel hn hzp hK

end
end Go.Pw
