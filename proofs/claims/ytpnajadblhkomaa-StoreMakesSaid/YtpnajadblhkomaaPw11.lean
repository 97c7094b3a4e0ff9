/-
  Whatever an operation of the state does, the operation of the program does (VI): literals, make, len, min, max.
-/
import Derived.Test.YtpnajadblhkomaaPw10
namespace Go.Pw
open Go.RowKit
set_option linter.unusedVariables false

section
variable {X : Ctx} {g : Gh} {st : St} {a : Act} {w : World} {n : Nat} {K : Act → World → Prop} {Q : Exit → Act → World → Prop} {ρ : Option Nat} {P : Program}

def layAt (off : Nat) (cells : Array Value) (l : List (Value × Nat)) : Array Value := l.foldl (fun cs (c, j) => cs.setIfInBounds (off + j) c) cells

theorem layAt_size (off : Nat) : ∀ (l : List (Value × Nat)) (cells : Array Value), (layAt off cells l).size = cells.size
  | [], _ => rfl
  | _ :: l, cells => by
    show (layAt off (cells.setIfInBounds _ _) l).size = _
    rw [layAt_size off l]
    simp

theorem layAt_get (off : Nat) : ∀ (vs : List Value) (j0 : Nat) (cells : Array Value), off + j0 + vs.length ≤ cells.size → ∀ k,
    (layAt off cells (vs.zipIdx j0))[k]? = if off + j0 ≤ k ∧ k < off + j0 + vs.length then vs[k - (off + j0)]? else cells[k]?
  | [], j0, cells, _, k => by
    rw [if_neg (by simp only [List.length_nil]; omega)]
    rfl
  | v :: vs, j0, cells, h, k => by
    simp only [List.length_cons] at h
    have ih := layAt_get off vs (j0 + 1) (cells.setIfInBounds (off + j0) v) (by simp; omega) k
    rw [List.zipIdx_cons]
    show (layAt off (cells.setIfInBounds (off + j0) v) (vs.zipIdx (j0 + 1)))[k]? = _
    rw [ih]
    by_cases e : k = off + j0
    · subst e
      rw [if_neg (by omega), if_pos ⟨by omega, by simp only [List.length_cons]; omega⟩, Nat.sub_self]
      simp only [List.getElem?_cons_zero, Array.getElem?_setIfInBounds, if_true]
      rw [if_pos (by omega)]
    · by_cases q : off + (j0 + 1) ≤ k ∧ k < off + (j0 + 1) + vs.length
      · rw [if_pos q, if_pos (by simp only [List.length_cons]; omega)]
        rw [show k - (off + j0) = (k - (off + (j0 + 1))) + 1 by omega, List.getElem?_cons_succ]
      · rw [if_neg q, if_neg (by simp only [List.length_cons]; omega)]
        simp only [Array.getElem?_setIfInBounds]
        rw [if_neg (Ne.symm e)]

def Cells (R : Value → PV → Prop) (cs : Array Value) (ps : List PV) : Prop := cs.size = ps.length ∧ ∀ (k : Nat) v p, cs[k]? = some v → ps[k]? = some p → R v p

theorem fill_sound {w : World} {imm : Nat → Nat → Prop} {μ : Nat → RLoc} {pres : Nat → Prop} (place : Nat → Option (Nat × Nat)) : ∀ (parts : List (Nat × Value)) (pp : List (Nat × PV)) (cs : Array Value) (ps ps' : List PV),
    parts.length = pp.length → (∀ (k : Nat) i v j d, parts[k]? = some (i, v) → pp[k]? = some (j, d) → i = j ∧ Rd w imm μ pres v d) → Cells (Rd w imm μ pres) cs ps → fillP place ps pp = some ps' →
    ∃ cs', Instr.fill place cs parts = some cs' ∧ Cells (Rd w imm μ pres) cs' ps'
  | [], [], cs, ps, ps', _, _, hc, hf => by
    simp only [fillP, Option.some.injEq] at hf
    subst hf
    exact ⟨cs, rfl, hc⟩
  | (i, v) :: parts, (j, d) :: pp, cs, ps, ps', hl, hp, hc, hf => by
    obtain ⟨rfl, hv⟩ := hp 0 i v j d rfl rfl
    simp only [fillP] at hf
    simp only [Instr.fill]
    cases hpl : place i with
    | none => rw [hpl] at hf; cases hf
    | some q =>
      obtain ⟨off, size⟩ := q
      rw [hpl] at hf
      simp only at hf ⊢
      split at hf
      · cases hf
      · rename_i hn
        have hn1 : d.cells.length = size := by
          rcases Nat.decEq d.cells.length size with q | q
          · exact absurd (.inl q) hn
          · exact q
        have hn2 : off + d.cells.length ≤ ps.length := by
          rcases Nat.lt_or_ge ps.length (off + d.cells.length) with q | q
          · exact absurd (.inr (.inl q)) hn
          · exact q
        have hn3 : d.el = true := by
          cases q : d.el
          · exact absurd (.inr (.inr q)) hn
          · rfl
        obtain ⟨hs, hcs⟩ := hv.cells hn3
        have e : ¬ (v.cells.size ≠ size ∨ off + v.cells.size > cs.size) := by rw [hs, hc.1]; omega
        have e' : (decide (v.cells.size ≠ size) || decide (off + v.cells.size > cs.size)) = false := by
          simp only [Bool.or_eq_false_iff, decide_eq_false_iff_not]; omega
        rw [if_neg (by simpa using e')]
        refine fill_sound place parts pp _ _ ps' (by simpa using hl) (fun k => hp (k + 1)) ?_ hf
        have hz : v.cells.zipIdx.foldl (fun cs (x : Value × Nat) => cs.setIfInBounds (off + x.2) x.1) cs = layAt off cs (v.cells.toList.zipIdx 0) := by
          rw [← Array.foldl_toList, Array.toList_zipIdx]
          rfl
        refine ⟨?_, fun k u p hu hp' => ?_⟩
        · have : (v.cells.zipIdx.foldl (fun cs (x : Value × Nat) => cs.setIfInBounds (off + x.2) x.1) cs).size = cs.size := by rw [hz]; exact layAt_size off _ _
          rw [show (v.cells.zipIdx.foldl _ cs).size = cs.size from this, hc.1]
          simp
          omega
        · have hu' : (layAt off cs (v.cells.toList.zipIdx 0))[k]? = some u := by rw [← hz]; exact hu
          rw [layAt_get off v.cells.toList 0 cs (by simp; omega)] at hu'
          simp only [Nat.add_zero, Array.length_toList, hs] at hu'
          split at hu'
          · rename_i q
            rw [List.append_assoc, List.getElem?_append_right (by simp; omega), List.getElem?_append_left (by simp; omega)] at hp'
            simp only [List.length_take, Nat.min_eq_left (show off ≤ ps.length by omega)] at hp'
            exact hcs _ u p (by simpa using hu') hp'
          · rename_i q
            refine hc.2 k u p hu' ?_
            rcases Nat.lt_or_ge k off with q2 | q2
            · rw [List.append_assoc, List.getElem?_append_left (by simp; omega), List.getElem?_take_of_lt q2] at hp'
              exact hp'
            · have hlt := lt_of_get hp'
              simp at hlt
              rw [List.getElem?_append_right (by simp; omega)] at hp'
              simp only [List.length_append, List.length_take, List.getElem?_drop, Nat.min_eq_left (show off ≤ ps.length by omega)] at hp'
              rwa [show off + d.cells.length + (k - (off + d.cells.length)) = k by omega] at hp'


theorem run_build' {T : TypeId} {pl : Nat → Option (Nat × Nat)} {z : Value} {parts : Array (Nat × Value)} {cells : Array Value} (hpl : bplaces P T = some pl) (hz : tzero P T = some z)
    (hf : Instr.fill pl z.cells parts.toList = some cells) : (Instr.build T parts).run P w = .ok (.agg cells) w := by
  refine run_build w T parts cells ?_
  unfold Program.built
  unfold bplaces at hpl
  unfold tzero at hz
  cases hit : P.info? T with
  | none => rw [hit] at hz; cases hz
  | some it =>
    rw [hit] at hz
    have hz' : it.zero = some z := by simpa using hz
    cases hu : P.underlying T with
    | none => rw [hu] at hpl; cases hpl
    | some D =>
      rw [hu] at hpl
      cases D <;> first | (cases hpl; done) | skip
      case array m e =>
        simp only at hpl ⊢
        cases hie : P.info? e with
        | none => rw [hie] at hpl; cases hpl
        | some ie =>
          rw [hie] at hpl
          simp only [Option.map_some, Option.some.injEq] at hpl
          simp only [hz']
          rw [show (fun i => some (i * ie.size, ie.size)) = pl from hpl]
          exact hf
      case struct fs =>
        simp only at hpl ⊢
        cases hm : fs.toList.mapM (fun f => (P.info? f.type).map fun i => (f.offset, i.size)) with
        | none => rw [hm] at hpl; cases hpl
        | some places =>
          rw [hm] at hpl
          simp only [Option.map_some, Option.some.injEq] at hpl
          simp only [hz']
          rw [show (places.toArray[·]?) = pl from hpl]
          exact hf

theorem parts_map (h : Sim X g st a w) (parts : Array (Nat × Operand)) : ∀ (k : Nat) i v j d, ((parts.map fun (i, x) => (i, a.eval x)).toList)[k]? = some (i, v) → (parts.toList.map fun p => (p.1, (evP st.env p.2).w1))[k]? = some (j, d) →
    i = j ∧ Rd w g.imm g.μ st.pres v d := by
  intro k i v j d h1 h2
  rw [Array.toList_map, List.getElem?_map] at h1
  rw [List.getElem?_map] at h2
  cases hk : parts.toList[k]? with
  | none => rw [hk] at h1; cases h1
  | some p =>
    rw [hk] at h1 h2
    simp only [Option.map_some, Option.some.injEq, Prod.mk.injEq] at h1 h2
    obtain ⟨rfl, rfl⟩ := h1
    obtain ⟨rfl, rfl⟩ := h2
    exact ⟨rfl, (h.eval _).w1⟩

theorem op_build {o : Oper} {T : TypeId} {parts : Array (Nat × Operand)} {pl : Nat → Option (Nat × Nat)} {z : Value} {zs cs : List PV} (h : Sim X g st a w) (ho : o.op = .build T parts) (hpl : bplaces X.P T = some pl) (hz : tzero X.P T = some z)
    (hzs : PV.ofV z = .agg zs) (hf : fillP pl zs (parts.toList.map fun p => (p.1, (evP st.env p.2).w1)) = some cs) (hsc : cs.all PV.sc = true) :
    ∃ u, (execOp a.eval o).run X.P w = .ok (.value u) w ∧ Rd w g.imm g.μ st.pres u (.agg cs) := by
  have hr := rd_ofV w g.imm z
  rw [hzs] at hr
  have hcells : Cells (Rd w g.imm g.μ st.pres) z.cells zs := by
    obtain ⟨vs, e, hn, hc⟩ := (Rd.cl hr : Rd w g.imm g.μ st.pres z (.agg zs)).agg_inv
    subst e
    exact ⟨hn, hc⟩
  obtain ⟨cs', h1, h2, h3⟩ := fill_sound pl ((parts.map fun (i, x) => (i, a.eval x)).toList) (parts.toList.map fun p => (p.1, (evP st.env p.2).w1)) z.cells zs cs (by simp) (parts_map h parts) hcells hf
  refine ⟨.agg cs', ?_, .agg _ _ hsc h2 h3⟩
  obtain ⟨dst, op, ty, pos, after, guard⟩ := o
  simp only at ho
  subst ho
  exact run_v (run_build' hpl hz h1)

/-- The elements of a row, out of their cells. -/
theorem flat_reads {R : Value → PV → Prop} {z : Nat} : ∀ {els : List PV} {cs : Array Value}, (∀ x ∈ els, x.cells.length = z) → Cells R cs (els.flatMap PV.cells) →
    ∀ (i : Nat) x (j : Nat) y u, els[i]? = some x → x.cells[j]? = some y → cs[i * z + j]? = some u → R u y := by
  intro els cs hz hc i x j y u hx hy hu
  refine hc.2 _ _ _ hu ?_
  clear hc hu
  induction els generalizing i with
  | nil => simp at hx
  | cons e els ih =>
    cases i with
    | zero =>
      simp at hx
      subst hx
      simp only [Nat.zero_mul, Nat.zero_add, List.flatMap_cons]
      rw [List.getElem?_append_left (PV.cells_len_pos hy)]
      exact hy
    | succ i =>
      have he := hz e (by simp)
      simp only [List.flatMap_cons]
      rw [Nat.add_mul, Nat.one_mul, List.getElem?_append_right (by omega), show i * z + z + j - e.cells.length = i * z + j by omega]
      exact ih (fun x hx => hz x (by simp [hx])) i (by simpa using hx)

theorem flat_len {z : Nat} : ∀ {els : List PV}, (∀ x ∈ els, x.cells.length = z) → (els.flatMap PV.cells).length = els.length * z
  | [], _ => by simp
  | e :: els, h => by
    rw [List.flatMap_cons, List.length_append, flat_len (fun x hx => h x (by simp [hx])), h e (by simp), List.length_cons, Nat.add_mul]
    omega

theorem op_buildSlice {o : Oper} {T E : TypeId} {parts : Array (Nat × Operand)} {len z l : Nat} {zv : Value} {els : List PV} {cl : Bool} (h : Sim X g st a w) (ho : o.op = .buildSlice T len parts) (hdst : ∀ t, o.dst = some t → t < X.N) (hlm : l < MB) (hl : st.σ l = none)
    (hE : telem X.P T = some E) (hz : tsize X.P E = some z) (hzv : tzero X.P E = some zv) (hlen : els.length = len) (hel : ∀ x ∈ els, x.el = true ∧ x.cells.length = z) (hbig : len * z ≤ 2 ^ 24)
    (hf : fillP (fun i => some (i * z, z)) (List.replicate (len * z) .junk) (parts.toList.map fun p => (p.1, (evP st.env p.2).w1)) = some (els.flatMap PV.cells)) (hcl : cl = true → els.all (fun x => x.cells.all PV.clo1) = true)
    (hK : ∀ g' a' w', Sim X g' ⟨putE st.env o.dst (.sl l), (Eff.new l ⟨els, 0, true, z, cl⟩).apply st.σ⟩ a' w' → K a' w') : o.wpIn (FX ρ) n X.P a w K Q := by
  subst hlen
  have hcells : ∀ cs0 : Array Value, cs0.size = els.length * z → Cells (Rd w g.imm g.μ st.pres) cs0 (List.replicate (els.length * z) .junk) := fun cs0 hs => ⟨by simp [hs], fun k v p _ hp => by
    have := List.mem_of_getElem? hp
    rw [List.mem_replicate] at this
    rw [this.2]
    exact .cl (.junk v)⟩
  have key : ∀ cs0 : Array Value, cs0.size = els.length * z → ∃ cs, Instr.fill (fun i => some (i * z, z)) cs0 (parts.map fun (i, x) => (i, a.eval x)).toList = some cs ∧ Cells (Rd w g.imm g.μ st.pres) cs (els.flatMap PV.cells) := fun cs0 hs =>
    fill_sound (fun i => some (i * z, z)) ((parts.map fun (i, x) => (i, a.eval x)).toList) (parts.toList.map fun p => (p.1, (evP st.env p.2).w1)) cs0 _ _ (by simp) (parts_map h parts) (hcells cs0 hs) hf
  have hrun : ∃ cs, (Instr.buildSlice T els.length (parts.map fun (i, x) => (i, a.eval x))).run X.P w = .ok (.slice (some ⟨w.heap.size, 0, none⟩) els.length els.length) (w.alloc (.cells cs E)) ∧ Cells (Rd w g.imm g.μ st.pres) cs (els.flatMap PV.cells) := by
    have hu := telem_inv hE
    have hbig' : ¬ els.length * z > 2 ^ 24 := by omega
    by_cases h0 : els.length * z = 0
    · obtain ⟨cs, h1, h2⟩ := key ((Array.range (els.length * z)).map (fun x => (#[] : Array Value)[x % (#[] : Array Value).size]!)) (by simp)
      refine ⟨cs, ?_, h2⟩
      simp only [Instr.buildSlice, Sem.run_bind, run_underlying hu, Result.andThen_ok, run_sizeOf' hz, if_neg hbig', if_pos h0, Sem.run_pure, h1]
      rfl
    · obtain ⟨cs, h1, h2⟩ := key ((Array.range (els.length * z)).map (fun x => zv.cells[x % zv.cells.size]!)) (by simp)
      refine ⟨cs, ?_, h2⟩
      simp only [Instr.buildSlice, Sem.run_bind, run_underlying hu, Result.andThen_ok, run_sizeOf' hz, if_neg hbig', if_neg h0, Sem.run_pure, run_zero' hzv, h1]
      rfl
  obtain ⟨cs, hr, hc⟩ := hrun
  have hfl := flat_len (els := els) (fun x hx => (hel x hx).2)
  have h1 := h.rowNew (l := l) (els := els) (T := E) (C := els.length) (z := z) (opn := true) (cl := cl) cs hlm hl (Nat.le_refl _) (by rw [hc.1, hfl]) hel (fun i x j y u hx hy hu => by
    have := flat_reads (fun x hx => (hel x hx).2) hc i x j y u hx hy hu
    refine ⟨this, fun q => this.clo1 ?_⟩
    have := List.all_eq_true.1 (hcl q) x (List.mem_of_getElem? hx)
    exact List.all_eq_true.1 this y (List.mem_of_getElem? hy))
  refine wpIn_value (fun c => by rw [ho]; simp) ?_ (hK _ _ _ (h1.put hdst (sl_new ⟨_, upd_same _ _ _⟩ (upd_same _ _ _))))
  obtain ⟨dst, op, ty, pos, after, guard⟩ := o
  simp only at ho
  subst ho
  exact run_v hr

/-- A new block, that nobody turns any more. -/
theorem Sim.allocI (h : Sim X g st a w) (cs : Array Value) (T : TypeId) : Sim X ⟨fun b o => g.imm b o ∨ b = w.heap.size, g.μ⟩ st a (w.alloc (.cells cs T)) := by
  have h1 := h.alloc (.cells cs T)
  refine h1.move (imm' := fun b o => g.imm b o ∨ b = w.heap.size) ⟨fun _ _ q => .inl q, fun _ _ _ => rfl, fun _ _ _ _ q _ => q⟩ (fun l r b o hl ho => ⟨rfl, rfl, ?_⟩) (fun b o q => ?_) (fun b o q => ?_) h1.below (fun k x hx _ => hx) (fun b o x q hx hm => q.elim id fun q => by
    subst q
    rw [World.alloc_heap_new] at hx
    cases hx; cases hm)
  · rintro (q | q)
    · exact h.ownimm l r b o hl ho q
    · have := (h.own_lt hl ho).2; omega
  · rcases q with q | q
    · exact h1.immlt b o q
    · subst q; simp
  · rcases q with q | q
    · exact h.immsub b o q
    · right; have := h.below.size; omega

theorem op_buildI {o : Oper} {T E : TypeId} {parts : Array (Nat × Operand)} {len z : Nat} {zv : Value} {els : List PV} (h : Sim X g st a w) (ho : o.op = .buildSlice T len parts) (hdst : ∀ t, o.dst = some t → t < X.N)
    (hE : telem X.P T = some E) (hz : tsize X.P E = some z) (hzv : tzero X.P E = some zv) (hlen : els.length = len) (hel : ∀ x ∈ els, x.el = true ∧ x.cells.length = z) (hbig : len * z ≤ 2 ^ 24)
    (hf : fillP (fun i => some (i * z, z)) (List.replicate (len * z) .junk) (parts.toList.map fun p => (p.1, (evP st.env p.2).w1)) = some (els.flatMap PV.cells)) (hcl : els.all (fun x => x.cells.all PV.clo1) = true)
    (hK : ∀ g' a' w', Sim X g' ⟨putE st.env o.dst (.lst true els), st.σ⟩ a' w' → K a' w') : o.wpIn (FX ρ) n X.P a w K Q := by
  subst hlen
  have hcells : ∀ cs0 : Array Value, cs0.size = els.length * z → Cells (Rd w g.imm g.μ st.pres) cs0 (List.replicate (els.length * z) .junk) := fun cs0 hs => ⟨by simp [hs], fun k v p _ hp => by
    have := List.mem_of_getElem? hp
    rw [List.mem_replicate] at this
    rw [this.2]
    exact .cl (.junk v)⟩
  have key : ∀ cs0 : Array Value, cs0.size = els.length * z → ∃ cs, Instr.fill (fun i => some (i * z, z)) cs0 (parts.map fun (i, x) => (i, a.eval x)).toList = some cs ∧ Cells (Rd w g.imm g.μ st.pres) cs (els.flatMap PV.cells) := fun cs0 hs =>
    fill_sound (fun i => some (i * z, z)) ((parts.map fun (i, x) => (i, a.eval x)).toList) (parts.toList.map fun p => (p.1, (evP st.env p.2).w1)) cs0 _ _ (by simp) (parts_map h parts) (hcells cs0 hs) hf
  have hrun : ∃ cs, (Instr.buildSlice T els.length (parts.map fun (i, x) => (i, a.eval x))).run X.P w = .ok (.slice (some ⟨w.heap.size, 0, none⟩) els.length els.length) (w.alloc (.cells cs E)) ∧ Cells (Rd w g.imm g.μ st.pres) cs (els.flatMap PV.cells) := by
    have hu := telem_inv hE
    have hbig' : ¬ els.length * z > 2 ^ 24 := by omega
    by_cases h0 : els.length * z = 0
    · obtain ⟨cs, h1, h2⟩ := key ((Array.range (els.length * z)).map (fun x => (#[] : Array Value)[x % (#[] : Array Value).size]!)) (by simp)
      refine ⟨cs, ?_, h2⟩
      simp only [Instr.buildSlice, Sem.run_bind, run_underlying hu, Result.andThen_ok, run_sizeOf' hz, if_neg hbig', if_pos h0, Sem.run_pure, h1]
      rfl
    · obtain ⟨cs, h1, h2⟩ := key ((Array.range (els.length * z)).map (fun x => zv.cells[x % zv.cells.size]!)) (by simp)
      refine ⟨cs, ?_, h2⟩
      simp only [Instr.buildSlice, Sem.run_bind, run_underlying hu, Result.andThen_ok, run_sizeOf' hz, if_neg hbig', if_neg h0, Sem.run_pure, run_zero' hzv, h1]
      rfl
  obtain ⟨cs, hr, hc⟩ := hrun
  have hfl := flat_len (els := els) (fun x hx => (hel x hx).2)
  have hS := h.allocI cs E
  have hget : ∀ (i : Nat) x (j : Nat) y, els[i]? = some x → x.cells[j]? = some y → ∃ u, cs[i * z + j]? = some u ∧ Rd0 w g.imm u y := fun i x j y hx hy => by
    have hxm := List.mem_of_getElem? hx
    have hj := PV.cells_len_pos hy
    rw [(hel x hxm).2] at hj
    have hi := lt_of_get hx
    have hlt : i * z + j < cs.size := by
      rw [hc.1, hfl]
      have : (i + 1) * z ≤ els.length * z := Nat.mul_le_mul_right _ (by omega)
      rw [Nat.add_mul, Nat.one_mul] at this
      omega
    refine ⟨_, Array.getElem?_eq_getElem hlt, ?_⟩
    have := flat_reads (fun x hx => (hel x hx).2) hc i x j y _ hx hy (Array.getElem?_eq_getElem hlt)
    exact this.clo1 (List.all_eq_true.1 (List.all_eq_true.1 hcl x hxm) y (List.mem_of_getElem? hy))
  have hX : Ext w g.imm (w.alloc (.cells cs E)) (fun b o => g.imm b o ∨ b = w.heap.size) := by
    have e1 := Ext.alloc (w := w) (imm := g.imm) h.immlt (.cells cs E)
    exact ⟨fun b o q => .inl q, e1.cl, e1.ob⟩
  refine wpIn_value (fun c => by rw [ho]; simp) ?_ (hK _ _ _ (hS.put hdst (v := .slice (some ⟨w.heap.size, 0, none⟩) els.length els.length) ?_))
  · obtain ⟨dst, op, ty, pos, after, guard⟩ := o
    simp only at ho
    subst ho
    exact run_v hr
  · refine .cl (.lst (some ⟨w.heap.size, 0, none⟩) els.length z true els (fun i j => (cs[i * z + j]?).getD undef) (Nat.le_refl _) (fun _ => rfl) (fun q => by cases q) hel (fun h0 => ⟨w.heap.size, 0, rfl, fun i x j y hx hy => ⟨.inr rfl, ?_⟩⟩) (fun i x j y hx hy => ?_))
    · obtain ⟨u, k1, _⟩ := hget i x j y hx hy
      rw [k1, Nat.zero_add]
      simp only [Option.getD_some]
      rw [World.cell?_alloc_new]
      exact k1
    · obtain ⟨u, k1, k2⟩ := hget i x j y hx hy
      rw [k1]
      exact k2.mono hX

theorem op_mkSlice {o : Oper} {T E : TypeId} {x y : Operand} {l z b : Nat} {k k' : IntKind} {m : Int} {v : Value} (h : Sim X g st a w) (ho : o.op = .makeSlice T x y) (hdst : ∀ t, o.dst = some t → t < X.N) (hlm : l < MB) (hl : st.σ l = none)
    (hx : evP st.env x = .int k m) (hy : evP st.env y = .int k' m) (h0 : 0 ≤ m) (hE : telem X.P T = some E) (hz : tsize X.P E = some z) (hv : tzero X.P E = some v)
    (hel : ((PV.ofV v).w1).el = true) (hvz : ((PV.ofV v).w1).cells.length = z) (hb : tbytes X.P E = some b) (hbm : b * m ≤ 281474976710656) (hm : m ≤ 9223372036854775807)
    (hK : ∀ g' a' w', Sim X g' ⟨putE st.env o.dst (.sl l), (Eff.new l ⟨List.replicate m.toNat ((PV.ofV v).w1), 0, true, z, true⟩).apply st.σ⟩ a' w' → K a' w') : o.wpIn (FX ρ) n X.P a w K Q := by
  obtain ⟨i, hi, rfl, rfl, hiz⟩ := info_of hz hb hv
  have hr := run_make w T E i v (telem_inv hE) hi hiz k k' m m h0 (Int.le_refl _) hbm hm
  have hrd : Rd w g.imm g.μ st.pres v (PV.ofV v).w1 := .cl (rd_ofV w g.imm v).w1
  obtain ⟨hs, hcs⟩ := hrd.cells hel
  have hnf : ∀ f cap, (PV.ofV v).w1 ≠ .fn f cap := fun f cap e => by
    have : PV.ofV v = .fn f cap := by cases hd : PV.ofV v <;> rw [hd] at e <;> first | exact e | cases e
    unfold PV.ofV at this
    split at this
    · split at this <;> cases this
    · split at this <;> cases this
    · unfold PV.ofV1 at this
      split at this <;> cases this
  have hq1 : ((PV.ofV v).w1).clo = true := by
    have hq := ofV_clo v
    cases hd : PV.ofV v <;> rw [hd] at hq <;> first | exact hq | skip
    simp only [PV.w1, PV.clo, List.all_eq_true, List.mem_map] at hq ⊢
    rintro y ⟨c, hc, rfl⟩
    have := hq c hc
    cases c <;> first | rfl | exact this
  have hclo : ∀ (j : Nat) u y, v.cells[j]? = some u → ((PV.ofV v).w1).cells[j]? = some y → Rd0 w g.imm u y := fun j u y hu hy => (hcs j u y hu hy).clo1 (by
    have hm := List.mem_of_getElem? hy
    revert hnf hq1 hel hm
    generalize (PV.ofV v).w1 = d
    intro hel hnf hq1 hm
    cases d
    case agg cs => exact List.all_eq_true.1 (show cs.all PV.clo1 = true from hq1) y hm
    case fn f cap => exact absurd rfl (hnf _ _)
    case tup cs => cases hel
    case junk => cases hel
    all_goals first | (obtain rfl := List.mem_singleton.1 hm; first | exact hq1 | rfl) | exact absurd hm List.not_mem_nil)
  have h1 := h.rowNew (l := l) (els := List.replicate m.toNat ((PV.ofV v).w1)) (T := E) (C := m.toNat) (z := i.size) (opn := true) (cl := true) (madeCells v.cells (m.toNat * i.size)) hlm hl (by simp) (by simp [madeCells])
    (fun x hx => by rw [List.mem_replicate] at hx; rw [hx.2]; exact ⟨hel, hvz⟩) (fun i' x j y u hx hy hu => by
      have hx' := List.mem_of_getElem? hx
      rw [List.mem_replicate] at hx'
      obtain ⟨_, rfl⟩ := hx'
      have hj := PV.cells_len_pos hy
      rw [hvz] at hj
      have hlt : i' * i.size + j < m.toNat * i.size := by
        have := lt_of_get hx
        simp at this
        have : (i' + 1) * i.size ≤ m.toNat * i.size := Nat.mul_le_mul_right _ (by omega)
        rw [Nat.add_mul, Nat.one_mul] at this
        omega
      have hsz : v.cells.size = i.size := by rw [hs, hvz]
      have hu2 : v.cells[j]? = some u := by
        simp only [madeCells, Array.getElem?_map, Array.getElem?_range, hlt, if_true, Option.map_some, Option.some.injEq, hsz, (divmod (i := i') hj).2] at hu
        rw [← hu, getElem!_pos v.cells j (by omega)]
        exact Array.getElem?_eq_getElem (by omega)
      exact ⟨hcs j u y hu2 hy, fun _ => hclo j u y hu2 hy⟩)
  have e1 : a.eval x = .int k m := by have := h.eval x; rw [hx] at this; exact this.int_inv
  have e2 : a.eval y = .int k' m := by have := h.eval y; rw [hy] at this; exact this.int_inv
  have hput := h1.put hdst (v := .slice (some ⟨w.heap.size, 0, none⟩) m.toNat m.toNat) (d := .sl l) (by
    have := sl_new (w' := w.alloc (.cells (madeCells v.cells (m.toNat * i.size)) E)) (imm := g.imm) (μ := upd g.μ l ⟨some ⟨w.heap.size, 0, none⟩, (List.replicate m.toNat ((PV.ofV v).w1)).length, m.toNat, i.size⟩)
      (pres := St.pres ⟨st.env, upd st.σ l (some ⟨List.replicate m.toNat ((PV.ofV v).w1), 0, true, i.size, true⟩)⟩) (l := l) ⟨_, upd_same _ _ _⟩ (upd_same _ _ _)
    simpa using this)
  refine wpIn_value (fun c => by rw [ho]; simp) ?_ (hK _ _ _ hput)
  obtain ⟨dst, op, ty, pos, after, guard⟩ := o
  simp only at ho
  subst ho
  simp only [execOp, e1, e2]
  exact run_v hr

end
end Go.Pw
