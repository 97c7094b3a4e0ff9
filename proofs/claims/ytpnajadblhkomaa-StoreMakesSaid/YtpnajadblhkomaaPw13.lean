/-
  Whatever an operation of the state does, the operation of the program does (VIII): copies, lengths, calls; and all of them.
-/
import Derived.Test.YtpnajadblhkomaaPw12
namespace Go.Pw
open Go.RowKit
set_option linter.unusedVariables false

section
variable {X : Ctx} {g : Gh} {st : St} {a : Act} {w : World} {n : Nat} {K : Act → World → Prop} {Q : Exit → Act → World → Prop} {ρ : Option Nat} {P : Program}

theorem exec_builtin {o : Oper} {b : Builtin} {xs : Array Operand} {ts : Array TypeId} (ho : o.op = .call { callee := .builtin b, args := xs, argTypes := ts }) :
    ∃ cs, execOp a.eval o = builtin b ts o.type cs (xs.map a.eval) := by
  obtain ⟨dst, op, ty, pos, after, guard⟩ := o
  simp only at ho
  subst ho
  exact ⟨_, rfl⟩

theorem op_lenL {o : Oper} {x : Operand} {t : Bool} {xs : List PV} {T : TypeId} {ts : Array TypeId} (h : Sim X g st a w) (ho : o.op = .call { callee := .builtin .len, args := #[x], argTypes := ts })
    (hx : evP st.env x = .lst t xs) (hT : (telem X.P T).isSome = true) (hts : ts[0]? = some T) :
    ∃ u, (execOp a.eval o).run X.P w = .ok (.value u) w ∧ Rd w g.imm g.μ st.pres u (.int .i64 xs.length) := by
  have hv := h.eval x
  rw [hx] at hv
  obtain ⟨A, c, z', u, e, _⟩ := hv.lst_inv
  obtain ⟨E, hE⟩ := Option.isSome_iff_exists.1 hT
  obtain ⟨cs, hc⟩ := exec_builtin (a := a) ho
  refine ⟨.int .i64 xs.length, ?_, .cl (.int _ _)⟩
  rw [hc]
  refine run_v ?_
  simp [Builtin.len_, hts, e, run_underlying (telem_inv hE), goInt]

theorem op_lenR {o : Oper} {x : Operand} {l : Nat} {r : Row} {T : TypeId} {ts : Array TypeId} (h : Sim X g st a w) (ho : o.op = .call { callee := .builtin .len, args := #[x], argTypes := ts })
    (hx : evP st.env x = .sl l) (hl : st.σ l = some r) (hT : (telem X.P T).isSome = true) (hts : ts[0]? = some T) :
    ∃ u, (execOp a.eval o).run X.P w = .ok (.value u) w ∧ Rd w g.imm g.μ st.pres u (.int .i64 r.els.length) := by
  have hv := h.eval x
  rw [hx] at hv
  obtain ⟨_, e⟩ := hv.sl_inv
  obtain ⟨E, hE⟩ := Option.isSome_iff_exists.1 hT
  obtain ⟨cs, hc⟩ := exec_builtin (a := a) ho
  refine ⟨.int .i64 r.els.length, ?_, .cl (.int _ _)⟩
  rw [hc]
  refine run_v ?_
  simp [Builtin.len_, hts, e, run_underlying (telem_inv hE), goInt, (h.rows l r hl).n]

theorem op_lenS {o : Oper} {x : Operand} {s : ByteArray} {T : TypeId} {ts : Array TypeId} (h : Sim X g st a w) (ho : o.op = .call { callee := .builtin .len, args := #[x], argTypes := ts })
    (hx : evP st.env x = .str s) (hT : X.P.underlying T = some .string) (hts : ts[0]? = some T) :
    ∃ u, (execOp a.eval o).run X.P w = .ok (.value u) w ∧ Rd w g.imm g.μ st.pres u (.int .i64 s.size) := by
  have hv := h.eval x
  rw [hx] at hv
  obtain ⟨cs, hc⟩ := exec_builtin (a := a) ho
  refine ⟨.int .i64 s.size, ?_, .cl (.int _ _)⟩
  rw [hc]
  refine run_v ?_
  simp [Builtin.len_, hts, hv.str_inv, run_underlying hT, goInt]

theorem op_min {o : Oper} {x y : Operand} {k : IntKind} {p q : Int} {ts : Array TypeId} (h : Sim X g st a w) (ho : o.op = .call { callee := .builtin .min, args := #[x, y], argTypes := ts })
    (hx : evP st.env x = .int k p) (hy : evP st.env y = .int k q) :
    ∃ u, (execOp a.eval o).run X.P w = .ok (.value u) w ∧ Rd w g.imm g.μ st.pres u (.int k (if q < p then q else p)) := by
  have hv := h.eval x
  have hu := h.eval y
  rw [hx] at hv
  rw [hy] at hu
  obtain ⟨cs, hc⟩ := exec_builtin (a := a) ho
  refine ⟨_, ?_, .cl (.int _ _)⟩
  rw [hc]
  refine run_v ?_
  simp [Builtin.min_, Builtin.min2, hv.int_inv, hu.int_inv]

theorem op_max {o : Oper} {x y : Operand} {k : IntKind} {p q : Int} {ts : Array TypeId} (h : Sim X g st a w) (ho : o.op = .call { callee := .builtin .max, args := #[x, y], argTypes := ts })
    (hx : evP st.env x = .int k p) (hy : evP st.env y = .int k q) :
    ∃ u, (execOp a.eval o).run X.P w = .ok (.value u) w ∧ Rd w g.imm g.μ st.pres u (.int k (if q > p then q else p)) := by
  have hv := h.eval x
  have hu := h.eval y
  rw [hx] at hv
  rw [hy] at hu
  obtain ⟨cs, hc⟩ := exec_builtin (a := a) ho
  refine ⟨_, ?_, .cl (.int _ _)⟩
  rw [hc]
  refine run_v ?_
  simp [Builtin.max_, Builtin.max2, hv.int_inv, hu.int_inv]

theorem op_copy {o : Oper} {x y : Operand} {T U E : TypeId} {l z : Nat} {r : Row} {ys : List PV} (h : Sim X g st a w) (ho : o.op = .call { callee := .builtin .copy, args := #[x, y], argTypes := #[T, U] }) (hdst : ∀ t, o.dst = some t → t < X.N)
    (hx : evP st.env x = .sl l) (hl : st.σ l = some r) (hcl : r.cl = true) (hlo : r.lo = 0) (hy : Src st.σ (evP st.env y) ys true) (hE : telem X.P T = some E) (hz : tsize X.P E = some z) (hrz : r.z = z) (hel : ∀ e ∈ ys, e.cells.length = z) (hn : ys.length ≤ r.els.length) (hzp : 0 < z)
    (hK : ∀ g' a' w', Sim X g' ⟨putE st.env o.dst (.int .i64 ys.length), (Eff.cpy l ys).apply st.σ⟩ a' w' → K a' w') : o.wpIn (FX ρ) n X.P a w K Q := by
  simp only [Eff.apply, hl] at hK
  have hv := h.eval x
  have hu := h.eval y
  rw [hx] at hv
  obtain ⟨hp, e⟩ := hv.sl_inv
  have hR := h.rows l r hl
  have hmz : (g.μ l).z = z := by rw [hR.z, hrz]
  obtain ⟨B, cB, vals, eB, hyel, hlv, hvr, hone, hvc⟩ := Src.reads h hu hy (z := z) hel
  have hu' := telem_inv hE
  have hnn := hR.n
  have hmin : Nat.min ys.length (g.μ l).n = ys.length := Nat.min_eq_left (by omega)
  obtain ⟨cs, hc⟩ := exec_builtin (a := a) ho
  have hfc : (Builtin.firstCells z ys.length (a.eval y)).run X.P w = .ok vals.toArray w := by
    rw [eB]
    rcases Nat.eq_zero_or_pos ys.length with q | q
    · have h0 : vals = [] := List.eq_nil_of_length_eq_zero (by rw [hlv, q, Nat.zero_mul])
      subst h0
      rw [q]
      cases B <;> simp [Builtin.firstCells, loadCells, loadCellsFrom]
    · obtain ⟨bB, sB, rfl, hBc⟩ := hvc q
      exact run_firstCells_some (P := X.P) w z ys.length ⟨bB, sB, none⟩ ys.length cB vals hlv (fun j u hj => by rw [addr_add]; exact hBc j u hj)
  have hrun : ∀ w', (∀ A, (g.μ l).A = some A → (storeCells A vals).run X.P w = .ok () w') → ((g.μ l).A = none → w' = w) → (Builtin.copy_ #[T, U] o.type #[.slice (g.μ l).A (g.μ l).n (g.μ l).C, a.eval y]).run X.P w = .ok (.int .i64 ys.length) w' := by
    intro w' h1 h2
    have hle : (Builtin.lenOf (a.eval y)).run X.P w = .ok ys.length w := by rw [eB]; rfl
    cases hA : (g.μ l).A with
    | none =>
      have := h2 hA
      subst this
      simp only [Builtin.copy_, Sem.run_bind, run_underlying hu', Result.andThen_ok, hle, hmin, run_sizeOf' hz, hfc, List.getElem?_toArray, List.getElem?_cons_zero, List.getElem?_cons_succ]
      rfl
    | some A =>
      have := h1 A hA
      simp only [Builtin.copy_, Sem.run_bind, run_underlying hu', Result.andThen_ok, hle, hmin, run_sizeOf' hz, hfc, List.getElem?_toArray, List.getElem?_cons_zero, List.getElem?_cons_succ, this]
      rfl
  have hargs : (#[x, y] : Array Operand).map a.eval = #[.slice (g.μ l).A (g.μ l).n (g.μ l).C, a.eval y] := by simp [e]
  rcases Nat.eq_zero_or_pos vals.length with hv0 | hv0
  · have h0 : vals = [] := List.eq_nil_of_length_eq_zero hv0
    subst h0
    have hr := hrun w (fun A _ => rfl) (fun _ => rfl)
    refine wpIn_value (fun c => by rw [ho]; simp) (v := .int .i64 ys.length) (w' := w) (by rw [hc, hargs]; exact run_v hr) ?_
    -- nothing is copied: the row is as it was, cell by cell
    have hsame : Sim X g ⟨st.env, upd st.σ l (some { r with els := ys ++ r.els.drop ys.length })⟩ a w := by
      by_cases hys : ys = []
      · subst hys
        simp only [List.nil_append, List.length_nil, List.drop_zero]
        rw [show upd st.σ l (some { r with els := r.els }) = st.σ from by funext i; unfold upd; split <;> simp_all]
        exact h
      · have hz0 : z = 0 := by
          have h0 : ys.length * z = 0 := by simpa using hlv.symm
          rcases Nat.mul_eq_zero.1 h0 with q | q
          · exact absurd (List.eq_nil_of_length_eq_zero q) hys
          · exact q
        omega
    exact hK g _ _ (hsame.put hdst (.cl (.int _ _)))
  · have hC := hR.C
    have hys : 0 < ys.length := by
      rcases Nat.eq_zero_or_pos ys.length with q | q
      · rw [q, Nat.zero_mul] at hlv; omega
      · exact q
    obtain ⟨b, s, hA⟩ := hR.spot (by omega)
    have hmine : ∀ j, j < vals.length → OwnR (g.μ l) r b (s + j) := fun j hj => ⟨s, hA, by rw [hlo]; omega, by
      have : ys.length * z ≤ (if r.opn then (g.μ l).C else (g.μ l).n) * (g.μ l).z := by rw [hmz]; exact Nat.mul_le_mul_right _ (by split <;> omega)
      omega⟩
    have hst := run_storeCells_cells (P := X.P) b s vals 0 w (fun j hj => by simpa using (hR.own b _ (hmine j hj)).2.1) (fun j hj => by simpa using (hR.own b _ (hmine j hj)).2.2) (fun u hu => by rw [← one_eq]; exact hone u hu)
    simp only [Nat.add_zero] at hst
    have hr := hrun (w.setCells b s vals) (fun A hA' => by rw [hA] at hA'; cases hA'; exact hst) (fun q => by rw [hA] at q; cases q)
    refine wpIn_value (fun c => by rw [ho]; simp) (v := .int .i64 ys.length) (w' := w.setCells b s vals) (by rw [hc, hargs]; exact run_v hr) ?_
    have hW := h.write (l := l) (r := r) (b := b) (o := s) (vs := vals) (els := ys ++ r.els.drop ys.length) (cl := r.cl) hl hmine (by simp; omega)
      (fun x hx => by
        rcases List.mem_append.1 hx with q | q
        · exact ⟨hyel x q, by rw [hrz]; exact hel x q⟩
        · exact hR.el x (List.mem_of_mem_drop q))
      (fun i x j y hx hy => by
        rcases Nat.lt_or_ge i ys.length with q | q
        · rw [List.getElem?_append_left q] at hx
          have hxz := hel x (List.mem_of_getElem? hx)
          have hj := PV.cells_len_pos hy
          have hlt : i * z + j < vals.length := by
            have : (i + 1) * z ≤ ys.length * z := Nat.mul_le_mul_right _ (by omega)
            rw [Nat.add_mul, Nat.one_mul] at this
            omega
          have hrd := hvr i x j y _ hx hy (List.getElem?_eq_getElem hlt)
          have hin := World.cell?_setCells_in b vals s w (fun j' hj' => (hR.own b _ (hmine j' hj')).2.1) _ hlt
          rw [← Nat.add_assoc] at hin
          exact ⟨b, s, _, hA, by rw [hmz]; exact hin, hrd.1, fun q' => by omega, fun _ => hrd.2 rfl⟩
        · rw [List.getElem?_append_right q, List.getElem?_drop, show ys.length + (i - ys.length) = i by omega] at hx
          obtain ⟨b', s', u, k1, k2, k3, k4, k5⟩ := hR.cell i x j y hx hy
          rw [hA] at k1
          cases k1
          refine ⟨b, s, u, hA, ?_, k3, k4, k5⟩
          rw [World.cell?_setCells_out b vals s w _ fun _ _ => ?_]
          · exact k2
          · right
            have : ys.length * z ≤ i * (g.μ l).z := by rw [hmz]; exact Nat.mul_le_mul_right _ q
            simp only
            omega) hv0
    exact hK g _ _ (hW.put hdst (.cl (.int _ _)))

/-! ### Calls -/

theorem Rd0.flat {w : World} {imm : Nat → Nat → Prop} {v : Value} {d : PV} (h : Rd0 w imm v d) (hf : d.flat = true) (w' : World) (imm' : Nat → Nat → Prop) : Rd0 w' imm' v d := by
  have h1 : ∀ {v : Value} {d : PV}, Rd0 w imm v d → d.flat1 = true → Rd0 w' imm' v d := by
    intro v d h hf
    cases h <;> first | (simp [PV.flat1] at hf; done) | skip
    · exact .bool _
    · exact .int _ _
    · exact .str _
  cases h <;> first | (simp [PV.flat, PV.flat1] at hf; done) | skip
  case bool b => exact .bool b
  case int k m => exact .int k m
  case str s => exact .str s
  case agg vs cs hsc hn hc => exact .agg vs cs hsc hn fun i v c hv hc' => h1 (hc i v c hv hc') (by simp only [PV.flat, List.all_eq_true] at hf; exact hf c (List.mem_of_getElem? hc'))
  case tup vs cs hn hc =>
    refine .tup vs cs hn fun i v c hv hc' => ?_
    have hq := hc i v c hv hc'
    simp only [PV.flat, List.all_eq_true] at hf
    have hq2 := hf c (List.mem_of_getElem? hc')
    by_cases e : ∃ es, c = .agg es
    · obtain ⟨es, rfl⟩ := e
      cases hq with
      | agg us _ hsc hn' hc2 => exact .agg us es hsc hn' fun i v c hv hc3 => h1 (hc2 i v c hv hc3) (by simp only [PV.flat2, List.all_eq_true] at hq2; exact hq2 c (List.mem_of_getElem? hc3))
    · exact h1 hq (by cases c <;> first | exact hq2 | exact absurd ⟨_, rfl⟩ e)

/-- The call, as the operation makes it. -/
theorem exec_call {o : Oper} {x : Operand} {args : Array Operand} {ts : Array TypeId} {f : FuncId} {vs : Array Value} (ho : o.op = .call { callee := .value x, args, argTypes := ts }) (hx : a.eval x = .func (.func f) #[] vs)
    (hb : ∃ fn c, P.funcs[f]? = some fn ∧ fn.body = some c ∧ fn.name ≠ "runtime.NumGoroutine") : (execOp a.eval o).run P w = .ok (.enter f (args.map a.eval ++ vs)) w := by
  obtain ⟨fn, c, h1, h2, h3⟩ := hb
  obtain ⟨dst, op, ty, pos, after, guard⟩ := o
  simp only at ho
  subst ho
  have hne : (fn.name == "runtime.NumGoroutine") = false := by simpa using h3
  simp only [execOp, resolve, hx, Deferred.ofValue, Sem.run_bind, Sem.run_pure, Result.andThen_ok, invoke, callFunc, program, Sem.run, h1, hne, h2]
  simp

theorem fn_inv {w : World} {imm : Nat → Nat → Prop} {μ : Nat → RLoc} {pres : Nat → Prop} {v : Value} {f : Fn} {cap : List PV} (h : Rd w imm μ pres v (.fn f cap)) :
    ∃ vs : Array Value, v = .func f #[] vs ∧ vs.size = cap.length ∧ ∀ (i : Nat) v c, vs[i]? = some v → cap[i]? = some c → Rd w imm μ pres v c := by
  cases h with
  | cl h => cases h with | fn _ vs _ hn h => exact ⟨vs, rfl, hn, fun i v c hv hc => .cl (h i v c hv hc)⟩
  | fn _ vs _ hn h => exact ⟨vs, rfl, hn, h⟩

theorem v0_same {σ σF : Nat → Option Row} (hs : Same σ σF) {w : World} {imm : Nat → Nat → Prop} {μ : Nat → RLoc} {v : Value} {d : PV} (hr : Rd w imm μ (fun l => ∃ r, σ l = some r) v d) :
    d.v0 σF = d.v0 σ ∧ d.v0ok σF = d.v0ok σ := by
  cases d <;> first | exact ⟨rfl, rfl⟩ | skip
  rename_i l
  obtain ⟨⟨r, hl⟩, _⟩ := hr.sl_inv
  obtain ⟨r', h1, h2, h3, h4⟩ := hs l r hl
  simp only [PV.v0, PV.v0ok, hl, h1, h2, h4, and_self]

theorem v2_same {σF : Nat → Option Row} (h : Sim X g st a w) (hs : Same st.σ σF) {v : Value} {d : PV} (hr : Rd w g.imm g.μ st.pres v d) :
    d.v2 σF = d.v2 st.σ ∧ d.v2ok σF = d.v2ok st.σ ∧ d.v2refs σF = d.v2refs st.σ := by
  by_cases hd : ∃ l i f, d = .ptr l i f
  · obtain ⟨l, i, f, rfl⟩ := hd
    obtain ⟨⟨r, hl⟩, b, s, hA, _⟩ := hr.ptr_inv
    obtain ⟨r', h1, h2, h3, h4⟩ := hs l r hl
    simp only [PV.v2, PV.v2ok, PV.v2refs, hl, h1, h2]
    cases hx : r.els[i]? with
    | none => exact ⟨rfl, rfl, trivial⟩
    | some x =>
      simp only
      have hall : ∀ y ∈ x.cells.drop f, y.v0 σF = y.v0 st.σ ∧ y.v0ok σF = y.v0ok st.σ := by
        intro y hy
        obtain ⟨j, hj⟩ := List.getElem?_of_mem hy
        obtain ⟨u, _, k2, _⟩ := h.cell_of hl hx (drop_get hj) hA
        exact v0_same hs k2
      have hok : ∀ (L : List PV), (∀ y ∈ L, y.v0 σF = y.v0 st.σ ∧ y.v0ok σF = y.v0ok st.σ) → (L.all fun y => y.v0ok σF && y.sc) = (L.all fun y => y.v0ok st.σ && y.sc) := by
        intro L hL
        induction L with
        | nil => rfl
        | cons y L ih =>
          simp only [List.all_cons]
          rw [(hL y (by simp)).2, ih fun z hz => hL z (by simp [hz])]
      exact ⟨by rw [List.map_congr_left fun y hy => (hall y hy).1], hok _ hall, trivial⟩
  · have e : d.v2 σF = d.v0 σF := by cases d <;> first | rfl | exact absurd ⟨_, _, _, rfl⟩ hd
    have e1 : d.v2 st.σ = d.v0 st.σ := by cases d <;> first | rfl | exact absurd ⟨_, _, _, rfl⟩ hd
    have e2 : d.v2ok σF = d.v0ok σF := by cases d <;> first | rfl | exact absurd ⟨_, _, _, rfl⟩ hd
    have e3 : d.v2ok st.σ = d.v0ok st.σ := by cases d <;> first | rfl | exact absurd ⟨_, _, _, rfl⟩ hd
    have e4 : d.v2refs σF = d.v2refs st.σ := by cases d <;> first | rfl | exact absurd ⟨_, _, _, rfl⟩ hd
    rw [e, e1, e2, e3, e4]
    exact ⟨(v0_same hs hr).1, (v0_same hs hr).2, rfl⟩

theorem all_congr' {α : Type} {p q : α → Bool} : ∀ {L : List α}, (∀ y ∈ L, p y = q y) → L.all p = L.all q
  | [], _ => rfl
  | y :: L, h => by rw [List.all_cons, List.all_cons, h y (by simp), all_congr' fun z hz => h z (by simp [hz])]

theorem flatMap_congr' {α β : Type} {p q : α → List β} : ∀ {L : List α}, (∀ y ∈ L, p y = q y) → L.flatMap p = L.flatMap q
  | [], _ => rfl
  | y :: L, h => by rw [List.flatMap_cons, List.flatMap_cons, h y (by simp), flatMap_congr' fun z hz => h z (by simp [hz])]

theorem v3_same {σF : Nat → Option Row} (h : Sim X g st a w) (hs : Same st.σ σF) {v : Value} {d : PV} (hr : Rd w g.imm g.μ st.pres v d) :
    d.v3 σF = d.v3 st.σ ∧ d.v3ok σF = d.v3ok st.σ ∧ d.v3refs σF = d.v3refs st.σ := by
  have hcs : ∀ {vs : Array Value} {cs : List PV}, vs.size = cs.length → (∀ (i : Nat) v c, vs[i]? = some v → cs[i]? = some c → Rd w g.imm g.μ st.pres v c) → ∀ y ∈ cs, ∃ v, Rd w g.imm g.μ st.pres v y := by
    intro vs cs hn hc y hy
    obtain ⟨j, hj⟩ := List.getElem?_of_mem hy
    have hlt := lt_of_get hj
    exact ⟨_, hc j _ y (Array.getElem?_eq_getElem (by omega)) hj⟩
  cases d
  case agg cs =>
    obtain ⟨vs, _, hn, hc⟩ := hr.agg_inv
    have hall := hcs hn hc
    simp only [PV.v3, PV.v3ok, PV.v3refs]
    exact ⟨by rw [List.map_congr_left fun y hy => (v0_same hs (hall y hy).choose_spec).1], all_congr' fun y hy => by rw [(v0_same hs (hall y hy).choose_spec).2], trivial⟩
  case fn f cap =>
    obtain ⟨vs, _, hn, hc⟩ := fn_inv hr
    have hall := hcs hn hc
    simp only [PV.v3, PV.v3ok, PV.v3refs]
    exact ⟨by rw [List.map_congr_left fun y hy => (v2_same h hs (hall y hy).choose_spec).1], all_congr' fun y hy => by rw [(v2_same h hs (hall y hy).choose_spec).2.1],
      flatMap_congr' fun y hy => (v2_same h hs (hall y hy).choose_spec).2.2⟩
  all_goals exact v2_same h hs hr

theorem view_same {σF : Nat → Option Row} (h : Sim X g st a w) (hs : Same st.σ σF) {v : Value} {d : PV} (hr : Rd w g.imm g.μ st.pres v d) :
    d.view σF = d.view st.σ ∧ d.vok σF = d.vok st.σ ∧ d.vrefs σF = d.vrefs st.σ := by
  have hcs : ∀ {vs : Array Value} {cs : List PV}, vs.size = cs.length → (∀ (i : Nat) v c, vs[i]? = some v → cs[i]? = some c → Rd w g.imm g.μ st.pres v c) → ∀ y ∈ cs, ∃ v, Rd w g.imm g.μ st.pres v y := by
    intro vs cs hn hc y hy
    obtain ⟨j, hj⟩ := List.getElem?_of_mem hy
    have hlt := lt_of_get hj
    exact ⟨_, hc j _ y (Array.getElem?_eq_getElem (by omega)) hj⟩
  cases d
  case tup cs =>
    obtain ⟨vs, _, hn, hc⟩ := hr.tup_inv
    have hall := hcs hn hc
    simp only [PV.view, PV.vok, PV.vrefs]
    exact ⟨by rw [List.map_congr_left fun y hy => (v3_same h hs (hall y hy).choose_spec).1], all_congr' fun y hy => (v3_same h hs (hall y hy).choose_spec).2.1,
      flatMap_congr' fun y hy => (v3_same h hs (hall y hy).choose_spec).2.2⟩
  all_goals exact v3_same h hs hr

/-- The arguments of a call, as they are handed over. -/
theorem args_rd (h : Sim X g st a w) {args : Array Operand} {vs : Array Value} {cap : List PV} (hn : vs.size = cap.length) (hc : ∀ (i : Nat) v c, vs[i]? = some v → cap[i]? = some c → Rd w g.imm g.μ st.pres v c) :
    (args.map a.eval ++ vs).size = (args.toList.map (evP st.env) ++ cap).length ∧ ∀ (i : Nat) v d, (args.map a.eval ++ vs)[i]? = some v → (args.toList.map (evP st.env) ++ cap)[i]? = some d → Rd w g.imm g.μ st.pres v d := by
  refine ⟨by simp [hn], fun i v d hv hd => ?_⟩
  rcases Nat.lt_or_ge i args.size with q | q
  · rw [Array.getElem?_append_left (by simpa using q)] at hv
    rw [List.getElem?_append_left (by simpa using q)] at hd
    simp [Array.getElem?_map, Array.getElem?_eq_getElem q] at hv hd
    rw [← hv, ← hd]
    exact h.eval _
  · rw [Array.getElem?_append_right (by simpa using q)] at hv
    rw [List.getElem?_append_right (by simpa using q)] at hd
    simp at hv hd
    exact hc _ v d hv hd

theorem view_args {σF : Nat → Option Row} (h : Sim X g st a w) (hs : Same st.σ σF) {imm2 : Nat → Nat → Prop} (hx : Ext w g.imm w imm2) {vs : Array Value} {ds : List PV} (hn : vs.size = ds.length)
    (hr : ∀ (i : Nat) v d, vs[i]? = some v → ds[i]? = some d → Rd w g.imm g.μ st.pres v d) (hok : ds.all (PV.vok σF) = true)
    (hsh : ∀ l ∈ ds.flatMap (PV.vrefs σF), ∀ r, st.σ l = some r → Shown imm2 (g.μ l) r) : RdL w imm2 vs (ds.map (PV.view σF)) := by
  refine ⟨by simp [hn], fun i v d hv hd => ?_⟩
  rw [List.getElem?_map] at hd
  cases hd0 : ds[i]? with
  | none => rw [hd0] at hd; cases hd
  | some d0 =>
    rw [hd0] at hd
    cases hd
    have hm := List.mem_of_getElem? hd0
    have hrd := hr i v d0 hv hd0
    obtain ⟨e1, e2, e3⟩ := view_same h hs hrd
    rw [e1]
    refine h.view hx hrd (by rw [← e2]; exact List.all_eq_true.1 hok d0 hm) fun l hl r hr' => hsh l (List.mem_flatMap.2 ⟨d0, hm, by rw [e3]; exact hl⟩) r hr'

/-- The world behind a call. -/
theorem Sim.called (h : Sim X g st a w) {w' : World} (hb : Bel w.heap.size w w') (N : Nat → Nat → Prop) :
    Sim X ⟨fun b o => g.imm b o ∨ (N b o ∧ w.heap.size ≤ b ∧ b < w'.heap.size), g.μ⟩ st a w' := by
  refine h.move ⟨fun _ _ q => .inl q, fun b o q => hb.cell (p := ⟨b, o, none⟩) (h.immlt b o q), fun b o x q hx _ => by rw [hb.block b (h.immlt b o q)]; exact hx⟩
    (fun l r b o hl ho => ⟨hb.cell (p := ⟨b, o, none⟩) (h.own_lt hl ho).2, hb.frozen (p := ⟨b, o, none⟩) (h.own_lt hl ho).2, ?_⟩) (fun b o q => ?_) (fun b o q => ?_) (h.below.trans (hb.mono h.below.size))
    (fun k x hx _ => by rw [hb.block k (Array.getElem?_eq_some_iff.1 hx).1]; exact hx)
    (fun b o x q hx _ => q.elim id fun ⟨_, q, _⟩ => absurd (Array.getElem?_eq_some_iff.1 hx).1 (Nat.not_lt.2 q))
  · rintro (q | ⟨_, q, _⟩)
    · exact h.ownimm l r b o hl ho q
    · have := (h.own_lt hl ho).2; omega
  · rcases q with q | ⟨_, _, q⟩
    · exact Nat.lt_of_lt_of_le (h.immlt b o q) hb.size
    · exact q
  · rcases q with q | ⟨_, q, _⟩
    · exact h.immsub b o q
    · right; have := h.below.size; omega

end
end Go.Pw
