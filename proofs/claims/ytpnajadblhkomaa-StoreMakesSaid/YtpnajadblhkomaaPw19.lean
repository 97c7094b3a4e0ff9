/-
  Operations, one by one, along the text.
-/
import Derived.Test.YtpnajadblhkomaaPw18
import Derived.Test.YtpnajadblhkomaaSh0
namespace Go.Pw
open Go.RowKit
set_option linter.unusedVariables false

/-- The operations from the i-th on, and what is asked behind them. -/
def Ex (P : Program) (ops : Array Oper) (bar : List Nat) (dr : Bool) : Nat → List Oper → St → (St → Prop) → Prop
  | _, [], st, K => K st
  | i, o :: os, st, K => ∃ s, Stp P ops dr (kept bar) (cls bar i o.op) o st s ∧ Ex P ops bar dr (i + 1) os s K

theorem runs_of_ex {P : Program} {bar : List Nat} {dr : Bool} {K : St → Prop} {ops : Array Oper} : ∀ (os : List Oper) (i : Nat) (st : St), (∀ j, os[j]? = ops[i + j]?) → Ex P ops bar dr i os st K → ∃ s, Runs P ops bar dr (List.range' i os.length) st s ∧ K s
  | [], _, st, _, h => ⟨st, rfl, h⟩
  | o :: os, i, st, hi, h => by
    obtain ⟨s, h1, h2⟩ := h
    obtain ⟨s', k1, k2⟩ := runs_of_ex os (i + 1) s (fun j => by have := hi (j + 1); simpa [Nat.add_assoc, Nat.add_comm 1 j] using this) h2
    exact ⟨s', ⟨o, s, by have := hi 0; simpa using this.symm, h1, k1⟩, k2⟩

section
variable {X : Ctx} {Q : PX → Ctx → St → Prop} {st : St}

theorem pw_reg {id : Nat} {l : List Oper} (hd : dstOK X.N l.toArray = true) (h : Ex X.P l.toArray [] false 0 l st (Q .normal X)) : Pwp X (.region id l.toArray false) Q st := by
  refine pw_region hd ?_
  have := runs_of_ex (ops := l.toArray) l 0 st (fun j => by simp) h
  simpa [List.range_eq_range'] using this

theorem pw_drw {id : Nat} {l : List Oper} (bar : List Nat) (hm : X.P.follows .mixedOrders = true) (hd : dstOK X.N l.toArray = true) (hr : regOK l.toArray bar (Region.before l.toArray) = true)
    (h : Ex X.P l.toArray bar true 0 l st (Q .normal X)) : Pwp X (.region id l.toArray true) Q st := by
  refine pw_draw bar hm hd hr ?_
  have := runs_of_ex (ops := l.toArray) l 0 st (fun j => by simp) h
  simpa [List.range_eq_range'] using this

variable {P : Program} {ops : Array Oper} {bar : List Nat} {dr : Bool} {i : Nat} {os : List Oper} {K : St → Prop} {env : Nat → PV} {σ : Nat → Option Row}

theorem x_nil (h : K st) : Ex P ops bar dr i [] st K := h

theorem x_skip {t : Tmp} {op : Op} {ty : TypeId} {pos : String} {after : Array Edge} {gd : Option (Nat × Bool)} (hw : wantP ops env ⟨some t, op, ty, pos, after, gd⟩ = some false)
    (k : Ex P ops bar dr (i + 1) os ⟨upd env t (.tup []), σ⟩ K) : Ex P ops bar dr i (⟨some t, op, ty, pos, after, gd⟩ :: os) ⟨env, σ⟩ K := ⟨_, .skip hw, k⟩

theorem x_skipN {op : Op} {ty : TypeId} {pos : String} {after : Array Edge} {gd : Option (Nat × Bool)} (hw : wantP ops env ⟨none, op, ty, pos, after, gd⟩ = some false)
    (k : Ex P ops bar dr (i + 1) os ⟨env, σ⟩ K) : Ex P ops bar dr i (⟨none, op, ty, pos, after, gd⟩ :: os) ⟨env, σ⟩ K := ⟨_, .skip hw, k⟩

/-- It only looks. -/
theorem x0 {t : Tmp} {op : Op} {ty : TypeId} {pos : String} {after : Array Edge} {gd : Option (Nat × Bool)} {d : PV} (hw : wantP ops env ⟨some t, op, ty, pos, after, gd⟩ = some true)
    (h : OpR P σ (evP env) (some t) op d .none) (hc : dr = true → clsOK (cls bar i op) .none (∀ σ', NearT (kept bar) σ σ' → OpR P σ' (evP env) (some t) op d .none)) (k : Ex P ops bar dr (i + 1) os ⟨upd env t d, σ⟩ K) :
    Ex P ops bar dr i (⟨some t, op, ty, pos, after, gd⟩ :: os) ⟨env, σ⟩ K := ⟨_, .run d .none hw h ⟨Same.refl _, NearT.refl _⟩ trivial (fun _ => rfl) hc, k⟩

/-- It only looks, and at no row. -/
theorem x7 {t : Tmp} {op : Op} {ty : TypeId} {pos : String} {after : Array Edge} {gd : Option (Nat × Bool)} {d : PV} (hw : wantP ops env ⟨some t, op, ty, pos, after, gd⟩ = some true)
    (h : ∀ σ', NearT (kept bar) σ σ' → OpR P σ' (evP env) (some t) op d .none) (h7 : cls bar i op = 7) (k : Ex P ops bar dr (i + 1) os ⟨upd env t d, σ⟩ K) :
    Ex P ops bar dr i (⟨some t, op, ty, pos, after, gd⟩ :: os) ⟨env, σ⟩ K := ⟨_, .run d .none hw (h σ (NearT.refl _)) ⟨Same.refl _, NearT.refl _⟩ trivial (fun _ => rfl) (fun _ => by rw [h7]; exact ⟨rfl, h⟩), k⟩

/-- It makes a row. -/
theorem x1 {t : Tmp} {op : Op} {ty : TypeId} {pos : String} {after : Array Edge} {gd : Option (Nat × Bool)} {d : PV} {r : Row} (hw : wantP ops env ⟨some t, op, ty, pos, after, gd⟩ = some true)
    (h : OpR P σ (evP env) (some t) op d (.new t r)) (hf : σ t = none) (ht : dr = true → (Eff.new t r).off (kept bar) = true) (hc : dr = true → clsOK (cls bar i op) (.new t r) (∀ σ', NearT (kept bar) σ σ' → OpR P σ' (evP env) (some t) op d (.new t r))) (k : Ex P ops bar dr (i + 1) os ⟨upd env t d, upd σ t (some r)⟩ K) :
    Ex P ops bar dr i (⟨some t, op, ty, pos, after, gd⟩ :: os) ⟨env, σ⟩ K := ⟨_, .run d (.new t r) hw h ⟨Same.refl _, NearT.refl _⟩ hf ht hc, k⟩

/-- It stores. -/
theorem x_sto {op : Op} {ty : TypeId} {pos : String} {after : Array Edge} {gd : Option (Nat × Bool)} {l j f : Nat} {cs es : List PV} {q : Row} {x x' : PV} {cl : Bool} (hw : wantP ops env ⟨none, op, ty, pos, after, gd⟩ = some true)
    (h : OpR P σ (evP env) none op (.tup []) (.sto l j f cs)) (hl : σ l = some q) (hx : q.els[j]? = some x) (hlo : q.lo ≤ j) (hf : f + cs.length ≤ x.cells.length) (hsc : cs.all PV.sc = true) (hcl : (q.cl && cs.all PV.clo1) = cl)
    (he : setC x f cs = x') (hes : q.els.set j x' = es) (ht : dr = true → (Eff.sto l j f cs).off (kept bar) = true) (hc : dr = true → clsOK (cls bar i op) (.sto l j f cs) (∀ σ', NearT (kept bar) σ σ' → OpR P σ' (evP env) none op (.tup []) (.sto l j f cs))) (k : Ex P ops bar dr (i + 1) os ⟨env, upd σ l (some ⟨es, q.lo, q.opn, q.z, cl⟩)⟩ K) :
    Ex P ops bar dr i (⟨none, op, ty, pos, after, gd⟩ :: os) ⟨env, σ⟩ K := by
  refine ⟨_, .run (.tup []) (.sto l j f cs) hw h ⟨Same.refl _, NearT.refl _⟩ ⟨q, x, hl, hx, hlo, hf, hsc⟩ ht hc, ?_⟩
  subst he
  subst hes
  subst hcl
  simp only [Eff.apply, hl, hx]
  exact k

/-- It appends to a row. -/
theorem x_app {t : Tmp} {op : Op} {ty : TypeId} {pos : String} {after : Array Edge} {gd : Option (Nat × Bool)} {d : PV} {s : Nat} {r q : Row} (hw : wantP ops env ⟨some t, op, ty, pos, after, gd⟩ = some true)
    (h : OpR P σ (evP env) (some t) op d (.app s t r)) (hf : σ t = none) (hq : σ s = some q) (ho : q.opn = true) (ht : dr = true → (Eff.app s t r).off (kept bar) = true) (hc : dr = true → clsOK (cls bar i op) (.app s t r) (∀ σ', NearT (kept bar) σ σ' → OpR P σ' (evP env) (some t) op d (.app s t r)))
    (k : Ex P ops bar dr (i + 1) os ⟨upd env t d, upd (upd σ s (some ⟨q.els, q.els.length, false, q.z, q.cl⟩)) t (some r)⟩ K) :
    Ex P ops bar dr i (⟨some t, op, ty, pos, after, gd⟩ :: os) ⟨env, σ⟩ K := by
  refine ⟨_, .run d (.app s t r) hw h ⟨Same.refl _, NearT.refl _⟩ ⟨hf, q, hq, ho⟩ ht hc, ?_⟩
  simp only [Eff.apply, hq]
  exact k

/-- A call that is shown no row. -/
theorem x_cal {t : Tmp} {op : Op} {ty : TypeId} {pos : String} {after : Array Edge} {gd : Option (Nat × Bool)} {d : PV} (hw : wantP ops env ⟨some t, op, ty, pos, after, gd⟩ = some true)
    (h : OpR P σ (evP env) (some t) op d (.frz [])) (hc : dr = true → clsOK (cls bar i op) (.frz []) (∀ σ', NearT (kept bar) σ σ' → OpR P σ' (evP env) (some t) op d (.frz []))) (k : Ex P ops bar dr (i + 1) os ⟨upd env t d, σ⟩ K) :
    Ex P ops bar dr i (⟨some t, op, ty, pos, after, gd⟩ :: os) ⟨env, σ⟩ K := ⟨_, .run d (.frz []) hw h ⟨Same.refl _, NearT.refl _⟩ trivial (fun _ => rfl) hc, k⟩

/-- A call that is shown one row. -/
theorem x_cal1 {t : Tmp} {op : Op} {ty : TypeId} {pos : String} {after : Array Edge} {gd : Option (Nat × Bool)} {d : PV} {l : Nat} {q : Row} (hw : wantP ops env ⟨some t, op, ty, pos, after, gd⟩ = some true)
    (h : OpR P σ (evP env) (some t) op d (.frz [l])) (hl : σ l = some q) (hc : dr = true → clsOK (cls bar i op) (.frz [l]) (∀ σ', NearT (kept bar) σ σ' → OpR P σ' (evP env) (some t) op d (.frz [l]))) (k : Ex P ops bar dr (i + 1) os ⟨upd env t d, upd σ l (some ⟨q.els, q.els.length, q.opn, q.z, q.cl⟩)⟩ K) :
    Ex P ops bar dr i (⟨some t, op, ty, pos, after, gd⟩ :: os) ⟨env, σ⟩ K := by
  refine ⟨_, .run d (.frz [l]) hw h ⟨Same.refl _, NearT.refl _⟩ trivial (fun _ => rfl) hc, ?_⟩
  have : Eff.apply σ (.frz [l]) = upd σ l (some ⟨q.els, q.els.length, q.opn, q.z, q.cl⟩) := by
    simp only [Eff.apply, frzL, List.foldl_cons, List.foldl_nil, frz1, hl]
  simp only [this]
  exact k

/-- A call that makes a row, and is shown none. -/
theorem x_calN {t : Tmp} {op : Op} {ty : TypeId} {pos : String} {after : Array Edge} {gd : Option (Nat × Bool)} {d : PV} {r : Row} (hw : wantP ops env ⟨some t, op, ty, pos, after, gd⟩ = some true)
    (h : OpR P σ (evP env) (some t) op d (.frzN [] t r)) (hf : σ t = none) (ht : dr = true → (Eff.frzN [] t r).off (kept bar) = true) (hc : dr = true → clsOK (cls bar i op) (.frzN [] t r) (∀ σ', NearT (kept bar) σ σ' → OpR P σ' (evP env) (some t) op d (.frzN [] t r))) (k : Ex P ops bar dr (i + 1) os ⟨upd env t d, upd σ t (some r)⟩ K) :
    Ex P ops bar dr i (⟨some t, op, ty, pos, after, gd⟩ :: os) ⟨env, σ⟩ K := ⟨_, .run d (.frzN [] t r) hw h ⟨Same.refl _, NearT.refl _⟩ hf ht hc, k⟩

/-- It copies. -/
theorem x_cpy {t : Tmp} {op : Op} {ty : TypeId} {pos : String} {after : Array Edge} {gd : Option (Nat × Bool)} {d : PV} {l : Nat} {ys es : List PV} {q : Row} (hw : wantP ops env ⟨some t, op, ty, pos, after, gd⟩ = some true)
    (h : OpR P σ (evP env) (some t) op d (.cpy l ys)) (hl : σ l = some q) (hlo : q.lo = 0) (hn : ys.length ≤ q.els.length) (he : ys ++ q.els.drop ys.length = es) (ht : dr = true → (Eff.cpy l ys).off (kept bar) = true) (hc : dr = true → clsOK (cls bar i op) (.cpy l ys) (∀ σ', NearT (kept bar) σ σ' → OpR P σ' (evP env) (some t) op d (.cpy l ys)))
    (k : Ex P ops bar dr (i + 1) os ⟨upd env t d, upd σ l (some ⟨es, q.lo, q.opn, q.z, q.cl⟩)⟩ K) :
    Ex P ops bar dr i (⟨some t, op, ty, pos, after, gd⟩ :: os) ⟨env, σ⟩ K := by
  refine ⟨_, .run d (.cpy l ys) hw h ⟨Same.refl _, NearT.refl _⟩ ⟨q, hl, hlo, hn⟩ ht hc, ?_⟩
  subst he
  simp only [Eff.apply, hl]
  exact k

end

theorem pc_intro {P : Program} {f : FuncId} {fn : Func} {c : Code} {ds : List PV} {d : PV} {N : Nat} (hf : P.funcs[f]? = some fn) (hb : fn.body = some c) (hN : fn.ntmps = N) (hn : ds.length ≤ N)
    (h : ∀ w0 imm0, Pwp { P := P, N := N, ρ := none, w0 := w0, imm0 := imm0 } c (fnQ { P := P, N := N, ρ := none, w0 := w0, imm0 := imm0 } (Fin P fn d)) ⟨initEnv ds, fun _ => none⟩) (h6 : N ≤ 1000000 := by exact Nat.le_of_ble_eq_true rfl) : PCalls P f ds d := by
  refine pcalls_of hf hb (by rw [hN]; exact hn) (by rw [hN]; exact h6) ?_
  rintro X hP hN' hρ hext hobs hcalm
  have : X = { P := P, N := N, ρ := none, w0 := X.w0, imm0 := X.imm0 } := by
    cases X
    simp only at hP hN' hρ hext hobs hcalm
    subst hP hN' hρ hext hobs hcalm
    rw [hN]
  rw [this]
  exact h _ _

theorem pc_introN {P : Program} {f : FuncId} {fn : Func} {c : Code} {ds : List PV} {r : Row} {N : Nat} (hf : P.funcs[f]? = some fn) (hb : fn.body = some c) (hN : fn.ntmps = N) (hn : ds.length ≤ N)
    (h : ∀ w0 imm0, Pwp { P := P, N := N, ρ := none, w0 := w0, imm0 := imm0 } c (fnQ { P := P, N := N, ρ := none, w0 := w0, imm0 := imm0 } (FinN P fn r)) ⟨initEnv ds, fun _ => none⟩) (h6 : N ≤ 1000000 := by exact Nat.le_of_ble_eq_true rfl) : PCallsN P f ds r := by
  refine pcallsN_of hf hb (by rw [hN]; exact hn) (by rw [hN]; exact h6) ?_
  rintro X hP hN' hρ hext hobs hcalm
  have : X = { P := P, N := N, ρ := none, w0 := X.w0, imm0 := X.imm0 } := by
    cases X
    simp only at hP hN' hρ hext hobs hcalm
    subst hP hN' hρ hext hobs hcalm
    rw [hN]
  rw [this]
  exact h _ _

theorem thenQ_exit {K : Ctx → St → Prop} {Q : PX → Ctx → St → Prop} {i : Nat} {X : Ctx} {s : St} (h : Q (.exit i) X s) : thenQ K Q (.exit i) X s := h

theorem blockQ_exit {id : Nat} {Q : PX → Ctx → St → Prop} {X : Ctx} {s : St} (h : Q .normal X s) : blockQ id Q (.exit id) X s := by
  simp only [blockQ, if_true]
  exact h

theorem blockQ_other {id id' : Nat} {Q : PX → Ctx → St → Prop} {X : Ctx} {s : St} (hne : id' ≠ id) (h : Q (.exit id') X s) : blockQ id Q (.exit id') X s := by
  simp only [blockQ, if_neg hne]
  exact h

theorem Wk.loopI {s : St} (I : St → Prop) {m : Nat} (h : I s) : I s := h

/-- Temporaries and rows, one by one. -/
def Ag (R : List (Nat × Row)) (s : St) : List (Nat × PV) → Prop
  | [] => True
  | (i, d) :: L => s.env i = d.ren id ∧ renOK d = true ∧ d.refs.all (fun l => (R.lookup l).isSome) = true ∧ Ag R s L

def Ar (R0 : List (Nat × Row)) (s : St) : List (Nat × Row) → Prop
  | [] => True
  | p :: R => RowLe id R0 s.σ p ∧ Ar R0 s R

theorem wk_stG {s : St} (L : List (Nat × PV)) (R : List (Nat × Row)) (h : Ag R s L) (k : Ar R s R) (X : Ctx) (g : Gh) (a : Act) (w : World) (hs : Sim X g s a w) : Sim X g (St.of L R) a w := by
  refine wk_subG id L R ?_ ?_ (fun p _ q _ e => e) X g a w hs
  · clear k
    induction L with
    | nil => intro p hp; cases hp
    | cons x L ih =>
      intro p hp
      obtain ⟨h1, h2, h3, h4⟩ := h
      rcases List.mem_cons.1 hp with rfl | hp
      · exact ⟨h1, h2, h3⟩
      · exact ih h4 p hp
  · clear h
    have : ∀ R', Ar R s R' → ∀ p ∈ R', RowLe id R s.σ p := by
      intro R'
      induction R' with
      | nil => intro _ p hp; cases hp
      | cons x R' ih =>
        intro h p hp
        rcases List.mem_cons.1 hp with rfl | hp
        · exact h.1
        · exact ih h.2 p hp
    exact this R k

theorem wk_st {s : St} (L : List (Nat × PV)) (R : List (Nat × Row)) (h : Ag R s L) (k : Ar R s R) : Wk s (St.of L R) := fun X g a w hs => ⟨g, wk_stG L R h k X g a w hs⟩

def AgP (π : Nat → Nat) (R : List (Nat × Row)) (s : St) : List (Nat × PV) → Prop
  | [] => True
  | (i, d) :: L => s.env i = d.ren π ∧ renOK d = true ∧ d.refs.all (fun l => (R.lookup l).isSome) = true ∧ AgP π R s L

def ArP (π : Nat → Nat) (R0 : List (Nat × Row)) (s : St) : List (Nat × Row) → Prop
  | [] => True
  | p :: R => RowLe π R0 s.σ p ∧ ArP π R0 s R

/-- .. and rows by other names. -/
theorem wk_stP {s : St} (π : Nat → Nat) (L : List (Nat × PV)) (R : List (Nat × Row)) (h : AgP π R s L) (k : ArP π R s R) (hi : (R.all fun p => R.all fun q => π p.1 != π q.1 || p.1 == q.1) = true) : Wk s (St.of L R) := by
  refine wk_sub π L R ?_ ?_ fun p hp q hq e => ?_
  · clear k hi
    induction L with
    | nil => intro p hp; cases hp
    | cons x L ih =>
      intro p hp
      obtain ⟨h1, h2, h3, h4⟩ := h
      rcases List.mem_cons.1 hp with rfl | hp
      · exact ⟨h1, h2, h3⟩
      · exact ih h4 p hp
  · clear h hi
    have : ∀ R', ArP π R s R' → ∀ p ∈ R', RowLe π R s.σ p := by
      intro R'
      induction R' with
      | nil => intro _ p hp; cases hp
      | cons x R' ih =>
        intro h p hp
        rcases List.mem_cons.1 hp with rfl | hp
        · exact h.1
        · exact ih h.2 p hp
    exact this R k
  · have := List.all_eq_true.1 (List.all_eq_true.1 hi p hp) q hq
    simpa [e] using this

theorem rowLe_ren {π : Nat → Nat} {R : List (Nat × Row)} {σ : Nat → Option Row} {l : Nat} {r r' : Row} (h : σ (π l) = some r) (hz : r.z = r'.z) (hl : r.lo = r'.lo) (ho : r'.opn = true → r.opn = true) (hc : r.cl = true) (he : r.els = r'.els) (hc' : r'.cl = true) (hm : okM l (π l) r.cl r'.cl = true := by rfl) : RowLe π R σ (l, r') :=
  ⟨r, h, hm, hz, hl, ho, fun _ => hc, .inl ⟨hc', he⟩⟩

theorem rowLe_same {R : List (Nat × Row)} {σ : Nat → Option Row} {l : Nat} {r r' : Row} (h : σ l = some r) (hz : r.z = r'.z) (hl : r.lo = r'.lo) (ho : r'.opn = true → r.opn = true) (hc : r.cl = true) (he : r.els = r'.els) (hc' : r'.cl = true) (hm : okM l l r.cl r'.cl = true := by rfl) : RowLe id R σ (l, r') :=
  ⟨r, h, hm, hz, hl, ho, fun _ => hc, .inl ⟨hc', he⟩⟩

/-- A row that is not closed. -/
theorem rowLe_open {π : Nat → Nat} {R : List (Nat × Row)} {σ : Nat → Option Row} {l : Nat} {r r' : Row} (h : σ (π l) = some r) (hz : r.z = r'.z) (hl : r.lo = r'.lo) (ho : r'.opn = true → r.opn = true) (hc : r'.cl = false) (he : r.els = r'.els.map (PV.ren π)) (h1 : r'.els.all renOK = true)
    (h2 : (r'.els.flatMap PV.refs).all (fun l => (R.lookup l).isSome) = true) (hm : okM l (π l) r.cl r'.cl = true := by rfl) : RowLe π R σ (l, r') :=
  ⟨r, h, hm, hz, hl, ho, fun q => (by
    have q' : r'.cl = true := q
    rw [hc] at q'
    cases q'), .inr ⟨hc, he, h1, h2⟩⟩

/-! ### Regions in the order of the text, by what they come to -/

def Sq (X : Ctx) (ops : Array Oper) (i : Nat) (os : List Oper) (K : Ctx → St → Prop) (st : St) : Prop :=
  dstOK X.N ops = true → (∀ j, os[j]? = ops[i + j]?) → ∀ n g a w (Qo : Exit → Act → World → Prop), Sim X g st a w →
    (∀ X' g' s' a' w', Sim X' g' s' a' w' → X'.P = X.P ∧ X'.ρ = X.ρ → K X' s' → Qo .normal a' w') → wpOpsIn (FX X.ρ) n X.P ops Qo (List.range' i os.length) a w

section
variable {X : Ctx} {Q : PX → Ctx → St → Prop} {st : St} {ops : Array Oper} {i : Nat} {os : List Oper} {K : Ctx → St → Prop} {env : Nat → PV} {σ : Nat → Option Row}

theorem y_nil (h : K X st) : Sq X ops i [] K st := fun _ _ n g a w Qo hs hq => hq X g st a w hs ⟨rfl, rfl⟩ h

theorem y_wk {st' : St} (h : Wk st st') (k : Sq X ops i os K st') : Sq X ops i os K st := fun hd hi n g a w Qo hs hq => by
  obtain ⟨g', hs'⟩ := h X g a w hs
  exact k hd hi n g' a w Qo hs' hq

theorem ystep {o : Oper} {s : St} (h : Stp X.P ops false (kept []) (cls [] i o.op) o st s) (k : Sq X ops (i + 1) os K s) : Sq X ops i (o :: os) K st := fun hd hi n g a w Qo hs hq => by
  have ho : ops[i]? = some o := by have := hi 0; simpa using this.symm
  have e : List.range' i (o :: os).length = i :: List.range' (i + 1) os.length := rfl
  rw [e, wpOpsIn_cons]
  exact stp_sound ho hs h (dstOK_spec hd ho) fun g' a' w' hs' => k hd (fun j => by have := hi (j + 1); simpa [Nat.add_assoc, Nat.add_comm 1 j] using this) n g' a' w' Qo hs' hq

theorem sr {id : Nat} {l : List Oper} {y : Code} (hd : dstOK X.N l.toArray = true) (h : Sq X l.toArray 0 l (fun X' s => Pwp X' y Q s) st) : Pwp X (.seq (.region id l.toArray false) y) Q st := fun n g a w hs => by
  refine wpIn_seq (wpIn_region ?_)
  have hz : List.range l.toArray.size = List.range' 0 l.length := by simp [List.range_eq_range']
  rw [hz]
  refine h hd (fun j => by simp) n g a w _ hs fun X' g' s' a' w' h1 h3 h2 => ?_
  have := h2 n g' a' w' h1
  rw [lift_of h3, h3.1, h3.2] at this
  exact this

theorem sr1 {id : Nat} {l : List Oper} (hd : dstOK X.N l.toArray = true) (h : Sq X l.toArray 0 l (Q .normal) st) : Pwp X (.region id l.toArray false) Q st := fun n g a w hs => by
  refine wpIn_region ?_
  have hz : List.range l.toArray.size = List.range' 0 l.length := by simp [List.range_eq_range']
  rw [hz]
  exact h hd (fun j => by simp) n g a w _ hs fun X' g' s' a' w' h1 h3 h2 => ⟨X', g', s', h1, h3, h2⟩

theorem dr {id : Nat} {l : List Oper} {y : Code} (bar : List Nat) (hm : X.P.follows .mixedOrders = true) (hd : dstOK X.N l.toArray = true) (hr : regOK l.toArray bar (Region.before l.toArray) = true)
    (h : Ex X.P l.toArray bar true 0 l st (fun s => Pwp X y Q s)) : Pwp X (.seq (.region id l.toArray true) y) Q st := pw_seq (pw_drw bar hm hd hr h)
end
end Go.Pw
