/-
  Operations, one by one, along the text.
-/
import Derived.Test.YtgleeglhdlnobaaPw18
import Derived.KernelRfl
namespace Go.Pw
open Go.RowKit
set_option linter.unusedVariables false

/-- The operations from the i-th on, and what is asked behind them. -/
def Ex (P : Program) (ops : Array Oper) (bar : List Nat) (dr : Bool) : Nat → List Oper → St → (St → Prop) → Prop
  | _, [], st, K => K st
  | i, o :: os, st, K => ∃ s, Stp P ops dr (kept bar) (cls bar i o.op) o st s ∧ Ex P ops bar dr (i + 1) os s K

theorem runs_of_ex {P : Program} {bar : List Nat} {dr : Bool} {K : St → Prop} {ops : Array Oper} : ∀ (os : List Oper) (i : Nat) (st : St), (∀ j, os[j]? = ops[i + j]?) → Ex P ops bar dr i os st K → ∃ s, Runs P ops bar dr (List.range' i os.length) st s ∧ K s
  | [], _, st, _, h => ⟨st, rfl, h⟩
  | o :: os, i, st, hi, h => by
    obtain ⟨s, h1, h2⟩ := h
    obtain ⟨s', k1, k2⟩ := runs_of_ex os (i + 1) s (fun j => by have := hi (j + 1); simpa [Nat.add_assoc, Nat.add_comm 1 j] using this) h2
    exact ⟨s', ⟨o, s, by have := hi 0; simpa using this.symm, h1, k1⟩, k2⟩

section
variable {X : Ctx} {Q : PX → St → Prop} {st : St}

theorem pw_reg {id : Nat} {l : List Oper} (hd : dstOK X.N l.toArray = true) (h : Ex X.P l.toArray [] false 0 l st (Q .normal)) : Pwp X (.region id l.toArray false) Q st := by
  refine pw_region hd ?_
  have := runs_of_ex (ops := l.toArray) l 0 st (fun j => by simp) h
  simpa [List.range_eq_range'] using this

theorem pw_drw {id : Nat} {l : List Oper} (bar : List Nat) (hm : X.P.follows .mixedOrders = true) (hd : dstOK X.N l.toArray = true) (hr : regOK l.toArray bar (Region.before l.toArray) = true)
    (h : Ex X.P l.toArray bar true 0 l st (Q .normal)) : Pwp X (.region id l.toArray true) Q st := by
  refine pw_draw bar hm hd hr ?_
  have := runs_of_ex (ops := l.toArray) l 0 st (fun j => by simp) h
  simpa [List.range_eq_range'] using this

variable {P : Program} {ops : Array Oper} {bar : List Nat} {dr : Bool} {i : Nat} {os : List Oper} {K : St → Prop} {env : Nat → PV} {σ : Nat → Option Row}

theorem x_nil (h : K st) : Ex P ops bar dr i [] st K := h

theorem x_skip {t : Tmp} {op : Op} {ty : TypeId} {pos : String} {after : Array Edge} {gd : Option (Nat × Bool)} (hw : wantP ops env ⟨some t, op, ty, pos, after, gd⟩ = some false)
    (k : Ex P ops bar dr (i + 1) os ⟨upd env t (.tup []), σ⟩ K) : Ex P ops bar dr i (⟨some t, op, ty, pos, after, gd⟩ :: os) ⟨env, σ⟩ K := ⟨_, .skip hw, k⟩

theorem x_skipN {op : Op} {ty : TypeId} {pos : String} {after : Array Edge} {gd : Option (Nat × Bool)} (hw : wantP ops env ⟨none, op, ty, pos, after, gd⟩ = some false)
    (k : Ex P ops bar dr (i + 1) os ⟨env, σ⟩ K) : Ex P ops bar dr i (⟨none, op, ty, pos, after, gd⟩ :: os) ⟨env, σ⟩ K := ⟨_, .skip hw, k⟩

/-- It only looks. -/
theorem x0 {t : Tmp} {op : Op} {ty : TypeId} {pos : String} {after : Array Edge} {gd : Option (Nat × Bool)} {d : PV} (hw : wantP ops env ⟨some t, op, ty, pos, after, gd⟩ = some true)
    (h : OpR P σ (evP env) (some t) op d .none) (hc : dr = true → clsOK (cls bar i op) .none (∀ σ', NearT (kept bar) σ σ' → OpR P σ' (evP env) (some t) op d .none)) (k : Ex P ops bar dr (i + 1) os ⟨upd env t d, σ⟩ K) :
    Ex P ops bar dr i (⟨some t, op, ty, pos, after, gd⟩ :: os) ⟨env, σ⟩ K := ⟨_, .run d .none hw h ⟨Same.refl _, NearT.refl _⟩ trivial (fun _ => rfl) hc, k⟩

/-- It only looks, and at no row. -/
theorem x7 {t : Tmp} {op : Op} {ty : TypeId} {pos : String} {after : Array Edge} {gd : Option (Nat × Bool)} {d : PV} (hw : wantP ops env ⟨some t, op, ty, pos, after, gd⟩ = some true)
    (h : ∀ σ', NearT (kept bar) σ σ' → OpR P σ' (evP env) (some t) op d .none) (h7 : cls bar i op = 7) (k : Ex P ops bar dr (i + 1) os ⟨upd env t d, σ⟩ K) :
    Ex P ops bar dr i (⟨some t, op, ty, pos, after, gd⟩ :: os) ⟨env, σ⟩ K := ⟨_, .run d .none hw (h σ (NearT.refl _)) ⟨Same.refl _, NearT.refl _⟩ trivial (fun _ => rfl) (fun _ => by rw [h7]; exact ⟨rfl, h⟩), k⟩

/-- It makes a row. -/
theorem x1 {t : Tmp} {op : Op} {ty : TypeId} {pos : String} {after : Array Edge} {gd : Option (Nat × Bool)} {d : PV} {r : Row} (hw : wantP ops env ⟨some t, op, ty, pos, after, gd⟩ = some true)
    (h : OpR P σ (evP env) (some t) op d (.new t r)) (hf : σ t = none) (ht : dr = true → (Eff.new t r).off (kept bar) = true) (hc : dr = true → clsOK (cls bar i op) (.new t r) (∀ σ', NearT (kept bar) σ σ' → OpR P σ' (evP env) (some t) op d (.new t r))) (k : Ex P ops bar dr (i + 1) os ⟨upd env t d, upd σ t (some r)⟩ K) :
    Ex P ops bar dr i (⟨some t, op, ty, pos, after, gd⟩ :: os) ⟨env, σ⟩ K := ⟨_, .run d (.new t r) hw h ⟨Same.refl _, NearT.refl _⟩ hf ht hc, k⟩

/-- It stores. -/
theorem x_sto {op : Op} {ty : TypeId} {pos : String} {after : Array Edge} {gd : Option (Nat × Bool)} {l j f : Nat} {cs es : List PV} {q : Row} {x x' : PV} {cl : Bool} (hw : wantP ops env ⟨none, op, ty, pos, after, gd⟩ = some true)
    (h : OpR P σ (evP env) none op (.tup []) (.sto l j f cs)) (hl : σ l = some q) (hx : q.els[j]? = some x) (hlo : q.lo ≤ j) (hf : f + cs.length ≤ x.cells.length) (hsc : cs.all PV.sc = true) (hcl : (q.cl && cs.all PV.clo1) = cl)
    (he : setC x f cs = x') (hes : q.els.set j x' = es) (ht : dr = true → (Eff.sto l j f cs).off (kept bar) = true) (hc : dr = true → clsOK (cls bar i op) (.sto l j f cs) (∀ σ', NearT (kept bar) σ σ' → OpR P σ' (evP env) none op (.tup []) (.sto l j f cs))) (k : Ex P ops bar dr (i + 1) os ⟨env, upd σ l (some ⟨es, q.lo, q.opn, q.z, cl⟩)⟩ K) :
    Ex P ops bar dr i (⟨none, op, ty, pos, after, gd⟩ :: os) ⟨env, σ⟩ K := by
  refine ⟨_, .run (.tup []) (.sto l j f cs) hw h ⟨Same.refl _, NearT.refl _⟩ ⟨q, x, hl, hx, hlo, hf, hsc⟩ ht hc, ?_⟩
  subst he
  subst hes
  subst hcl
  simp only [Eff.apply, hl, hx]
  exact k

/-- It appends to a row. -/
theorem x_app {t : Tmp} {op : Op} {ty : TypeId} {pos : String} {after : Array Edge} {gd : Option (Nat × Bool)} {d : PV} {s : Nat} {r q : Row} (hw : wantP ops env ⟨some t, op, ty, pos, after, gd⟩ = some true)
    (h : OpR P σ (evP env) (some t) op d (.app s t r)) (hf : σ t = none) (hq : σ s = some q) (ho : q.opn = true) (ht : dr = true → (Eff.app s t r).off (kept bar) = true) (hc : dr = true → clsOK (cls bar i op) (.app s t r) (∀ σ', NearT (kept bar) σ σ' → OpR P σ' (evP env) (some t) op d (.app s t r)))
    (k : Ex P ops bar dr (i + 1) os ⟨upd env t d, upd (upd σ s (some ⟨q.els, q.els.length, false, q.z, q.cl⟩)) t (some r)⟩ K) :
    Ex P ops bar dr i (⟨some t, op, ty, pos, after, gd⟩ :: os) ⟨env, σ⟩ K := by
  refine ⟨_, .run d (.app s t r) hw h ⟨Same.refl _, NearT.refl _⟩ ⟨hf, q, hq, ho⟩ ht hc, ?_⟩
  simp only [Eff.apply, hq]
  exact k

/-- A call that is shown no row. -/
theorem x_cal {t : Tmp} {op : Op} {ty : TypeId} {pos : String} {after : Array Edge} {gd : Option (Nat × Bool)} {d : PV} (hw : wantP ops env ⟨some t, op, ty, pos, after, gd⟩ = some true)
    (h : OpR P σ (evP env) (some t) op d (.frz [])) (hc : dr = true → clsOK (cls bar i op) (.frz []) (∀ σ', NearT (kept bar) σ σ' → OpR P σ' (evP env) (some t) op d (.frz []))) (k : Ex P ops bar dr (i + 1) os ⟨upd env t d, σ⟩ K) :
    Ex P ops bar dr i (⟨some t, op, ty, pos, after, gd⟩ :: os) ⟨env, σ⟩ K := ⟨_, .run d (.frz []) hw h ⟨Same.refl _, NearT.refl _⟩ trivial (fun _ => rfl) hc, k⟩

/-- A call that is shown one row. -/
theorem x_cal1 {t : Tmp} {op : Op} {ty : TypeId} {pos : String} {after : Array Edge} {gd : Option (Nat × Bool)} {d : PV} {l : Nat} {q : Row} (hw : wantP ops env ⟨some t, op, ty, pos, after, gd⟩ = some true)
    (h : OpR P σ (evP env) (some t) op d (.frz [l])) (hl : σ l = some q) (hc : dr = true → clsOK (cls bar i op) (.frz [l]) (∀ σ', NearT (kept bar) σ σ' → OpR P σ' (evP env) (some t) op d (.frz [l]))) (k : Ex P ops bar dr (i + 1) os ⟨upd env t d, upd σ l (some ⟨q.els, q.els.length, q.opn, q.z, q.cl⟩)⟩ K) :
    Ex P ops bar dr i (⟨some t, op, ty, pos, after, gd⟩ :: os) ⟨env, σ⟩ K := by
  refine ⟨_, .run d (.frz [l]) hw h ⟨Same.refl _, NearT.refl _⟩ trivial (fun _ => rfl) hc, ?_⟩
  have : Eff.apply σ (.frz [l]) = upd σ l (some ⟨q.els, q.els.length, q.opn, q.z, q.cl⟩) := by
    simp only [Eff.apply, frzL, List.foldl_cons, List.foldl_nil, frz1, hl]
  simp only [this]
  exact k

/-- A call that makes a row, and is shown none. -/
theorem x_calN {t : Tmp} {op : Op} {ty : TypeId} {pos : String} {after : Array Edge} {gd : Option (Nat × Bool)} {d : PV} {r : Row} (hw : wantP ops env ⟨some t, op, ty, pos, after, gd⟩ = some true)
    (h : OpR P σ (evP env) (some t) op d (.frzN [] t r)) (hf : σ t = none) (ht : dr = true → (Eff.frzN [] t r).off (kept bar) = true) (hc : dr = true → clsOK (cls bar i op) (.frzN [] t r) (∀ σ', NearT (kept bar) σ σ' → OpR P σ' (evP env) (some t) op d (.frzN [] t r))) (k : Ex P ops bar dr (i + 1) os ⟨upd env t d, upd σ t (some r)⟩ K) :
    Ex P ops bar dr i (⟨some t, op, ty, pos, after, gd⟩ :: os) ⟨env, σ⟩ K := ⟨_, .run d (.frzN [] t r) hw h ⟨Same.refl _, NearT.refl _⟩ hf ht hc, k⟩

/-- It copies. -/
theorem x_cpy {t : Tmp} {op : Op} {ty : TypeId} {pos : String} {after : Array Edge} {gd : Option (Nat × Bool)} {d : PV} {l : Nat} {ys es : List PV} {q : Row} (hw : wantP ops env ⟨some t, op, ty, pos, after, gd⟩ = some true)
    (h : OpR P σ (evP env) (some t) op d (.cpy l ys)) (hl : σ l = some q) (hlo : q.lo = 0) (hn : ys.length ≤ q.els.length) (he : ys ++ q.els.drop ys.length = es) (ht : dr = true → (Eff.cpy l ys).off (kept bar) = true) (hc : dr = true → clsOK (cls bar i op) (.cpy l ys) (∀ σ', NearT (kept bar) σ σ' → OpR P σ' (evP env) (some t) op d (.cpy l ys)))
    (k : Ex P ops bar dr (i + 1) os ⟨upd env t d, upd σ l (some ⟨es, q.lo, q.opn, q.z, q.cl⟩)⟩ K) :
    Ex P ops bar dr i (⟨some t, op, ty, pos, after, gd⟩ :: os) ⟨env, σ⟩ K := by
  refine ⟨_, .run d (.cpy l ys) hw h ⟨Same.refl _, NearT.refl _⟩ ⟨q, hl, hlo, hn⟩ ht hc, ?_⟩
  subst he
  simp only [Eff.apply, hl]
  exact k

end

theorem pc_intro {P : Program} {f : FuncId} {fn : Func} {c : Code} {ds : List PV} {d : PV} {N : Nat} (hf : P.funcs[f]? = some fn) (hb : fn.body = some c) (hN : fn.ntmps = N) (hn : ds.length ≤ N)
    (h : ∀ w0 imm0, Pwp ⟨P, N, none, w0, imm0⟩ c (fnQ (Fin P fn d)) ⟨initEnv ds, fun _ => none⟩) : PCalls P f ds d := by
  refine pcalls_of hf hb (by rw [hN]; exact hn) ?_
  rintro ⟨P', N', ρ', w0, imm0⟩ hP hN' hρ
  simp only at hP hN' hρ
  subst hP hN' hρ
  rw [hN]
  exact h w0 imm0

theorem pc_introN {P : Program} {f : FuncId} {fn : Func} {c : Code} {ds : List PV} {r : Row} {N : Nat} (hf : P.funcs[f]? = some fn) (hb : fn.body = some c) (hN : fn.ntmps = N) (hn : ds.length ≤ N)
    (h : ∀ w0 imm0, Pwp ⟨P, N, none, w0, imm0⟩ c (fnQ (FinN P fn r)) ⟨initEnv ds, fun _ => none⟩) : PCallsN P f ds r := by
  refine pcallsN_of hf hb (by rw [hN]; exact hn) ?_
  rintro ⟨P', N', ρ', w0, imm0⟩ hP hN' hρ
  simp only at hP hN' hρ
  subst hP hN' hρ
  rw [hN]
  exact h w0 imm0

theorem thenQ_exit {K : St → Prop} {Q : PX → St → Prop} {i : Nat} {s : St} (h : Q (.exit i) s) : thenQ K Q (.exit i) s := h

theorem blockQ_exit {id : Nat} {Q : PX → St → Prop} {s : St} (h : Q .normal s) : blockQ id Q (.exit id) s := by
  simp only [blockQ, if_true]
  exact h

theorem blockQ_other {id id' : Nat} {Q : PX → St → Prop} {s : St} (hne : id' ≠ id) (h : Q (.exit id') s) : blockQ id Q (.exit id') s := by
  simp only [blockQ, if_neg hne]
  exact h

theorem Wk.loopI {s : St} (I : St → Prop) {m : Nat} (h : I s) : I s := h

/-- Temporaries and rows, one by one. -/
def Ag (R : List (Nat × Row)) (s : St) : List (Nat × PV) → Prop
  | [] => True
  | (i, d) :: L => s.env i = d.ren id ∧ renOK d = true ∧ d.refs.all (fun l => (R.lookup l).isSome) = true ∧ Ag R s L

def Ar (R0 : List (Nat × Row)) (s : St) : List (Nat × Row) → Prop
  | [] => True
  | p :: R => RowLe id R0 s.σ p ∧ Ar R0 s R

theorem wk_st {s : St} (L : List (Nat × PV)) (R : List (Nat × Row)) (h : Ag R s L) (k : Ar R s R) : Wk s (St.of L R) := by
  refine wk_sub id L R ?_ ?_ fun p _ q _ e => e
  · clear k
    induction L with
    | nil => intro p hp; cases hp
    | cons x L ih =>
      intro p hp
      obtain ⟨h1, h2, h3, h4⟩ := h
      rcases List.mem_cons.1 hp with rfl | hp
      · exact ⟨h1, h2, h3⟩
      · exact ih h4 p hp
  · clear h
    have : ∀ R', Ar R s R' → ∀ p ∈ R', RowLe id R s.σ p := by
      intro R'
      induction R' with
      | nil => intro _ p hp; cases hp
      | cons x R' ih =>
        intro h p hp
        rcases List.mem_cons.1 hp with rfl | hp
        · exact h.1
        · exact ih h.2 p hp
    exact this R k

def AgP (π : Nat → Nat) (R : List (Nat × Row)) (s : St) : List (Nat × PV) → Prop
  | [] => True
  | (i, d) :: L => s.env i = d.ren π ∧ renOK d = true ∧ d.refs.all (fun l => (R.lookup l).isSome) = true ∧ AgP π R s L

def ArP (π : Nat → Nat) (R0 : List (Nat × Row)) (s : St) : List (Nat × Row) → Prop
  | [] => True
  | p :: R => RowLe π R0 s.σ p ∧ ArP π R0 s R

/-- .. and rows by other names. -/
theorem wk_stP {s : St} (π : Nat → Nat) (L : List (Nat × PV)) (R : List (Nat × Row)) (h : AgP π R s L) (k : ArP π R s R) (hi : (R.all fun p => R.all fun q => π p.1 != π q.1 || p.1 == q.1) = true) : Wk s (St.of L R) := by
  refine wk_sub π L R ?_ ?_ fun p hp q hq e => ?_
  · clear k hi
    induction L with
    | nil => intro p hp; cases hp
    | cons x L ih =>
      intro p hp
      obtain ⟨h1, h2, h3, h4⟩ := h
      rcases List.mem_cons.1 hp with rfl | hp
      · exact ⟨h1, h2, h3⟩
      · exact ih h4 p hp
  · clear h hi
    have : ∀ R', ArP π R s R' → ∀ p ∈ R', RowLe π R s.σ p := by
      intro R'
      induction R' with
      | nil => intro _ p hp; cases hp
      | cons x R' ih =>
        intro h p hp
        rcases List.mem_cons.1 hp with rfl | hp
        · exact h.1
        · exact ih h.2 p hp
    exact this R k
  · have := List.all_eq_true.1 (List.all_eq_true.1 hi p hp) q hq
    simpa [e] using this

theorem rowLe_ren {π : Nat → Nat} {R : List (Nat × Row)} {σ : Nat → Option Row} {l : Nat} {r r' : Row} (h : σ (π l) = some r) (hz : r.z = r'.z) (hl : r.lo = r'.lo) (ho : r'.opn = true → r.opn = true) (hc : r.cl = true) (he : r.els = r'.els) (hc' : r'.cl = true) : RowLe π R σ (l, r') :=
  ⟨r, h, hz, hl, ho, fun _ => hc, .inl ⟨hc', he⟩⟩

theorem rowLe_same {R : List (Nat × Row)} {σ : Nat → Option Row} {l : Nat} {r r' : Row} (h : σ l = some r) (hz : r.z = r'.z) (hl : r.lo = r'.lo) (ho : r'.opn = true → r.opn = true) (hc : r.cl = true) (he : r.els = r'.els) (hc' : r'.cl = true) : RowLe id R σ (l, r') :=
  ⟨r, h, hz, hl, ho, fun _ => hc, .inl ⟨hc', he⟩⟩

def Ints (L : List PV) : Prop := ∀ e ∈ L, ∃ n, e = .int .i64 n
theorem Ints.len {L : List PV} (h : Ints L) : ∀ e ∈ L, e.cells.length = 1 := fun e he => by obtain ⟨n, rfl⟩ := h e he; rfl
theorem Ints.get {L : List PV} (h : Ints L) {k : Nat} (hk : k < L.length) : ∃ v, L[k]? = some (.int .i64 v) := by
  obtain ⟨v, hv⟩ := h L[k] (List.getElem_mem hk)
  exact ⟨v, by rw [List.getElem?_eq_getElem hk, hv]⟩

/-! ### Words with results by name -/
section
variable {P : Program} {σ : Nat → Option Row} {ρ : Operand → PV} {dst : Option Tmp}

theorem o_move {x : Operand} {d : PV} (h : ρ x = d) : OpR P σ ρ dst (.move x) d .none := by rw [← h]; exact .move x
theorem o_assign {x : Operand} {d : PV} (h : ρ x = d) : OpR P σ ρ dst (.assign x) d .none := by rw [← h]; exact .assign x
theorem o_pickT {c a b : Operand} {d : PV} (hc : ρ c = .bool true) (h : ρ a = d) : OpR P σ ρ dst (.pick c a b) d .none := by rw [← h]; exact .pick c a b true hc
theorem o_pickF {c a b : Operand} {d : PV} (hc : ρ c = .bool false) (h : ρ b = d) : OpR P σ ρ dst (.pick c a b) d .none := by rw [← h]; exact .pick c a b false hc
theorem o_not {t : TypeId} {x : Operand} {b r : Bool} (h : ρ x = .bool b) (hr : (!b) = r) : OpR P σ ρ dst (.unOp .not t x) (.bool r) .none := by rw [← hr]; exact .not t x b h
theorem o_box {T : TypeId} {x : Operand} {t : Tmp} {d : PV} {z : Nat} {cl : Bool} (h : ρ x = d) (hd : dst = some t) (he : d.el = true) (hz : d.cells.length = z) (hcl : d.clo = cl) :
    OpR P σ ρ dst (.box T x) (.ptr t 0 0) (.new t ⟨[d], 0, false, z, cl⟩) := by subst h; subst hz; subst hcl; exact .box T x t hd he
theorem o_alloc {T : TypeId} {t : Tmp} {v : Value} {d : PV} {z : Nat} (hd : dst = some t) (hz : tzero P T = some v) (hv : PV.ofV v = d) (he : d.el = true) (hz' : d.cells.length = z) :
    OpR P σ ρ dst (.alloc T) (.ptr t 0 0) (.new t ⟨[d], 0, false, z, true⟩) := by subst hv; subst hz'; exact .alloc T t v hd hz he
theorem o_loadA {T : TypeId} {x : Operand} {l i f n : Nat} {r : Row} {y : PV} {cs : List PV} (hx : ρ x = .ptr l i f) (hl : σ l = some r) (hy : r.els[i]? = some y) (ha : tagg P T = some true) (hs : tsize P T = some n) (hf : f + n ≤ y.cells.length)
    (hd : (y.cells.drop f).take n = cs) : OpR P σ ρ dst (.load T x) (.agg cs) .none := by rw [← hd]; exact .loadA T x l i f r y n hx hl hy ha hs hf
theorem o_loadRA {T : TypeId} {x : Operand} {n : Nat} {es cs : List PV} (hx : ρ x = .rptr es) (ha : tagg P T = some true) (hs : tsize P T = some n) (hf : n ≤ es.length)
    (hd : es.take n = cs) : OpR P σ ρ dst (.load T x) (.agg cs) .none := by rw [← hd]; exact .loadRA T x es n hx ha hs hf
theorem o_loadS {T : TypeId} {x : Operand} {l i f : Nat} {r : Row} {y d : PV} (hx : ρ x = .ptr l i f) (hl : σ l = some r) (hy : r.els[i]? = some y) (ha : tagg P T = some false) (hd : y.cells[f]? = some d) : OpR P σ ρ dst (.load T x) d .none :=
  .loadS T x l i f r y d hx hl hy ha hd
theorem o_loadRS {T : TypeId} {x : Operand} {es : List PV} {d : PV} (hx : ρ x = .rptr es) (ha : tagg P T = some false) (hd : es[0]? = some d) : OpR P σ ρ dst (.load T x) d .none := .loadRS T x es d hx ha hd
theorem NearT.row {T : List Nat} {σ σ' : Nat → Option Row} {l : Nat} {r : Row} (h : NearT T σ σ') (hm : T.contains l = true) (hl : σ l = some r) : ∃ r', σ' l = some r' ∧ r'.els = r.els ∧ r'.z = r.z ∧ r'.cl = r.cl := by
  have := h l hm
  rw [hl] at this
  cases hq : σ' l with
  | none => rw [hq] at this; cases this
  | some r' =>
    rw [hq] at this
    simp only [Option.map_some, Option.some.injEq, core, Prod.mk.injEq] at this
    exact ⟨r', rfl, this.1.symm, this.2.1.symm, this.2.2.symm⟩
theorem n_loadA {T : TypeId} {x : Operand} {l i f n : Nat} {r : Row} {y : PV} {cs : List PV} {K : List Nat} {σ' : Nat → Option Row} (hN : NearT K σ σ') (hx : ρ x = .ptr l i f) (hm : K.contains l = true) (hl : σ l = some r) (hy : r.els[i]? = some y) (ha : tagg P T = some true) (hs : tsize P T = some n) (hf : f + n ≤ y.cells.length)
    (hd : (y.cells.drop f).take n = cs) : OpR P σ' ρ dst (.load T x) (.agg cs) .none := by
  obtain ⟨r', h1, h2, _⟩ := hN.row hm hl
  exact o_loadA hx h1 (by rw [h2]; exact hy) ha hs hf hd
theorem n_loadS {T : TypeId} {x : Operand} {l i f : Nat} {r : Row} {y d : PV} {K : List Nat} {σ' : Nat → Option Row} (hN : NearT K σ σ') (hx : ρ x = .ptr l i f) (hm : K.contains l = true) (hl : σ l = some r) (hy : r.els[i]? = some y) (ha : tagg P T = some false) (hd : y.cells[f]? = some d) : OpR P σ' ρ dst (.load T x) d .none := by
  obtain ⟨r', h1, h2, _⟩ := hN.row hm hl
  exact o_loadS hx h1 (by rw [h2]; exact hy) ha hd
theorem n_idxR {T E : TypeId} {x y : Operand} {l z : Nat} {r : Row} {k : IntKind} {n : Int} {m : Nat} {K : List Nat} {σ' : Nat → Option Row} (hN : NearT K σ σ') (hx : ρ x = .sl l) (hm' : K.contains l = true) (hl : σ l = some r) (hy : ρ y = .int k n) (hn : n = (m : Int)) (hm : m < r.els.length) (hE : telem P T = some E) (hz : tsize P E = some z) (hrz : r.z = z) :
    OpR P σ' ρ dst (.indexAddr T x y) (.ptr l m 0) .none := by
  obtain ⟨r', h1, h2, h3, _⟩ := hN.row hm' hl
  subst hn; subst hrz
  have := OpR.idxR (P := P) (dst := dst) T x y l r' k m E hx h1 hy (by omega) (by simpa [h2] using hm) hE (by rw [h3]; exact hz)
  simpa using this
theorem o_lenL {x : Operand} {T E : TypeId} {t : Bool} {xs : List PV} {n : Int} (hx : ρ x = .lst t xs) (hE : telem P T = some E) (hn : (xs.length : Int) = n) : OpR P σ ρ dst (.call { callee := .builtin .len, args := #[x], argTypes := #[T] }) (.int .i64 n) .none := by
  subst hn; exact .lenL x t xs T hx (by rw [hE]; rfl) _ rfl
theorem o_lenR {x : Operand} {T E : TypeId} {l : Nat} {r : Row} {n : Int} (hx : ρ x = .sl l) (hl : σ l = some r) (hE : telem P T = some E) (hn : (r.els.length : Int) = n) : OpR P σ ρ dst (.call { callee := .builtin .len, args := #[x], argTypes := #[T] }) (.int .i64 n) .none := by
  subst hn; exact .lenR x l r T hx hl (by rw [hE]; rfl) _ rfl
theorem o_lenS {x : Operand} {T : TypeId} {s : ByteArray} {n : Int} (hx : ρ x = .str s) (hE : P.underlying T = some .string) (hn : (s.size : Int) = n) : OpR P σ ρ dst (.call { callee := .builtin .len, args := #[x], argTypes := #[T] }) (.int .i64 n) .none := by
  subst hn; exact .lenS x s T hx hE _ rfl
theorem o_min {x y : Operand} {k : IntKind} {a b r : Int} {ts : Array TypeId} (hx : ρ x = .int k a) (hy : ρ y = .int k b) (hr : (if b < a then b else a) = r) : OpR P σ ρ dst (.call { callee := .builtin .min, args := #[x, y], argTypes := ts }) (.int k r) .none := by
  subst hr; exact .min2 x y k a b ts hx hy
theorem o_max {x y : Operand} {k : IntKind} {a b r : Int} {ts : Array TypeId} (hx : ρ x = .int k a) (hy : ρ y = .int k b) (hr : (if b > a then b else a) = r) : OpR P σ ρ dst (.call { callee := .builtin .max, args := #[x, y], argTypes := ts }) (.int k r) .none := by
  subst hr; exact .max2 x y k a b ts hx hy
theorem o_ari {op : BinOp} {t u : TypeId} {x y : Operand} {k : IntKind} {a b r : Int} (hx : ρ x = .int k a) (hy : ρ y = .int k b) (hr : ariI k op a b = some r) : OpR P σ ρ dst (.binOp op t x y u) (.int k r) .none := .ari op t u x y k a b r hx hy hr
theorem o_cmp {op : BinOp} {t u : TypeId} {x y : Operand} {k : IntKind} {a b : Int} {r : Bool} (hx : ρ x = .int k a) (hy : ρ y = .int k b) (hr : cmpI op a b = some r) : OpR P σ ρ dst (.binOp op t x y u) (.bool r) .none := .cmp op t u x y k a b r hx hy hr
theorem o_eqB {t u : TypeId} {x y : Operand} {a b r : Bool} (hx : ρ x = .bool a) (hy : ρ y = .bool b) (ht : P.underlying t = some .bool) (hr : (a == b) = r) : OpR P σ ρ dst (.binOp .eql t x y u) (.bool r) .none := by subst hr; exact .eqB t u x y a b hx hy ht
theorem o_neB {t u : TypeId} {x y : Operand} {a b r : Bool} (hx : ρ x = .bool a) (hy : ρ y = .bool b) (ht : P.underlying t = some .bool) (hr : (a != b) = r) : OpR P σ ρ dst (.binOp .neq t x y u) (.bool r) .none := by subst hr; exact .neB t u x y a b hx hy ht
theorem o_eqS {t u : TypeId} {x y : Operand} {a b : ByteArray} {r : Bool} (hx : ρ x = .str a) (hy : ρ y = .str b) (hr : (a.toList == b.toList) = r) : OpR P σ ρ dst (.binOp .eql t x y u) (.bool r) .none := by subst hr; exact .eqS t u x y a b hx hy
theorem o_neS {t u : TypeId} {x y : Operand} {a b : ByteArray} {r : Bool} (hx : ρ x = .str a) (hy : ρ y = .str b) (hr : (!(a.toList == b.toList)) = r) : OpR P σ ρ dst (.binOp .neq t x y u) (.bool r) .none := by subst hr; exact .neS t u x y a b hx hy
theorem o_conv {s t : TypeId} {x : Operand} {k k' : IntKind} {n r : Int} {D : TypeDesc} (hx : ρ x = .int k' n) (hs : P.underlying s = some D) (ht : tint P t = some k) (hr : k.wrap n = r) : OpR P σ ρ dst (.convert s t x) (.int k r) .none := by
  subst hr; exact .conv s t x k k' n hx (by rw [hs]; rfl) ht
theorem o_extract {x : Operand} {i : Nat} {ds : List PV} {d : PV} (hx : ρ x = .tup ds) (hd : ds[i]? = some d) : OpR P σ ρ dst (.extract x i) d .none := .extract x i ds d hx hd
theorem o_idxA {T E : TypeId} {x y : Operand} {l i f k2 : Nat} {k : IntKind} {n : Int} {m len z : Nat} (hx : ρ x = .ptr l i f) (hy : ρ y = .int k n) (hn : n = (m : Int)) (hm : m < len) (hE : tarr P T = some (len, E)) (hz : tsize P E = some z) (hk : f + m * z = k2) :
    OpR P σ ρ dst (.indexAddr T x y) (.ptr l i k2) .none := by
  subst hn; subst hk
  have := OpR.idxA (P := P) (σ := σ) (dst := dst) T x y l i f k m len E z hx hy (by omega) (by omega) hE hz
  simpa using this
theorem o_mkSlice {T E : TypeId} {x y : Operand} {t : Tmp} {k k' : IntKind} {n : Int} {m z b : Nat} {v : Value} {d : PV} (hd : dst = some t) (hx : ρ x = .int k n) (hy : ρ y = .int k' n) (hn : n = (m : Int)) (hE : telem P T = some E) (hz : tsize P E = some z) (hv : tzero P E = some v) (hb : tbytes P E = some b)
    (hdv : PV.ofV v = d) (hel : d.el = true) (hvz : d.cells.length = z) (hbm : b * m ≤ 281474976710656) (hm : m ≤ 9223372036854775807) : OpR P σ ρ dst (.makeSlice T x y) (.sl t) (.new t ⟨List.replicate m d, 0, true, z, true⟩) := by
  subst hn; subst hdv
  have := OpR.mkSlice (P := P) (σ := σ) T x y t k k' m E z v hd hx hy (by omega) hE hz hv hel hvz b hb (by have h := Int.ofNat_le.2 hbm; rw [Int.natCast_mul] at h; exact h) (by omega)
  simpa using this
theorem o_slice {T E : TypeId} {z i j k : Nat} {x : Operand} {lo hi mx : Option Operand} {t t' : Bool} {xs ys : List PV} (hx : ρ x = .lst t xs) (hE : telem P T = some E) (hz : tsize P E = some z) (hel : ∀ e ∈ xs, e.cells.length = z) (hlo : Bnd ρ lo 0 i) (hhi : Bnd ρ hi xs.length j) (hmx : Bnd ρ mx xs.length k)
    (hmh : mx.isSome = true → hi.isSome = true) (hij : i ≤ j) (hjk : j ≤ k) (hk : k ≤ xs.length) (ht : (if mx.isSome then decide (j = k) else t && decide (j = xs.length)) = t') (hy : (xs.take j).drop i = ys) : OpR P σ ρ dst (.slice T x lo hi mx) (.lst t' ys) .none := by
  subst ht; subst hy; exact .sliceL T E z x lo hi mx t xs i j k hx hE hz hel hlo hhi hmx hmh hij hjk hk
theorem o_sliceR {T E : TypeId} {z i n : Nat} {x : Operand} {lo : Option Operand} {s : Nat} {r : Row} {t : Tmp} {ys : List PV} {cl : Bool} (hd : dst = some t) (hx : ρ x = .sl s) (hs : σ s = some r) (hE : telem P T = some E) (hz : tsize P E = some z) (hrz : r.z = z) (hlo : Bnd ρ lo 0 i) (hi : i ≤ r.els.length) (hy : r.els.drop i = ys) (hn : r.els.length - i = n) (hcl : r.cl = cl) :
    OpR P σ ρ dst (.slice T x lo none none) (.sl t) (.app s t ⟨ys, n, true, z, cl⟩) := by subst hy; subst hn; subst hcl; exact .sliceR T E z x lo s r i t hd hx hs hE hz hrz hlo hi
theorem o_appT {x y : Operand} {T E : TypeId} {t : Tmp} {xs ys zs : List PV} {cl : Bool} {z by_ n : Nat} {zv : Value} (hd : dst = some t) (hx : ρ x = .lst true xs) (hy : Src σ (ρ y) ys cl) (hE : telem P T = some E) (hz : tsize P E = some z) (hb : tbytes P E = some by_) (hzv : tzero P E = some zv) (hzz : zv.cells.size = z)
    (hel : ∀ e ∈ xs ++ ys, e.cells.length = z) (hfit : (xs.length + ys.length) * by_ ≤ 140737488355328) (h63 : xs.length + ys.length ≤ 9223372036854775807) (hzs : xs ++ ys = zs) (hn : xs.length = n) :
    OpR P σ ρ dst (.call { callee := .builtin .append, args := #[x, y], argTypes := #[T, T] }) (.sl t) (.new t ⟨zs, n, true, z, cl⟩) := by
  subst hzs; subst hn; exact .appT x y T E xs ys cl z by_ t zv hd hx hy hE hz hb hzv hzz hel hfit h63
theorem o_appR {x y : Operand} {T E : TypeId} {t : Tmp} {s : Nat} {r : Row} {ys zs : List PV} {cl cl' : Bool} {z by_ n : Nat} {zv : Value} (hd : dst = some t) (hx : ρ x = .sl s) (hs : σ s = some r) (hy : Src σ (ρ y) ys cl) (hE : telem P T = some E) (hz : tsize P E = some z) (hb : tbytes P E = some by_) (hzv : tzero P E = some zv)
    (hzz : zv.cells.size = z) (hel : ∀ e ∈ r.els ++ ys, e.cells.length = z) (hrz : r.z = z) (hfit : (r.els.length + ys.length) * by_ ≤ 140737488355328) (h63 : r.els.length + ys.length ≤ 9223372036854775807) (hzs : r.els ++ ys = zs) (hn : r.els.length = n) (hcl : (r.cl && cl) = cl') :
    OpR P σ ρ dst (.call { callee := .builtin .append, args := #[x, y], argTypes := #[T, T] }) (.sl t) (.app s t ⟨zs, n, true, z, cl'⟩) := by
  subst hzs; subst hn; subst hcl; exact .appR x y T E s r ys cl z by_ t zv hd hx hs hy hE hz hb hzv hzz hel hrz hfit h63
theorem o_bslice {T E : TypeId} {parts : Array (Nat × Operand)} {len z : Nat} {t : Tmp} {zv : Value} {els : List PV} {ps : List (Nat × PV)} {cl : Bool} (hd : dst = some t) (hp : (parts.toList.map fun p => (p.1, ρ p.2)) = ps) (hE : telem P T = some E) (hz : tsize P E = some z) (hzv : tzero P E = some zv)
    (hlen : els.length = len) (hel : els.all (fun x => x.el && (x.cells.length == z)) = true) (hbig : len * z ≤ 2 ^ 24) (hf : fillP (fun i => some (i * z, z)) (List.replicate (len * z) .junk) ps = some (els.flatMap PV.cells))
    (hcl : cl = true → els.all (fun x => x.cells.all PV.clo1) = true) : OpR P σ ρ dst (.buildSlice T len parts) (.sl t) (.new t ⟨els, 0, true, z, cl⟩) := by
  subst hp
  refine .buildSlice T E parts len z t zv els cl hd hE hz hzv hlen (fun x hx => ?_) hbig hf hcl
  have := List.all_eq_true.1 hel x hx
  simp only [Bool.and_eq_true, beq_iff_eq] at this
  exact this
theorem o_nslice {T E : TypeId} {z : Nat} {t : Tmp} (hd : dst = some t) (hE : telem P T = some E) (hz : tsize P E = some z) : OpR P σ ρ dst (.buildSlice T 0 #[]) (.lst true []) .none := .nilSlice T E #[] t z hd hE hz rfl
theorem o_copy {x y : Operand} {T U E : TypeId} {l z : Nat} {r : Row} {ys : List PV} {n : Int} (hx : ρ x = .sl l) (hl : σ l = some r) (hcl : r.cl = true) (hy : Src σ (ρ y) ys true) (hE : telem P T = some E) (hz : tsize P E = some z) (hrz : r.z = z) (hel : ∀ e ∈ ys, e.cells.length = z) (hn : ys.length ≤ r.els.length)
    (hk : (ys.length : Int) = n) : OpR P σ ρ dst (.call { callee := .builtin .copy, args := #[x, y], argTypes := #[T, U] }) (.int .i64 n) (.cpy l ys) := by
  subst hk; exact .copy x y T U E l r ys z hx hl hcl hy hE hz hrz hel hn

theorem o_store {T : TypeId} {x y : Operand} {l i f n : Nat} {d : PV} {cs : List PV} (hx : ρ x = .ptr l i f) (hy : ρ y = d) (hc : d.cells = cs) (he : d.el = true) (hs : tsize P T = some n) (hp : 0 < n) (hn : cs.length = n) :
    OpR P σ ρ dst (.store T x y) (.tup []) (.sto l i f cs) := by subst hy; subst hc; subst hn; exact .store T x y l i f hx he hs hp
theorem o_fieldAddrP {T : TypeId} {x : Operand} {f l i q off k : Nat} {ft : TypeId} (hx : ρ x = .ptr l i q) (ho : foff P T f = some (off, ft)) (hk : q + off = k) : OpR P σ ρ dst (.fieldAddr T x f) (.ptr l i k) .none := by
  subst hk; exact .fieldAddrP T x f l i q off ft hx ho
theorem o_fieldAddrR {T : TypeId} {x : Operand} {f off : Nat} {ft : TypeId} {cs es : List PV} (hx : ρ x = .rptr es) (ho : foff P T f = some (off, ft)) (hk : es.drop off = cs) : OpR P σ ρ dst (.fieldAddr T x f) (.rptr cs) .none := by
  subst hk; exact .fieldAddrR T x f es off ft hx ho
theorem o_fieldA {T : TypeId} {x : Operand} {f off n : Nat} {ft : TypeId} {cs es : List PV} (hx : ρ x = .agg es) (ho : foff P T f = some (off, ft)) (ha : tagg P ft = some true) (hs : tsize P ft = some n) (hn : off + n ≤ es.length) (hk : (es.drop off).take n = cs) :
    OpR P σ ρ dst (.field T x f) (.agg cs) .none := by subst hk; exact .fieldA T x f es off ft n hx ho ha hs hn
theorem o_idxL {T E : TypeId} {x y : Operand} {t : Bool} {xs cs : List PV} {k : IntKind} {n : Int} {m z : Nat} {e : PV} (hx : ρ x = .lst t xs) (hy : ρ y = .int k n) (hn : n = (m : Int)) (he : xs[m]? = some e) (hE : telem P T = some E) (hz : tsize P E = some z) (hez : e.cells.length = z) (hc : e.cells = cs) :
    OpR P σ ρ dst (.indexAddr T x y) (.rptr cs) .none := by subst hn; subst hc; subst hez; exact .idxL T x y t xs k m e E hx hy (by omega) (by simpa using he) hE hz
theorem o_idxR {T E : TypeId} {x y : Operand} {l z : Nat} {r : Row} {k : IntKind} {n : Int} {m : Nat} (hx : ρ x = .sl l) (hl : σ l = some r) (hy : ρ y = .int k n) (hn : n = (m : Int)) (hm : m < r.els.length) (hE : telem P T = some E) (hz : tsize P E = some z) (hrz : r.z = z) :
    OpR P σ ρ dst (.indexAddr T x y) (.ptr l m 0) .none := by
  subst hn; subst hrz
  have := OpR.idxR (P := P) (dst := dst) T x y l r k m E hx hl hy (by omega) (by simpa using hm) hE hz
  simpa using this
theorem o_build {T : TypeId} {parts : Array (Nat × Operand)} {pl : Nat → Option (Nat × Nat)} {z : Value} {zs cs : List PV} {ps : List (Nat × PV)} (hp : (parts.toList.map fun p => (p.1, ρ p.2)) = ps) (hpl : bplaces P T = some pl) (hz : tzero P T = some z) (hzs : PV.ofV z = .agg zs)
    (hf : fillP pl zs ps = some cs) (hsc : cs.all PV.sc = true) : OpR P σ ρ dst (.build T parts) (.agg cs) .none := by subst hp; exact .build T parts pl z zs cs hpl hz hzs hsc hf
theorem o_mkFunc {fn : Fn} {cap : Array Operand} {cs : List PV} (h : cap.toList.map ρ = cs) : OpR P σ ρ dst (.makeFunc fn #[] cap) (.fn fn cs) .none := by subst h; exact .mkFunc fn cap

/-- A call, by the callee's word. -/
theorem o_call {f : FuncId} {args : Array Operand} {ts : Array TypeId} {x : Operand} {ds vs cap : List PV} {d : PV} {fn : Func} {c : Code} (hx : ρ x = .fn (.func f) cap) (hf : P.funcs[f]? = some fn) (hb : fn.body = some c) (hn : fn.name ≠ "runtime.NumGoroutine")
    (ha : args.toList.map ρ ++ cap = ds) (hok : ds.all (PV.vok σ) = true) (hv : ds.map (PV.view σ) = vs) (h : PCalls P f vs d) (hfl : d.flat = true) : OpR P σ ρ dst (.call { callee := .value x, args, argTypes := ts }) d .none := by
  subst ha; subst hv; exact .call f args ts cap d x hx ⟨fn, c, hf, hb, hn⟩ hok h hfl
theorem o_callF {f : FuncId} {args : Array Operand} {ts : Array TypeId} {x : Operand} {ds vs cap : List PV} {ls : List Nat} {d : PV} {fn : Func} {c : Code} (hx : ρ x = .fn (.func f) cap) (hf : P.funcs[f]? = some fn) (hb : fn.body = some c) (hn : fn.name ≠ "runtime.NumGoroutine")
    (ha : args.toList.map ρ ++ cap = ds) (hok : ds.all (PV.vok σ) = true) (hv : ds.map (PV.view σ) = vs) (h : PCalls P f vs d) (hl : ds.flatMap (PV.vrefs σ) = ls) : OpR P σ ρ dst (.call { callee := .value x, args, argTypes := ts }) d (.frz ls) := by
  subst ha; subst hv; subst hl; exact .callF f args ts cap d x hx ⟨fn, c, hf, hb, hn⟩ hok h
theorem o_callN {f : FuncId} {args : Array Operand} {ts : Array TypeId} {x : Operand} {ds vs cap : List PV} {ls : List Nat} {l : Tmp} {r : Row} {fn : Func} {c : Code} (hd : dst = some l) (hx : ρ x = .fn (.func f) cap) (hf : P.funcs[f]? = some fn) (hb : fn.body = some c) (hn : fn.name ≠ "runtime.NumGoroutine")
    (ha : args.toList.map ρ ++ cap = ds) (hok : ds.all (PV.vok σ) = true) (hv : ds.map (PV.view σ) = vs) (h : PCallsN P f vs r) (hcl : r.cl = true) (hl : ds.flatMap (PV.vrefs σ) = ls) :
    OpR P σ ρ dst (.call { callee := .value x, args, argTypes := ts }) (.sl l) (.frzN ls l r) := by
  subst ha; subst hv; subst hl; exact .callN f args ts cap l r x hd hx ⟨fn, c, hf, hb, hn⟩ hok h hcl

theorem wrap_in {n : Int} (h1 : -9223372036854775808 ≤ n) (h2 : n ≤ 9223372036854775807) : IntKind.i64.wrap n = n := by rw [IntKind.wrap_i64]; omega
theorem ari_add {a b r : Int} (h : a + b = r) (h1 : -9223372036854775808 ≤ r) (h2 : r ≤ 9223372036854775807) : ariI .i64 .add a b = some r := by simp only [ariI, h, wrap_in h1 h2]
theorem ari_sub {a b r : Int} (h : a - b = r) (h1 : -9223372036854775808 ≤ r) (h2 : r ≤ 9223372036854775807) : ariI .i64 .sub a b = some r := by simp only [ariI, h, wrap_in h1 h2]
theorem ari_mul {a b r : Int} (h : a * b = r) (h1 : -9223372036854775808 ≤ r) (h2 : r ≤ 9223372036854775807) : ariI .i64 .mul a b = some r := by simp only [ariI, h, wrap_in h1 h2]

theorem c_eqT {a b : Int} (h : a = b) : cmpI .eql a b = some true := by simp [cmpI, h]
theorem c_eqF {a b : Int} (h : a ≠ b) : cmpI .eql a b = some false := by simp [cmpI, h]
theorem c_neT {a b : Int} (h : a ≠ b) : cmpI .neq a b = some true := by simp [cmpI, h]
theorem c_neF {a b : Int} (h : a = b) : cmpI .neq a b = some false := by simp [cmpI, h]
theorem c_ltT {a b : Int} (h : a < b) : cmpI .lss a b = some true := by simp [cmpI, h]
theorem c_ltF {a b : Int} (h : b ≤ a) : cmpI .lss a b = some false := by simp [cmpI]; omega
theorem c_leT {a b : Int} (h : a ≤ b) : cmpI .leq a b = some true := by simp [cmpI, h]
theorem c_leF {a b : Int} (h : b < a) : cmpI .leq a b = some false := by simp [cmpI]; omega
theorem c_gtT {a b : Int} (h : b < a) : cmpI .gtr a b = some true := by simp [cmpI, h]
theorem c_gtF {a b : Int} (h : a ≤ b) : cmpI .gtr a b = some false := by simp [cmpI]; omega
theorem c_geT {a b : Int} (h : b ≤ a) : cmpI .geq a b = some true := by simp [cmpI, h]
theorem c_geF {a b : Int} (h : a < b) : cmpI .geq a b = some false := by simp [cmpI]; omega
end

end Go.Pw
