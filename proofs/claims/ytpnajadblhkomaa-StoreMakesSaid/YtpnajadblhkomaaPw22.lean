/-
  Steps along a region, in the order of the text; joins and loops.
-/
import Derived.Test.YtpnajadblhkomaaPw20
namespace Go.Pw
open Go.RowKit Go.Sh
set_option linter.unusedVariables false

section
variable {X : Ctx} {Q : PX → Ctx → St → Prop} {st : St} {ops : Array Oper} {i : Nat} {os : List Oper} {K : Ctx → St → Prop} {env : Nat → PV} {σ : Nat → Option Row} {ty : TypeId} {pos : String} {after : Array Edge} {gd : Option (Nat × Bool)} {op : Op} {t : Tmp} {d : PV}

/-- It looks. -/
theorem y0 (hw : wantP ops env ⟨some t, op, ty, pos, after, gd⟩ = some true) (h : OpR X.P σ (evP env) (some t) op d .none) (k : Sq X ops (i + 1) os K ⟨upd env t d, σ⟩) : Sq X ops i (⟨some t, op, ty, pos, after, gd⟩ :: os) K ⟨env, σ⟩ :=
  ystep (.run d .none hw h ⟨Same.refl _, NearT.refl _⟩ trivial (fun _ => rfl) (fun q => nomatch q)) k
/-- It makes a row. -/
theorem y1 {r : Row} (hw : wantP ops env ⟨some t, op, ty, pos, after, gd⟩ = some true) (h : OpR X.P σ (evP env) (some t) op d (.new t r)) (hf : σ t = none) (k : Sq X ops (i + 1) os K ⟨upd env t d, upd σ t (some r)⟩) : Sq X ops i (⟨some t, op, ty, pos, after, gd⟩ :: os) K ⟨env, σ⟩ :=
  ystep (.run d (.new t r) hw h ⟨Same.refl _, NearT.refl _⟩ hf (fun q => nomatch q) (fun q => nomatch q)) k
theorem y_skip (hw : wantP ops env ⟨some t, op, ty, pos, after, gd⟩ = some false) (k : Sq X ops (i + 1) os K ⟨upd env t (.tup []), σ⟩) : Sq X ops i (⟨some t, op, ty, pos, after, gd⟩ :: os) K ⟨env, σ⟩ := ystep (.skip hw) k
theorem y_skipN (hw : wantP ops env ⟨none, op, ty, pos, after, gd⟩ = some false) (k : Sq X ops (i + 1) os K ⟨env, σ⟩) : Sq X ops i (⟨none, op, ty, pos, after, gd⟩ :: os) K ⟨env, σ⟩ := ystep (.skip hw) k

theorem Stp.ex {P : Program} {bar : List Nat} {o : Oper} {s : St} {K : St → Prop} (h : Stp P ops true (kept bar) (cls bar i o.op) o st s) (k : Ex P ops bar true (i + 1) os s K) : Ex P ops bar true i (o :: os) st K := ⟨s, h, k⟩

/-- Under a guard. -/
theorem y_if {g : Bool} (hw : wantP ops env ⟨some t, op, ty, pos, after, gd⟩ = some g) (h : g = true → OpR X.P σ (evP env) (some t) op d .none) (k : Sq X ops (i + 1) os K ⟨upd env t (cond g d (.tup [])), σ⟩) : Sq X ops i (⟨some t, op, ty, pos, after, gd⟩ :: os) K ⟨env, σ⟩ := by
  cases g
  · exact y_skip hw k
  · exact y0 hw (h rfl) k
theorem y_ifc {g : Bool} (hw : wantP ops env ⟨some t, op, ty, pos, after, gd⟩ = some g) (h : g = true → OpR X.P σ (evP env) (some t) op d (.frz [])) (k : Sq X ops (i + 1) os K ⟨upd env t (cond g d (.tup [])), σ⟩) : Sq X ops i (⟨some t, op, ty, pos, after, gd⟩ :: os) K ⟨env, σ⟩ := by
  cases g
  · exact y_skip hw k
  · exact ystep (.run d (.frz []) hw (h rfl) ⟨Same.refl _, NearT.refl _⟩ trivial (fun q => nomatch q) (fun q => nomatch q)) k

/-- The guard itself stands under one. -/
theorem want2 {ops : Array Oper} {env : Nat → PV} {o : Oper} {j u : Nat} {want g b : Bool} (hg : o.guard = some (j, want)) (hd : (ops[j]?).bind (·.dst) = some u) (h : evP env (.tmp u) = cond g (.bool b) (.tup [])) : wantP ops env o = some (g && (b == want)) := by
  unfold wantP
  rw [hg]
  simp only [hd, h]
  cases g <;> rfl

/-- It stores into a variable. -/
theorem y_sto {x y : Operand} {T : TypeId} {l q n : Nat} {x0 x' d : PV} {cs : List PV} {opn : Bool} {z : Nat} {cl cl' : Bool} (hw : wantP ops env ⟨none, .store T x y, ty, pos, after, gd⟩ = some true) (hx : evP env x = .ptr l 0 q) (hy : evP env y = d ∨ (evP env y).w1 = d) (hs : tsize X.P T = some n) (k : Sq X ops (i + 1) os K ⟨env, upd σ l (some ⟨[x'], 0, opn, z, cl'⟩)⟩) (hl : σ l = some ⟨[x0], 0, opn, z, cl⟩ := by rfl)
    (hc : d.cells = cs := by rfl) (he : d.el = true := by rfl) (hp : 0 < n := by exact Nat.le_of_ble_eq_true rfl) (hn : cs.length = n := by rfl) (hf : q + n ≤ x0.cells.length := by exact Nat.le_of_ble_eq_true rfl) (hsc : cs.all PV.sc = true := by rfl) (hset : setC x0 q cs = x' := by rfl) (hcl : (cl && cs.all PV.clo1) = cl' := by rfl) :
    Sq X ops i (⟨none, .store T x y, ty, pos, after, gd⟩ :: os) K ⟨env, σ⟩ := by
  subst hset; subst hcl
  have h : OpR X.P σ (evP env) none (.store T x y) (.tup []) (.sto l 0 q cs) := o_store hx hy hc he hs hp hn
  have := ystep (X := X) (K := K) (os := os) (i := i) (ops := ops) (st := ⟨env, σ⟩) (.run (.tup []) (.sto l 0 q cs) hw h ⟨Same.refl _, NearT.refl _⟩ ⟨_, x0, hl, rfl, Nat.le_refl _, by rw [hn]; exact hf, hsc⟩ (fun q => nomatch q) (fun q => nomatch q))
  refine this ?_
  simp only [Eff.apply, hl]
  exact k

/-- It stores into an element. -/
theorem y_stE {α : Type} {f : α → PV} {xs : List α} {e v : α} {m : Int} {x y : Operand} {T : TypeId} {l q n : Nat} {d : PV} {cs : List PV} {opn : Bool} {z : Nat} (h : ix xs m = some e) (hw : wantP ops env ⟨none, .store T x y, ty, pos, after, gd⟩ = some true) (hx : evP env x = .ptr l m.toNat q) (hy : evP env y = d ∨ (evP env y).w1 = d) (hs : tsize X.P T = some n) (k : Sq X ops (i + 1) os K ⟨env, upd σ l (some ⟨(xs.set m.toNat v).map f, 0, opn, z, true⟩)⟩) (hl : σ l = some ⟨xs.map f, 0, opn, z, true⟩ := by rfl)
    (hc : d.cells = cs := by rfl) (he : d.el = true := by rfl) (hp : 0 < n := by exact Nat.le_of_ble_eq_true rfl) (hn : cs.length = n := by rfl) (hf : q + n ≤ (f e).cells.length := by exact Nat.le_of_ble_eq_true rfl) (hsc : cs.all PV.sc = true := by rfl) (hset : setC (f e) q cs = f v := by rfl) (hcl : cs.all PV.clo1 = true := by rfl) :
    Sq X ops i (⟨none, .store T x y, ty, pos, after, gd⟩ :: os) K ⟨env, σ⟩ := by
  have h0 : OpR X.P σ (evP env) none (.store T x y) (.tup []) (.sto l m.toNat q cs) := o_store hx hy hc he hs hp hn
  have hx0 := (ix_map f h).2
  have := ystep (X := X) (K := K) (os := os) (i := i) (ops := ops) (st := ⟨env, σ⟩) (.run (.tup []) (.sto l m.toNat q cs) hw h0 ⟨Same.refl _, NearT.refl _⟩ ⟨_, f e, hl, hx0, Nat.zero_le _, by rw [hn]; exact hf, hsc⟩ (fun q => nomatch q) (fun q => nomatch q))
  refine this ?_
  simp only [Eff.apply, hl, hx0, hset, hcl, Bool.true_and]
  rw [← List.map_set]
  exact k

/-- It appends to a row. -/
theorem y_app {s : Nat} {r q : Row} (hw : wantP ops env ⟨some t, op, ty, pos, after, gd⟩ = some true) (h : OpR X.P σ (evP env) (some t) op d (.app s t r)) (hf : σ t = none) (hq : σ s = some q) (ho : q.opn = true)
    (k : Sq X ops (i + 1) os K ⟨upd env t d, upd (upd σ s (some ⟨q.els, q.els.length, false, q.z, q.cl⟩)) t (some r)⟩) : Sq X ops i (⟨some t, op, ty, pos, after, gd⟩ :: os) K ⟨env, σ⟩ := by
  have := ystep (X := X) (K := K) (os := os) (i := i) (ops := ops) (st := ⟨env, σ⟩) (.run d (.app s t r) hw h ⟨Same.refl _, NearT.refl _⟩ ⟨hf, q, hq, ho⟩ (fun q => nomatch q) (fun q => nomatch q))
  refine this ?_
  simp only [Eff.apply, hq]
  exact k
/-- A call that is shown no row. -/
theorem yc (hw : wantP ops env ⟨some t, op, ty, pos, after, gd⟩ = some true) (h : OpR X.P σ (evP env) (some t) op d (.frz [])) (k : Sq X ops (i + 1) os K ⟨upd env t d, σ⟩) : Sq X ops i (⟨some t, op, ty, pos, after, gd⟩ :: os) K ⟨env, σ⟩ :=
  ystep (.run d (.frz []) hw h ⟨Same.refl _, NearT.refl _⟩ trivial (fun q => nomatch q) (fun q => nomatch q)) k
/-- .. some rows. -/
theorem ycL {ls : List Nat} {σ' : Nat → Option Row} (hw : wantP ops env ⟨some t, op, ty, pos, after, gd⟩ = some true) (h : OpR X.P σ (evP env) (some t) op d (.frz ls)) (hs : frzL σ ls = σ') (k : Sq X ops (i + 1) os K ⟨upd env t d, σ'⟩) : Sq X ops i (⟨some t, op, ty, pos, after, gd⟩ :: os) K ⟨env, σ⟩ := by
  subst hs
  exact ystep (.run d (.frz ls) hw h ⟨Same.refl _, NearT.refl _⟩ trivial (fun q => nomatch q) (fun q => nomatch q)) k
/-- A call that makes a row. -/
theorem ycN {ls : List Nat} {σ' : Nat → Option Row} {r : Row} (hw : wantP ops env ⟨some t, op, ty, pos, after, gd⟩ = some true) (h : OpR X.P σ (evP env) (some t) op d (.frzN ls t r)) (hf : σ t = none) (hs : frzL σ ls = σ') (k : Sq X ops (i + 1) os K ⟨upd env t d, upd σ' t (some r)⟩) : Sq X ops i (⟨some t, op, ty, pos, after, gd⟩ :: os) K ⟨env, σ⟩ := by
  subst hs
  exact ystep (.run d (.frzN ls t r) hw h ⟨Same.refl _, NearT.refl _⟩ hf (fun q => nomatch q) (fun q => nomatch q)) k
/-- It copies. -/
theorem y_cpy {l : Nat} {ys es : List PV} {q : Row} (hw : wantP ops env ⟨some t, op, ty, pos, after, gd⟩ = some true) (h : OpR X.P σ (evP env) (some t) op d (.cpy l ys)) (hl : σ l = some q) (hlo : q.lo = 0) (hn : ys.length ≤ q.els.length) (he : ys ++ q.els.drop ys.length = es)
    (k : Sq X ops (i + 1) os K ⟨upd env t d, upd σ l (some ⟨es, q.lo, q.opn, q.z, q.cl⟩)⟩) : Sq X ops i (⟨some t, op, ty, pos, after, gd⟩ :: os) K ⟨env, σ⟩ := by
  have := ystep (X := X) (K := K) (os := os) (i := i) (ops := ops) (st := ⟨env, σ⟩) (.run d (.cpy l ys) hw h ⟨Same.refl _, NearT.refl _⟩ ⟨q, hl, hlo, hn⟩ (fun q => nomatch q) (fun q => nomatch q))
  refine this ?_
  subst he
  simp only [Eff.apply, hl]
  exact k
end

/-! ### Drawn regions, step by step -/
section
variable {P : Program} {ops : Array Oper} {bar : List Nat} {i : Nat} {os : List Oper} {K : St → Prop} {env : Nat → PV} {σ : Nat → Option Row} {ty : TypeId} {pos : String} {after : Array Edge} {gd : Option (Nat × Bool)} {op : Op} {t : Tmp} {d : PV}

theorem d_nil (h : K ⟨env, σ⟩) : Ex P ops bar true i [] ⟨env, σ⟩ K := h
theorem d7 (hw : wantP ops env ⟨some t, op, ty, pos, after, gd⟩ = some true) (h : ∀ σ', NearT (kept bar) σ σ' → OpR P σ' (evP env) (some t) op d .none) (h7 : cls bar i op = 7) (k : Ex P ops bar true (i + 1) os ⟨upd env t d, σ⟩ K) :
    Ex P ops bar true i (⟨some t, op, ty, pos, after, gd⟩ :: os) ⟨env, σ⟩ K := x7 hw h h7 k
theorem d0 (hw : wantP ops env ⟨some t, op, ty, pos, after, gd⟩ = some true) (h : OpR P σ (evP env) (some t) op d .none) (hc : cls bar i op = 0) (k : Ex P ops bar true (i + 1) os ⟨upd env t d, σ⟩ K) :
    Ex P ops bar true i (⟨some t, op, ty, pos, after, gd⟩ :: os) ⟨env, σ⟩ K := x0 hw h (fun _ => by rw [hc]; rfl) k
/-- A call with nothing to be shown anew, or nothing at all. -/
theorem d2 (hw : wantP ops env ⟨some t, op, ty, pos, after, gd⟩ = some true) (h : OpR P σ (evP env) (some t) op d .none) (hc : cls bar i op = 2) (k : Ex P ops bar true (i + 1) os ⟨upd env t d, σ⟩ K) :
    Ex P ops bar true i (⟨some t, op, ty, pos, after, gd⟩ :: os) ⟨env, σ⟩ K := x0 hw h (fun _ => by rw [hc]; exact .inl rfl) k
theorem d5 (hw : wantP ops env ⟨some t, op, ty, pos, after, gd⟩ = some true) (h : OpR P σ (evP env) (some t) op d .none) (hc : cls bar i op = 5) (k : Ex P ops bar true (i + 1) os ⟨upd env t d, σ⟩ K) :
    Ex P ops bar true i (⟨some t, op, ty, pos, after, gd⟩ :: os) ⟨env, σ⟩ K := x0 hw h (fun _ => by rw [hc]; exact .inl rfl) k
theorem d2f (hw : wantP ops env ⟨some t, op, ty, pos, after, gd⟩ = some true) (h : OpR P σ (evP env) (some t) op d (.frz [])) (hc : cls bar i op = 2) (k : Ex P ops bar true (i + 1) os ⟨upd env t d, σ⟩ K) :
    Ex P ops bar true i (⟨some t, op, ty, pos, after, gd⟩ :: os) ⟨env, σ⟩ K := x_cal hw h (fun _ => by rw [hc]; exact .inr (.inl rfl)) k
theorem d5f {ls : List Nat} {σ' : Nat → Option Row} (hw : wantP ops env ⟨some t, op, ty, pos, after, gd⟩ = some true) (h : OpR P σ (evP env) (some t) op d (.frz ls)) (hs : frzL σ ls = σ') (hc : cls bar i op = 5) (k : Ex P ops bar true (i + 1) os ⟨upd env t d, σ'⟩ K) :
    Ex P ops bar true i (⟨some t, op, ty, pos, after, gd⟩ :: os) ⟨env, σ⟩ K := by
  subst hs
  exact ⟨_, .run d (.frz ls) hw h ⟨Same.refl _, NearT.refl _⟩ trivial (fun _ => rfl) (fun _ => by rw [hc]; exact .inr (.inl ⟨_, rfl⟩)), k⟩
theorem d2N {r : Row} (hw : wantP ops env ⟨some t, op, ty, pos, after, gd⟩ = some true) (h : OpR P σ (evP env) (some t) op d (.frzN [] t r)) (hf : σ t = none) (ht : (Eff.frzN [] t r).off (kept bar) = true) (hc : cls bar i op = 2) (k : Ex P ops bar true (i + 1) os ⟨upd env t d, upd σ t (some r)⟩ K) :
    Ex P ops bar true i (⟨some t, op, ty, pos, after, gd⟩ :: os) ⟨env, σ⟩ K := x_calN hw h hf (fun _ => ht) (fun _ => by rw [hc]; exact .inr (.inr ⟨_, _, rfl⟩)) k
theorem d5N {ls : List Nat} {σ' : Nat → Option Row} {r : Row} (hw : wantP ops env ⟨some t, op, ty, pos, after, gd⟩ = some true) (h : OpR P σ (evP env) (some t) op d (.frzN ls t r)) (hf : σ t = none) (hs : frzL σ ls = σ') (ht : (Eff.frzN ls t r).off (kept bar) = true) (hc : cls bar i op = 5) (k : Ex P ops bar true (i + 1) os ⟨upd env t d, upd σ' t (some r)⟩ K) :
    Ex P ops bar true i (⟨some t, op, ty, pos, after, gd⟩ :: os) ⟨env, σ⟩ K := by
  subst hs
  exact ⟨_, .run d (.frzN ls t r) hw h ⟨Same.refl _, NearT.refl _⟩ hf (fun _ => ht) (fun _ => by rw [hc]; exact .inr (.inr ⟨_, _, _, rfl⟩)), k⟩
theorem d1 {r : Row} (hw : wantP ops env ⟨some t, op, ty, pos, after, gd⟩ = some true) (h : OpR P σ (evP env) (some t) op d (.new t r)) (hf : σ t = none) (ht : (Eff.new t r).off (kept bar) = true) (hc : cls bar i op = 1) (k : Ex P ops bar true (i + 1) os ⟨upd env t d, upd σ t (some r)⟩ K) :
    Ex P ops bar true i (⟨some t, op, ty, pos, after, gd⟩ :: os) ⟨env, σ⟩ K := x1 hw h hf (fun _ => ht) (fun _ => by rw [hc]; exact .inr ⟨_, _, rfl⟩) k
/-- The slice that is nil. -/
theorem d1n (hw : wantP ops env ⟨some t, op, ty, pos, after, gd⟩ = some true) (h : OpR P σ (evP env) (some t) op d .none) (hc : cls bar i op = 1) (k : Ex P ops bar true (i + 1) os ⟨upd env t d, σ⟩ K) :
    Ex P ops bar true i (⟨some t, op, ty, pos, after, gd⟩ :: os) ⟨env, σ⟩ K := x0 hw h (fun _ => by rw [hc]; exact .inl rfl) k
theorem d3 {r : Row} (hw : wantP ops env ⟨some t, op, ty, pos, after, gd⟩ = some true) (h : OpR P σ (evP env) (some t) op d (.new t r)) (hf : σ t = none) (ht : (Eff.new t r).off (kept bar) = true) (hc : cls bar i op = 3) (k : Ex P ops bar true (i + 1) os ⟨upd env t d, upd σ t (some r)⟩ K) :
    Ex P ops bar true i (⟨some t, op, ty, pos, after, gd⟩ :: os) ⟨env, σ⟩ K := x1 hw h hf (fun _ => ht) (fun _ => by rw [hc]; exact .inl ⟨_, _, rfl⟩) k
theorem d3a {s : Nat} {r q : Row} (hw : wantP ops env ⟨some t, op, ty, pos, after, gd⟩ = some true) (h : OpR P σ (evP env) (some t) op d (.app s t r)) (hf : σ t = none) (hq : σ s = some q) (ho : q.opn = true) (ht : (Eff.app s t r).off (kept bar) = true) (hc : cls bar i op = 3)
    (k : Ex P ops bar true (i + 1) os ⟨upd env t d, upd (upd σ s (some ⟨q.els, q.els.length, false, q.z, q.cl⟩)) t (some r)⟩ K) :
    Ex P ops bar true i (⟨some t, op, ty, pos, after, gd⟩ :: os) ⟨env, σ⟩ K := x_app hw h hf hq ho (fun _ => ht) (fun _ => by rw [hc]; exact .inr ⟨_, _, _, rfl⟩) k
theorem d_skip (hw : wantP ops env ⟨some t, op, ty, pos, after, gd⟩ = some false) (k : Ex P ops bar true (i + 1) os ⟨upd env t (.tup []), σ⟩ K) : Ex P ops bar true i (⟨some t, op, ty, pos, after, gd⟩ :: os) ⟨env, σ⟩ K := x_skip hw k
theorem d_skipN (hw : wantP ops env ⟨none, op, ty, pos, after, gd⟩ = some false) (k : Ex P ops bar true (i + 1) os ⟨env, σ⟩ K) : Ex P ops bar true i (⟨none, op, ty, pos, after, gd⟩ :: os) ⟨env, σ⟩ K := x_skipN hw k

theorem d_if7 {g : Bool} (hw : wantP ops env ⟨some t, op, ty, pos, after, gd⟩ = some g) (h : g = true → ∀ σ', NearT (kept bar) σ σ' → OpR P σ' (evP env) (some t) op d .none) (hc : cls bar i op = 7) (k : Ex P ops bar true (i + 1) os ⟨upd env t (cond g d (.tup [])), σ⟩ K) :
    Ex P ops bar true i (⟨some t, op, ty, pos, after, gd⟩ :: os) ⟨env, σ⟩ K := by
  cases g
  · exact x_skip hw k
  · exact x7 hw (h rfl) hc k
theorem d_if0 {g : Bool} (hw : wantP ops env ⟨some t, op, ty, pos, after, gd⟩ = some g) (h : g = true → OpR P σ (evP env) (some t) op d .none) (hc : cls bar i op = 0) (k : Ex P ops bar true (i + 1) os ⟨upd env t (cond g d (.tup [])), σ⟩ K) :
    Ex P ops bar true i (⟨some t, op, ty, pos, after, gd⟩ :: os) ⟨env, σ⟩ K := by
  cases g
  · exact x_skip hw k
  · exact d0 hw (h rfl) hc k
theorem d_if2 {g : Bool} (hw : wantP ops env ⟨some t, op, ty, pos, after, gd⟩ = some g) (h : g = true → OpR P σ (evP env) (some t) op d .none) (hc : cls bar i op = 2) (k : Ex P ops bar true (i + 1) os ⟨upd env t (cond g d (.tup [])), σ⟩ K) :
    Ex P ops bar true i (⟨some t, op, ty, pos, after, gd⟩ :: os) ⟨env, σ⟩ K := by
  cases g
  · exact x_skip hw k
  · exact d2 hw (h rfl) hc k
theorem d_if5 {g : Bool} (hw : wantP ops env ⟨some t, op, ty, pos, after, gd⟩ = some g) (h : g = true → OpR P σ (evP env) (some t) op d .none) (hc : cls bar i op = 5) (k : Ex P ops bar true (i + 1) os ⟨upd env t (cond g d (.tup [])), σ⟩ K) :
    Ex P ops bar true i (⟨some t, op, ty, pos, after, gd⟩ :: os) ⟨env, σ⟩ K := by
  cases g
  · exact x_skip hw k
  · exact d5 hw (h rfl) hc k
theorem d_if2f {g : Bool} (hw : wantP ops env ⟨some t, op, ty, pos, after, gd⟩ = some g) (h : g = true → OpR P σ (evP env) (some t) op d (.frz [])) (hc : cls bar i op = 2) (k : Ex P ops bar true (i + 1) os ⟨upd env t (cond g d (.tup [])), σ⟩ K) :
    Ex P ops bar true i (⟨some t, op, ty, pos, after, gd⟩ :: os) ⟨env, σ⟩ K := by
  cases g
  · exact x_skip hw k
  · exact d2f hw (h rfl) hc k

/-- It stores into a variable. -/
theorem d_sto {x y : Operand} {T : TypeId} {l q n : Nat} {x0 x' d : PV} {cs : List PV} {opn : Bool} {z : Nat} {cl cl' : Bool} (hw : wantP ops env ⟨none, .store T x y, ty, pos, after, gd⟩ = some true) (hx : evP env x = .ptr l 0 q) (hy : evP env y = d ∨ (evP env y).w1 = d) (hs : tsize P T = some n) (k : Ex P ops bar true (i + 1) os ⟨env, upd σ l (some ⟨[x'], 0, opn, z, cl'⟩)⟩ K) (hl : σ l = some ⟨[x0], 0, opn, z, cl⟩ := by rfl)
    (hc : d.cells = cs := by rfl) (he : d.el = true := by rfl) (hp : 0 < n := by exact Nat.le_of_ble_eq_true rfl) (hn : cs.length = n := by rfl) (hf : q + n ≤ x0.cells.length := by exact Nat.le_of_ble_eq_true rfl) (hsc : cs.all PV.sc = true := by rfl) (hset : setC x0 q cs = x' := by rfl) (hcl : (cl && cs.all PV.clo1) = cl' := by rfl) (ht : (Eff.sto l 0 q cs).off (kept bar) = true := by rfl) (h4 : cls bar i (.store T x y) = 4 := by rfl) : Ex P ops bar true i (⟨none, .store T x y, ty, pos, after, gd⟩ :: os) ⟨env, σ⟩ K :=
  x_sto hw (o_store hx hy hc he hs hp hn) hl rfl (Nat.le_refl _) (by rw [hn]; exact hf) hsc hcl hset rfl (fun _ => ht) (fun _ => by rw [h4]; trivial) k
end

/-! ### Joins, loops -/

section
variable {X : Ctx} {Q : PX → Ctx → St → Prop} {st : St}

/-- Two ways come together. -/
theorem pw_jn {J : Type} {x y : Code} (I : J → Ctx → St → Prop) (hk : ∀ j X' s, I j X' s → X'.P = X.P ∧ X'.ρ = X.ρ → Pwp X' y Q s) (hx : Pwp X x (thenQ (fun X' s => ∃ j s', Wk s s' ∧ I j X' s' ∧ (X'.P = X.P ∧ X'.ρ = X.ρ)) Q) st) : Pwp X (.seq x y) Q st :=
  pw_seq (hx.mono fun e X' s q => by
    cases e <;> simp only [thenQ] at q ⊢ <;> first | exact q | (
      obtain ⟨j, s', h1, h2, h3⟩ := q
      exact pw_wk h1 (hk j X' s' h2 h3)))

theorem pw_jn0 {J R : Type} {x y : Code} {κ : J → Option R} {r : R} (F : J → St) (hk : ∀ j, κ j = some r → Pwp X y Q (F j)) (hx : Pwp X x (thenQ (fun X' s => X' = X ∧ ∃ j, κ j = some r ∧ Wk s (F j)) Q) st) : Pwp X (.seq x y) Q st :=
  pw_seq (hx.mono fun e X' s q => by
    cases e <;> simp only [thenQ] at q ⊢ <;> first | exact q | (
      obtain ⟨rfl, j, h1, h2⟩ := q
      exact pw_wk h2 (hk j h1)))

/-- A loop of so many rounds. -/
theorem pw_lp {S E : Type} {f : S → Option (S ⊕ E)} {s0 : S} {e : E} {c : Code} (I : S → Ctx → St → Prop) (h : lp f s0 = some e) (h0 : ∃ st1, Wk st st1 ∧ I s0 X st1) (hX : ∀ s X1 s1, I s X1 s1 → X1.P = X.P ∧ X1.ρ = X.ρ)
    (hr : ∀ s X1 s1, I s X1 s1 → ∀ x, f s = some x → (∀ e', x = .inr e' → e' = e) → Pwp X1 c (thenQ (fun X' s' => ∃ s2, x = .inl s2 ∧ ∃ s'', Wk s' s'' ∧ I s2 X' s'') Q) s1) : Pwp X (.loop c) Q st := by
  intro n g a w hs
  let J : Nat → Act → World → Prop := fun m a w => ∃ s X1 g1 s1, Sim X1 g1 s1 a w ∧ I s X1 s1 ∧ lpN f m s = some e
  have least : ∀ a w, ∃ k, (∃ m, J m a w) → J k a w ∧ ∀ m, J m a w → k ≤ m := by
    intro a w
    by_cases q : ∃ m, J m a w
    · obtain ⟨k, h1, h2⟩ := exists_least q
      exact ⟨k, fun _ => ⟨h1, h2⟩⟩
    · exact ⟨0, fun h => absurd h q⟩
  obtain ⟨st1, hw1, hi1⟩ := h0
  obtain ⟨g1, hs1⟩ := hw1 X g a w hs
  refine wpIn_loop (fun a w => ∃ m, J m a w) (fun a w => Classical.choose (least a w)) ⟨_, s0, X, g1, st1, hs1, hi1, by rw [← lp_eq]; exact h⟩ ?_
  rintro a w hI
  obtain ⟨⟨s, X1, g1, s1, k1, k2, k3⟩, _⟩ := Classical.choose_spec (least a w) hI
  generalize hm : Classical.choose (least a w) = m at k3 ⊢
  obtain ⟨hP, hρ⟩ := hX s X1 s1 k2
  cases m with
  | zero => rw [lpN_zero] at k3; cases k3
  | succ m =>
    rw [lpN_succ] at k3
    cases hf : f s with
    | none => rw [hf] at k3; cases k3
    | some x =>
      have hx : ∀ e', x = .inr e' → e' = e := fun e' q => by
        rw [hf, q] at k3
        exact Option.some.inj k3
      have := hr s X1 s1 k2 x hf hx n g1 a w k1
      rw [hP, hρ] at this
      refine wpIn_mono this fun ex a' w' q => ?_
      rw [lift_of ⟨hP, hρ⟩] at q
      cases ex <;> simp only [lift, thenQ, Exit.then] at q ⊢ <;> first | exact q | skip
      obtain ⟨X', g', st', h1, _, s2, hx2, s'', hw2, h2⟩ := q
      obtain ⟨g2, h1'⟩ := hw2 X' g' a' w' h1
      have hJ : J m a' w' := ⟨s2, X', g2, s'', h1', h2, by rw [hf, hx2] at k3; exact k3⟩
      have hI' : ∃ m, J m a' w' := ⟨m, hJ⟩
      exact ⟨hI', Nat.lt_succ_of_le ((Classical.choose_spec (least a' w') hI').2 m hJ)⟩

theorem pw_lp0 {S E : Type} {f : S → Option (S ⊕ E)} {s0 : S} {e : E} {c : Code} (F : S → St) (h : lp f s0 = some e) (h0 : Wk st (F s0))
    (hr : ∀ s x, f s = some x → (∀ e', x = .inr e' → e' = e) → Pwp X c (thenQ (fun X' s' => X' = X ∧ ∃ s2, x = .inl s2 ∧ Wk s' (F s2)) Q) (F s)) : Pwp X (.loop c) Q st :=
  pw_lp (fun s X1 s1 => X1 = X ∧ s1 = F s) h ⟨_, h0, rfl, rfl⟩ (fun s X1 s1 q => by rw [q.1]; exact ⟨rfl, rfl⟩) (by
    rintro s _ _ ⟨rfl, rfl⟩ x hf hx
    refine (hr s x hf hx).mono fun ex X' s' q => ?_
    cases ex <;> simp only [thenQ] at q ⊢ <;> first | exact q | (
      obtain ⟨h1, s2, h2, h3⟩ := q
      exact ⟨s2, h2, _, h3, h1, rfl⟩))
end
end Go.Pw
