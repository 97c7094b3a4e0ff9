/-
 Several texts of one kind, one behind the other.
-/
import Derived.Test.YtaodpepkobplkaaC17PwB
import Derived.Laws.StructEq
import Derived.RangeFuncIn
import Derived.RangeFuncRecord
import Derived.MapKept
import Derived.Carry
namespace Go.Pw
open Go.RowKit
set_option linter.unusedVariables false
def markObs (ds : List Deferred) : List (Nat × Obj) := ds.filterMap fun d => match d.target with
 | .collected r => some (r, .deferred (some []))
 | _ => none
def Ctx.over (X : Ctx) (a : Act) (N : Nat) (ρ : Option Nat) : Ctx := { X with N := N, ρ := ρ, ext := fun i => X.val a (i - 1000000), obs := markObs a.defers ++ X.obs, calm := true }
section
variable {X : Ctx} {g : Gh} {st : St} {a : Act} {w : World}
end
end Go.Pw
namespace Go.Pw
open Go.RowKit Go.Sh
set_option linter.unusedVariables false
section
variable {X : Ctx} {Q : PX → Ctx → St → Prop} {st : St} {ops : Array Oper} {i : Nat} {os : List Oper} {K : Ctx → St → Prop} {env : Nat → PV} {σ : Nat → Option Row} {ty : TypeId} {pos : String} {after : Array Edge} {gd : Option (Nat × Bool)} {op : Op} {t : Tmp} {d : PV}
theorem y0 (hw : wantP ops env ⟨some t, op, ty, pos, after, gd⟩ = some true) (h : OpR X.P σ (evP env) (some t) op d .none) (k : Sq X ops (i + 1) os K ⟨upd env t d, σ⟩) : Sq X ops i (⟨some t, op, ty, pos, after, gd⟩ :: os) K ⟨env, σ⟩ :=
 ystep (.run d .none hw h ⟨Same.refl _, NearT.refl _⟩ trivial (fun _ => rfl) (fun q => nomatch q)) k
theorem y1 {r : Row} (hw : wantP ops env ⟨some t, op, ty, pos, after, gd⟩ = some true) (h : OpR X.P σ (evP env) (some t) op d (.new t r)) (hf : σ t = none) (k : Sq X ops (i + 1) os K ⟨upd env t d, upd σ t (some r)⟩) : Sq X ops i (⟨some t, op, ty, pos, after, gd⟩ :: os) K ⟨env, σ⟩ :=
 ystep (.run d (.new t r) hw h ⟨Same.refl _, NearT.refl _⟩ hf (fun q => nomatch q) (fun q => nomatch q)) k
theorem y_skip (hw : wantP ops env ⟨some t, op, ty, pos, after, gd⟩ = some false) (k : Sq X ops (i + 1) os K ⟨upd env t (.tup []), σ⟩) : Sq X ops i (⟨some t, op, ty, pos, after, gd⟩ :: os) K ⟨env, σ⟩ := ystep (.skip hw) k
theorem Stp.ex {P : Program} {bar : List Nat} {o : Oper} {s : St} {K : St → Prop} (h : Stp P ops true (kept bar) (cls bar i o.op) o st s) (k : Ex P ops bar true (i + 1) os s K) : Ex P ops bar true i (o :: os) st K := ⟨s, h, k⟩
theorem y_if {g : Bool} (hw : wantP ops env ⟨some t, op, ty, pos, after, gd⟩ = some g) (h : g = true → OpR X.P σ (evP env) (some t) op d .none) (k : Sq X ops (i + 1) os K ⟨upd env t (cond g d (.tup [])), σ⟩) : Sq X ops i (⟨some t, op, ty, pos, after, gd⟩ :: os) K ⟨env, σ⟩ := by
 cases g
 ·exact y_skip hw k
 ·exact y0 hw (h rfl) k
theorem y_ifc {g : Bool} (hw : wantP ops env ⟨some t, op, ty, pos, after, gd⟩ = some g) (h : g = true → OpR X.P σ (evP env) (some t) op d (.frz [])) (k : Sq X ops (i + 1) os K ⟨upd env t (cond g d (.tup [])), σ⟩) : Sq X ops i (⟨some t, op, ty, pos, after, gd⟩ :: os) K ⟨env, σ⟩ := by
 cases g
 ·exact y_skip hw k
 ·exact ystep (.run d (.frz []) hw (h rfl) ⟨Same.refl _, NearT.refl _⟩ trivial (fun q => nomatch q) (fun q => nomatch q)) k
theorem want2 {ops : Array Oper} {env : Nat → PV} {o : Oper} {j u : Nat} {want g b : Bool} (hg : o.guard = some (j, want)) (hd : (ops[j]?).bind (·.dst) = some u) (h : evP env (.tmp u) = cond g (.bool b) (.tup [])) : wantP ops env o = some (g && (b == want)) := by
 unfold wantP
 rw [hg]
 simp only [hd, h]
 cases g <;> rfl
theorem y_app {s : Nat} {r q : Row} (hw : wantP ops env ⟨some t, op, ty, pos, after, gd⟩ = some true) (h : OpR X.P σ (evP env) (some t) op d (.app s t r)) (hf : σ t = none) (hq : σ s = some q) (ho : q.opn = true)
  (k : Sq X ops (i + 1) os K ⟨upd env t d, upd (upd σ s (some ⟨q.els, q.els.length, false, q.z, q.cl⟩)) t (some r)⟩) : Sq X ops i (⟨some t, op, ty, pos, after, gd⟩ :: os) K ⟨env, σ⟩ := by
 have := ystep (X := X) (K := K) (os := os) (i := i) (ops := ops) (st := ⟨env, σ⟩) (.run d (.app s t r) hw h ⟨Same.refl _, NearT.refl _⟩ ⟨hf, q, hq, ho⟩ (fun q => nomatch q) (fun q => nomatch q))
 refine this ?_
 simp only [Eff.apply, hq]
 exact k
theorem yc (hw : wantP ops env ⟨some t, op, ty, pos, after, gd⟩ = some true) (h : OpR X.P σ (evP env) (some t) op d (.frz [])) (k : Sq X ops (i + 1) os K ⟨upd env t d, σ⟩) : Sq X ops i (⟨some t, op, ty, pos, after, gd⟩ :: os) K ⟨env, σ⟩ :=
 ystep (.run d (.frz []) hw h ⟨Same.refl _, NearT.refl _⟩ trivial (fun q => nomatch q) (fun q => nomatch q)) k
end
section
variable {P : Program} {ops : Array Oper} {bar : List Nat} {i : Nat} {os : List Oper} {K : St → Prop} {env : Nat → PV} {σ : Nat → Option Row} {ty : TypeId} {pos : String} {after : Array Edge} {gd : Option (Nat × Bool)} {op : Op} {t : Tmp} {d : PV}
theorem d_nil (h : K ⟨env, σ⟩) : Ex P ops bar true i [] ⟨env, σ⟩ K := h
theorem d7 (hw : wantP ops env ⟨some t, op, ty, pos, after, gd⟩ = some true) (h : ∀ σ', NearT (kept bar) σ σ' → OpR P σ' (evP env) (some t) op d .none) (h7 : cls bar i op = 7) (k : Ex P ops bar true (i + 1) os ⟨upd env t d, σ⟩ K) :
  Ex P ops bar true i (⟨some t, op, ty, pos, after, gd⟩ :: os) ⟨env, σ⟩ K := x7 hw h h7 k
theorem d0 (hw : wantP ops env ⟨some t, op, ty, pos, after, gd⟩ = some true) (h : OpR P σ (evP env) (some t) op d .none) (hc : cls bar i op = 0) (k : Ex P ops bar true (i + 1) os ⟨upd env t d, σ⟩ K) :
  Ex P ops bar true i (⟨some t, op, ty, pos, after, gd⟩ :: os) ⟨env, σ⟩ K := x0 hw h (fun _ => by rw [hc]; rfl) k
theorem d2 (hw : wantP ops env ⟨some t, op, ty, pos, after, gd⟩ = some true) (h : OpR P σ (evP env) (some t) op d .none) (hc : cls bar i op = 2) (k : Ex P ops bar true (i + 1) os ⟨upd env t d, σ⟩ K) :
  Ex P ops bar true i (⟨some t, op, ty, pos, after, gd⟩ :: os) ⟨env, σ⟩ K := x0 hw h (fun _ => by rw [hc]; exact .inl rfl) k
theorem d2f (hw : wantP ops env ⟨some t, op, ty, pos, after, gd⟩ = some true) (h : OpR P σ (evP env) (some t) op d (.frz [])) (hc : cls bar i op = 2) (k : Ex P ops bar true (i + 1) os ⟨upd env t d, σ⟩ K) :
  Ex P ops bar true i (⟨some t, op, ty, pos, after, gd⟩ :: os) ⟨env, σ⟩ K := x_cal hw h (fun _ => by rw [hc]; exact .inr (.inl rfl)) k
theorem d1 {r : Row} (hw : wantP ops env ⟨some t, op, ty, pos, after, gd⟩ = some true) (h : OpR P σ (evP env) (some t) op d (.new t r)) (hf : σ t = none) (ht : (Eff.new t r).off (kept bar) = true) (hc : cls bar i op = 1) (k : Ex P ops bar true (i + 1) os ⟨upd env t d, upd σ t (some r)⟩ K) :
  Ex P ops bar true i (⟨some t, op, ty, pos, after, gd⟩ :: os) ⟨env, σ⟩ K := x1 hw h hf (fun _ => ht) (fun _ => by rw [hc]; exact .inr ⟨_, _, rfl⟩) k
theorem d3 {r : Row} (hw : wantP ops env ⟨some t, op, ty, pos, after, gd⟩ = some true) (h : OpR P σ (evP env) (some t) op d (.new t r)) (hf : σ t = none) (ht : (Eff.new t r).off (kept bar) = true) (hc : cls bar i op = 3) (k : Ex P ops bar true (i + 1) os ⟨upd env t d, upd σ t (some r)⟩ K) :
  Ex P ops bar true i (⟨some t, op, ty, pos, after, gd⟩ :: os) ⟨env, σ⟩ K := x1 hw h hf (fun _ => ht) (fun _ => by rw [hc]; exact .inl ⟨_, _, rfl⟩) k
theorem d_if7 {g : Bool} (hw : wantP ops env ⟨some t, op, ty, pos, after, gd⟩ = some g) (h : g = true → ∀ σ', NearT (kept bar) σ σ' → OpR P σ' (evP env) (some t) op d .none) (hc : cls bar i op = 7) (k : Ex P ops bar true (i + 1) os ⟨upd env t (cond g d (.tup [])), σ⟩ K) :
  Ex P ops bar true i (⟨some t, op, ty, pos, after, gd⟩ :: os) ⟨env, σ⟩ K := by
 cases g
 ·exact x_skip hw k
 ·exact x7 hw (h rfl) hc k
theorem d_if0 {g : Bool} (hw : wantP ops env ⟨some t, op, ty, pos, after, gd⟩ = some g) (h : g = true → OpR P σ (evP env) (some t) op d .none) (hc : cls bar i op = 0) (k : Ex P ops bar true (i + 1) os ⟨upd env t (cond g d (.tup [])), σ⟩ K) :
  Ex P ops bar true i (⟨some t, op, ty, pos, after, gd⟩ :: os) ⟨env, σ⟩ K := by
 cases g
 ·exact x_skip hw k
 ·exact d0 hw (h rfl) hc k
theorem d_if2 {g : Bool} (hw : wantP ops env ⟨some t, op, ty, pos, after, gd⟩ = some g) (h : g = true → OpR P σ (evP env) (some t) op d .none) (hc : cls bar i op = 2) (k : Ex P ops bar true (i + 1) os ⟨upd env t (cond g d (.tup [])), σ⟩ K) :
  Ex P ops bar true i (⟨some t, op, ty, pos, after, gd⟩ :: os) ⟨env, σ⟩ K := by
 cases g
 ·exact x_skip hw k
 ·exact d2 hw (h rfl) hc k
theorem d_if2f {g : Bool} (hw : wantP ops env ⟨some t, op, ty, pos, after, gd⟩ = some g) (h : g = true → OpR P σ (evP env) (some t) op d (.frz [])) (hc : cls bar i op = 2) (k : Ex P ops bar true (i + 1) os ⟨upd env t (cond g d (.tup [])), σ⟩ K) :
  Ex P ops bar true i (⟨some t, op, ty, pos, after, gd⟩ :: os) ⟨env, σ⟩ K := by
 cases g
 ·exact x_skip hw k
 ·exact d2f hw (h rfl) hc k
theorem d_sto {x y : Operand} {T : TypeId} {l q n : Nat} {x0 x' d : PV} {cs : List PV} {opn : Bool} {z : Nat} {cl cl' : Bool} (hw : wantP ops env ⟨none, .store T x y, ty, pos, after, gd⟩ = some true) (hx : evP env x = .ptr l 0 q) (hy : evP env y = d ∨ (evP env y).w1 = d) (hs : tsize P T = some n) (k : Ex P ops bar true (i + 1) os ⟨env, upd σ l (some ⟨[x'], 0, opn, z, cl'⟩)⟩ K) (hl : σ l = some ⟨[x0], 0, opn, z, cl⟩ := by rfl)
  (hc : d.cells = cs := by rfl) (he : d.el = true := by rfl) (hp : 0 < n := by exact Nat.le_of_ble_eq_true rfl) (hn : cs.length = n := by rfl) (hf : q + n ≤ x0.cells.length := by exact Nat.le_of_ble_eq_true rfl) (hsc : cs.all PV.sc = true := by rfl) (hset : setC x0 q cs = x' := by rfl) (hcl : (cl && cs.all PV.clo1) = cl' := by rfl) (ht : (Eff.sto l 0 q cs).off (kept bar) = true := by rfl) (h4 : cls bar i (.store T x y) = 4 := by rfl) : Ex P ops bar true i (⟨none, .store T x y, ty, pos, after, gd⟩ :: os) ⟨env, σ⟩ K :=
 x_sto hw (o_store hx hy hc he hs hp hn) hl rfl (Nat.le_refl _) (by rw [hn]; exact hf) hsc hcl hset rfl (fun _ => ht) (fun _ => by rw [h4]; trivial) k
end
section
variable {X : Ctx} {Q : PX → Ctx → St → Prop} {st : St}
theorem pw_jn0 {J R : Type} {x y : Code} {κ : J → Option R} {r : R} (F : J → St) (hk : ∀ j, κ j = some r → Pwp X y Q (F j)) (hx : Pwp X x (thenQ (fun X' s => X' = X ∧ ∃ j, κ j = some r ∧ Wk s (F j)) Q) st) : Pwp X (.seq x y) Q st :=
 pw_seq (hx.mono fun e X' s q => by
  cases e <;> simp only [thenQ] at q ⊢ <;> first | exact q | (
   obtain ⟨rfl, j, h1, h2⟩ := q
   exact pw_wk h2 (hk j h1)))
theorem pw_lp {S E : Type} {f : S → Option (S ⊕ E)} {s0 : S} {e : E} {c : Code} (I : S → Ctx → St → Prop) (h : lp f s0 = some e) (h0 : ∃ st1, Wk st st1 ∧ I s0 X st1) (hX : ∀ s X1 s1, I s X1 s1 → X1.P = X.P ∧ X1.ρ = X.ρ)
  (hr : ∀ s X1 s1, I s X1 s1 → ∀ x, f s = some x → (∀ e', x = .inr e' → e' = e) → Pwp X1 c (thenQ (fun X' s' => ∃ s2, x = .inl s2 ∧ ∃ s'', Wk s' s'' ∧ I s2 X' s'') Q) s1) : Pwp X (.loop c) Q st := by
 intro n g a w hs
 let J : Nat → Act → World → Prop := fun m a w => ∃ s X1 g1 s1, Sim X1 g1 s1 a w ∧ I s X1 s1 ∧ lpN f m s = some e
 have least : ∀ a w, ∃ k, (∃ m, J m a w) → J k a w ∧ ∀ m, J m a w → k ≤ m := by
  intro a w
  by_cases q : ∃ m, J m a w
  ·obtain ⟨k, h1, h2⟩ := exists_least q
   exact ⟨k, fun _ => ⟨h1, h2⟩⟩
  ·exact ⟨0, fun h => absurd h q⟩
 obtain ⟨st1, hw1, hi1⟩ := h0
 obtain ⟨g1, hs1⟩ := hw1 X g a w hs
 refine wpIn_loop (fun a w => ∃ m, J m a w) (fun a w => Classical.choose (least a w)) ⟨_, s0, X, g1, st1, hs1, hi1, by rw [← lp_eq]; exact h⟩ ?_
 rintro a w hI
 obtain ⟨⟨s, X1, g1, s1, k1, k2, k3⟩, _⟩ := Classical.choose_spec (least a w) hI
 generalize hm : Classical.choose (least a w) = m at k3 ⊢
 obtain ⟨hP, hρ⟩ := hX s X1 s1 k2
 cases m with
 | zero => rw [lpN_zero] at k3; cases k3
 | succ m =>
  rw [lpN_succ] at k3
  cases hf : f s with
  | none => rw [hf] at k3; cases k3
  | some x =>
   have hx : ∀ e', x = .inr e' → e' = e := fun e' q => by
    rw [hf, q] at k3
    exact Option.some.inj k3
   have := hr s X1 s1 k2 x hf hx n g1 a w k1
   rw [hP, hρ] at this
   refine wpIn_mono this fun ex a' w' q => ?_
   rw [lift_of ⟨hP, hρ⟩] at q
   cases ex <;> simp only [lift, thenQ, Exit.then] at q ⊢ <;> first | exact q | skip
   obtain ⟨X', g', st', h1, _, s2, hx2, s'', hw2, h2⟩ := q
   obtain ⟨g2, h1'⟩ := hw2 X' g' a' w' h1
   have hJ : J m a' w' := ⟨s2, X', g2, s'', h1', h2, by rw [hf, hx2] at k3; exact k3⟩
   have hI' : ∃ m, J m a' w' := ⟨m, hJ⟩
   exact ⟨hI', Nat.lt_succ_of_le ((Classical.choose_spec (least a' w') hI').2 m hJ)⟩
theorem pw_lp0 {S E : Type} {f : S → Option (S ⊕ E)} {s0 : S} {e : E} {c : Code} (F : S → St) (h : lp f s0 = some e) (h0 : Wk st (F s0))
  (hr : ∀ s x, f s = some x → (∀ e', x = .inr e' → e' = e) → Pwp X c (thenQ (fun X' s' => X' = X ∧ ∃ s2, x = .inl s2 ∧ Wk s' (F s2)) Q) (F s)) : Pwp X (.loop c) Q st :=
 pw_lp (fun s X1 s1 => X1 = X ∧ s1 = F s) h ⟨_, h0, rfl, rfl⟩ (fun s X1 s1 q => by rw [q.1]; exact ⟨rfl, rfl⟩) (by
  rintro s _ _ ⟨rfl, rfl⟩ x hf hx
  refine (hr s x hf hx).mono fun ex X' s' q => ?_
  cases ex <;> simp only [thenQ] at q ⊢ <;> first | exact q | (
   obtain ⟨h1, s2, h2, h3⟩ := q
   exact ⟨s2, h2, _, h3, h1, rfl⟩))
end
end Go.Pw
namespace Go.Pw
open Go.RowKit Go.Sh
set_option linter.unusedVariables false
set_option linter.unusedSimpArgs false
abbrev Ls {α : Type} (f : α → PV) (l : List α) : PV := .lst false (l.map f)
abbrev _root_.Go.Sh.A4.Pc (x : A4) : List PV := [.int .i64 x.a, .int .i64 x.b, .int .i64 x.c, .int .i64 x.d]
abbrev _root_.Go.Sh.A4.Pv (x : A4) : PV := .agg x.Pc
section
variable {P : Program} {σ : Nat → Option Row} {ρ : Operand → PV} {dst : Option Tmp}
def fkind (P : Program) (t : TypeId) : Option Nat := match P.underlying t with
 | some .bool => some 0
 | some (.int _) => some 1
 | some .string => some 2
 | _ => none
def fkindF (P : Program) : Nat → List Field → Option (List Nat)
 | _, [] => some []
 | i, f :: fs => if f.name ≠ "_" ∧ f.offset = i ∧ tagg P f.type = some false then match fkind P f.type, fkindF P (i + 1) fs with
  | some k, some ks => some (k :: ks)
  | _, _ => none
  else none
def fkinds (P : Program) (t : TypeId) : Option (List Nat) :=
 if P.eqGuardType P.depth t = true then none else match P.underlying t with
  | some (.struct fs) => if P.stoodInHeld t = true then none else fkindF P 0 fs.toList
  | some (.array n e) => if n = 4 ∧ tagg P e = some false ∧ tsize P e = some 1 then (fkind P e).map fun k => [k, k, k, k] else none
  | _ => none
def eqC : Nat → PV → PV → Option Bool
 | 0, .bool a, .bool b => some (a == b)
 | 1, .int k a, .int k' b => if k = k' then some (a == b) else none
 | 2, .str a, .str b => some (a.toList == b.toList)
 | _, _, _ => none
def eqCs : List Nat → List PV → List PV → Option Bool
 | [], [], [] => some true
 | k :: ks, x :: xs, y :: ys => match eqC k x y, eqCs ks xs ys with
  | some a, some b => some (a && b)
  | _, _ => none
 | _, _, _ => none
section
variable {w : World} {imm : Nat → Nat → Prop} {μ : Nat → RLoc} {pres : Nat → Prop}
theorem run_eqC {t : TypeId} {d k : Nat} {v u : Value} {x y : PV} {r : Bool} (ht : fkind P t = some k) (hv : Rd w imm μ pres v x) (hu : Rd w imm μ pres u y) (h : eqC k x y = some r) : (Op.equalIn (d + 1) t v u).run P w = .ok r w := by
 unfold fkind at ht
 unfold eqC at h
 split at h
 ·cases h
  rw [hv.bool_inv, hu.bool_inv]
  refine run_equalIn_bool' w d t _ _ ?_
  split at ht <;> first | assumption | (cases ht; done)
 ·split at h
  ·rename_i q
   cases h
   subst q
   rw [hv.int_inv, hu.int_inv]
   split at ht <;> first | (exact run_equalIn_int w d t _ _ _ _ (by assumption)) | (cases ht; done)
  ·cases h
 ·cases h
  rw [hv.str_inv, hu.str_inv]
  refine run_equalIn_string w d t _ _ ?_
  split at ht <;> first | assumption | (cases ht; done)
 ·cases h
theorem run_eqFields {d : Nat} {vs us : Array Value} : ∀ (fs : List Field) (i : Nat) (ks : List Nat) (xs ys : List PV) (r : Bool), fkindF P i fs = some ks → eqCs ks xs ys = some r →
  (∀ (j : Nat) x, xs[j]? = some x → ∃ v, vs[i + j]? = some v ∧ Rd w imm μ pres v x) → (∀ (j : Nat) y, ys[j]? = some y → ∃ v, us[i + j]? = some v ∧ Rd w imm μ pres v y) →
  (Op.eqFields (d + 1) vs us fs).run P w = .ok r w
 | [], i, ks, xs, ys, r, hk, h, hx, hy => by
  cases hk
  cases xs <;> cases ys <;> simp only [eqCs] at h <;> first | (cases h; done) | skip
  cases h
  rfl
 | f :: fs, i, ks, xs, ys, r, hk, h, hx, hy => by
  simp only [fkindF] at hk
  split at hk
  rotate_left
  ·cases hk
  rename_i q
  obtain ⟨q1, q2, q3⟩ := q
  cases h1 : fkind P f.type with
  | none => rw [h1] at hk; cases hk
  | some k =>
   cases h2 : fkindF P (i + 1) fs with
   | none => rw [h1, h2] at hk; cases hk
   | some ks' =>
    rw [h1, h2] at hk
    cases hk
    cases xs <;> cases ys <;> simp only [eqCs] at h <;> first | (cases h; done) | skip
    rename_i x xs y ys
    cases ha : eqC k x y with
    | none => rw [ha] at h; cases h
    | some a =>
     cases hb : eqCs ks' xs ys with
     | none => rw [ha, hb] at h; cases h
     | some b =>
      rw [ha, hb] at h
      cases h
      obtain ⟨v, hv1, hv2⟩ := hx 0 x rfl
      obtain ⟨u, hu1, hu2⟩ := hy 0 y rfl
      rw [Nat.add_zero, ← q2] at hv1 hu1
      have hr := run_eqC (d := d) h1 hv2 hu2 ha
      have ih := run_eqFields (d := d) fs (i + 1) ks' xs ys b h2 hb (fun j x' q => by have := hx (j + 1) x' (by simpa using q); rwa [show i + (j + 1) = i + 1 + j by omega] at this)
       (fun j x' q => by have := hy (j + 1) x' (by simpa using q); rwa [show i + (j + 1) = i + 1 + j by omega] at this)
      simp only [Op.eqFields, if_pos q1, Sem.run_bind, run_part1 q3 hv1, run_part1 q3 hu1, Result.andThen_ok, hr]
      cases a
      ·rfl
      ·simp only [Bool.not_true, Bool.false_eq_true, if_false, Bool.true_and]
       exact ih
end
theorem eqCs_len : ∀ (ks : List Nat) (xs ys : List PV) (r : Bool), eqCs ks xs ys = some r → xs.length = ks.length ∧ ys.length = ks.length
 | [], [], [], _, _ => ⟨rfl, rfl⟩
 | k :: ks, x :: xs, y :: ys, r, h => by
  simp only [eqCs] at h
  split at h
  ·rename_i a b q1 q2
   have := eqCs_len ks xs ys b q2
   simp [this.1, this.2]
  ·cases h
 | [], _ :: _, _, _, h => by cases h
 | [], [], _ :: _, _, h => by cases h
 | _ :: _, [], _, _, h => by cases h
 | _ :: _, _ :: _, [], _, h => by cases h
theorem four {α : Type} {xs : List α} (h : xs.length = 4) : ∃ a b c d, xs = [a, b, c, d] := by
 rcases xs with _ | ⟨a, _ | ⟨b, _ | ⟨c, _ | ⟨d, _ | ⟨e, l⟩⟩⟩⟩⟩ <;> simp at h
 exact ⟨a, b, c, d, rfl⟩
theorem cells_at {w : World} {imm : Nat → Nat → Prop} {μ : Nat → RLoc} {pres : Nat → Prop} {vs : Array Value} {xs : List PV} (hn : vs.size = xs.length) (h : ∀ (i : Nat) v c, vs[i]? = some v → xs[i]? = some c → Rd w imm μ pres v c) :
  ∀ (j : Nat) x, xs[j]? = some x → ∃ v, vs[j]? = some v ∧ Rd w imm μ pres v x := fun j x hx => by
 have hlt : j < vs.size := by rw [hn]; exact lt_of_get hx
 exact ⟨_, Array.getElem?_eq_getElem hlt, h j _ x (Array.getElem?_eq_getElem hlt) hx⟩
theorem run_eqAgg {w : World} {imm : Nat → Nat → Prop} {μ : Nat → RLoc} {pres : Nat → Prop} {t : TypeId} {ks : List Nat} {v u : Value} {xs ys : List PV} {r : Bool} {d : Nat} (ht : fkinds P t = some ks) (h : eqCs ks xs ys = some r) (hv : Rd w imm μ pres v (.agg xs)) (hu : Rd w imm μ pres u (.agg ys)) :
  ∃ vs us, v = .agg vs ∧ u = .agg us ∧ (Op.equalIn (d + 2) t (.agg vs) (.agg us)).run P w = .ok r w := by
 obtain ⟨vs, rfl, hn, hc⟩ := hv.agg_inv
 obtain ⟨us, rfl, hn', hc'⟩ := hu.agg_inv
 have hx := cells_at hn hc
 have hy := cells_at hn' hc'
 refine ⟨vs, us, rfl, rfl, ?_⟩
 unfold fkinds at ht
 split at ht
 ·cases ht
 split at ht
 ·rename_i fs hfs
  split at ht
  ·cases ht
  rename_i hst
  have hfo : P.fieldsOf t = fs := by unfold Program.fieldsOf; rw [hfs]
  rw [run_equalIn_struct w (d + 1) t vs us (by rw [hfo]; exact hfs) (by simpa using hst), hfo]
  exact run_eqFields fs.toList 0 ks xs ys r ht h (fun j x q => by rw [Nat.zero_add]; exact hx j x q) (fun j x q => by rw [Nat.zero_add]; exact hy j x q)
 ·rename_i n e hfs
  split at ht
  rotate_left
  ·cases ht
  rename_i q
  obtain ⟨rfl, q2, q3⟩ := q
  cases hk : fkind P e with
  | none => rw [hk] at ht; cases ht
  | some k =>
   rw [hk] at ht
   simp only [Option.map_some, Option.some.injEq] at ht
   subst ht
   obtain ⟨l1, l2⟩ := eqCs_len _ _ _ _ h
   obtain ⟨x0, x1, x2, x3, rfl⟩ := four l1
   obtain ⟨y0, y1, y2, y3, rfl⟩ := four l2
   ·simp only [eqCs] at h
    cases e0 : eqC k x0 y0 with
    | none => rw [e0] at h; cases h
    | some b0 =>
    cases e1 : eqC k x1 y1 with
    | none => rw [e0, e1] at h; cases h
    | some b1 =>
    cases e2 : eqC k x2 y2 with
    | none => rw [e0, e1, e2] at h; cases h
    | some b2 =>
    cases e3 : eqC k x3 y3 with
    | none => rw [e0, e1, e2, e3] at h; cases h
    | some b3 =>
    rw [e0, e1, e2, e3] at h
    cases h
    obtain ⟨v0, hv0, rv0⟩ := hx 0 x0 rfl
    obtain ⟨v1, hv1, rv1⟩ := hx 1 x1 rfl
    obtain ⟨v2, hv2, rv2⟩ := hx 2 x2 rfl
    obtain ⟨v3, hv3, rv3⟩ := hx 3 x3 rfl
    obtain ⟨u0, hu0, ru0⟩ := hy 0 y0 rfl
    obtain ⟨u1, hu1, ru1⟩ := hy 1 y1 rfl
    obtain ⟨u2, hu2, ru2⟩ := hy 2 y2 rfl
    obtain ⟨u3, hu3, ru3⟩ := hy 3 y3 rfl
    have r0 := run_eqC (d := d) hk rv0 ru0 e0
    have r1 := run_eqC (d := d) hk rv1 ru1 e1
    have r2 := run_eqC (d := d) hk rv2 ru2 e2
    have r3 := run_eqC (d := d) hk rv3 ru3 e3
    have p : ∀ (cs : Array Value) (i : Nat) (v : Value), cs[i]? = some v → (part e cs i).run P w = .ok v w := fun cs i v q => run_part1 q2 q
    rw [Op.equalIn]
    simp only [Sem.run_bind, run_underlying hfs, Result.andThen_ok, run_sizeOf' q3]
    simp only [Std.Legacy.Range.forIn_eq_forIn_range', Std.Legacy.Range.size, Nat.sub_zero, Nat.add_sub_cancel, Nat.div_one, List.range', List.forIn_cons, List.forIn_nil, Sem.run_bind, Nat.mul_one, Nat.zero_add, Nat.reduceAdd, p _ _ _ hv0, p _ _ _ hv1, p _ _ _ hv2, p _ _ _ hv3, p _ _ _ hu0, p _ _ _ hu1, p _ _ _ hu2, p _ _ _ hu3, Result.andThen_ok, r0, r1, r2, r3]
    cases b0 <;> cases b1 <;> cases b2 <;> cases b3 <;> simp [r1, r2, r3, p _ _ _ hv1, p _ _ _ hv2, p _ _ _ hv3, p _ _ _ hu1, p _ _ _ hu2, p _ _ _ hu3]
 ·cases ht
theorem eqGuard_no {t : TypeId} {ks : List Nat} (ht : fkinds P t = some ks) : P.eqGuardType P.depth t = false := by
 unfold fkinds at ht
 split at ht
 ·cases ht
 ·rename_i q; simpa using q
theorem o_eqA {t u : TypeId} {ks : List Nat} {x y : Operand} {xs ys : List PV} {r : Bool} (ht : fkinds P t = some ks) (hx : ρ x = .agg xs) (hy : ρ y = .agg ys) (h : eqCs ks xs ys = some r) : OpR P σ ρ dst (.binOp .eql t x y u) (.bool r) .none := by
 refine .pureV _ _ (fun c q => by cases q) (fun T x q => by cases q) fun o w imm μ pres ev ho hr => ?_
 have h1 := hr x (by simp [Op.operands])
 have h2 := hr y (by simp [Op.operands])
 rw [hx] at h1
 rw [hy] at h2
 obtain ⟨dst, op, ty, pos, after, guard⟩ := o
 simp only at ho
 subst ho
 obtain ⟨vs, us, e1, e2, hrun⟩ := run_eqAgg (d := 9998) ht h h1 h2
 refine ⟨.bool r, ?_, .cl (.bool _)⟩
 simp only [execOp, e1, e2]
 refine run_v ?_
 rw [Sem.run_bind, run_eqGuard_agg w .eql t x y vs us (eqGuard_no ht), Result.andThen_ok, run_eql_struct, hrun]
 rfl
theorem o_neA {t u : TypeId} {ks : List Nat} {x y : Operand} {xs ys : List PV} {r q : Bool} (ht : fkinds P t = some ks) (hx : ρ x = .agg xs) (hy : ρ y = .agg ys) (h : eqCs ks xs ys = some r) (hq : (!r) = q) : OpR P σ ρ dst (.binOp .neq t x y u) (.bool q) .none := by
 subst hq
 refine .pureV _ _ (fun c q => by cases q) (fun T x q => by cases q) fun o w imm μ pres ev ho hr => ?_
 have h1 := hr x (by simp [Op.operands])
 have h2 := hr y (by simp [Op.operands])
 rw [hx] at h1
 rw [hy] at h2
 obtain ⟨dst, op, ty, pos, after, guard⟩ := o
 simp only at ho
 subst ho
 obtain ⟨vs, us, e1, e2, hrun⟩ := run_eqAgg (d := 9998) ht h h1 h2
 refine ⟨.bool (!r), ?_, .cl (.bool _)⟩
 simp only [execOp, e1, e2]
 refine run_v ?_
 rw [Sem.run_bind, run_eqGuard_agg w .neq t x y vs us (eqGuard_no ht), Result.andThen_ok, run_neq_struct, hrun]
 rfl
end
section
variable {X : Ctx} {ops : Array Oper} {i : Nat} {os : List Oper} {K : Ctx → St → Prop} {env : Nat → PV} {σ : Nat → Option Row} {ty : TypeId} {pos : String} {after : Array Edge} {gd : Option (Nat × Bool)} {t : Tmp}
end
theorem wk_vw {s : St} (t : Nat) (ok : (s.env t).vok s.σ = true) : Wk s ⟨upd s.env t ((s.env t).vw s.σ), frzL s.σ ((s.env t).vrefs s.σ)⟩ := fun X g a w h => by
 obtain ⟨imm', h1, h2, h3⟩ := h.frzL ((s.env t).vrefs s.σ)
 have hv := h.view h2 (h.env t) ok h3
 refine ⟨⟨imm', g.μ⟩, ⟨h1.size, fun i => ?_, h1.rows, h1.disj, h1.ownimm, h1.immlt, h1.immsub, h1.immsup, h1.below, h1.marks, h1.obs, h1.big, h1.maps⟩⟩
 by_cases q : i = t
 ·subst q
  rw [show (St.mk (upd s.env i ((s.env i).vw s.σ)) (frzL s.σ ((s.env i).vrefs s.σ))).env i = (s.env i).vw s.σ from upd_same _ _ _]
  exact .cl hv.w2
 ·rw [show (St.mk (upd s.env t ((s.env t).vw s.σ)) (frzL s.σ ((s.env t).vrefs s.σ))).env i = s.env i from upd_other _ _ q]
  exact h1.env i
end Go.Pw
namespace Go.Pw
open Go.RowKit Go.Sh
set_option linter.unusedVariables false
def recR (fn : FuncId) (tmps : Array Value) (ps : Array Tmp) (assign body : Code) (D : Nat) : Loop :=
 { state := .ready, pending := none, fn := fn, tmps := tmps, params := ps, assign := assign, body := body, defers := D }
structure Ran (X : Ctx) (N0 : Nat) (ps : Array Tmp) (assign body : Code) (l : Nat) : Prop where
 is : ∃ (tm : Array Value) (fn : FuncId) (D : Nat) (os : List (Nat × Obj)), X.obs = (l, .loop (recR fn tm ps assign body D)) :: os ∧ (∀ p ∈ os, p.1 ≠ l) ∧ tm.size = N0 ∧ ∀ i, i < 1000000 → X.ext (i + 1000000) = tm.getD i undef
 lo : X.w0.heap.size ≤ l
def doneO (c : Code) : List (Nat × Obj) → List (Nat × Obj)
 | (l, .loop r) :: os => (l, .loop { r with state := .done, pending := some c }) :: os
 | os => os
def Ctx.done (X : Ctx) (c : Code) : Ctx := { X with obs := doneO c X.obs }
section
variable {X : Ctx} {Q : PX → Ctx → St → Prop} {st : St}
end
end Go.Pw
namespace Go.Pw
open Go.RowKit Go.Sh
set_option linter.unusedVariables false
section
variable {X : Ctx} {Q : PX → Ctx → St → Prop} {st : St} {g : Gh} {a : Act} {w : World}
end
section
variable {X : Ctx} {ops : Array Oper} {i : Nat} {os : List Oper} {K : Ctx → St → Prop} {env : Nat → PV} {σ : Nat → Option Row} {ty : TypeId} {pos : String} {after : Array Edge} {gd : Option (Nat × Bool)} {t : Tmp}
def Opq (X : Ctx) (ops : Array Oper) (i : Nat) (K : Ctx → St → Prop) (st : St) : Prop :=
 dstOK X.N ops = true → ∀ (n : Nat) (g : Gh) (a : Act) (w : World) (next : Act → World → Prop) (Qo : Exit → Act → World → Prop), Sim X g st a w →
  (∀ X' g' s' a' w', Sim X' g' s' a' w' → (X'.P = X.P ∧ X'.ρ = X.ρ) ∧ X'.N = X.N → K X' s' → next a' w') → wpOpIn (FX X.ρ) n X.P ops Qo i next a w
theorem sq_of_opq {o : Oper} {st : St} (h : Opq X ops i (fun X' s => Sq X' ops (i + 1) os K s) st) : Sq X ops i (o :: os) K st := fun hd hi n g a w Qo hs hq => by
 have e : List.range' i (o :: os).length = i :: List.range' (i + 1) os.length := rfl
 rw [e, wpOpsIn_cons]
 refine h hd n g a w _ Qo hs fun X' g' s' a' w' hs' hX k => ?_
 have := k (by rw [hX.2]; exact hd) (fun j => by have := hi (j + 1); simpa [Nat.add_assoc, Nat.add_comm 1 j] using this) n g' a' w' Qo hs' fun X2 g2 s2 a2 w2 h2 hX2 => hq X2 g2 s2 a2 w2 h2 ⟨hX2.1.trans hX.1.1, hX2.2.trans hX.1.2⟩
 rw [hX.1.1, hX.1.2] at this
 exact this
theorem sq_of_opq' {o : Oper} {st : St} (h : ops[i]? = some o → Opq X ops i (fun X' s => Sq X' ops (i + 1) os K s) st) : Sq X ops i (o :: os) K st := fun hd hi => by
 have ho := hi 0
 simp only [List.getElem?_cons_zero, Nat.add_zero] at ho
 exact sq_of_opq (h ho.symm) hd hi
end
section
variable {X : Ctx} {Q : PX → Ctx → St → Prop} {st : St}
end
end Go.Pw
namespace Go.Pw
open Go.RowKit Go.Sh
set_option linter.unusedVariables false
section
variable {X : Ctx} {st : St} {a : Act} {w : World} {g : Gh}
end
end Go.Pw
namespace Go.Pw
open Go.RowKit Go.Sh
set_option linter.unusedVariables false
section
variable {X : Ctx} {ops : Array Oper} {n : Nat} {ρ : Option Nat} {Q : Exit → Act → World → Prop}
def Down (ops : Array Oper) (listed : Array Bool) : Prop := ∀ i o, listed.getD i false = true → ops[i]? = some o → ∀ e ∈ o.after, Region.binds .any e = true → listed.getD e.on false = true
theorem Down.set {listed : Array Bool} (hd : Down ops listed) {i : Nat} (haf : ∀ o, ops[i]? = some o → ∀ e ∈ o.after, Region.binds .any e = true → listed.getD e.on false = true) : Down ops (listed.setIfInBounds i true) := by
 intro k o hk ho e he hb
 by_cases q : k = i
 ·subst q
  exact getD_set_true (haf o ho e he hb)
 ·rw [getD_set_ne (listed := listed) (i := i) (j := k) false (Ne.symm q)] at hk
  exact getD_set_true (hd k o hk ho e he hb)
end
section
variable {X : Ctx} {Q : PX → Ctx → St → Prop} {st : St}
end
end Go.Pw
namespace Go.Pw
open Go.RowKit Go.Sh Go.Instr
set_option linter.unusedVariables false
set_option linter.unusedSectionVars false
def kidx {K : Type} [BEq K] : List K → K → Option Nat
 | [], _ => none
 | a :: ks, k => if k == a then some 0 else (kidx ks k).map (· + 1)
theorem mget_kidx {K V : Type} [BEq K] : ∀ (es : List (K × V)) (k : K), mget es k = (kidx (es.map (·.1)) k).bind fun i => es[i]?.map (·.2)
 | [], _ => rfl
 | p :: es, k => by
  unfold mget
  rw [List.map_cons, kidx]
  split
  ·rfl
  ·rw [mget_kidx es k]
   cases kidx (es.map (·.1)) k <;> rfl
theorem mput_kidx {K V : Type} [BEq K] : ∀ (es : List (K × V)) (k : K) (v : V), mput es k v = match kidx (es.map (·.1)) k with
  | some i => es.set i (k, v)
  | none => es ++ [(k, v)]
 | [], _, _ => rfl
 | p :: es, k, v => by
  unfold mput
  rw [List.map_cons, kidx]
  split
  ·rfl
  ·rw [mput_kidx es k v]
   cases kidx (es.map (·.1)) k <;> rfl
theorem kidx_lt {K : Type} [BEq K] : ∀ (ks : List K) (k : K) (i : Nat), kidx ks k = some i → ∃ h : i < ks.length, (k == ks[i]) = true
 | [], _, _, h => by cases h
 | a :: ks, k, i, h => by
  rw [kidx] at h
  split at h
  ·rename_i q
   cases h
   exact ⟨Nat.zero_lt_succ _, q⟩
  ·rw [Option.map_eq_some_iff] at h
   obtain ⟨j, h1, rfl⟩ := h
   obtain ⟨h2, h3⟩ := kidx_lt ks k j h1
   exact ⟨Nat.succ_lt_succ h2, by simpa using h3⟩
def Keys {K : Type} (EK : K → PV) (ents : List MapEntry) (ks : List K) (w : World) (imm : Nat → Nat → Prop) : Prop :=
 ents.length = ks.length ∧ ∀ (i : Nat) e k, ents[i]? = some e → ks[i]? = some k → Rd0 w imm e.key (EK k)
structure KeyT (P : Program) (kt : TypeId) {K : Type} [BEq K] (EK : K → PV) : Prop where
 check : ∀ {w : World} {imm : Nat → Nat → Prop} {kv : Value} {k : K} (b : Bool), Rd0 w imm kv (EK k) → (checkKey b 10000 kt kv).run P w = .ok () w
 find : ∀ {w : World} {imm : Nat → Nat → Prop} {kv : Value} {k : K} (ents : List MapEntry) (ks : List K), Rd0 w imm kv (EK k) → Keys EK ents ks w imm → (findKey kt kv ents).run P w = .ok ((kidx ks k).bind fun i => ents[i]?.map fun e => (i, e.val)) w
 stays : ∀ {w : World} {imm : Nat → Nat → Prop} {kv ku : Value} {k u : K}, Rd0 w imm kv (EK k) → Rd0 w imm ku (EK u) → (k == u) = true → (keyThatStays ku kv).run P w = .ok kv w
 clo : ∀ k : K, (EK k).clo = true ∧ (EK k).w1 = EK k
 eq : ∀ k u : K, (k == u) = true → k = u
theorem findNow_int {ik : IntKind} {n : Int} : ∀ (ents : List MapEntry) (ks : List Int) (i0 : Nat), ents.length = ks.length → (∀ (i : Nat) e k, ents[i]? = some e → ks[i]? = some k → e.key = .int ik k) →
  findNow (.int ik) (.int ik n) ents i0 = some ((kidx ks n).bind fun i => ents[i]?.map fun e => (i0 + i, e.val))
 | [], [], i0, _, _ => rfl
 | e :: ents, [], _, h, _ => by simp at h
 | [], k :: ks, _, h, _ => by simp at h
 | e :: ents, k :: ks, i0, hl, h => by
  have h0 := h 0 e k rfl rfl
  rw [findNow, h0, kidx]
  simp only [sameNow, if_true]
  by_cases q : n = k
  ·subst q
   simp
  ·have q1 : (n == k) = false := by simpa using q
   rw [q1]
   simp only [Bool.false_eq_true, if_false]
   rw [findNow_int ents ks (i0 + 1) (by simpa using hl) fun i e' k' h1 h2 => h (i + 1) e' k' (by simpa using h1) (by simpa using h2)]
   cases kidx ks n with
   | none => rfl
   | some j =>
    simp only [Option.bind_some, Option.map_some, List.getElem?_cons_succ]
    rw [Nat.add_assoc, Nat.add_comm 1 j]
theorem keyT_int {P : Program} {kt : TypeId} {ik : IntKind} (h : P.underlying kt = some (.int ik)) : KeyT P kt (PV.int ik) where
 check b hr := by
  cases hr
  unfold checkKey
  simp only [Sem.run_bind, run_underlying h, Result.andThen_ok]
  rfl
 find ents ks hr hk := by
  cases hr
  unfold findKey
  simp only [Sem.run_bind, run_underlying h, Result.andThen_ok]
  rw [findNow_int ents ks 0 hk.1 fun i e k h1 h2 => by
   have := hk.2 i e k h1 h2
   cases hq : e.key <;> rw [hq] at this <;> cases this
   rfl]
  simp only [Nat.zero_add]
  rfl
 stays h1 h2 he := by
  cases h1
  cases h2
  rename_i k u
  have : k = u := by simpa using he
  subst this
  unfold keyThatStays
  rw [if_pos (by simp [sameBits])]
  rfl
 clo k := ⟨rfl, rfl⟩
 eq k u h := by simpa using h
theorem getObj_map {P : Program} {w : World} {b : Nat} {ents : Array MapEntry} {clock : Nat} (h : w.heap[b]? = some (.map ents clock)) : (getObj b).run P w = .ok (.map ents clock) w := by
 simp [getObj, Sem.run, h]
theorem setObj_map {P : Program} {w : World} {b : Nat} {ents : Array MapEntry} {clock : Nat} (o : Obj) (h : w.heap[b]? = some (.map ents clock)) : (setObj b o).run P w = .ok () (w.putObj b o) := by
 simp [setObj, Sem.run, h, World.putObj]
def ent {K V : Type} (EK : K → PV) (E : V → PV) (p : K × V) : PV := .tup [EK p.1, E p.2]
def tmap (P : Program) (t : TypeId) : Option (TypeId × TypeId) := match P.underlying t with | some (.map k e) => some (k, e) | _ => none
theorem tmap_inv {P : Program} {t k e : TypeId} (h : tmap P t = some (k, e)) : P.underlying t = some (.map k e) := by
 unfold tmap at h
 split at h
 ·rename_i h'; cases h; exact h'
 ·cases h
section
variable {P : Program} {w : World} {imm : Nat → Nat → Prop} {K V : Type} [BEq K] {EK : K → PV} {E : V → PV}
theorem MapAt.keys {b : Nat} {es : List (K × V)} (h : MapAt w imm b (es.map (ent EK E))) : ∃ ents clock, w.heap[b]? = some (.map ents clock) ∧ ents.toList.length = es.length ∧ Keys EK ents.toList (es.map (·.1)) w imm ∧
  ∀ (i : Nat) e p, ents.toList[i]? = some e → es[i]? = some p → Rd0 w imm e.val (E p.2) := by
 obtain ⟨ents, clock, h1, h2, h3⟩ := h
 have hl : ents.toList.length = es.length := by simpa using h2
 refine ⟨ents, clock, h1, hl, ⟨by simpa using hl, fun i e k q1 q2 => ?_⟩, fun i e p q1 q2 => ?_⟩
 ·obtain ⟨kk, vv, k1, k2, k3⟩ := h3 i e (by simpa using q1)
  rw [List.getElem?_map] at k1 q2
  cases hq : es[i]? with
  | none => rw [hq] at q2; cases q2
  | some p =>
   rw [hq] at k1 q2
   cases q2
   cases k1
   exact k2
 ·obtain ⟨kk, vv, k1, k2, k3⟩ := h3 i e (by simpa using q1)
  rw [List.getElem?_map, q2] at k1
  cases k1
  exact k3
theorem MapAt.find {b : Nat} {es : List (K × V)} (h : MapAt w imm b (es.map (ent EK E))) {kt : TypeId} (hK : KeyT P kt EK) {kv : Value} {k : K} (hk : Rd0 w imm kv (EK k)) :
  ∃ ents clock, w.heap[b]? = some (.map ents clock) ∧ (∀ e, (checkKey e 10000 kt kv).run P w = .ok () w) ∧ ((mget es k = none ∧ kidx (es.map (·.1)) k = none ∧ (findKey kt kv ents.toList).run P w = .ok none w) ∨
   ∃ i e p, kidx (es.map (·.1)) k = some i ∧ ents[i]? = some e ∧ es[i]? = some p ∧ mget es k = some p.2 ∧ (k == p.1) = true ∧ Rd0 w imm e.val (E p.2) ∧ Rd0 w imm e.key (EK p.1) ∧ (findKey kt kv ents.toList).run P w = .ok (some (i, e.val)) w) := by
 obtain ⟨ents, clock, h1, h2, h3, h4⟩ := h.keys
 refine ⟨ents, clock, h1, fun e => hK.check e hk, ?_⟩
 have hf := hK.find ents.toList (es.map (·.1)) hk h3
 rw [mget_kidx]
 cases hi : kidx (es.map (·.1)) k with
 | none => rw [hi] at hf; exact .inl ⟨rfl, rfl, hf⟩
 | some i =>
  obtain ⟨q1, q2⟩ := kidx_lt _ _ _ hi
  have q1' : i < es.length := by simpa using q1
  have q3 : i < ents.toList.length := by omega
  rw [hi] at hf
  rw [Option.bind_some, List.getElem?_eq_getElem q3] at hf
  refine .inr ⟨i, ents.toList[i], es[i], rfl, ?_, List.getElem?_eq_getElem q1', ?_, by simpa using q2, h4 i _ _ (List.getElem?_eq_getElem q3) (List.getElem?_eq_getElem q1'), h3.2 i _ _ (List.getElem?_eq_getElem q3) (by rw [List.getElem?_map, List.getElem?_eq_getElem q1']; rfl), hf⟩
  ·rw [← Array.getElem?_toList, List.getElem?_eq_getElem q3]
  ·rw [Option.bind_some, List.getElem?_eq_getElem q1']; rfl
def lkV (E : V → PV) (r : Option V) (z : PV) (ok : Bool) : PV :=
 if ok then .tup [match r with | some v => E v | none => z, .bool r.isSome] else match r with | some v => E v | none => z
theorem lk2 (E : V → PV) (r : Option V) (z : V) : lkV E r (E z) true = .tup [E (r.getD z), .bool r.isSome] := by cases r <;> rfl
theorem run_lookup {b : Nat} {es : List (K × V)} (h : MapAt w imm b (es.map (ent EK E))) {T kt et : TypeId} (hT : tmap P T = some (kt, et)) (hK : KeyT P kt EK) {kv : Value} {k : K} (hk : Rd0 w imm kv (EK k)) {zv : Value} (hz : tzero P et = some zv) (ok : Bool) :
  ∃ v, (Instr.lookup T (.map (some b)) kv ok).run P w = .ok v w ∧ Rd0 w imm v (lkV E (mget es k) (PV.ofV zv) ok) := by
 obtain ⟨ents, clock, h1, h2, h3⟩ := h.find hK hk
 unfold Instr.lookup
 simp only [Sem.run_bind, run_underlying (tmap_inv hT), Result.andThen_ok, getObj_map h1, Sem.run_pure, h2]
 rcases h3 with ⟨q1, _, q2⟩ | ⟨i, e, p, _, _, _, q1, _, q3, _, q4⟩
 ·rw [q1, q2]
  simp only [Result.andThen_ok, Sem.run_bind, run_zero' hz, Sem.run_pure]
  cases ok
  ·exact ⟨_, rfl, rd_ofV _ _ _⟩
  ·refine ⟨_, rfl, .tup _ _ rfl fun i v c hv hc => ?_⟩
   match i with
   | 0 => simp at hv hc; subst hv; subst hc; exact rd_ofV _ _ _
   | 1 => simp at hv hc; subst hv; subst hc; exact .bool _
   | _ + 2 => simp at hv
 ·rw [q1, q4]
  simp only [Result.andThen_ok, Sem.run_bind, Sem.run_pure]
  cases ok
  ·exact ⟨_, rfl, q3⟩
  ·refine ⟨_, rfl, .tup _ _ rfl fun i v c hv hc => ?_⟩
   match i with
   | 0 => simp at hv hc; subst hv; subst hc; exact q3
   | 1 => simp at hv hc; subst hv; subst hc; exact .bool _
   | _ + 2 => simp at hv
end
section
variable {X : Ctx} {g : Gh} {st : St} {a : Act} {w : World} {K V : Type} [BEq K] {EK : K → PV} {E : V → PV}
theorem cell_put {l : Nat} {o o' : Obj} (hl : w.heap[l]? = some o) (hc : o.isCells = false) (hc' : o'.isCells = false) (b i : Nat) : (w.putObj l o').cell? ⟨b, i, none⟩ = w.cell? ⟨b, i, none⟩ := by
 have hlt : l < w.heap.size := (Array.getElem?_eq_some_iff.1 hl).1
 by_cases e : b = l
 ·subst e
  have none_of : ∀ (W : World) (o : Obj), W.heap[b]? = some o → o.isCells = false → W.cell? ⟨b, i, none⟩ = none := by
   intro W o hW ho
   cases hq : W.cell? ⟨b, i, none⟩ with
   | none => rfl
   | some u =>
    obtain ⟨o2, k1, k2⟩ := cells_of_cell hq
    rw [show W.heap[b]? = some o2 from k1] at hW
    cases hW
    rw [k2] at ho
    cases ho
  rw [none_of _ _ (World.putObj_heap_same hlt) hc', none_of _ _ hl hc]
 ·exact World.cell?_of_block (by rw [World.putObj_heap_other e])
theorem Sim.mset (h : Sim X g st a w) {l b : Nat} {r : Row} {ents' : Array MapEntry} {clock' : Nat} {es' : List PV} (hl : MB ≤ l) (hr : st.σ l = some r) (hrc : r.cl = false) (hA : (g.μ l).A = some ⟨b, 0, none⟩)
  (hn : ents'.size = es'.length) (hm : ∀ (i : Nat) e, ents'[i]? = some e → ∃ k v, es'[i]? = some (.tup [k, v]) ∧ Rd0 w g.imm e.key k ∧ Rd0 w g.imm e.val v) :
  Sim X g ⟨st.env, upd st.σ l (some { r with els := [.mapc es'] })⟩ a (w.putObj b (.map ents' clock')) := by
 obtain ⟨b', es0, m1, m2, m3, m4, m5, m6⟩ := h.maps.at_ l r hl hr
 rw [hA] at m2
 cases m2
 obtain ⟨ents0, clock0, q0, _, _⟩ := m4
 have hni := m5 hrc
 have hlt : b < w.heap.size := (Array.getElem?_eq_some_iff.1 q0).1
 have hcell := cell_put (w := w) (o' := .map ents' clock') q0 rfl rfl
 have hx : Ext w g.imm (w.putObj b (.map ents' clock')) g.imm := ⟨fun _ _ q => q, fun b i _ => hcell b i, fun b2 i x q hx' hm' => by
  by_cases e : b2 = b
  ·subst e; exact absurd q (hni i)
  ·rw [World.putObj_heap_other e]; exact hx'⟩
 have hp : ∀ l', st.pres l' → St.pres ⟨st.env, upd st.σ l (some { r with els := [.mapc es'] })⟩ l' ∧ g.μ l' = g.μ l' := by
  rintro l' ⟨r', hr'⟩
  refine ⟨?_, rfl⟩
  by_cases e : l' = l
  ·exact ⟨_, by rw [e]; exact upd_same _ _ _⟩
  ·exact ⟨r', by rw [show (St.mk st.env (upd st.σ l (some { r with els := [.mapc es'] }))).σ l' = st.σ l' from upd_other _ _ e]; exact hr'⟩
 have hcase : ∀ l' r', upd st.σ l (some { r with els := [.mapc es'] }) l' = some r' → (l' = l ∧ r' = { r with els := [.mapc es'] }) ∨ (l' ≠ l ∧ st.σ l' = some r') := by
  intro l' r' q
  by_cases e : l' = l
  ·subst e; rw [upd_same] at q; cases q; exact .inl ⟨rfl, rfl⟩
  ·rw [upd_other _ _ e] at q; exact .inr ⟨e, q⟩
 have hfro : ∀ l' r', st.σ l' = some r' → ∀ b2 i, OwnR (g.μ l') r' b2 i → (w.putObj b (.map ents' clock')).frozen? ⟨b2, i, none⟩ = w.frozen? ⟨b2, i, none⟩ := fun l' r' q b2 i ho => by
  have e : b2 ≠ b := fun e => by
   subst e
   have := own_no_map (h.rows l' r' q) ho q0
   cases this
  unfold World.frozen?
  simp only
  rw [World.putObj_heap_other e]
 have hR := h.rows l r hr
 refine ⟨h.size, fun i => (h.env i).mono hx hp, fun l' r' q => ?_, fun l1 l2 r1 r2 hne q1 q2 b' o' ho => ?_, fun l' r' b' o' q ho => ?_, fun b2 i q => ?_, h.immsub, h.immsup, ?_, ?_, fun p hp => ?_, h.big, ⟨fun l' r' hl' q => ?_, fun l1 l2 r1 r2 h1 h2 hne q1 q2 q3 => ?_⟩⟩
 ·rcases hcase l' r' q with ⟨rfl, rfl⟩ | ⟨e, q'⟩
  ·refine ⟨?_, hR.z, hR.C, ?_, fun x hx' => ?_, hR.nil, hR.spot, fun i x j y hx' hy => ?_, fun b2 o2 ho => ?_⟩
   ·rw [hR.n, m1]; rfl
   ·exact hR.lo
   ·simp only [List.mem_singleton] at hx'
    subst hx'
    refine ⟨rfl, ?_⟩
    have := (hR.el _ (by rw [m1]; exact List.mem_cons_self ..)).2
    rw [← this]; rfl
   ·have : x = .mapc es' := by
     cases i with
     | zero => simp at hx'; exact hx'.symm
     | succ i => simp at hx'
    subst this
    cases hy
   ·obtain ⟨k1, k2, k3⟩ := hR.own b2 o2 ho
    exact ⟨k1, by rw [hcell]; exact k2, by rw [hfro _ _ hr _ _ ho]; exact k3⟩
  ·exact (h.rows l' r' q').mono hx hp fun b2 i ho => ⟨hcell b2 i, hfro l' r' q' b2 i ho⟩
 ·rcases hcase l1 r1 q1 with ⟨rfl, rfl⟩ | ⟨e1, q1'⟩ <;> rcases hcase l2 r2 q2 with ⟨rfl, rfl⟩ | ⟨e2, q2'⟩
  ·exact absurd rfl hne
  ·exact fun k => h.disj l1 l2 r r2 hne hr q2' b' o' ho k
  ·exact fun k => h.disj l1 l2 r1 r hne q1' hr b' o' ho k
  ·exact h.disj l1 l2 r1 r2 hne q1' q2' b' o' ho
 ·rcases hcase l' r' q with ⟨rfl, rfl⟩ | ⟨e, q'⟩
  ·exact h.ownimm l' r b' o' hr ho
  ·exact h.ownimm l' r' b' o' q' ho
 ·have := h.immlt b2 i q
  simpa [World.putObj] using this
 ·exact h.below.trans ⟨⟨rfl, rfl, rfl, by simp [World.putObj], fun k hk => World.putObj_heap_other (by omega)⟩, Nat.le_refl _⟩
 ·obtain ⟨rs, h1, h2, h3⟩ := h.marks
  refine ⟨rs, h1, h2, fun r hr => ⟨?_, (h3 r hr).2⟩⟩
  rw [World.putObj_heap_other (fun e => by subst e; have h4 := (h3 _ hr).1; rw [q0] at h4; cases h4)]
  exact (h3 r hr).1
 ·obtain ⟨k1, k2, k3⟩ := h.obs p hp
  refine ⟨?_, k2, k3⟩
  rw [World.putObj_heap_other (fun e => by rw [e, q0] at k1; rw [← Option.some.inj k1] at k3; cases k3)]
  exact k1
 ·have apart' := h.maps.apart
  rcases hcase l' r' q with ⟨rfl, rfl⟩ | ⟨e, q'⟩
  ·refine ⟨b, es', rfl, hA, m3, ⟨ents', clock', World.putObj_heap_same hlt, hn, fun i e hi => ?_⟩, m5, m6⟩
   obtain ⟨k, v, k1, k2, k3⟩ := hm i e hi
   exact ⟨k, v, k1, k2.mono hx, k3.mono hx⟩
  ·obtain ⟨b2, es2, n1, n2, n3, n4, n5, n6⟩ := h.maps.at_ l' r' hl' q'
   have hne : b2 ≠ b := fun e2 => by
    subst e2
    exact h.maps.apart l l' r r' hl hl' (Ne.symm e) hr q' hrc (by rw [hA, n2])
   exact ⟨b2, es2, n1, n2, n3, n4.mono hx fun o k1 k2 => by rw [World.putObj_heap_other hne]; exact k1, n5, n6⟩
 ·have f : ∀ l' q, upd st.σ l (some { r with els := [.mapc es'] }) l' = some q → ∃ q', st.σ l' = some q' ∧ q'.cl = q.cl := fun l' q hq => by
   rcases hcase l' q hq with ⟨rfl, rfl⟩ | ⟨e, q'⟩
   ·exact ⟨r, hr, rfl⟩
   ·exact ⟨q, q', rfl⟩
  obtain ⟨s1, k1, k2⟩ := f l1 r1 q1
  obtain ⟨s2, k3, _⟩ := f l2 r2 q2
  exact h.maps.apart l1 l2 s1 s2 h1 h2 hne k1 k3 (by rw [k2]; exact q3)
theorem Sim.mnew (h : Sim X g st a w) {l : Nat} (hl : MB ≤ l) (hn : st.σ l = none) :
  Sim X ⟨g.imm, upd g.μ l ⟨some ⟨w.heap.size, 0, none⟩, 1, 1, 0⟩⟩ ⟨st.env, upd st.σ l (some ⟨[.mapc []], 0, false, 0, false⟩)⟩ a (w.alloc (.map #[] 0)) := by
 have h1 := h.alloc (.map #[] 0)
 have hno : ∀ b o, ¬ OwnR ⟨some ⟨w.heap.size, 0, none⟩, 1, 1, 0⟩ ⟨[.mapc []], 0, false, 0, false⟩ b o := by
  rintro b o ⟨s, _, k1, k2⟩
  simp only [Nat.mul_zero, Nat.add_zero] at k1 k2
  omega
 have hp : ∀ l', st.pres l' → St.pres ⟨st.env, upd st.σ l (some ⟨[.mapc []], 0, false, 0, false⟩)⟩ l' ∧ upd g.μ l ⟨some ⟨w.heap.size, 0, none⟩, 1, 1, 0⟩ l' = g.μ l' := by
  rintro l' ⟨r', hr'⟩
  have hne : l' ≠ l := fun e => by subst e; rw [hn] at hr'; cases hr'
  exact ⟨⟨r', by simpa [upd_other _ _ hne] using hr'⟩, upd_other _ _ hne⟩
 have hcase : ∀ l' r', upd st.σ l (some ⟨[.mapc []], 0, false, 0, false⟩) l' = some r' → (l' = l ∧ r' = ⟨[.mapc []], 0, false, 0, false⟩) ∨ (l' ≠ l ∧ st.σ l' = some r') := by
  intro l' r' q
  by_cases e : l' = l
  ·subst e; rw [upd_same] at q; cases q; exact .inl ⟨rfl, rfl⟩
  ·rw [upd_other _ _ e] at q; exact .inr ⟨e, q⟩
 have hnew : (w.alloc (.map #[] 0)).heap[w.heap.size]? = some (.map #[] 0) := World.alloc_heap_new ..
 refine ⟨h1.size, fun i => (h1.env i).mono (Ext.refl _ _) hp, fun l' r' q => ?_, fun l1 l2 r1 r2 hne q1 q2 b o ho => ?_, fun l' r' b o q ho => ?_, h1.immlt, h1.immsub, h1.immsup, h1.below, h1.marks, h1.obs, h1.big, ⟨fun l' r' hl' q => ?_, fun l1 l2 r1 r2 k1 k2 hne q1 q2 q3 => ?_⟩⟩
 ·rcases hcase l' r' q with ⟨rfl, rfl⟩ | ⟨e, q'⟩
  ·simp only [upd_same]
   refine ⟨rfl, rfl, Nat.le_refl _, Nat.zero_le _, fun x hx => ?_, (fun q => by cases q), fun _ => ⟨_, _, rfl⟩, fun i x j y hx hy => ?_, fun b o ho => absurd ho (hno b o)⟩
   ·simp only [List.mem_singleton] at hx; subst hx; exact ⟨rfl, rfl⟩
   ·have : x = .mapc [] := by
     cases i with
     | zero => simp at hx; exact hx.symm
     | succ i => simp at hx
    subst this
    cases hy
  ·simp only [upd_other _ _ e]
   exact (h1.rows l' r' q').mono (Ext.refl _ _) hp fun _ _ _ => ⟨rfl, rfl⟩
 ·rcases hcase l1 r1 q1 with ⟨rfl, rfl⟩ | ⟨e1, q1'⟩ <;> rcases hcase l2 r2 q2 with ⟨rfl, rfl⟩ | ⟨e2, q2'⟩
  ·exact absurd rfl hne
  ·simp only [upd_same] at ho; exact absurd ho (hno b o)
  ·simp only [upd_same]; exact hno b o
  ·simp only [upd_other _ _ e1, upd_other _ _ e2] at ho ⊢
   exact h1.disj l1 l2 r1 r2 hne q1' q2' b o ho
 ·rcases hcase l' r' q with ⟨rfl, rfl⟩ | ⟨e, q'⟩
  ·simp only [upd_same] at ho; exact absurd ho (hno b o)
  ·simp only [upd_other _ _ e] at ho
   exact h1.ownimm l' r' b o q' ho
 ·rcases hcase l' r' q with ⟨rfl, rfl⟩ | ⟨e, q'⟩
  ·simp only [upd_same]
   refine ⟨w.heap.size, [], rfl, rfl, h.below.size, ⟨#[], 0, hnew, rfl, fun i e hi => by simp at hi⟩, fun _ o q => ?_, fun q => by cases q⟩
   exact absurd (h.immlt _ _ q) (Nat.lt_irrefl _)
  ·simp only [upd_other _ _ e]
   exact h1.maps.at_ l' r' hl' q'
 ·have old : ∀ l' r', MB ≤ l' → st.σ l' = some r' → (g.μ l').A ≠ some ⟨w.heap.size, 0, none⟩ := fun l' r' hl' q e => by
   obtain ⟨b, es, _, n2, _, n4, _⟩ := h.maps.at_ l' r' hl' q
   rw [e] at n2
   cases n2
   obtain ⟨_, _, n5, _⟩ := n4
   exact absurd (Array.getElem?_eq_some_iff.1 n5).1 (Nat.lt_irrefl _)
  rcases hcase l1 r1 q1 with ⟨rfl, rfl⟩ | ⟨e1, q1'⟩ <;> rcases hcase l2 r2 q2 with ⟨rfl, rfl⟩ | ⟨e2, q2'⟩
  ·exact absurd rfl hne
  ·simp only [upd_same, upd_other _ _ e2]
   exact fun q => old l2 r2 k2 q2' q.symm
  ·simp only [upd_same, upd_other _ _ e1]
   exact old l1 r1 k1 q1'
  ·simp only [upd_other _ _ e1, upd_other _ _ e2]
   exact h1.maps.apart l1 l2 r1 r2 k1 k2 hne q1' q2' q3
theorem wk_mfz {s : St} (t l : Nat) {es : List PV} {lo z : Nat} {opn : Bool} (ht : s.env t = .mp l) (hr : s.σ l = some ⟨[.mapc es], lo, opn, z, false⟩) :
  Wk s ⟨upd s.env t (.abs (ImMap es)), upd s.σ l (some ⟨[.mapc es], lo, opn, z, true⟩)⟩ := fun X g a w h => by
 have hv := h.env t
 rw [ht] at hv
 obtain ⟨_, hl, b, hA, hb⟩ := hv.mp_inv
 obtain ⟨b', es0, m1, m2, m3, m4, m5, m6⟩ := h.maps.at_ l _ hl hr
 rw [hA] at m2
 cases m2
 cases m1
 obtain ⟨ents0, clock0, q0, q1, q2⟩ := m4
 have hx : Ext w g.imm w (fun b2 o => g.imm b2 o ∨ b2 = b) := ⟨fun _ _ q => .inl q, fun _ _ _ => rfl, fun _ _ _ _ q _ => q⟩
 have hp : ∀ l', s.pres l' → St.pres ⟨upd s.env t (.abs (ImMap es)), upd s.σ l (some ⟨[.mapc es], lo, opn, z, true⟩)⟩ l' ∧ g.μ l' = g.μ l' := by
  rintro l' ⟨r', hr'⟩
  refine ⟨?_, rfl⟩
  by_cases e : l' = l
  ·exact ⟨_, by rw [e]; exact upd_same _ _ _⟩
  ·exact ⟨r', by rw [show (St.mk (upd s.env t (.abs (ImMap es))) (upd s.σ l (some ⟨[.mapc es], lo, opn, z, true⟩))).σ l' = s.σ l' from upd_other _ _ e]; exact hr'⟩
 have hcase : ∀ l' r', upd s.σ l (some ⟨[.mapc es], lo, opn, z, true⟩) l' = some r' → (l' = l ∧ r' = ⟨[.mapc es], lo, opn, z, true⟩) ∨ (l' ≠ l ∧ s.σ l' = some r') := by
  intro l' r' q
  by_cases e : l' = l
  ·subst e; rw [upd_same] at q; cases q; exact .inl ⟨rfl, rfl⟩
  ·rw [upd_other _ _ e] at q; exact .inr ⟨e, q⟩
 have hR := h.rows l _ hr
 have hlt : b < w.heap.size := (Array.getElem?_eq_some_iff.1 q0).1
 refine ⟨⟨fun b2 o => g.imm b2 o ∨ b2 = b, g.μ⟩, ⟨h.size, fun i => ?_, fun l' r' q => ?_, fun l1 l2 r1 r2 hne q1 q2 b' o' ho => ?_, fun l' r' b' o' q ho => ?_, fun b2 o q => ?_, fun b2 o q => ?_, fun b2 o q => .inl (h.immsup b2 o q), h.below, h.marks, h.obs, h.big, ⟨fun l' r' hl' q => ?_, fun l1 l2 r1 r2 h1 h2 hne q1 q2 q3 => ?_⟩⟩⟩
 ·by_cases e : i = t
  ·subst e
   rw [show (St.mk (upd s.env i (.abs (ImMap es))) (upd s.σ l (some ⟨[.mapc es], lo, opn, z, true⟩))).env i = .abs (ImMap es) from upd_same _ _ _, hb]
   exact .cl (rd_imMap ⟨b, rfl, .inr rfl, ⟨ents0, clock0, q0, q1, fun i e hi => by
    obtain ⟨k, v, k1, k2, k3⟩ := q2 i e hi
    exact ⟨k, v, k1, k2.mono hx, k3.mono hx⟩⟩⟩)
  ·rw [show (St.mk (upd s.env t (.abs (ImMap es))) (upd s.σ l (some ⟨[.mapc es], lo, opn, z, true⟩))).env i = s.env i from upd_other _ _ e]
   exact (h.env i).mono hx hp
 ·rcases hcase l' r' q with ⟨rfl, rfl⟩ | ⟨e, q'⟩
  ·refine ⟨hR.n, hR.z, hR.C, hR.lo, hR.el, hR.nil, hR.spot, fun i x j y hx' hy => ?_, fun b2 o2 ho => hR.own b2 o2 ho⟩
   have : x = .mapc es := by
    cases i with
    | zero => simp at hx'; exact hx'.symm
    | succ i => simp at hx'
   subst this
   cases hy
  ·exact (h.rows l' r' q').mono hx hp fun _ _ _ => ⟨rfl, rfl⟩
 ·rcases hcase l1 r1 q1 with ⟨rfl, rfl⟩ | ⟨e1, q1'⟩ <;> rcases hcase l2 r2 q2 with ⟨rfl, rfl⟩ | ⟨e2, q2'⟩
  ·exact absurd rfl hne
  ·exact fun k => h.disj l1 l2 _ r2 hne hr q2' b' o' ho k
  ·exact fun k => h.disj l1 l2 r1 _ hne q1' hr b' o' ho k
  ·exact h.disj l1 l2 r1 r2 hne q1' q2' b' o' ho
 ·have own' : ∀ r0, s.σ l' = some r0 → OwnR (g.μ l') r0 b' o' → ¬ (g.imm b' o' ∨ b' = b) := fun r0 q0' ho' k => by
   rcases k with k | k
   ·exact h.ownimm l' r0 b' o' q0' ho' k
   ·subst k
    have := own_no_map (h.rows l' r0 q0') ho' q0
    cases this
  rcases hcase l' r' q with ⟨rfl, rfl⟩ | ⟨e, q'⟩
  ·exact own' _ hr ho
  ·exact own' _ q' ho
 ·rcases q with q | rfl
  ·exact h.immlt b2 o q
  ·exact hlt
 ·rcases q with q | rfl
  ·exact h.immsub b2 o q
  ·exact .inr m3
 ·rcases hcase l' r' q with ⟨rfl, rfl⟩ | ⟨e, q'⟩
  ·exact ⟨b, es, rfl, hA, m3, ⟨ents0, clock0, q0, q1, fun i e hi => by
    obtain ⟨k, v, k1, k2, k3⟩ := q2 i e hi
    exact ⟨k, v, k1, k2.mono hx, k3.mono hx⟩⟩, fun q => (by cases q), fun _ => .inr rfl⟩
  ·obtain ⟨b2, es2, n1, n2, n3, n4, n5, n6⟩ := h.maps.at_ l' r' hl' q'
   have hne : b2 ≠ b := fun e2 => by
    subst e2
    exact h.maps.apart l l' _ r' hl hl' (Ne.symm e) hr q' rfl (by rw [hA, n2])
   exact ⟨b2, es2, n1, n2, n3, n4.mono hx fun o k1 k2 => k1, fun c o k => k.elim (n5 c o) hne, fun c => .inl (n6 c)⟩
 ·rcases hcase l1 r1 q1 with ⟨rfl, rfl⟩ | ⟨e1, q1'⟩
  ·cases q3
  ·rcases hcase l2 r2 q2 with ⟨rfl, rfl⟩ | ⟨e2, q2'⟩
   ·exact h.maps.apart l1 l2 r1 _ h1 h2 hne q1' hr q3
   ·exact h.maps.apart l1 l2 r1 r2 h1 h2 hne q1' q2' q3
end
theorem Rd.abs_inv {w : World} {imm : Nat → Nat → Prop} {μ : Nat → RLoc} {pres : Nat → Prop} {v : Value} {R : World → (Nat → Nat → Prop) → Value → Prop} (h : Rd w imm μ pres v (.abs R)) : R w imm v := by
 generalize hd : PV.abs R = d at h
 cases h <;> try cases hd
 rename_i h
 generalize hd' : PV.abs R = d' at h
 cases h <;> cases hd'
 rename_i _ h
 exact h w imm (Ext.refl _ _)
section
variable {X : Ctx} {ops : Array Oper} {i : Nat} {os : List Oper} {K : Ctx → St → Prop} {env : Nat → PV} {σ : Nat → Option Row} {ty : TypeId} {pos : String} {after : Array Edge} {gd : Option (Nat × Bool)} {t : Tmp} {KT VT : Type} [BEq KT] {EK : KT → PV} {E : VT → PV}
theorem opq_value {o : Oper} {st : St} (ho : ops[i]? = some o) (hw : wantP ops st.env o = some true) (hnd : ∀ c, o.op ≠ .defer c)
  (h : ∀ g a w, Sim X g st a w → ∃ v w' g' st' d, (execOp a.eval o).run X.P w = .ok (.value v) w' ∧ Sim X g' st' a w' ∧ Rd w' g'.imm g'.μ st'.pres v d ∧ K X ⟨putE st'.env o.dst d, st'.σ⟩) : Opq X ops i K st := by
 intro hd n g a w next Qo hs hq
 unfold wpOpIn
 rw [ho]
 simp only
 rw [if_pos (want_sound hs hw)]
 obtain ⟨v, w', g', st', d, h1, h2, h3, h4⟩ := h g a w hs
 exact wpIn_value hnd h1 (hq X _ _ _ _ (h2.put (dstOK_spec hd ho) h3) ⟨⟨rfl, rfl⟩, rfl⟩ h4)
theorem opq_skip {o : Oper} {st : St} (ho : ops[i]? = some o) (hw : wantP ops st.env o = some true) (hnd : ∀ c, o.op ≠ .defer c) (hdst : o.dst = none)
  (h : ∀ g a w, Sim X g st a w → ∃ w' g' st', (execOp a.eval o).run X.P w = .ok .skip w' ∧ Sim X g' st' a w' ∧ K X st') : Opq X ops i K st := by
 intro hd n g a w next Qo hs hq
 unfold wpOpIn
 rw [ho]
 simp only
 rw [if_pos (want_sound hs hw)]
 obtain ⟨w', g', st', h1, h2, h4⟩ := h g a w hs
 refine opIn_skip hnd h1 ?_
 rw [hdst]
 exact hq X _ _ _ _ h2 ⟨⟨rfl, rfl⟩, rfl⟩ h4
theorem y_mkM {T : TypeId} (l : Nat) (hw : wantP ops env ⟨some t, .makeMap T none, ty, pos, after, gd⟩ = some true) (hn : σ l = none) (k : Sq X ops (i + 1) os K ⟨upd env t (.mp l), upd σ l (some ⟨[.mapc (([] : List (KT × VT)).map (ent EK E))], 0, false, 0, false⟩)⟩) (hl : MB ≤ l := by exact Nat.le_of_ble_eq_true rfl) :
  Sq X ops i (⟨some t, .makeMap T none, ty, pos, after, gd⟩ :: os) K ⟨env, σ⟩ := sq_of_opq' fun ho => opq_value ho hw (fun c q => by cases q) fun g a w hs =>
 ⟨_, _, _, _, .mp l, run_v (run_makeMap T w), hs.mnew hl hn, .mp l _ ⟨_, upd_same _ _ _⟩ hl (congrArg RLoc.A (upd_same _ _ _)), k⟩
theorem y_setM {op : Op} {T kt et : TypeId} {x y u : Operand} {l lo z : Nat} {opn : Bool} {es : List (KT × VT)} {k : KT} {v : VT} (hop : op = .mapUpdate T x y u ∨ op = .insert T x y u) (hw : wantP ops env ⟨none, op, ty, pos, after, gd⟩ = some true) (hx : evP env x = .mp l)
  (hl : σ l = some ⟨[.mapc (es.map (ent EK E))], lo, opn, z, false⟩) (hy : evP env y = EK k) (hu : (evP env u).w1 = E v) (hE : (E v).clo = true) (hT : tmap X.P T = some (kt, et)) (hK : KeyT X.P kt EK)
  (kk : Sq X ops (i + 1) os K ⟨env, upd σ l (some ⟨[.mapc ((mput es k v).map (ent EK E))], lo, opn, z, false⟩)⟩) : Sq X ops i (⟨none, op, ty, pos, after, gd⟩ :: os) K ⟨env, σ⟩ := sq_of_opq' fun ho => opq_skip ho hw (fun c q => by rcases hop with rfl | rfl <;> cases q) rfl fun g a w hs => by
 have hxv := hs.eval x
 rw [show evP (St.env ⟨env, σ⟩) x = _ from hx] at hxv
 obtain ⟨_, hlm, b, hA, e⟩ := hxv.mp_inv
 have hyv := hs.eval y
 rw [show evP (St.env ⟨env, σ⟩) y = _ from hy] at hyv
 have hy0 := hyv.clo (hK.clo k).1
 have huv := (hs.eval u).w1
 rw [show (evP (St.env ⟨env, σ⟩) u).w1 = _ from hu] at huv
 have hu0 := huv.clo hE
 obtain ⟨b', es0, m1, m2, m3, m4, _⟩ := hs.maps.at_ l _ hlm hl
 rw [hA] at m2
 cases m2
 cases m1
 have hrun : ∃ ents' clock', (Instr.mapUpdate T (.map (some b)) (a.eval y) (a.eval u)).run X.P w = .ok () (w.putObj b (.map ents' clock')) ∧ ents'.size = ((mput es k v).map (ent EK E)).length ∧
   ∀ (i : Nat) e, ents'[i]? = some e → ∃ k' v', ((mput es k v).map (ent EK E))[i]? = some (.tup [k', v']) ∧ Rd0 w g.imm e.key k' ∧ Rd0 w g.imm e.val v' := by
  obtain ⟨ents, clock, h1, h2, h3⟩ := m4.find hK hy0
  obtain ⟨ents2, clock2, g1, g2, g3, g4⟩ := m4.keys
  rw [h1] at g1
  cases g1
  unfold Instr.mapUpdate
  simp only [Sem.run_bind, run_underlying (tmap_inv hT), Result.andThen_ok, getObj_map h1, h2]
  have hsz : ents.size = es.length := by simpa using g2
  have old : ∀ (i : Nat) e, ents[i]? = some e → ∃ p, es[i]? = some p ∧ Rd0 w g.imm e.key (EK p.1) ∧ Rd0 w g.imm e.val (E p.2) := fun i e hi => by
   have hlt : i < es.length := by rw [← hsz]; exact (Array.getElem?_eq_some_iff.1 hi).1
   have hi' : ents.toList[i]? = some e := by simpa using hi
   exact ⟨es[i], List.getElem?_eq_getElem hlt, g3.2 i e _ hi' (by rw [List.getElem?_map, List.getElem?_eq_getElem hlt]; rfl), g4 i e _ hi' (List.getElem?_eq_getElem hlt)⟩
  rcases h3 with ⟨q1, q2, q3⟩ | ⟨j, e1, p, q1, q2, q3, q4, q5, q6, q7, q8⟩
  ·rw [q3, mput_kidx, q2]
   simp only [Result.andThen_ok, setObj_map _ h1]
   refine ⟨_, _, rfl, by simp [hsz], fun i e' hi => ?_⟩
   rw [Array.getElem?_push] at hi
   split at hi
   ·rename_i hie
    cases hi
    refine ⟨EK k, E v, ?_, hy0, hu0⟩
    rw [List.getElem?_map, hie, hsz, List.getElem?_append_right (Nat.le_refl _), Nat.sub_self]
    rfl
   ·obtain ⟨p, k1, k2, k3⟩ := old i e' hi
    refine ⟨_, _, ?_, k2, k3⟩
    rw [List.getElem?_map, List.getElem?_append_left (lt_of_get k1), k1]
    rfl
  ·have hst := hK.stays hy0 q7 q5
   rw [q8, mput_kidx, q1]
   refine ⟨ents.modify j fun e => { e with key := a.eval y, val := a.eval u }, clock, ?_, by simp [hsz], fun i e' hi => ?_⟩
   ·simp only [Result.andThen_ok, q2, Option.map_some, Option.getD_some, Sem.run_bind, hst, setObj_map _ h1]
   rw [Array.getElem?_modify] at hi
   split at hi
   ·rename_i hji
    subst hji
    rw [q2] at hi
    cases hi
    refine ⟨EK k, E v, ?_, hy0, hu0⟩
    rw [List.getElem?_map, List.getElem?_set_self (lt_of_get q3)]
    rfl
   ·rename_i hji
    obtain ⟨p, k1, k2, k3⟩ := old i e' hi
    refine ⟨_, _, ?_, k2, k3⟩
    rw [List.getElem?_map, List.getElem?_set_ne hji, k1]
    rfl
 obtain ⟨ents', clock', h1, h2, h3⟩ := hrun
 refine ⟨_, g, _, ?_, hs.mset (clock' := clock') hlm hl rfl hA h2 h3, kk⟩
 rcases hop with rfl | rfl
 ·exact run_u (by rw [e]; exact h1)
 ·exact run_u (by rw [e]; exact h1)
end
section
variable {P : Program} {σ : Nat → Option Row} {ρ : Operand → PV} {dst : Option Tmp} {KT VT : Type} [BEq KT] {EK : KT → PV} {E : VT → PV}
theorem o_lkI {T kt et : TypeId} {x y : Operand} {ok : Bool} {es : List (KT × VT)} {k : KT} {zv : Value} {d z0 : PV} (hx : ρ x = .abs (ImMap (es.map (ent EK E)))) (hy : ρ y = EK k) (hT : tmap P T = some (kt, et)) (hK : KeyT P kt EK) (hz : tzero P et = some zv)
  (hz0 : (PV.ofV zv).w1 = z0) (hd : (lkV E (mget es k) z0 ok) = d) : OpR P σ ρ dst (.lookup T x y ok) d .none := by
 refine .pureV _ _ (fun c q => by cases q) (fun T x q => by cases q) fun o w imm μ pres ev ho hev => ?_
 have hxv := hev x (by simp [Op.operands])
 have hyv := hev y (by simp [Op.operands])
 rw [hx] at hxv
 rw [hy] at hyv
 have hy0 := hyv.clo (hK.clo k).1
 have : ImMap (es.map (ent EK E)) w imm (ev x) := hxv.abs_inv
 obtain ⟨b, e, _, m4⟩ := this
 obtain ⟨v, h1, h2⟩ := run_lookup (P := P) m4 hT hK hy0 hz ok
 obtain ⟨dst, op, ty, pos, after, guard⟩ := o
 simp only at ho
 subst ho
 refine ⟨v, run_v (by rw [e]; exact h1), ?_⟩
 rw [← hd, ← hz0]
 cases hm : mget es k with
 | some u => rw [hm] at h2; cases ok <;> exact .cl h2
 | none =>
  rw [hm] at h2
  cases ok
  ·exact .cl h2.w1
  ·refine .cl ?_
   cases h2 with
   | tup vs _ hn h =>
    refine .tup vs _ hn fun i v c hv hc => ?_
    match i with
    | 0 => simp at hc; subst hc; exact (h 0 v _ hv rfl).w1
    | 1 => simp at hc; subst hc; exact h 1 v _ hv rfl
    | _ + 2 => simp at hc
end
end Go.Pw
namespace Go.Pw
open Go.RowKit
set_option linter.unusedVariables false
section
variable {X : Ctx} {g : Gh} {st : St} {a : Act} {w : World} {n : Nat} {K : Act → World → Prop} {Q : Exit → Act → World → Prop} {ρ : Option Nat} {P : Program}
end
section
open Go
variable {P : Program} {F : Fence} {n : Nat} {b : Frame} {a : Act} {k : List Item} {cs : List Frame} {w : World}
end
def FvR (e : Option Nat) : World → (Nat → Nat → Prop) → Value → Prop := fun _ _ v => v = match e with
 | none => .nilFunc
 | some n => .func (.func n) #[] #[]
abbrev fvE (e : Option Nat) : PV := .abs (FvR e)
def PV.fv0 : PV → PV
 | .fn (.func n) [] => fvE (some n)
 | .nilfn => fvE none
 | d => d
def PV.fv1 : PV → PV
 | .agg cs => .agg (cs.map PV.fv0)
 | d => d.fv0
theorem PV.fv0_sc {d : PV} (h : d.sc = true) : d.fv0.sc = true := by
 unfold PV.fv0
 split <;> first | rfl | exact h
theorem Rd0.fv0 {w : World} {imm : Nat → Nat → Prop} {v : Value} {d : PV} (h : Rd0 w imm v d) : Rd0 w imm v d.fv0 := by
 unfold PV.fv0
 split
 ·cases h with
  | fn f vs cap hn _ =>
   obtain rfl : vs = #[] := Array.eq_empty_of_size_eq_zero (by simpa using hn)
   exact .abs _ _ rfl fun _ _ _ => rfl
 ·cases h
  exact .abs _ _ rfl fun _ _ _ => rfl
 ·exact h
theorem Rd.fv0 {w : World} {imm : Nat → Nat → Prop} {μ : Nat → RLoc} {pres : Nat → Prop} {v : Value} {d : PV} (h : Rd w imm μ pres v d) : Rd w imm μ pres v d.fv0 := by
 unfold PV.fv0
 split
 ·exact .cl (h.clo1 rfl).fv0
 ·exact .cl (h.clo1 rfl).fv0
 ·exact h
theorem Rd.fv1 {w : World} {imm : Nat → Nat → Prop} {μ : Nat → RLoc} {pres : Nat → Prop} {v : Value} {d : PV} (h : Rd w imm μ pres v d) : Rd w imm μ pres v d.fv1 := by
 by_cases e : ∃ cs, d = .agg cs
 ·obtain ⟨cs, rfl⟩ := e
  obtain ⟨vs, rfl, hn, hk⟩ := h.agg_inv
  have hsc := h.agg_sc
  refine .agg vs _ (List.all_eq_true.2 fun c hc => ?_) (by simpa using hn) fun i v c hv hc => ?_
  ·obtain ⟨c0, h0, rfl⟩ := List.mem_map.1 hc
   exact PV.fv0_sc (List.all_eq_true.1 hsc c0 h0)
  ·obtain ⟨c0, k1, rfl⟩ := map_get hc
   exact (hk i v c0 hv k1).fv0
 ·have : d.fv1 = d.fv0 := by cases d <;> first | rfl | exact absurd ⟨_, rfl⟩ e
  rw [this]
  exact h.fv0
theorem wk_say {s : St} (t : Nat) {d d' : PV} (ht : s.env t = d) (hd : ∀ w imm μ pres v, Rd w imm μ pres v d → Rd w imm μ pres v d') : Wk s ⟨upd s.env t d', s.σ⟩ := fun X g a w h => by
 refine ⟨g, ⟨h.size, fun i => ?_, h.rows, h.disj, h.ownimm, h.immlt, h.immsub, h.immsup, h.below, h.marks, h.obs, h.big, h.maps⟩⟩
 by_cases q : i = t
 ·subst q
  rw [show (St.mk (upd s.env i d') s.σ).env i = d' from upd_same _ _ _]
  exact hd _ _ _ _ _ (by rw [← ht]; exact h.env i)
 ·rw [show (St.mk (upd s.env t d') s.σ).env i = s.env i from upd_other _ _ q]
  exact h.env i
theorem wk_fv {s : St} (t : Nat) {d' : PV} (h : (s.env t).fv1 = d') : Wk s ⟨upd s.env t d', s.σ⟩ := by
 subst h
 exact wk_say t rfl fun _ _ _ _ _ q => q.fv1
theorem wk_fn {s : St} (t : Nat) {e : Option Nat} {n : Nat} (ht : s.env t = fvE e) (he : e = some n) : Wk s ⟨upd s.env t (.fn (.func n) []), s.σ⟩ := by
 subst he
 refine wk_say t ht fun w imm μ pres v q => ?_
 have := q.abs_inv
 unfold FvR at this
 rw [this]
 exact .cl (.fn _ #[] [] rfl fun i v c _ hc => by simp at hc)
end Go.Pw
namespace Go.Pw
theorem nl {a b : Nat} (h : Nat.ble a b = true := by rfl) : a ≤ b := Nat.le_of_ble_eq_true h
theorem rS {R : List (Nat × Row)} {σ : Nat → Option Row} {l : Nat} {r r' : Row} (h : σ l = some r := by rfl) (hz : r.z = r'.z := by rfl) (hl : r.lo = r'.lo := by rfl) (ho : r'.opn = true → r.opn = true := by first | exact fun _ => rfl | exact fun q => nomatch q) (hc : r.cl = true := by rfl) (he : r.els = r'.els := by rfl) (hc' : r'.cl = true := by rfl) (hm : okM l l r.cl r'.cl = true := by rfl) : RowLe id R σ (l, r') := rowLe_same h hz hl ho hc he hc' hm
theorem rN {π : Nat → Nat} {R : List (Nat × Row)} {σ : Nat → Option Row} {l : Nat} {r r' : Row} (h : σ (π l) = some r := by rfl) (hz : r.z = r'.z := by rfl) (hl : r.lo = r'.lo := by rfl) (ho : r'.opn = true → r.opn = true := by first | exact fun _ => rfl | exact fun q => nomatch q) (hc : r.cl = true := by rfl) (he : r.els = r'.els := by rfl) (hc' : r'.cl = true := by rfl) (hm : okM l (π l) r.cl r'.cl = true := by rfl) : RowLe π R σ (l, r') := rowLe_ren h hz hl ho hc he hc' hm
theorem io {p q : Prop} (h : p ∨ q := by first | exact .inl rfl | exact .inr rfl) : p ∨ q := h
theorem J {α : Sort _} {a : α} : a = a := rfl
abbrev PV.I (x : Int) : PV := .int .i64 x
abbrev _root_.Go.Value.I (x : Int) : Value := .int .i64 x
abbrev iF : Int → PV := PV.int .i64
abbrev PV.L {α : Type} (f : α → PV) (l : List α) : PV := .lst false (List.map f l)
theorem oj {α : Type} {a b : α} (h : some a = some b) : a = b := Option.some.inj h
theorem om {P : Program} {σ : Nat → Option Row} {ρ : Operand → PV} {dst : Option Tmp} {x : Operand} {d : PV} (h : ρ x = d) : OpR P σ ρ dst (.move x) d .none := o_move h
theorem mI {P : Program} {σ : Nat → Option Row} {ρ : Operand → PV} {dst : Option Tmp} {x : Operand} {n : Int} (h : ρ x = .int .i64 n) : OpR P σ ρ dst (.move x) (.int .i64 n) .none := o_move h
theorem mB {P : Program} {σ : Nat → Option Row} {ρ : Operand → PV} {dst : Option Tmp} {x : Operand} {n : Bool} (h : ρ x = .bool n) : OpR P σ ρ dst (.move x) (.bool n) .none := o_move h
theorem tr : True := trivial
theorem oF {P : Program} {σ : Nat → Option Row} {ρ : Operand → PV} {dst : Option Tmp} {T : TypeId} {x : Operand} {f l i q off k : Nat} {ft : TypeId} (hx : ρ x = .ptr l i q) (ho : foff P T f = some (off, ft)) (hk : q + off = k) : OpR P σ ρ dst (.fieldAddr T x f) (.ptr l i k) .none := o_fieldAddrP hx ho hk
theorem oS {P : Program} {σ : Nat → Option Row} {ρ : Operand → PV} {dst : Option Tmp} {T : TypeId} {x : Operand} {l i f : Nat} {r : Row} {y d : PV} (hx : ρ x = .ptr l i f) (hl : σ l = some r) (hy : r.els[i]? = some y) (ha : tagg P T = some false) (hd : y.cells[f]? = some d) : OpR P σ ρ dst (.load T x) d .none := o_loadS hx hl hy ha hd
theorem oL {P : Program} {σ : Nat → Option Row} {ρ : Operand → PV} {dst : Option Tmp} {T : TypeId} {x : Operand} {l i f n : Nat} {r : Row} {y : PV} {cs : List PV} (hx : ρ x = .ptr l i f) (hl : σ l = some r) (hy : r.els[i]? = some y) (ha : tagg P T = some true) (hs : tsize P T = some n) (hf : f + n ≤ y.cells.length) (hd : (y.cells.drop f).take n = cs) : OpR P σ ρ dst (.load T x) (.agg cs) .none := o_loadA hx hl hy ha hs hf hd
section
variable {X : Ctx} {Q : PX → Ctx → St → Prop} {st : St}
theorem yN {ops : Array Oper} {i : Nat} {K : Ctx → St → Prop} (h : K X st) : Sq X ops i [] K st := y_nil h
theorem s1 {id : Nat} {l : List Oper} (h : Sq X l.toArray 0 l (Q .normal) st) (hd : dstOK X.N l.toArray = true := by kernel_rfl) : Pwp X (.region id l.toArray false) Q st := sr1 hd h
theorem sR {id : Nat} {l : List Oper} {y : Code} (h : Sq X l.toArray 0 l (fun X' s => Pwp X' y Q s) st) (hd : dstOK X.N l.toArray = true := by kernel_rfl) : Pwp X (.seq (.region id l.toArray false) y) Q st := sr hd h
end
theorem bnE {α β : Type} {x : Option α} {f : α → Option β} {r : β} {C : Prop} (h : x.bind f = some r) (k : ∀ v, x = some v → f v = some r → C) : C := by
 cases x with
 | none => cases h
 | some v => exact k v rfl h
section
variable {X : Ctx} {ops : Array Oper} {i : Nat} {os : List Oper} {K : Ctx → St → Prop} {env : Nat → PV} {σ : Nat → Option Row} {ty : TypeId} {pos : String} {after : Array Edge} {gd : Option (Nat × Bool)} {t : Tmp}
end
end Go.Pw
namespace Go.Pw
open Go.RowKit
set_option linter.unusedVariables false
theorem RdL.mono {w : World} {imm : Nat → Nat → Prop} {w' : World} {imm' : Nat → Nat → Prop} (he : Ext w imm w' imm') {vs : Array Value} {ds : List PV} (h : RdL w imm vs ds) : RdL w' imm' vs ds := ⟨h.1, fun i v d hv hd => (h.2 i v d hv hd).mono he⟩
theorem RdL.append {w : World} {imm : Nat → Nat → Prop} {vs us : Array Value} {ds es : List PV} (h : RdL w imm vs ds) (k : RdL w imm us es) : RdL w imm (vs ++ us) (ds ++ es) := by
 refine ⟨by simp [h.1, k.1], fun i v d hv hd => ?_⟩
 rcases Nat.lt_or_ge i vs.size with q | q
 ·rw [Array.getElem?_append_left q] at hv
  rw [List.getElem?_append_left (by rw [← h.1]; exact q)] at hd
  exact h.2 i v d hv hd
 ·rw [Array.getElem?_append_right q] at hv
  rw [List.getElem?_append_right (by rw [← h.1]; exact q), ← h.1] at hd
  exact k.2 _ v d hv hd
section
variable {X : Ctx} {g : Gh} {st : St} {a : Act} {w : World} {n : Nat} {K : Act → World → Prop} {Q : Exit → Act → World → Prop} {ρ : Option Nat} {P : Program}
end
section
variable {X : Ctx} {ops : Array Oper} {i : Nat} {os : List Oper} {K : Ctx → St → Prop} {env : Nat → PV} {σ : Nat → Option Row} {ty : TypeId} {pos : String} {after : Array Edge} {gd : Option (Nat × Bool)} {t : Tmp}
end
end Go.Pw
namespace Go.Pw
section
variable {F : Fence} {n : Nat} {P : Program} {Q : Exit → Act → World → Prop} {a : Act} {w : World}
end
section
variable {X : Ctx} {Q : PX → Ctx → St → Prop} {st : St}
open Go.Sh
end
end Go.Pw
namespace Go.Pw
open Go.RowKit Go.Instr
set_option linter.unusedVariables false
section
variable {P : Program} {w : World} {imm : Nat → Nat → Prop}
end
end Go.Pw
namespace Go.Pw
end Go.Pw
namespace Go.Pw
open Go.RowKit
set_option linter.unusedVariables false
structure TB where
 f : List ((Nat × Nat) × (Nat × Nat))
 a : List (Nat × Bool)
 s : List (Nat × Nat)
 z : List (Nat × PV)
structure TB.Ok (P : Program) (b : TB) : Prop where
 f : b.f.map (fun p => foff P p.1.1 p.1.2) = b.f.map (fun p => some p.2)
 a : b.a.map (fun p => tagg P p.1) = b.a.map (fun p => some p.2)
 s : b.s.map (fun p => tsize P p.1) = b.s.map (fun p => some p.2)
 z : b.z.map (fun p => (tzero P p.1).map PV.ofV) = b.z.map (fun p => some p.2)
def tk {α : Type} (k : Nat) : List (Nat × α) → Option α
 | [] => none
 | p :: l => match Nat.beq p.1 k with
  | true => some p.2
  | false => tk k l
def tk2 {α : Type} (k m : Nat) : List ((Nat × Nat) × α) → Option α
 | [] => none
 | p :: l => match Nat.beq p.1.1 k with
  | true => match Nat.beq p.1.2 m with
   | true => some p.2
   | false => tk2 k m l
  | false => tk2 k m l
theorem tk_mem {α : Type} {k : Nat} {x : α} : ∀ {l : List (Nat × α)}, tk k l = some x → (k, x) ∈ l
 | [], h => by cases h
 | p :: l, h => by
  unfold tk at h
  split at h
  ·rename_i q
   have := Nat.eq_of_beq_eq_true q
   cases h
   subst this
   exact List.mem_cons_self ..
  ·exact List.mem_cons_of_mem _ (tk_mem h)
theorem tk2_mem {α : Type} {k m : Nat} {x : α} : ∀ {l : List ((Nat × Nat) × α)}, tk2 k m l = some x → ((k, m), x) ∈ l
 | [], h => by cases h
 | p :: l, h => by
  unfold tk2 at h
  split at h
  ·rename_i q
   have e1 := Nat.eq_of_beq_eq_true q
   split at h
   ·rename_i q
    have e2 := Nat.eq_of_beq_eq_true q
    cases h
    subst e1; subst e2
    exact List.mem_cons_self ..
   ·exact List.mem_cons_of_mem _ (tk2_mem h)
  ·exact List.mem_cons_of_mem _ (tk2_mem h)
section
variable {P : Program} {b : TB}
theorem TB.Ok.fo (h : b.Ok P) {T f : Nat} {p : Nat × Nat} (e : tk2 T f b.f = some p) : foff P T f = some p := List.map_inj_left.1 h.f _ (tk2_mem e)
theorem TB.Ok.ag (h : b.Ok P) {T : Nat} {p : Bool} (e : tk T b.a = some p) : tagg P T = some p := List.map_inj_left.1 h.a _ (tk_mem e)
theorem TB.Ok.si (h : b.Ok P) {T : Nat} {p : Nat} (e : tk T b.s = some p) : tsize P T = some p := List.map_inj_left.1 h.s _ (tk_mem e)
theorem TB.Ok.ze (h : b.Ok P) {T : Nat} {p : PV} (e : tk T b.z = some p) : (tzero P T).map PV.ofV = some p := List.map_inj_left.1 h.z _ (tk_mem e)
end
def fc1 {β : Type} (d : PV) (k : PV → Option β) : Option β :=
 match d with
 | .bool b => k (.bool b)
 | .int i n => k (.int i n)
 | .str s => k (.str s)
 | .agg cs => k (.agg cs)
 | .tup vs => k (.tup vs)
 | .lst t xs => k (.lst t xs)
 | .sl l => k (.sl l)
 | .mp l => k (.mp l)
 | .mapc es => k (.mapc es)
 | .ptr l i f => k (.ptr l i f)
 | .rptr cs => k (.rptr cs)
 | .fn f cap => k (.fn f cap)
 | .nilfn => k .nilfn
 | .abs R => k (.abs R)
 | .junk => k .junk
theorem fc1_eq {β : Type} (d : PV) (k : PV → Option β) : fc1 d k = k d := by cases d <;> rfl
def fcL {β : Type} : List PV → (List PV → Option β) → Option β
 | [], k => k []
 | x :: xs, k => fc1 x fun x => fcL xs fun xs => k (x :: xs)
theorem fcL_eq {β : Type} : ∀ (xs : List PV) (k : List PV → Option β), fcL xs k = k xs
 | [], k => rfl
 | x :: xs, k => by
  unfold fcL
  rw [fc1_eq, fcL_eq xs]
def fc {β : Type} (d : PV) (k : PV → Option β) : Option β :=
 fc1 d fun d => match d with
 | .agg cs => fcL cs fun cs => k (.agg cs)
 | d => k d
theorem fc_eq {β : Type} (d : PV) (k : PV → Option β) : fc d k = k d := by
 unfold fc
 rw [fc1_eq]
 cases d <;> first | rfl | exact fcL_eq _ _
def fcB {β : Type} (d : Bool) (k : Bool → Option β) : Option β :=
 match d with
 | true => k true
 | false => k false
theorem fcB_eq {β : Type} (d : Bool) (k : Bool → Option β) : fcB d k = k d := by cases d <;> rfl
def look1 (b : TB) (env : Nat → PV) (σ : Nat → Option Row) : Op → Option PV
 | .move x => some (evP env x)
 | .assign x => some (evP env x)
 | .fieldAddr T x f => match evP env x with
  | .ptr l i q => match tk2 T f b.f with
   | some p => some (.ptr l i (q + p.1))
   | none => none
  | .rptr cs => match tk2 T f b.f with
   | some p => some (.rptr (cs.drop p.1))
   | none => none
  | _ => none
 | .field T x f => match evP env x with
  | .agg cs => match tk2 T f b.f with
   | some p => match tk p.2 b.a with
    | some false => cs[p.1]?
    | some true => match tk p.2 b.s with
     | some n => match Nat.ble (p.1 + n) cs.length with
      | true => some (.agg ((cs.drop p.1).take n))
      | false => none
     | none => none
    | none => none
   | none => none
  | _ => none
 | .load T x => match evP env x with
  | .ptr l i f => match σ l with
   | some r => match r.els[i]? with
    | some y => match tk T b.a with
     | some false => y.cells[f]?
     | some true => match tk T b.s with
      | some n => match Nat.ble (f + n) y.cells.length with
       | true => some (.agg ((y.cells.drop f).take n))
       | false => none
      | none => none
     | none => none
    | none => none
   | none => none
  | .rptr cs => match tk T b.a with
   | some false => cs[0]?
   | some true => match tk T b.s with
    | some n => match Nat.ble n cs.length with
     | true => some (.agg (cs.take n))
     | false => none
    | none => none
   | none => none
  | _ => none
 | .unOp .not _ x => match evP env x with
  | .bool v => some (.bool (!v))
  | _ => none
 | .binOp op _ x y _ => match evP env x with
  | .int k1 m => match evP env y with
   | .int k2 n => match decide (k1 = k2) with
    | true => match cmpI op m n with
     | some r => some (.bool r)
     | none => match ariI k1 op m n with
      | some r => some (.int k1 r)
      | none => none
    | false => none
   | _ => none
  | _ => none
 | .extract x i => match evP env x with
  | .tup ds => ds[i]?
  | _ => none
 | .makeFunc fn ⟨[]⟩ cap => some (.fn fn (cap.toList.map (evP env)))
 | _ => none
theorem look1_sound {P : Program} {b : TB} (hb : b.Ok P) {env : Nat → PV} {σ : Nat → Option Row} {dst : Option Tmp} {op : Op} {d : PV} (h : look1 b env σ op = some d) : OpR P σ (evP env) dst op d .none := by
 cases op <;> simp only [look1] at h
 case move x => cases h; exact .move x
 case assign x => cases h; exact .assign x
 case load T x =>
  split at h
  ·rename_i l i f hx
   split at h
   ·rename_i r hl
    split at h
    ·rename_i y hy
     split at h
     ·rename_i ha
      exact .loadS T x l i f r y d hx hl hy (hb.ag ha) h
     ·rename_i ha
      split at h
      ·rename_i n hn
       split at h
       ·rename_i hle
        cases h
        exact .loadA T x l i f r y n hx hl hy (hb.ag ha) (hb.si hn) (Nat.le_of_ble_eq_true hle)
       ·cases h
      ·cases h
     ·cases h
    ·cases h
   ·cases h
  ·rename_i cs hx
   split at h
   ·rename_i ha
    exact .loadRS T x cs d hx (hb.ag ha) h
   ·rename_i ha
    split at h
    ·rename_i n hn
     split at h
     ·rename_i hle
      cases h
      exact .loadRA T x cs n hx (hb.ag ha) (hb.si hn) (Nat.le_of_ble_eq_true hle)
     ·cases h
    ·cases h
   ·cases h
  ·cases h
 case fieldAddr T x f =>
  split at h
  ·rename_i l i q hx
   split at h
   ·rename_i p hp
    cases h
    exact .fieldAddrP T x f l i q p.1 p.2 hx (hb.fo hp)
   ·cases h
  ·rename_i cs hx
   split at h
   ·rename_i p hp
    cases h
    exact .fieldAddrR T x f cs p.1 p.2 hx (hb.fo hp)
   ·cases h
  ·cases h
 case field T x f =>
  split at h
  ·rename_i cs hx
   split at h
   ·rename_i p hp
    split at h
    ·rename_i ha
     exact .fieldS T x f cs p.1 p.2 d hx (hb.fo hp) (hb.ag ha) h
    ·rename_i ha
     split at h
     ·rename_i n hn
      split at h
      ·rename_i hle
       cases h
       exact .fieldA T x f cs p.1 p.2 n hx (hb.fo hp) (hb.ag ha) (hb.si hn) (Nat.le_of_ble_eq_true hle)
      ·cases h
     ·cases h
    ·cases h
   ·cases h
  ·cases h
 case extract x i =>
  split at h
  ·rename_i ds hx
   exact .extract x i ds d hx h
  ·cases h
 case unOp op t x =>
  cases op <;> simp only [look1] at h
  case not =>
   split at h
   ·rename_i v hx
    cases h
    exact .not t x v hx
   ·cases h
  all_goals cases h
 case binOp op t x y u =>
  split at h
  ·rename_i k1 m hx
   split at h
   ·rename_i k2 n hy
    split at h
    ·rename_i hk
     have hk := of_decide_eq_true hk
     subst hk
     split at h
     ·rename_i r hr
      cases h
      exact .cmp op t u x y k1 m n r hx hy hr
     ·split at h
      ·rename_i r hr
       cases h
       exact .ari op t u x y k1 m n r hx hy hr
      ·cases h
    ·cases h
   ·cases h
  ·cases h
 case makeFunc fn first cap =>
  obtain ⟨l⟩ := first
  cases l <;> simp only [look1] at h
  case nil => cases h; exact .mkFunc fn cap
  all_goals cases h
 all_goals cases h
def ev1 {β : Type} (b : TB) (o : Oper) (env : Nat → PV) (σ : Nat → Option Row) (k : (Nat → PV) → (Nat → Option Row) → Option β) : Option β :=
 match o.guard with
 | some _ => none
 | none => match o.dst with
  | some t => match o.op with
   | .box T x => match σ t with
    | some _ => none
    | none => fc (evP env x) fun d => match d.el with
     | true => fcB d.clo fun c => k (upd env t (.ptr t 0 0)) (upd σ t (some ⟨[d], 0, false, d.cells.length, c⟩))
     | false => none
   | .alloc T => match σ t with
    | some _ => none
    | none => match tk T b.z with
     | some d => match d.el with
      | true => k (upd env t (.ptr t 0 0)) (upd σ t (some ⟨[d], 0, false, d.cells.length, true⟩))
      | false => none
     | none => none
   | op => match look1 b env σ op with
    | some d => fc d fun d => k (upd env t d) σ
    | none => none
  | none => match o.op with
   | .store T x y => match evP env x with
    | .ptr l 0 q => match σ l with
     | some r => match r.els with
      | [x0] => match r.lo with
       | 0 => match tk T b.s with
        | some n => fc (evP env y).w1 fun d =>
         match d.el && (Nat.ble 1 n && (Nat.beq d.cells.length n && (Nat.ble (q + n) x0.cells.length && d.cells.all PV.sc))) with
         | true => fc (setC x0 q d.cells) fun x' => fcB (r.cl && d.cells.all PV.clo1) fun c => k env (upd σ l (some ⟨[x'], 0, r.opn, r.z, c⟩))
         | false => none
        | none => none
       | _ + 1 => none
      | _ => none
     | none => none
    | _ => none
   | _ => none
theorem ev1_sound {β : Type} {P : Program} {b : TB} (hb : b.Ok P) {ops : Array Oper} {T : List Nat} {c : Nat} {o : Oper} {env : Nat → PV} {σ : Nat → Option Row} {k : (Nat → PV) → (Nat → Option Row) → Option β} {r : β} (h : ev1 b o env σ k = some r) :
  ∃ env' σ', Stp P ops false T c o ⟨env, σ⟩ ⟨env', σ'⟩ ∧ k env' σ' = some r := by
 obtain ⟨dst, op, ty, pos, after, gd⟩ := o
 unfold ev1 at h
 simp only at h
 cases gd with
 | some g => cases h
 | none =>
 simp only at h
 have hw : ∀ dst, wantP ops env ⟨dst, op, ty, pos, after, none⟩ = some true := fun _ => rfl
 cases dst with
 | some t =>
  simp only at h
  have hlook : ∀ d, look1 b env σ op = some d → k (upd env t d) σ = some r → ∃ env' σ', Stp P ops false T c ⟨some t, op, ty, pos, after, none⟩ ⟨env, σ⟩ ⟨env', σ'⟩ ∧ k env' σ' = some r := fun d hd hk =>
   ⟨upd env t d, σ, .run d .none (hw _) (look1_sound hb hd) ⟨Same.refl _, NearT.refl _⟩ trivial (fun q => nomatch q) (fun q => nomatch q), hk⟩
  split at h
  ·rename_i T' x
   split at h
   ·cases h
   ·rename_i hf
    rw [fc_eq] at h
    split at h
    ·rename_i hel
     rw [fcB_eq] at h
     exact ⟨_, _, .run (.ptr t 0 0) (.new t ⟨[evP env x], 0, false, (evP env x).cells.length, (evP env x).clo⟩) (hw _) (.box T' x t rfl hel) ⟨Same.refl _, NearT.refl _⟩ hf (fun q => nomatch q) (fun q => nomatch q), h⟩
    ·cases h
  ·rename_i T'
   split at h
   ·cases h
   ·rename_i hf
    split at h
    ·rename_i d hd
     split at h
     ·rename_i hel
      have := hb.ze hd
      cases hz : tzero P T' with
      | none => rw [hz] at this; cases this
      | some v =>
       rw [hz] at this
       simp only [Option.map_some, Option.some.injEq] at this
       subst this
       exact ⟨_, _, .run (.ptr t 0 0) (.new t ⟨[PV.ofV v], 0, false, (PV.ofV v).cells.length, true⟩) (hw _) (.alloc T' t v rfl hz hel) ⟨Same.refl _, NearT.refl _⟩ hf (fun q => nomatch q) (fun q => nomatch q), h⟩
     ·cases h
    ·cases h
  ·split at h
   ·rename_i d hd
    rw [fc_eq] at h
    exact hlook d hd h
   ·cases h
 | none =>
  simp only at h
  split at h
  ·rename_i T' x y
   split at h
   ·rename_i l q hx
    split at h
    ·rename_i rw hl
     obtain ⟨els, lo, opn, z, cl⟩ := rw
     simp only at h
     split at h
     ·rename_i x0
      split at h
      ·split at h
       ·rename_i n hn
        rw [fc_eq] at h
        split at h
        ·rename_i hc
         simp only [Bool.and_eq_true] at hc
         obtain ⟨h1, h2, h3, h4, h5⟩ := hc
         have h3 := Nat.eq_of_beq_eq_true h3
         rw [fc_eq, fcB_eq] at h
         have hop : OpR P σ (evP env) none (.store T' x y) (.tup []) (.sto l 0 q (evP env y).w1.cells) := o_store hx (.inr rfl) rfl h1 (hb.si hn) (Nat.le_of_ble_eq_true h2) h3
         refine ⟨env, _, ?_, h⟩
         have := StpF.run (P := P) (ops := ops) (dr := false) (T := T) (c := c) (σF := σ) (o := ⟨none, .store T' x y, ty, pos, after, none⟩) (st := ⟨env, σ⟩) (.tup []) (.sto l 0 q (evP env y).w1.cells) (hw _) hop ⟨Same.refl _, NearT.refl _⟩ ⟨_, x0, hl, rfl, Nat.le_refl _, by rw [h3]; exact Nat.le_of_ble_eq_true h4, h5⟩ (fun q => nomatch q) (fun q => nomatch q)
         simp only [Eff.apply, hl] at this
         exact this
        ·cases h
       ·cases h
      ·cases h
     ·cases h
    ·cases h
   ·cases h
  ·cases h
def run (b : TB) : Nat → List Oper → (Nat → PV) → (Nat → Option Row) → Option (List Oper × (Nat → PV) × (Nat → Option Row))
 | 0, l, env, σ => some (l, env, σ)
 | _ + 1, [], _, _ => none
 | n + 1, o :: l, env, σ => ev1 b o env σ fun env σ => run b n l env σ
section
variable {X : Ctx} {ops : Array Oper} {K : Ctx → St → Prop}
theorem seg {b : TB} (hb : b.Ok X.P) : ∀ (n : Nat) {i : Nat} {l l' : List Oper} {env env' : Nat → PV} {σ σ' : Nat → Option Row}, run b n l env σ = some (l', env', σ') → Sq X ops (i + n) l' K ⟨env', σ'⟩ → Sq X ops i l K ⟨env, σ⟩
 | 0, i, l, l', env, env', σ, σ', h, k => by cases h; exact k
 | n + 1, i, [], l', env, env', σ, σ', h, k => by cases h
 | n + 1, i, o :: l, l', env, env', σ, σ', h, k => by
  obtain ⟨env1, σ1, h1, h2⟩ := ev1_sound hb h
  refine ystep h1 (seg hb n h2 ?_)
  rw [Nat.add_assoc, Nat.add_comm 1 n]
  exact k
end
end Go.Pw
namespace Go.Pw
open Go.RowKit Go.Sh
set_option linter.unusedVariables false
section
variable {X : Ctx} {Q : PX → Ctx → St → Prop} {st : St}
theorem cN {c : Operand} {x y : Code} {α : Type} {b : Bool} {A B : Option α} {r : α} (h : (if b then A else B) = some r) (hx : b = true → A = some r → Pwp X x Q st) (hy : b = false → B = some r → Pwp X y Q st) (hc : evP st.env c = .bool b := by rfl) : Pwp X (.cond c x y) Q st :=
 pw_cond b hc (fun q => hx q (ifT h q)) fun q => hy q (ifF h q)
theorem jq {J R : Type} {x y : Code} {k : J → Option R} {b : (J → Option R) → Option R} {r : R} (h : jn k b = some r) (F : J → St) (hk : ∀ j, k j = some r → Pwp X y Q (F j))
  (hx : ∀ κ, b κ = some r → Pwp X x (thenQ (fun X' s => X' = X ∧ ∃ j, κ j = some r ∧ Wk s (F j)) Q) st) : Pwp X (.seq x y) Q st := pw_jn0 F hk (hx k h)
theorem lq {S E R : Type} {f : S → Option (S ⊕ E)} {s0 : S} {k : E → Option R} {r : R} {c : Code} (h : (lp f s0).bind k = some r) (F : S → St) (h0 : Wk st (F s0))
  (hr : ∀ s x, f s = some x → (∀ e', x = .inr e' → k e' = some r) → Pwp X c (thenQ (fun X' s' => X' = X ∧ ∃ s2, x = .inl s2 ∧ Wk s' (F s2)) Q) (F s)) : Pwp X (.loop c) Q st := by
 obtain ⟨e, h1, h2⟩ := bindE h
 exact pw_lp0 F h1 h0 fun s x hf hx => hr s x hf fun e' q => by rw [hx e' q]; exact h2
theorem eJ {J R : Type} {κ : J → Option R} {r : R} {F : J → St} {s : St} {j : J} (h : κ j = some r) (w : Wk s (F j)) : X = X ∧ ∃ j, κ j = some r ∧ Wk s (F j) := ⟨rfl, j, h, w⟩
theorem eL {S E : Type} {x : S ⊕ E} {F : S → St} {s : St} {j : S} (h : some (.inl j) = some x) (w : Wk s (F j)) : X = X ∧ ∃ s2, x = .inl s2 ∧ Wk s (F s2) := ⟨rfl, j, (Option.some.inj h).symm, w⟩
theorem xL {S E R : Type} {x : S ⊕ E} {k : E → Option R} {r : R} {e : E} (hx : ∀ e', x = .inr e' → k e' = some r) (h : some (.inr e) = some x) : k e = some r := hx e (Option.some.inj h).symm
abbrev PV.nl : PV := .lst true []
abbrev vR (d : PV) (n : Nat) : Row := ⟨[d], 0, false, n, true⟩
theorem W {s : St} {L : List (Nat × PV)} {R : List (Nat × Row)} (h : Ag R s L := by (repeat refine ⟨J, J, J, ?_⟩); exact tr)
  (k : Ar R s R := by (repeat first | refine ⟨rS, ?_⟩ | refine ⟨rowLe_open J J J (fun q => nomatch q) J J J J, ?_⟩); exact tr) : Wk s (St.of L R) := wk_st L R h k
theorem WP {s : St} (π : Nat → Nat) {L : List (Nat × PV)} {R : List (Nat × Row)} (h : AgP π R s L := by (repeat refine ⟨J, J, J, ?_⟩); exact tr)
  (k : ArP π R s R := by (repeat first | refine ⟨rN, ?_⟩ | refine ⟨rowLe_open J J J (fun q => nomatch q) J J J J, ?_⟩); exact tr)
  (hi : (R.all fun p => R.all fun q => π p.1 != π q.1 || p.1 == q.1) = true := by rfl) : Wk s (St.of L R) := wk_stP π L R h k hi
theorem f1 {P : Program} {fn : Func} {d v : PV} (h : ResL P st fn.results.toList [v] := by exact ⟨J, tr⟩) (h2 : (tupOf [v]).vok st.σ = true := by rfl) (h3 : (tupOf [v]).view st.σ = d ∨ ((tupOf [v]).view st.σ).w3 = d := by first | exact .inl rfl | exact .inr rfl) : X = X ∧ Fin P fn d st := ⟨rfl, _, h, h2, h3⟩
theorem f3 {P : Program} {fn : Func} {d v u w : PV} (h : ResL P st fn.results.toList [v, u, w] := by exact ⟨J, J, J, tr⟩) (h2 : (tupOf [v, u, w]).vok st.σ = true := by rfl) (h3 : (tupOf [v, u, w]).view st.σ = d ∨ ((tupOf [v, u, w]).view st.σ).w3 = d := by first | exact .inl rfl | exact .inr rfl) : X = X ∧ Fin P fn d st := ⟨rfl, _, h, h2, h3⟩
end
theorem pI {P : Program} {f : FuncId} {fn : Func} {c : Code} {ds : List PV} {d : PV} (hf : P.funcs[f]? = some fn)
  (h : ∀ w0 imm0, Pwp { P := P, N := fn.ntmps, ρ := none, w0 := w0, imm0 := imm0 } c (fnQ { P := P, N := fn.ntmps, ρ := none, w0 := w0, imm0 := imm0 } (Fin P fn d)) ⟨initEnv ds, fun _ => none⟩) (hb : fn.body = some c := by rfl) (hn : ds.length ≤ fn.ntmps := by exact nl) (h6 : fn.ntmps ≤ 1000000 := by exact nl) : PCalls P f ds d := pc_intro hf hb rfl hn h h6
end Go.Pw
namespace Go.Pw
open Go.RowKit Go.Sh
set_option linter.unusedVariables false
def PO (P : Program) (f : FuncId) (ds : List PV) {α : Type} (x : Option α) (d : α → PV) : Prop := Callable P f ∧ ∀ r, x = some r → PCalls P f ds (d r)
theorem pO {P : Program} {f : FuncId} {fn : Func} {c : Code} {ds : List PV} {α : Type} {x : Option α} {d : α → PV} (hf : P.funcs[f]? = some fn)
  (h : ∀ r, x = some r → ∀ w0 imm0, Pwp { P := P, N := fn.ntmps, ρ := none, w0 := w0, imm0 := imm0 } c (fnQ { P := P, N := fn.ntmps, ρ := none, w0 := w0, imm0 := imm0 } (Fin P fn (d r))) ⟨initEnv ds, fun _ => none⟩)
  (hb : fn.body = some c := by rfl) (hn : ds.length ≤ fn.ntmps := by exact nl) (h6 : fn.ntmps ≤ 1000000 := by exact nl) (hm : fn.name ≠ "runtime.NumGoroutine" := by decide) : PO P f ds x d := ⟨⟨fn, c, hf, hb, hm⟩, fun r q => pI hf (h r q) hb hn h6⟩
theorem o_cl {P : Program} {σ : Nat → Option Row} {ρ : Operand → PV} {dst : Option Tmp} {α : Type} {z : Option α} {v : α} {d : α → PV} {f : FuncId} {args : Array Operand} {ts : Array TypeId} {x : Operand} {ds vs cap : List PV} (hx : ρ x = .fn (.func f) cap) (o : PO P f vs z d) (ha : args.toList.map ρ ++ cap = ds) (hz : z = some v)
  (hok : ds.all (PV.vok σ) = true := by rfl) (hv : ds.map (PV.vw σ) = vs := by rfl) (hfl : (d v).flat = true := by rfl) : OpR P σ ρ dst (.call { callee := .value x, args, argTypes := ts }) (d v) .none := o_call hx o.1 ha (o.2 v hz) hok hv hfl
theorem o_clF {P : Program} {σ : Nat → Option Row} {ρ : Operand → PV} {dst : Option Tmp} {α : Type} {z : Option α} {v : α} {d : α → PV} {f : FuncId} {args : Array Operand} {ts : Array TypeId} {x : Operand} {ds vs cap : List PV} {ls : List Nat} (hx : ρ x = .fn (.func f) cap) (o : PO P f vs z d) (ha : args.toList.map ρ ++ cap = ds) (hz : z = some v)
  (hok : ds.all (PV.vok σ) = true := by rfl) (hv : ds.map (PV.vw σ) = vs := by rfl) (hl : ds.flatMap (PV.vrefs σ) = ls := by rfl) : OpR P σ ρ dst (.call { callee := .value x, args, argTypes := ts }) (d v) (.frz ls) := o_callF hx o.1 ha (o.2 v hz) hok hv hl
section
variable {X : Ctx} {ops : Array Oper} {i : Nat} {os : List Oper} {K : Ctx → St → Prop} {env : Nat → PV} {σ : Nat → Option Row} {ty : TypeId} {pos : String} {after : Array Edge} {gd : Option (Nat × Bool)} {t : Tmp} {α β : Type} {z : Option α} {k : α → Option β} {r : β}
theorem cA {f : FuncId} {args : Array Operand} {ts : Array TypeId} {c : Operand} {ds vs cap : List PV} {d : α → PV} (h : z.bind k = some r) (o : PO X.P f vs z d) (hx : evP env c = .fn (.func f) cap) (ha : args.toList.map (evP env) ++ cap = ds)
  (kk : ∀ v, z = some v → k v = some r → Sq X ops (i + 1) os K ⟨upd env t (d v), σ⟩) (hw : wantP ops env ⟨some t, .call { callee := .value c, args, argTypes := ts }, ty, pos, after, gd⟩ = some true := by rfl) (hok : ds.all (PV.vok σ) = true := by rfl) (hv : ds.map (PV.vw σ) = vs := by rfl) (hfl : ∀ v, (d v).flat = true := by intro _; rfl) :
  Sq X ops i (⟨some t, .call { callee := .value c, args, argTypes := ts }, ty, pos, after, gd⟩ :: os) K ⟨env, σ⟩ := by
 obtain ⟨v, h1, h2⟩ := bindE h
 exact y0 hw (o_call hx o.1 ha (o.2 v h1) hok hv (hfl v)) (kk v h1 h2)
theorem cF {f : FuncId} {args : Array Operand} {ts : Array TypeId} {c : Operand} {ds vs cap : List PV} {d : α → PV} (h : z.bind k = some r) (o : PO X.P f vs z d) (hx : evP env c = .fn (.func f) cap) (ha : args.toList.map (evP env) ++ cap = ds)
  (kk : ∀ v, z = some v → k v = some r → Sq X ops (i + 1) os K ⟨upd env t (d v), σ⟩) (hw : wantP ops env ⟨some t, .call { callee := .value c, args, argTypes := ts }, ty, pos, after, gd⟩ = some true := by rfl) (hok : ds.all (PV.vok σ) = true := by rfl) (hv : ds.map (PV.vw σ) = vs := by rfl) (hl : ds.flatMap (PV.vrefs σ) = [] := by rfl) :
  Sq X ops i (⟨some t, .call { callee := .value c, args, argTypes := ts }, ty, pos, after, gd⟩ :: os) K ⟨env, σ⟩ := by
 obtain ⟨v, h1, h2⟩ := bindE h
 exact yc hw (o_callF hx o.1 ha (o.2 v h1) hok hv hl) (kk v h1 h2)
theorem iL {γ : Type} {f : γ → PV} {xs : List γ} {k : γ → Option β} {n : Int} {T E : TypeId} {x y : Operand} {b : Bool} {kd : IntKind} {m : Nat} (h : (ix xs n).bind k = some r) (hx : evP env x = .lst b (xs.map f)) (hy : evP env y = .int kd n)
  (hE : telem X.P T = some E) (hz : tsize X.P E = some m) (kk : ∀ v, ix xs n = some v → k v = some r → Sq X ops (i + 1) os K ⟨upd env t (.rptr (f v).cells), σ⟩) (hl : ∀ v, (f v).cells.length = m := by intro _; rfl) (hw : wantP ops env ⟨some t, .indexAddr T x y, ty, pos, after, gd⟩ = some true := by rfl) :
  Sq X ops i (⟨some t, .indexAddr T x y, ty, pos, after, gd⟩ :: os) K ⟨env, σ⟩ := by
 obtain ⟨v, h1, h2⟩ := bindE h
 exact y0 hw (o_ixL h1 hx hy hE hz rfl (hl v)) (kk v h1 h2)
theorem nL {γ : Type} {f : γ → PV} {xs : List γ} {x : Operand} {T E : TypeId} {b : Bool} (hx : evP env x = .lst b (xs.map f)) (hE : telem X.P T = some E) (kk : Sq X ops (i + 1) os K ⟨upd env t (.int .i64 xs.length), σ⟩) (hw : wantP ops env ⟨some t, .call { callee := .builtin .len, args := #[x], argTypes := #[T] }, ty, pos, after, gd⟩ = some true := by rfl) :
  Sq X ops i (⟨some t, .call { callee := .builtin .len, args := #[x], argTypes := #[T] }, ty, pos, after, gd⟩ :: os) K ⟨env, σ⟩ := y0 hw (o_lnL hx hE) kk
end
theorem d4 {P : Program} {ops : Array Oper} {bar : List Nat} {i : Nat} {os : List Oper} {K : St → Prop} {env : Nat → PV} {σ : Nat → Option Row} {ty : TypeId} {pos : String} {after : Array Edge} {gd : Option (Nat × Bool)} {op : Op} {t : Tmp} {d : PV} (hw : wantP ops env ⟨some t, op, ty, pos, after, gd⟩ = some true) (h : OpR P σ (evP env) (some t) op d .none) (hc : cls bar i op = 4) (k : Ex P ops bar true (i + 1) os ⟨upd env t d, σ⟩ K) :
  Ex P ops bar true i (⟨some t, op, ty, pos, after, gd⟩ :: os) ⟨env, σ⟩ K := x0 hw h (fun _ => by rw [hc]; trivial) k
def isLoad : Op → Bool
 | .load .. => true
 | _ => false
theorem look1_row {b : TB} {env : Nat → PV} {σ σ' : Nat → Option Row} {op : Op} (h : isLoad op = false) : look1 b env σ op = look1 b env σ' op := by
 cases op <;> first | rfl | cases h | skip
 case unOp o _ _ => cases o <;> rfl
 case makeFunc _ l _ =>
  obtain ⟨l⟩ := l
  cases l <;> rfl
def evD {γ : Type} (b : TB) (bar : List Nat) (i : Nat) (o : Oper) (env : Nat → PV) (σ : Nat → Option Row) (k : (Nat → PV) → (Nat → Option Row) → Option γ) : Option γ :=
 match o.guard with
 | some _ => none
 | none => match o.dst with
  | none => none
  | some t => match o.op with
   | .box T x => match σ t with
    | some _ => none
    | none => match Nat.beq (cls bar i (.box T x)) 1 with
     | false => none
     | true => fc (evP env x) fun d => match d.el with
      | true => fcB d.clo fun c => match (kept bar).contains t with
       | true => none
       | false => k (upd env t (.ptr t 0 0)) (upd σ t (some ⟨[d], 0, false, d.cells.length, c⟩))
      | false => none
   | .alloc T => match σ t with
    | some _ => none
    | none => match Nat.beq (cls bar i (.alloc T)) 1 with
     | false => none
     | true => match tk T b.z with
      | some d => match d.el with
       | true => match (kept bar).contains t with
        | true => none
        | false => k (upd env t (.ptr t 0 0)) (upd σ t (some ⟨[d], 0, false, d.cells.length, true⟩))
       | false => none
      | none => none
   | op => match isLoad op with
    | true => match Nat.beq (cls bar i op) 0 with
     | false => none
     | true => match look1 b env σ op with
      | some d => fc d fun d => k (upd env t d) σ
      | none => none
    | false => match Nat.beq (cls bar i op) 7 with
     | false => none
     | true => match look1 b env σ op with
      | some d => fc d fun d => k (upd env t d) σ
      | none => none
theorem evD_sound {γ : Type} {P : Program} {b : TB} (hb : b.Ok P) {ops : Array Oper} {bar : List Nat} {i : Nat} {o : Oper} {os : List Oper} {env : Nat → PV} {σ : Nat → Option Row} {k : (Nat → PV) → (Nat → Option Row) → Option γ} {r : γ} (h : evD b bar i o env σ k = some r) :
  ∃ env' σ', k env' σ' = some r ∧ ∀ K, Ex P ops bar true (i + 1) os ⟨env', σ'⟩ K → Ex P ops bar true i (o :: os) ⟨env, σ⟩ K := by
 obtain ⟨dst, op, ty, pos, after, gd⟩ := o
 unfold evD at h
 simp only at h
 cases gd with
 | some g => cases h
 | none =>
 simp only at h
 cases dst with
 | none => cases h
 | some t =>
 simp only at h
 split at h
 ·rename_i T' x
  split at h
  ·cases h
  ·rename_i hf
   split at h
   ·cases h
   ·rename_i hc
    have hc := Nat.eq_of_beq_eq_true hc
    rw [fc_eq] at h
    split at h
    ·rename_i hel
     rw [fcB_eq] at h
     split at h
     ·cases h
     ·rename_i hk
      exact ⟨_, _, h, fun K q => d1 rfl (.box T' x t rfl hel) hf (by simp only [Eff.off]; rw [hk]; rfl) hc q⟩
    ·cases h
 ·rename_i T'
  split at h
  ·cases h
  ·rename_i hf
   split at h
   ·cases h
   ·rename_i hc
    have hc := Nat.eq_of_beq_eq_true hc
    split at h
    ·rename_i d hd
     split at h
     ·rename_i hel
      split at h
      ·cases h
      ·rename_i hk
       have := hb.ze hd
       cases hz : tzero P T' with
       | none => rw [hz] at this; cases this
       | some v =>
        rw [hz] at this
        simp only [Option.map_some, Option.some.injEq] at this
        subst this
        exact ⟨_, _, h, fun K q => d1 rfl (.alloc T' t v rfl hz hel) hf (by simp only [Eff.off]; rw [hk]; rfl) hc q⟩
     ·cases h
    ·cases h
 ·split at h
  ·rename_i hl
   split at h
   ·cases h
   ·rename_i hc
    split at h
    ·rename_i d hd
     rw [fc_eq] at h
     exact ⟨_, _, h, fun K q => d0 rfl (look1_sound hb hd) (Nat.eq_of_beq_eq_true hc) q⟩
    ·cases h
  ·rename_i hl
   split at h
   ·cases h
   ·rename_i hc
    split at h
    ·rename_i d hd
     rw [fc_eq] at h
     exact ⟨_, _, h, fun K q => d7 rfl (fun σ' _ => look1_sound hb ((look1_row hl).trans hd)) (Nat.eq_of_beq_eq_true hc) q⟩
    ·cases h
def runD (b : TB) (bar : List Nat) : Nat → Nat → List Oper → (Nat → PV) → (Nat → Option Row) → Option (List Oper × (Nat → PV) × (Nat → Option Row))
 | 0, _, l, env, σ => some (l, env, σ)
 | _ + 1, _, [], _, _ => none
 | n + 1, i, o :: l, env, σ => evD b bar i o env σ fun env σ => runD b bar n (i + 1) l env σ
section
variable {P : Program} {ops : Array Oper} {bar : List Nat} {K : St → Prop}
theorem dG {b : TB} (hb : b.Ok P) : ∀ (n : Nat) {i : Nat} {l l' : List Oper} {env env' : Nat → PV} {σ σ' : Nat → Option Row}, runD b bar n i l env σ = some (l', env', σ') → Ex P ops bar true (i + n) l' ⟨env', σ'⟩ K → Ex P ops bar true i l ⟨env, σ⟩ K
 | 0, i, l, l', env, env', σ, σ', h, k => by cases h; exact k
 | n + 1, i, [], l', env, env', σ, σ', h, k => by cases h
 | n + 1, i, o :: l, l', env, env', σ, σ', h, k => by
  obtain ⟨env1, σ1, h1, h2⟩ := evD_sound (P := P) (ops := ops) (os := l) hb h
  refine h2 _ (dG hb n h1 ?_)
  rw [Nat.add_assoc, Nat.add_comm 1 n]
  exact k
end
end Go.Pw
