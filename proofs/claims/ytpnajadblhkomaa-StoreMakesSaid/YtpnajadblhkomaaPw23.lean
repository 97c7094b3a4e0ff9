/-
  More operations in plain terms; states that say less.
-/
import Derived.Test.YtpnajadblhkomaaPw22
import Derived.Laws.StructEq
namespace Go.Pw
open Go.RowKit Go.Sh
set_option linter.unusedVariables false
set_option linter.unusedSimpArgs false

/-- A slice within a slice. -/
abbrev Ls {α : Type} (f : α → PV) (l : List α) : PV := .lst false (l.map f)
abbrev _root_.Go.Sh.A4.Pc (x : A4) : List PV := [.int .i64 x.a, .int .i64 x.b, .int .i64 x.c, .int .i64 x.d]
abbrev _root_.Go.Sh.A4.Pv (x : A4) : PV := .agg x.Pc

theorem A4.get {x : A4} {i v : Int} (h : A4.ix x i = some v) : x.Pc[0 + i.toNat * 1]? = some (.int .i64 v) := by
  have := (ix_map (PV.int .i64) h).2
  rw [Nat.zero_add, Nat.mul_one]
  exact this

section
variable {P : Program} {σ : Nat → Option Row} {ρ : Operand → PV} {dst : Option Tmp}

theorem pk_orF {c a b : Operand} {x : Bool} (hc : ρ c = .bool x) (ha : ρ a = .bool true) (hg : (x == false) = false) : OpR P σ ρ dst (.pick c a b) (.bool true) .none := by
  have := OpR.pick (P := P) (σ := σ) (dst := dst) c a b x hc
  rw [ha] at this
  cases x
  · cases hg
  · exact this
theorem pk_andF {c a b : Operand} {x : Bool} (hc : ρ c = .bool x) (hb : ρ b = .bool false) (hg : (x == true) = false) : OpR P σ ρ dst (.pick c a b) (.bool false) .none := by
  have := OpR.pick (P := P) (σ := σ) (dst := dst) c a b x hc
  rw [hb] at this
  cases x
  · exact this
  · cases hg

theorem pk_andT {c a b : Operand} {x y : Bool} (hc : ρ c = .bool x) (ha : ρ a = .bool y) (hg : (x == true) = true) : OpR P σ ρ dst (.pick c a b) (.bool y) .none := by
  have := OpR.pick (P := P) (σ := σ) (dst := dst) c a b x hc
  rw [ha] at this
  cases x
  · cases hg
  · exact this
theorem pk_orT {c a b : Operand} {x y : Bool} (hc : ρ c = .bool x) (hb : ρ b = .bool y) (hg : (x == false) = true) : OpR P σ ρ dst (.pick c a b) (.bool y) .none := by
  have := OpR.pick (P := P) (σ := σ) (dst := dst) c a b x hc
  rw [hb] at this
  cases x
  · exact this
  · cases hg

theorem o_ixA {x : A4} {i v : Int} {a b : Operand} {T E : TypeId} {l : Nat} {k : IntKind} (h : A4.ix x i = some v) (hx : ρ a = .ptr l 0 0) (hy : ρ b = .int k i) (hE : tarr P T = some (4, E)) (hz : tsize P E = some 1) :
    OpR P σ ρ dst (.indexAddr T a b) (.ptr l 0 (0 + i.toNat * 1)) .none := by
  obtain ⟨h0, h1⟩ := ix_get h
  have hlt := (List.getElem?_eq_some_iff.1 h1).1
  simp only [A4.l, List.length_cons, List.length_nil] at hlt
  exact .idxA T a b l 0 0 k i 4 E 1 hx hy h0 (by omega) hE hz

theorem o_idxRA {T E : TypeId} {x y : Operand} {k : IntKind} {n : Int} {m len z : Nat} {cs es : List PV} (hx : ρ x = .rptr es) (hy : ρ y = .int k n) (hn : n = (m : Int)) (hm : m < len) (hE : tarr P T = some (len, E)) (hz : tsize P E = some z) (hk : es.drop (m * z) = cs) :
    OpR P σ ρ dst (.indexAddr T x y) (.rptr cs) .none := by
  subst hn; subst hk
  have := OpR.idxRA (P := P) (σ := σ) (dst := dst) T x y es k m len E z hx hy (by omega) (by omega) hE hz
  simpa using this

theorem o_bitand {t u : TypeId} {x y : Operand} {k : IntKind} {a b : Int} (hx : ρ x = .int k a) (hy : ρ y = .int k b) : OpR P σ ρ dst (.binOp .and t x y u) (.int k (bitand k a b)) .none := by
  refine .pureV _ _ (fun c q => by cases q) (fun T x q => by cases q) fun o w imm μ pres ev ho hr => ?_
  have h1 := hr x (by simp [Op.operands])
  have h2 := hr y (by simp [Op.operands])
  rw [hx] at h1
  rw [hy] at h2
  obtain ⟨dst, op, ty, pos, after, guard⟩ := o
  simp only at ho
  subst ho
  refine ⟨.int k (bitand k a b), ?_, .cl (.int _ _)⟩
  simp only [execOp, h1.int_inv, h2.int_inv]
  refine run_bin ⟨fun _ q => (by cases q), fun q => (by cases q)⟩ ?_
  simp [binOp, Op.intBits, bitand]

/-! ### == of structs and arrays of plain parts -/
def fkind (P : Program) (t : TypeId) : Option Nat := match P.underlying t with
  | some .bool => some 0
  | some (.int _) => some 1
  | some .string => some 2
  | _ => none
def fkindF (P : Program) : Nat → List Field → Option (List Nat)
  | _, [] => some []
  | i, f :: fs => if f.name ≠ "_" ∧ f.offset = i ∧ tagg P f.type = some false then match fkind P f.type, fkindF P (i + 1) fs with
    | some k, some ks => some (k :: ks)
    | _, _ => none
    else none
def fkinds (P : Program) (t : TypeId) : Option (List Nat) :=
  if P.eqGuardType P.depth t = true then none else match P.underlying t with
    | some (.struct fs) => if P.stoodInHeld t = true then none else fkindF P 0 fs.toList
    | some (.array n e) => if n = 4 ∧ tagg P e = some false ∧ tsize P e = some 1 then (fkind P e).map fun k => [k, k, k, k] else none
    | _ => none

def eqC : Nat → PV → PV → Option Bool
  | 0, .bool a, .bool b => some (a == b)
  | 1, .int k a, .int k' b => if k = k' then some (a == b) else none
  | 2, .str a, .str b => some (a.toList == b.toList)
  | _, _, _ => none
def eqCs : List Nat → List PV → List PV → Option Bool
  | [], [], [] => some true
  | k :: ks, x :: xs, y :: ys => match eqC k x y, eqCs ks xs ys with
    | some a, some b => some (a && b)
    | _, _ => none
  | _, _, _ => none

section
variable {w : World} {imm : Nat → Nat → Prop} {μ : Nat → RLoc} {pres : Nat → Prop}

theorem run_eqC {t : TypeId} {d k : Nat} {v u : Value} {x y : PV} {r : Bool} (ht : fkind P t = some k) (hv : Rd w imm μ pres v x) (hu : Rd w imm μ pres u y) (h : eqC k x y = some r) : (Op.equalIn (d + 1) t v u).run P w = .ok r w := by
  unfold fkind at ht
  unfold eqC at h
  split at h
  · cases h
    rw [hv.bool_inv, hu.bool_inv]
    refine run_equalIn_bool' w d t _ _ ?_
    split at ht <;> first | assumption | (cases ht; done)
  · split at h
    · rename_i q
      cases h
      subst q
      rw [hv.int_inv, hu.int_inv]
      split at ht <;> first | (exact run_equalIn_int w d t _ _ _ _ (by assumption)) | (cases ht; done)
    · cases h
  · cases h
    rw [hv.str_inv, hu.str_inv]
    refine run_equalIn_string w d t _ _ ?_
    split at ht <;> first | assumption | (cases ht; done)
  · cases h

theorem run_eqFields {d : Nat} {vs us : Array Value} : ∀ (fs : List Field) (i : Nat) (ks : List Nat) (xs ys : List PV) (r : Bool), fkindF P i fs = some ks → eqCs ks xs ys = some r →
    (∀ (j : Nat) x, xs[j]? = some x → ∃ v, vs[i + j]? = some v ∧ Rd w imm μ pres v x) → (∀ (j : Nat) y, ys[j]? = some y → ∃ v, us[i + j]? = some v ∧ Rd w imm μ pres v y) →
    (Op.eqFields (d + 1) vs us fs).run P w = .ok r w
  | [], i, ks, xs, ys, r, hk, h, hx, hy => by
    cases hk
    cases xs <;> cases ys <;> simp only [eqCs] at h <;> first | (cases h; done) | skip
    cases h
    rfl
  | f :: fs, i, ks, xs, ys, r, hk, h, hx, hy => by
    simp only [fkindF] at hk
    split at hk
    rotate_left
    · cases hk
    rename_i q
    obtain ⟨q1, q2, q3⟩ := q
    cases h1 : fkind P f.type with
    | none => rw [h1] at hk; cases hk
    | some k =>
      cases h2 : fkindF P (i + 1) fs with
      | none => rw [h1, h2] at hk; cases hk
      | some ks' =>
        rw [h1, h2] at hk
        cases hk
        cases xs <;> cases ys <;> simp only [eqCs] at h <;> first | (cases h; done) | skip
        rename_i x xs y ys
        cases ha : eqC k x y with
        | none => rw [ha] at h; cases h
        | some a =>
          cases hb : eqCs ks' xs ys with
          | none => rw [ha, hb] at h; cases h
          | some b =>
            rw [ha, hb] at h
            cases h
            obtain ⟨v, hv1, hv2⟩ := hx 0 x rfl
            obtain ⟨u, hu1, hu2⟩ := hy 0 y rfl
            rw [Nat.add_zero, ← q2] at hv1 hu1
            have hr := run_eqC (d := d) h1 hv2 hu2 ha
            have ih := run_eqFields (d := d) fs (i + 1) ks' xs ys b h2 hb (fun j x' q => by have := hx (j + 1) x' (by simpa using q); rwa [show i + (j + 1) = i + 1 + j by omega] at this)
              (fun j x' q => by have := hy (j + 1) x' (by simpa using q); rwa [show i + (j + 1) = i + 1 + j by omega] at this)
            simp only [Op.eqFields, if_pos q1, Sem.run_bind, run_part1 q3 hv1, run_part1 q3 hu1, Result.andThen_ok, hr]
            cases a
            · rfl
            · simp only [Bool.not_true, Bool.false_eq_true, if_false, Bool.true_and]
              exact ih
end

theorem eqCs_len : ∀ (ks : List Nat) (xs ys : List PV) (r : Bool), eqCs ks xs ys = some r → xs.length = ks.length ∧ ys.length = ks.length
  | [], [], [], _, _ => ⟨rfl, rfl⟩
  | k :: ks, x :: xs, y :: ys, r, h => by
    simp only [eqCs] at h
    split at h
    · rename_i a b q1 q2
      have := eqCs_len ks xs ys b q2
      simp [this.1, this.2]
    · cases h
  | [], _ :: _, _, _, h => by cases h
  | [], [], _ :: _, _, h => by cases h
  | _ :: _, [], _, _, h => by cases h
  | _ :: _, _ :: _, [], _, h => by cases h

theorem four {α : Type} {xs : List α} (h : xs.length = 4) : ∃ a b c d, xs = [a, b, c, d] := by
  rcases xs with _ | ⟨a, _ | ⟨b, _ | ⟨c, _ | ⟨d, _ | ⟨e, l⟩⟩⟩⟩⟩ <;> simp at h
  exact ⟨a, b, c, d, rfl⟩

theorem cells_at {w : World} {imm : Nat → Nat → Prop} {μ : Nat → RLoc} {pres : Nat → Prop} {vs : Array Value} {xs : List PV} (hn : vs.size = xs.length) (h : ∀ (i : Nat) v c, vs[i]? = some v → xs[i]? = some c → Rd w imm μ pres v c) :
    ∀ (j : Nat) x, xs[j]? = some x → ∃ v, vs[j]? = some v ∧ Rd w imm μ pres v x := fun j x hx => by
  have hlt : j < vs.size := by rw [hn]; exact lt_of_get hx
  exact ⟨_, Array.getElem?_eq_getElem hlt, h j _ x (Array.getElem?_eq_getElem hlt) hx⟩

theorem run_eqAgg {w : World} {imm : Nat → Nat → Prop} {μ : Nat → RLoc} {pres : Nat → Prop} {t : TypeId} {ks : List Nat} {v u : Value} {xs ys : List PV} {r : Bool} {d : Nat} (ht : fkinds P t = some ks) (h : eqCs ks xs ys = some r) (hv : Rd w imm μ pres v (.agg xs)) (hu : Rd w imm μ pres u (.agg ys)) :
    ∃ vs us, v = .agg vs ∧ u = .agg us ∧ (Op.equalIn (d + 2) t (.agg vs) (.agg us)).run P w = .ok r w := by
  obtain ⟨vs, rfl, hn, hc⟩ := hv.agg_inv
  obtain ⟨us, rfl, hn', hc'⟩ := hu.agg_inv
  have hx := cells_at hn hc
  have hy := cells_at hn' hc'
  refine ⟨vs, us, rfl, rfl, ?_⟩
  unfold fkinds at ht
  split at ht
  · cases ht
  split at ht
  · rename_i fs hfs
    split at ht
    · cases ht
    rename_i hst
    have hfo : P.fieldsOf t = fs := by unfold Program.fieldsOf; rw [hfs]
    rw [run_equalIn_struct w (d + 1) t vs us (by rw [hfo]; exact hfs) (by simpa using hst), hfo]
    exact run_eqFields fs.toList 0 ks xs ys r ht h (fun j x q => by rw [Nat.zero_add]; exact hx j x q) (fun j x q => by rw [Nat.zero_add]; exact hy j x q)
  · rename_i n e hfs
    split at ht
    rotate_left
    · cases ht
    rename_i q
    obtain ⟨rfl, q2, q3⟩ := q
    cases hk : fkind P e with
    | none => rw [hk] at ht; cases ht
    | some k =>
      rw [hk] at ht
      simp only [Option.map_some, Option.some.injEq] at ht
      subst ht
      obtain ⟨l1, l2⟩ := eqCs_len _ _ _ _ h
      obtain ⟨x0, x1, x2, x3, rfl⟩ := four l1
      obtain ⟨y0, y1, y2, y3, rfl⟩ := four l2
      · simp only [eqCs] at h
        cases e0 : eqC k x0 y0 with
        | none => rw [e0] at h; cases h
        | some b0 =>
        cases e1 : eqC k x1 y1 with
        | none => rw [e0, e1] at h; cases h
        | some b1 =>
        cases e2 : eqC k x2 y2 with
        | none => rw [e0, e1, e2] at h; cases h
        | some b2 =>
        cases e3 : eqC k x3 y3 with
        | none => rw [e0, e1, e2, e3] at h; cases h
        | some b3 =>
        rw [e0, e1, e2, e3] at h
        cases h
        obtain ⟨v0, hv0, rv0⟩ := hx 0 x0 rfl
        obtain ⟨v1, hv1, rv1⟩ := hx 1 x1 rfl
        obtain ⟨v2, hv2, rv2⟩ := hx 2 x2 rfl
        obtain ⟨v3, hv3, rv3⟩ := hx 3 x3 rfl
        obtain ⟨u0, hu0, ru0⟩ := hy 0 y0 rfl
        obtain ⟨u1, hu1, ru1⟩ := hy 1 y1 rfl
        obtain ⟨u2, hu2, ru2⟩ := hy 2 y2 rfl
        obtain ⟨u3, hu3, ru3⟩ := hy 3 y3 rfl
        have r0 := run_eqC (d := d) hk rv0 ru0 e0
        have r1 := run_eqC (d := d) hk rv1 ru1 e1
        have r2 := run_eqC (d := d) hk rv2 ru2 e2
        have r3 := run_eqC (d := d) hk rv3 ru3 e3
        have p : ∀ (cs : Array Value) (i : Nat) (v : Value), cs[i]? = some v → (part e cs i).run P w = .ok v w := fun cs i v q => run_part1 q2 q
        rw [Op.equalIn]
        simp only [Sem.run_bind, run_underlying hfs, Result.andThen_ok, run_sizeOf' q3]
        simp only [Std.Legacy.Range.forIn_eq_forIn_range', Std.Legacy.Range.size, Nat.sub_zero, Nat.add_sub_cancel, Nat.div_one, List.range', List.forIn_cons, List.forIn_nil, Sem.run_bind, Nat.mul_one, Nat.zero_add, Nat.reduceAdd, p _ _ _ hv0, p _ _ _ hv1, p _ _ _ hv2, p _ _ _ hv3, p _ _ _ hu0, p _ _ _ hu1, p _ _ _ hu2, p _ _ _ hu3, Result.andThen_ok, r0, r1, r2, r3]
        cases b0 <;> cases b1 <;> cases b2 <;> cases b3 <;> simp [r1, r2, r3, p _ _ _ hv1, p _ _ _ hv2, p _ _ _ hv3, p _ _ _ hu1, p _ _ _ hu2, p _ _ _ hu3]
  · cases ht

theorem eqGuard_no {t : TypeId} {ks : List Nat} (ht : fkinds P t = some ks) : P.eqGuardType P.depth t = false := by
  unfold fkinds at ht
  split at ht
  · cases ht
  · rename_i q; simpa using q

theorem o_eqA {t u : TypeId} {ks : List Nat} {x y : Operand} {xs ys : List PV} {r : Bool} (ht : fkinds P t = some ks) (hx : ρ x = .agg xs) (hy : ρ y = .agg ys) (h : eqCs ks xs ys = some r) : OpR P σ ρ dst (.binOp .eql t x y u) (.bool r) .none := by
  refine .pureV _ _ (fun c q => by cases q) (fun T x q => by cases q) fun o w imm μ pres ev ho hr => ?_
  have h1 := hr x (by simp [Op.operands])
  have h2 := hr y (by simp [Op.operands])
  rw [hx] at h1
  rw [hy] at h2
  obtain ⟨dst, op, ty, pos, after, guard⟩ := o
  simp only at ho
  subst ho
  obtain ⟨vs, us, e1, e2, hrun⟩ := run_eqAgg (d := 9998) ht h h1 h2
  refine ⟨.bool r, ?_, .cl (.bool _)⟩
  simp only [execOp, e1, e2]
  refine run_v ?_
  rw [Sem.run_bind, run_eqGuard_agg w .eql t x y vs us (eqGuard_no ht), Result.andThen_ok, run_eql_struct, hrun]
  rfl
theorem o_neA {t u : TypeId} {ks : List Nat} {x y : Operand} {xs ys : List PV} {r q : Bool} (ht : fkinds P t = some ks) (hx : ρ x = .agg xs) (hy : ρ y = .agg ys) (h : eqCs ks xs ys = some r) (hq : (!r) = q) : OpR P σ ρ dst (.binOp .neq t x y u) (.bool q) .none := by
  subst hq
  refine .pureV _ _ (fun c q => by cases q) (fun T x q => by cases q) fun o w imm μ pres ev ho hr => ?_
  have h1 := hr x (by simp [Op.operands])
  have h2 := hr y (by simp [Op.operands])
  rw [hx] at h1
  rw [hy] at h2
  obtain ⟨dst, op, ty, pos, after, guard⟩ := o
  simp only at ho
  subst ho
  obtain ⟨vs, us, e1, e2, hrun⟩ := run_eqAgg (d := 9998) ht h h1 h2
  refine ⟨.bool (!r), ?_, .cl (.bool _)⟩
  simp only [execOp, e1, e2]
  refine run_v ?_
  rw [Sem.run_bind, run_eqGuard_agg w .neq t x y vs us (eqGuard_no ht), Result.andThen_ok, run_neq_struct, hrun]
  rfl
end

section
variable {X : Ctx} {ops : Array Oper} {i : Nat} {os : List Oper} {K : Ctx → St → Prop} {env : Nat → PV} {σ : Nat → Option Row} {ty : TypeId} {pos : String} {after : Array Edge} {gd : Option (Nat × Bool)} {t : Tmp}

theorem setC_A4 {x : A4} {i v : Int} {w : Int} (h : A4.ix x i = some w) : setC x.Pv (0 + i.toNat * 1) [.int .i64 v] = (A4.st x i v).Pv := by
  obtain ⟨h0, h1⟩ := ix_get h
  have hlt := (List.getElem?_eq_some_iff.1 h1).1
  simp only [A4.l, List.length_cons, List.length_nil] at hlt
  rw [Nat.zero_add, Nat.mul_one]
  obtain ⟨k, hk⟩ : ∃ k, i.toNat = k := ⟨_, rfl⟩
  unfold A4.st
  rw [hk] at hlt ⊢
  match k, hlt with
  | 0, _ => rfl
  | 1, _ => rfl
  | 2, _ => rfl
  | 3, _ => rfl

/-- It stores into an array. -/
theorem y_stA {x0 : A4} {m v v0 : Int} {x y : Operand} {T : TypeId} {l : Nat} {opn : Bool} {z : Nat} {cl : Bool} (h : A4.ix x0 m = some v0) (hw : wantP ops env ⟨none, .store T x y, ty, pos, after, gd⟩ = some true) (hx : evP env x = .ptr l 0 (0 + m.toNat * 1)) (hy : evP env y = .int .i64 v ∨ (evP env y).w1 = .int .i64 v) (hl : σ l = some ⟨[x0.Pv], 0, opn, z, cl⟩)
    (hs : tsize X.P T = some 1) (k : Sq X ops (i + 1) os K ⟨env, upd σ l (some ⟨[(A4.st x0 m v).Pv], 0, opn, z, cl⟩)⟩) : Sq X ops i (⟨none, .store T x y, ty, pos, after, gd⟩ :: os) K ⟨env, σ⟩ := by
  obtain ⟨h0, h1⟩ := ix_get h
  have hlt := (List.getElem?_eq_some_iff.1 h1).1
  simp only [A4.l, List.length_cons, List.length_nil] at hlt
  have hle : (0 + m.toNat * 1) + 1 ≤ x0.Pv.cells.length := by
    show 0 + m.toNat * 1 + 1 ≤ 4
    omega
  exact y_sto hw hx hy hs k hl rfl rfl (Nat.le_of_ble_eq_true rfl) rfl hle rfl (setC_A4 h) (by cases cl <;> rfl)

/-- It copies over the beginning of a row. -/
theorem y_cp {α : Type} {f : α → PV} {xs ys zs : List α} {x y : Operand} {T U E : TypeId} {l z : Nat} {opn : Bool} (h : cpy xs ys = some zs) (hw : wantP ops env ⟨some t, .call { callee := .builtin .copy, args := #[x, y], argTypes := #[T, U] }, ty, pos, after, gd⟩ = some true)
    (hx : evP env x = .sl l) (hl : σ l = some ⟨xs.map f, 0, opn, z, true⟩) (hy : Src σ (evP env y) (ys.map f) true) (hE : telem X.P T = some E) (hz : tsize X.P E = some z) (hel : ∀ e, (f e).cells.length = z) (hzp : 0 < z)
    (k : Sq X ops (i + 1) os K ⟨upd env t (.int .i64 ys.length), upd σ l (some ⟨zs.map f, 0, opn, z, true⟩)⟩) : Sq X ops i (⟨some t, .call { callee := .builtin .copy, args := #[x, y], argTypes := #[T, U] }, ty, pos, after, gd⟩ :: os) K ⟨env, σ⟩ := by
  obtain ⟨h1, rfl⟩ := cpy_some h
  have e1 : ((ys.map f).length : Int) = ys.length := by simp
  refine y_cpy (l := l) (q := ⟨xs.map f, 0, opn, z, true⟩) (ys := ys.map f) (es := (ys ++ xs.drop ys.length).map f) hw (o_copy (n := ys.length) hx hl rfl hy hE hz rfl (fun e he => by obtain ⟨a, _, rfl⟩ := List.mem_map.1 he; exact hel a) (by simpa using h1) hzp e1) hl rfl (by simpa using h1) (by simp [List.map_drop]) k
end

/-- A slice, held against nil: whatever comes of it, what is nil holds nothing. -/
theorem y_eqnil {X : Ctx} {ops : Array Oper} {i : Nat} {os : List Oper} {K : Ctx → St → Prop} {env : Nat → PV} {σ : Nat → Option Row} {ty ty' T E : TypeId} {pos : String} {after : Array Edge} {t : Tmp} {x : Operand} {xs : List PV} {q : Bool}
    (hx : evP env x = .lst q xs) (hE : telem X.P T = some E) (k : ∀ b : Bool, (b = true → xs = []) → Sq X ops (i + 1) os K ⟨upd env t (.bool b), σ⟩) :
    Sq X ops i (⟨some t, .binOp .eql T x (.const (.slice none 0 0)) ty', ty, pos, after, none⟩ :: os) K ⟨env, σ⟩ := fun hd hi n g a w Qo hs hq => by
  have ho : ops[i]? = some ⟨some t, .binOp .eql T x (.const (.slice none 0 0)) ty', ty, pos, after, none⟩ := by have := hi 0; simpa using this.symm
  have e : List.range' i ((⟨some t, .binOp .eql T x (.const (.slice none 0 0)) ty', ty, pos, after, none⟩ : Oper) :: os).length = i :: List.range' (i + 1) os.length := rfl
  have hv := hs.eval x
  rw [hx] at hv
  obtain ⟨A, c, z, u, e1, h1, _, h3, _⟩ := hv.lst_inv
  rw [e, wpOpsIn_cons]
  unfold wpOpIn
  rw [ho]
  simp only
  rw [if_pos (by rfl)]
  have hu := telem_inv hE
  have hrun : (binOp .eql T (a.eval x) (.slice none 0 0)).run X.P w = .ok (.bool A.isNone) w := by
    rw [e1]
    have e2 : (binOp .eql T (.slice A xs.length c) (.slice none 0 0) : Sem Value) = (do pure (.bool (← Op.equal T (.slice A xs.length c) (.slice none 0 0)))) := rfl
    rw [e2, Sem.run_bind]
    have e3 : (Op.equal T (.slice A xs.length c) (.slice none 0 0)).run X.P w = .ok A.isNone w := by
      have : Op.maxDepth = 9999 + 1 := rfl
      unfold Op.equal
      rw [this, Op.equalIn, Sem.run_bind, run_underlying hu]
      cases A <;> rfl
    rw [e3]
    rfl
  refine wpIn_value (fun c q => by cases q) (v := .bool A.isNone) (w' := w) ?_ ?_
  · simp only [execOp]
    have e4 : a.eval (.const (.slice none 0 0)) = .slice none 0 0 := rfl
    rw [e4]
    refine run_v ?_
    have hg : (eqGuard .eql T x (.const (.slice none 0 0)) (a.eval x) (.slice none 0 0)).run X.P w = .ok () w := by
      rw [e1]
      exact run_guard (v := .slice A xs.length c) ⟨fun cs q => (by cases q), fun q => (by cases q)⟩
    rw [Sem.run_bind, hg, Result.andThen_ok, hrun]
  · refine k A.isNone (fun q => ?_) hd (fun j => by have := hi (j + 1); simpa [Nat.add_assoc, Nat.add_comm 1 j] using this) n g _ w Qo (hs.put (dstOK_spec hd ho) (.cl (.bool _))) hq
    cases A with
    | none => have := h3 rfl; exact List.eq_nil_of_length_eq_zero (by omega)
    | some _ => cases q

/-- A slice of its own is a slice. -/
theorem pcalls_ofN {P : Program} {f : FuncId} {ds : List PV} {r : Row} (h : PCallsN P f ds r) (hcl : r.cl = true) : PCalls P f ds (.lst false r.els) := fun w imm vs hlt ha => by
  refine (h w imm vs hlt ha).mono fun e w' q => ?_
  obtain ⟨m, rfl, hb, hR, hown⟩ := q
  refine ⟨_, rfl, hb, ?_⟩
  have hlt' : ∀ b o u, w'.cell? ⟨b, o, none⟩ = some u → b < w'.heap.size := fun b o u q => World.block_lt_of_cell? _ _ q
  have hx : Ext w' (fun b o => newImm imm w w' b o ∧ ¬ OwnR m r b o) w' (newImm imm w w') := ⟨fun _ _ q => q.1, fun _ _ _ => rfl, fun _ _ _ _ q _ => q⟩
  rw [hR.n]
  refine .lst m.A m.C m.z false r.els (fun i j => match m.A with | some ⟨b, s, _⟩ => (w'.cell? ⟨b, s + i * m.z + j, none⟩).getD undef | none => undef) (by rw [← hR.n]; exact hR.C) (fun q => by cases q) hR.nil (fun x q => by rw [hR.z]; exact hR.el x q) (fun h0 => ?_) (fun i x j y hx' hy => ?_)
  · obtain ⟨b, s, hA⟩ := hR.spot (by have := hR.C; have := hR.n; omega)
    refine ⟨b, s, hA, fun i x j y hx' hy => ?_⟩
    obtain ⟨b', s', u, k1, k2, _, k4, _⟩ := hR.cell i x j y hx' hy
    rw [hA] at k1; cases k1
    refine ⟨?_, by rw [hA]; simp only [k2, Option.getD_some]⟩
    by_cases hi : i < r.lo
    · exact (k4 hi).1
    · have := hown _ _ (hR.mine hx' hy hA hi)
      exact .inr ⟨this, hlt' _ _ _ k2⟩
  · obtain ⟨b', s', u, k1, k2, _, _, k5⟩ := hR.cell i x j y hx' hy
    rw [k1]
    simp only [k2, Option.getD_some]
    exact (k5 hcl).mono hx

/-! ### Less is said -/
theorem wk_vw {s : St} (t : Nat) (ok : (s.env t).vok s.σ = true) : Wk s ⟨upd s.env t ((s.env t).vw s.σ), frzL s.σ ((s.env t).vrefs s.σ)⟩ := fun X g a w h => by
  obtain ⟨imm', h1, h2, h3⟩ := h.frzL ((s.env t).vrefs s.σ)
  have hv := h.view h2 (h.env t) ok h3
  refine ⟨⟨imm', g.μ⟩, ⟨h1.size, fun i => ?_, h1.rows, h1.disj, h1.ownimm, h1.immlt, h1.immsub, h1.immsup, h1.below, h1.marks, h1.obs, h1.big, h1.maps⟩⟩
  by_cases q : i = t
  · subst q
    rw [show (St.mk (upd s.env i ((s.env i).vw s.σ)) (frzL s.σ ((s.env i).vrefs s.σ))).env i = (s.env i).vw s.σ from upd_same _ _ _]
    exact .cl hv.w2
  · rw [show (St.mk (upd s.env t ((s.env t).vw s.σ)) (frzL s.σ ((s.env t).vrefs s.σ))).env i = s.env i from upd_other _ _ q]
    exact h1.env i

theorem wk_w1 {s : St} (t : Nat) : Wk s ⟨upd s.env t (s.env t).w1, s.σ⟩ := fun X g a w h => by
  refine ⟨g, ⟨h.size, fun i => ?_, h.rows, h.disj, h.ownimm, h.immlt, h.immsub, h.immsup, h.below, h.marks, h.obs, h.big, h.maps⟩⟩
  by_cases q : i = t
  · subst q
    rw [show (St.mk (upd s.env i (s.env i).w1) s.σ).env i = (s.env i).w1 from upd_same _ _ _]
    exact (h.env i).w1
  · rw [show (St.mk (upd s.env t (s.env t).w1) s.σ).env i = s.env i from upd_other _ _ q]
    exact h.env i
end Go.Pw
