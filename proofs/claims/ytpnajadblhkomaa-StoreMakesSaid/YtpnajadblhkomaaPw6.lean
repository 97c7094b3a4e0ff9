/-
  Whatever an operation of the state does, the operation of the program does (I).
-/
import Derived.Test.YtpnajadblhkomaaPw5
namespace Go.Pw
open Go.RowKit
set_option linter.unusedVariables false

section
variable {X : Ctx} {g : Gh} {st : St} {a : Act} {w : World} {n : Nat} {K : Act → World → Prop} {Q : Exit → Act → World → Prop} {ρ : Option Nat}

theorem Same.at {σ σF : Nat → Option Row} (hs : Same σ σF) {l : Nat} {r : Row} (hp : ∃ r0, σ l = some r0) (hl : σF l = some r) :
    ∃ r0, σ l = some r0 ∧ r0.els = r.els ∧ r0.z = r.z ∧ r0.cl = r.cl := by
  obtain ⟨r0, h0⟩ := hp
  obtain ⟨r', h1, h2, h3, h4⟩ := hs l r0 h0
  rw [hl] at h1
  cases h1
  exact ⟨r0, h0, h2.symm, h3.symm, h4.symm⟩

/-- An operation that only looks. -/
theorem fin_look {o : Oper} {d : PV} (h : Sim X g st a w) (hnd : ∀ c, o.op ≠ .defer c) (hdst : ∀ t, o.dst = some t → t < X.N)
    (hv : ∃ u, (execOp a.eval o).run X.P w = .ok (.value u) w ∧ Rd w g.imm g.μ st.pres u d)
    (hK : ∀ g' a' w', Sim X g' ⟨putE st.env o.dst d, Eff.none.apply st.σ⟩ a' w' → K a' w') : o.wpIn (FX ρ) n X.P a w K Q := by
  obtain ⟨u, hr, hu⟩ := hv
  exact wpIn_value hnd hr (hK g _ w (h.put hdst hu))

theorem run_fieldPlace {P : Program} {T off : Nat} {f : Nat} {ft : TypeId} {b o : Nat} (ho : foff P T f = some (off, ft)) :
    (Instr.fieldAt T (.pointer (some ⟨b, o, none⟩)) f).run P w = .ok (.pointer (some ⟨b, o + off, none⟩)) w := by
  unfold foff at ho
  cases hu : P.underlying T with
  | none => rw [hu] at ho; cases ho
  | some D =>
    rw [hu] at ho
    cases D <;> first | (simp at ho; done) | skip
    rename_i fs
    simp only at ho
    cases hf : fs[f]? with
    | none => rw [hf] at ho; cases ho
    | some fd =>
      rw [hf] at ho
      simp only at ho
      cases hsz : tsize P fd.type with
      | none => rw [hsz] at ho; cases ho
      | some m =>
        rw [hsz] at ho
        cases m with
        | zero => cases ho
        | succ m =>
          simp only [Option.some.injEq, Prod.mk.injEq] at ho
          obtain ⟨rfl, rfl⟩ := ho
          simp only [Instr.fieldAt, Sem.run_bind, run_underlying hu, Result.andThen_ok, hf, Instr.sureAddr, fieldPlace, run_sizeOf' hsz]
          simp [addr_add]

theorem run_part {P : Program} {ft : TypeId} {cs : Array Value} {off n : Nat} (ha : tagg P ft = some true) (hs : tsize P ft = some n) :
    (part ft cs off).run P w = .ok (.agg (cs.extract off (off + n))) w := by
  simp only [part, Sem.run_bind, run_isAgg' ha, Result.andThen_ok, if_true, run_sizeOf' hs]
  rfl

theorem run_part1 {P : Program} {ft : TypeId} {cs : Array Value} {off : Nat} {v : Value} (ha : tagg P ft = some false) (hv : cs[off]? = some v) :
    (part ft cs off).run P w = .ok v w := by
  simp only [part, Sem.run_bind, run_isAgg' ha, Result.andThen_ok, Bool.false_eq_true, if_false, hv]
  rfl

theorem foff_inv {P : Program} {T off : Nat} {f : Nat} {ft : TypeId} (ho : foff P T f = some (off, ft)) :
    ∃ fs fd, P.underlying T = some (.struct fs) ∧ fs[f]? = some fd ∧ fd.offset = off ∧ fd.type = ft := by
  unfold foff at ho
  cases hu : P.underlying T with
  | none => rw [hu] at ho; cases ho
  | some D =>
    rw [hu] at ho
    cases D <;> first | (simp at ho; done) | skip
    rename_i fs
    simp only at ho
    cases hf : fs[f]? with
    | none => rw [hf] at ho; cases ho
    | some fd =>
      rw [hf] at ho
      simp only at ho
      cases hsz : tsize P fd.type with
      | none => rw [hsz] at ho; cases ho
      | some m =>
        rw [hsz] at ho
        cases m with
        | zero => cases ho
        | succ m =>
          simp only [Option.some.injEq, Prod.mk.injEq] at ho
          exact ⟨fs, fd, rfl, hf, ho.1, ho.2⟩

theorem telem_inv {P : Program} {T E : TypeId} (h : telem P T = some E) : P.underlying T = some (.slice E) := by
  unfold telem at h
  split at h <;> first | (cases h; assumption) | cases h
theorem tarr_inv {P : Program} {T E : TypeId} {m : Nat} (h : tarr P T = some (m, E)) : P.underlying T = some (.array m E) := by
  unfold tarr at h
  split at h <;> first | (cases h; assumption) | cases h
theorem tint_inv {P : Program} {T : TypeId} {k : IntKind} (h : tint P T = some k) : P.underlying T = some (.int k) := by
  unfold tint at h
  split at h <;> first | (cases h; assumption) | cases h

theorem run_ari {P : Program} {t : TypeId} {op : BinOp} {k : IntKind} {x y r : Int} (h : ariI k op x y = some r) : (binOp op t (.int k x) (.int k y)).run P w = .ok (.int k r) w := by
  cases op <;> simp only [ariI] at h <;> first | (cases h; done) | skip
  case add => cases h; simp [binOp, Op.intArith]
  case sub => cases h; simp [binOp, Op.intArith]
  case mul => cases h; simp [binOp, Op.intArith]
  case quo =>
    split at h
    · cases h
    · rename_i hy; cases h; simp [binOp, Op.intDiv, hy]
  case rem =>
    split at h
    · cases h
    · rename_i hy; cases h; simp [binOp, Op.intDiv, hy]

theorem run_cmp {P : Program} {t : TypeId} {op : BinOp} {k : IntKind} {x y : Int} {r : Bool} (h : cmpI op x y = some r) : (binOp op t (.int k x) (.int k y)).run P w = .ok (.bool r) w := by
  cases op <;> simp only [cmpI] at h <;> first | (cases h; done) | skip
  all_goals (cases h; simp [binOp, Op.intCmp])

theorem run_guard {P : Program} {op : BinOp} {t : TypeId} {x y : Operand} {v u : Value} (h : (∀ cs, v ≠ .agg cs) ∧ v ≠ .nilIface) : (eqGuard op t x y v u).run P w = .ok () w := by
  unfold eqGuard
  cases v <;> first | (exact absurd rfl (h.1 _)) | (exact absurd rfl h.2) | (cases op <;> rfl)

theorem run_bin {P : Program} {op : BinOp} {t : TypeId} {x y : Operand} {v u r : Value} (h : (∀ cs, v ≠ .agg cs) ∧ v ≠ .nilIface) (hb : (binOp op t v u).run P w = .ok r w) :
    (do pure (.value (← (do eqGuard op t x y v u; binOp op t v u : Sem Value))) : Sem Next).run P w = .ok (.value r) w :=
  run_v (by simp only [Sem.run_bind, run_guard h, Result.andThen_ok, hb])

theorem run_equal_bool {P : Program} {t : TypeId} {p q : Bool} (ht : P.underlying t = some .bool) : (Op.equal t (.bool p) (.bool q)).run P w = .ok (p == q) w := by
  have e : Op.maxDepth = 9999 + 1 := rfl
  unfold Op.equal
  rw [e]
  generalize 9999 = d
  rw [Op.equalIn, Sem.run_bind, run_underlying ht]
  rfl

theorem bind_one {α β : Type} {P : Program} {s : Sem α} {k : α → Sem β} {x : α} (h : s.run P w = .ok x w) : (s >>= k).run P w = (k x).run P w := by
  rw [Sem.run_bind, h]; rfl

end
end Go.Pw
