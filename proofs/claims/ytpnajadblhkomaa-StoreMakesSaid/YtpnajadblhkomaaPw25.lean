/-
  A round of a loop over a function, within the iterator; a call that runs in the caller's state.
-/
import Derived.Test.YtpnajadblhkomaaPw24
namespace Go.Pw
open Go.RowKit Go.Sh
set_option linter.unusedVariables false

/-- The parameters are set. -/
def setPs : List Tmp → List PV → (Nat → PV) → Nat → PV
  | p :: ps, d :: ds, f => setPs ps ds (upd f p d)
  | _, _, f => f

def asgQ (X2 X3 : Ctx) (body : Code) (Qb : PX → Ctx → St → Prop) : PX → Ctx → St → Prop
  | .normal, X', s => X' = X2 ∧ Pwp X3 body Qb s
  | _, _, _ => False

def rndQ (X3 : Ctx) (kT : St → Prop) (kF : Code → St → Prop) : PX → Ctx → St → Prop
  | .normal, X', s => X' = X3 ∧ kT s
  | .ret, X', s => X' = X3 ∧ kF .ret s
  | .exit id, X', s => X' = X3 ∧ kF (.exit id) s
  | .goto _, _, _ => False

def inlQ (P : Program) (Y : Ctx) (fn : Func) (k : PV → St → Prop) : PX → Ctx → St → Prop
  | .normal, X', s | .ret, X', s => X' = Y ∧ ∃ rs, ResL P s fn.results.toList rs ∧ k (tupOf rs) s
  | _, _, _ => False

section
variable {X : Ctx} {Q : PX → Ctx → St → Prop} {st : St} {g : Gh} {a : Act} {w : World}

theorem Sim.popO {N : Nat} {ρ : Option Nat} {st' : St} {a' : Act} {w0 : World} {o1 o2 : List (Nat × Obj)} (h0 : Sim X g st a w0) {g' : Gh} (h : Sim { X.over a N ρ with obs := o1 } g' st' a' w) (ho : ∀ p ∈ markObs a.defers ++ o2, p ∈ o1) : Sim { X with obs := o2 } g' ⟨popE st'.env, st'.σ⟩ a w := by
  refine ⟨h0.size, fun i => ?_, h.rows, h.disj, h.ownimm, h.immlt, h.immsub, h.immsup, h.below, ?_, fun p hp => h.obs p (ho p (List.mem_append_right _ hp)), h0.big, h.maps⟩
  · have := h.env (i + 1000000)
    have e1 : Ctx.val { X.over a N ρ with obs := o1 } a' (i + 1000000) = Ctx.val { X with obs := o2 } a i := by
      have q : ¬ i + 1000000 < 1000000 := by omega
      unfold Ctx.over
      rw [Ctx.val, if_neg q]
      simp only [Nat.add_sub_cancel]
      rfl
    rw [e1] at this
    exact this
  · obtain ⟨rs, h1, h2, h3⟩ := h0.marks
    refine ⟨rs, h1, h2, fun r hr => ⟨?_, (h3 r hr).2⟩⟩
    refine (h.obs (r, .deferred (some [])) (ho _ (List.mem_append_left _ ?_))).1
    rw [h2, markObs_map]
    exact List.mem_map.2 ⟨r, hr, rfl⟩

theorem foldPs_size : ∀ (l : List (Tmp × Value)) (tm : Array Value), (l.foldl (fun tmps (t, a) => tmps.setIfInBounds t a) tm).size = tm.size
  | [], tm => rfl
  | p :: l, tm => by
    rw [List.foldl_cons, foldPs_size l]
    simp

theorem foldPs_rd {w : World} {imm : Nat → Nat → Prop} {μ : Nat → RLoc} {pres : Nat → Prop} : ∀ (ps : List Tmp) (vs : List Value) (ds : List PV) (tm : Array Value) (f : Nat → PV), vs.length = ds.length → (∀ (i : Nat) v d, vs[i]? = some v → ds[i]? = some d → Rd w imm μ pres v d) →
    (∀ p ∈ ps, p < tm.size) → (∀ i, i < 1000000 → Rd w imm μ pres (tm.getD i undef) (f i)) → ∀ i, i < 1000000 → Rd w imm μ pres (((ps.zip vs).foldl (fun tmps (t, a) => tmps.setIfInBounds t a) tm).getD i undef) (setPs ps ds f i)
  | [], _, ds, tm, f, _, _, _, h => by
    cases ds <;> exact h
  | p :: ps, [], [], tm, f, _, _, _, h => h
  | p :: ps, [], _ :: _, tm, f, hn, _, _, h => by cases hn
  | p :: ps, _ :: _, [], tm, f, hn, _, _, h => by cases hn
  | p :: ps, v :: vs, d :: ds, tm, f, hn, hv, hp, h => by
    have ih := foldPs_rd ps vs ds (tm.setIfInBounds p v) (upd f p d) (by simpa using hn) (fun i v' d' h1 h2 => hv (i + 1) v' d' (by simpa using h1) (by simpa using h2)) (fun q hq => by
      simp only [Array.size_setIfInBounds]
      exact hp q (List.mem_cons_of_mem _ hq)) (fun i hi => by
      unfold upd
      by_cases e : i = p
      · subst e
        have := hp i (List.mem_cons_self ..)
        rw [if_pos rfl]
        simp only [Array.getD_eq_getD_getElem?, Array.getElem?_setIfInBounds, if_true, this]
        exact hv 0 v d rfl rfl
      · rw [if_neg e]
        simp only [Array.getD_eq_getD_getElem?, Array.getElem?_setIfInBounds, if_neg (Ne.symm e)]
        rw [← Array.getD_eq_getD_getElem?]
        exact h i hi)
    exact ih

theorem exec_yield {P : Program} {o : Oper} {x : Operand} {args : Array Operand} {ts : Array TypeId} {l : Nat} {r : Loop} (ho : o.op = .call { callee := .value x, args, argTypes := ts }) (hx : a.eval x = .func (.yield l) #[] #[]) (h : w.heap[l]? = some (.loop r)) (hs : args.size = r.params.size) :
    (execOp a.eval o).run P w = .ok (.round l r.fn ((r.params.zip (args.map a.eval)).foldl (fun tmps (t, a) => tmps.setIfInBounds t a) r.tmps) r.assign r.body) w := by
  obtain ⟨dst, op, ty, pos, after, guard⟩ := o
  simp only at ho
  subst ho
  simp only [execOp, resolve, hx, Deferred.ofValue, Sem.run_bind, Sem.run_pure, Result.andThen_ok, invoke]
  have := run_yield (P := P) (args := args.map a.eval) h (by simpa using hs)
  simpa using this
end

section
variable {X : Ctx} {ops : Array Oper} {i : Nat} {os : List Oper} {K : Ctx → St → Prop} {env : Nat → PV} {σ : Nat → Option Row} {ty : TypeId} {pos : String} {after : Array Edge} {gd : Option (Nat × Bool)} {t : Tmp}

/-- What one operation comes to. -/
def Opq (X : Ctx) (ops : Array Oper) (i : Nat) (K : Ctx → St → Prop) (st : St) : Prop :=
  dstOK X.N ops = true → ∀ (n : Nat) (g : Gh) (a : Act) (w : World) (next : Act → World → Prop) (Qo : Exit → Act → World → Prop), Sim X g st a w →
    (∀ X' g' s' a' w', Sim X' g' s' a' w' → (X'.P = X.P ∧ X'.ρ = X.ρ) ∧ X'.N = X.N → K X' s' → next a' w') → wpOpIn (FX X.ρ) n X.P ops Qo i next a w

theorem sq_of_opq {o : Oper} {st : St} (h : Opq X ops i (fun X' s => Sq X' ops (i + 1) os K s) st) : Sq X ops i (o :: os) K st := fun hd hi n g a w Qo hs hq => by
  have e : List.range' i (o :: os).length = i :: List.range' (i + 1) os.length := rfl
  rw [e, wpOpsIn_cons]
  refine h hd n g a w _ Qo hs fun X' g' s' a' w' hs' hX k => ?_
  have := k (by rw [hX.2]; exact hd) (fun j => by have := hi (j + 1); simpa [Nat.add_assoc, Nat.add_comm 1 j] using this) n g' a' w' Qo hs' fun X2 g2 s2 a2 w2 h2 hX2 => hq X2 g2 s2 a2 w2 h2 ⟨hX2.1.trans hX.1.1, hX2.2.trans hX.1.2⟩
  rw [hX.1.1, hX.1.2] at this
  exact this

theorem sq_of_opq' {o : Oper} {st : St} (h : ops[i]? = some o → Opq X ops i (fun X' s => Sq X' ops (i + 1) os K s) st) : Sq X ops i (o :: os) K st := fun hd hi => by
  have ho := hi 0
  simp only [List.getElem?_cons_zero, Nat.add_zero] at ho
  exact sq_of_opq (h ho.symm) hd hi

/-- A round. -/
theorem y_yield0 {N0 : Nat} {ps : Array Tmp} {assign body : Code} {l : Nat} {args : Array Operand} {ts : Array TypeId} {x : Operand} {ds : List PV} (ho : ops[i]? = some ⟨some t, .call { callee := .value x, args, argTypes := ts }, ty, pos, after, gd⟩) (hR : Ran X N0 ps assign body l) (hw : wantP ops env ⟨some t, .call { callee := .value x, args, argTypes := ts }, ty, pos, after, gd⟩ = some true)
    (hf : evP env x = .fn (.yield l) []) (ha : args.toList.map (evP env) = ds) (hps : args.size = ps.size) (hpn : (ps.toList.all fun p => decide (p < N0)) = true) (hcalm : X.calm = true)
    (h : ∀ e2 o2 o3, Pwp { P := X.P, N := N0, ρ := some l, w0 := X.w0, imm0 := X.imm0, ext := e2, obs := o2, calm := true } assign
      (asgQ { P := X.P, N := N0, ρ := some l, w0 := X.w0, imm0 := X.imm0, ext := e2, obs := o2, calm := true } { P := X.P, N := N0, ρ := some l, w0 := X.w0, imm0 := X.imm0, ext := e2, obs := o3, calm := true } body
        (rndQ { P := X.P, N := N0, ρ := some l, w0 := X.w0, imm0 := X.imm0, ext := e2, obs := o3, calm := true } (fun s => K X ⟨upd (popE s.env) t (.bool true), s.σ⟩) (fun c s => K (X.done c) ⟨upd (popE s.env) t (.bool false), s.σ⟩)))
      ⟨pushE (setPs ps.toList ds (popE env)) env, σ⟩) (hN : N0 ≤ 1000000 := by exact Nat.le_of_ble_eq_true rfl) :
    Opq X ops i K ⟨env, σ⟩ := by
  intro hd n g a w next Qo hs hq
  unfold wpOpIn
  rw [ho]
  simp only
  rw [if_pos (want_sound hs hw)]
  obtain ⟨⟨tm, fid, D, os', hobs, hne, htz, hext⟩, hlo⟩ := hR
  have hdef : a.defers = [] := hs.big.2 hcalm
  have hL := (hs.obs (l, .loop (recR fid tm ps assign body D)) (by rw [hobs]; exact List.mem_cons_self ..)).1
  have hxv := hs.eval x
  rw [show evP (St.env ⟨env, σ⟩) x = .fn (.yield l) [] from hf] at hxv
  obtain ⟨vs0, e0, hn0, _⟩ := fn_inv hxv
  have : vs0 = #[] := by
    have : vs0.size = 0 := by simpa using hn0
    exact Array.size_eq_zero_iff.1 this
  subst this
  refine ⟨fun _ _ => trivial, ?_⟩
  rw [Oper.semAt_eq _ _ _ (fun c q => by cases q), exec_yield rfl e0 hL hps]
  refine ⟨fun q => by simp [FX] at q, ?_⟩
  refine roundIn_of_wpIn (F := FX X.ρ) trivial ?_
  show assign.wpIn (FX (some l)) (n - 1) X.P _ _ w
  -- the round's temporaries
  have hrd : ∀ (j : Nat) v d, (args.toList.map a.eval)[j]? = some v → ds[j]? = some d → Rd w g.imm g.μ (St.pres ⟨env, σ⟩) v d := by
    intro j v d hv hd'
    subst ha
    rw [List.getElem?_map] at hv hd'
    cases hx : args.toList[j]? with
    | none => rw [hx] at hv; cases hv
    | some y =>
      rw [hx] at hv hd'
      cases hv
      cases hd'
      exact hs.eval y
  have hbase : ∀ j, j < 1000000 → Rd w g.imm g.μ (St.pres ⟨env, σ⟩) (tm.getD j undef) (popE env j) := fun j hj => by
    have := hs.env (j + 1000000)
    rw [Ctx.val, if_neg (by omega), hext j hj] at this
    exact this
  have hzip : (ps.zip (args.map a.eval)).foldl (fun tmps (t, a) => tmps.setIfInBounds t a) tm = (ps.toList.zip (args.toList.map a.eval)).foldl (fun tmps (t, a) => tmps.setIfInBounds t a) tm := by
    rw [← Array.foldl_toList, Array.toList_zip, Array.toList_map]
  have hsz : ((ps.zip (args.map a.eval)).foldl (fun tmps (t, a) => tmps.setIfInBounds t a) tm).size = N0 := by rw [hzip, foldPs_size, htz]
  have s1 := hs.push (N := N0) (some l) (tmps := (ps.zip (args.map a.eval)).foldl (fun tmps (t, a) => tmps.setIfInBounds t a) tm) (top := setPs ps.toList ds (popE env)) hN hsz (fun j hj => by
    rw [hzip]
    refine foldPs_rd ps.toList _ ds tm _ (by rw [← ha]; simp) hrd (fun p hp => ?_) hbase j hj
    rw [htz]
    have := List.all_eq_true.1 hpn p hp
    simpa using this)
  generalize hX2 : X.over a N0 (some l) = X2 at s1
  have hX2e : X2 = { P := X.P, N := N0, ρ := some l, w0 := X.w0, imm0 := X.imm0, ext := X2.ext, obs := X2.obs, calm := true } := by
    rw [← hX2]; simp only [Ctx.over]
  have hX2o : X2.obs = (l, .loop (recR fid tm ps assign body D)) :: os' := by
    rw [← hX2]; simp only [Ctx.over]; rw [hdef, hobs]; rfl
  have h1 := h X2.ext X2.obs ((l, .loop { recR fid tm ps assign body D with state := .busy }) :: os')
  rw [← hX2e] at h1
  have hX3e : ({ P := X.P, N := N0, ρ := some l, w0 := X.w0, imm0 := X.imm0, ext := X2.ext, obs := (l, .loop { recR fid tm ps assign body D with state := .busy }) :: os', calm := true } : Ctx) = { X2 with obs := (l, .loop { recR fid tm ps assign body D with state := .busy }) :: os' } := by
    rw [hX2e]
  rw [hX3e] at h1
  generalize hX3 : ({ X2 with obs := (l, .loop { recR fid tm ps assign body D with state := .busy }) :: os' } : Ctx) = X3 at h1
  have hX3o : X3.obs = (l, .loop { recR fid tm ps assign body D with state := .busy }) :: os' := by rw [← hX3]
  have hX2ρ : X2.ρ = some l := by rw [hX2e]
  have hX2P : X2.P = X.P := by rw [hX2e]
  have hX3ρ : X3.ρ = some l := by rw [← hX3, hX2ρ]
  have hX3P : X3.P = X.P := by rw [← hX3, hX2P]
  have hX2w : X2.w0 = X.w0 := by rw [hX2e]
  have hX3w : X3.w0 = X.w0 := by rw [← hX3, hX2w]
  have w1 := h1 (n - 1) g _ w s1
  rw [hX2ρ, hX2P] at w1
  refine wpIn_mono w1 fun ex a1 w1 q => ?_
  cases ex <;> simp only [lift, asgQ, Exit.then] at q ⊢ <;> first | (obtain ⟨_, _, _, _, _, q⟩ := q; exact q.elim) | exact q.elim | skip
  obtain ⟨X', g1, t1, hs1, _, rfl, hb⟩ := q
  have hL1 := (hs1.obs _ (by rw [hX2o]; exact List.mem_cons_self ..)).1
  refine ⟨_, run_beginRound hL1 rfl, ?_⟩
  have hs2 := hs1.turn (o' := .loop { recR fid tm ps assign body D with state := .busy }) hL1 rfl rfl rfl (by rw [hX2w]; exact hlo) (fun q => by cases q) (obs := (l, .loop { recR fid tm ps assign body D with state := .busy }) :: os') (fun p hp => by
    rcases List.mem_cons.1 hp with rfl | hp
    · exact .inl rfl
    · exact .inr ⟨hne p hp, by rw [hX2o]; exact List.mem_cons_of_mem _ hp⟩)
  rw [hX3] at hs2
  have w2 := hb (n - 1) _ _ _ hs2
  rw [hX3ρ, hX3P] at w2
  refine wpIn_mono w2 fun ex a2 w3 q => ?_
  have hLB : ∀ g2 t2, Sim X3 g2 t2 a2 w3 → w3.heap[l]? = some (.loop { recR fid tm ps assign body D with state := .busy }) := fun g2 t2 hs3 => (hs3.obs _ (by rw [hX3o]; exact List.mem_cons_self ..)).1
  -- back in the iterator
  have back : ∀ (g2 : Gh) (t2 : St) (r : Loop), Sim X3 g2 t2 a2 w3 → Sim { X with obs := (l, .loop r) :: os' } g2 ⟨popE t2.env, t2.σ⟩ a (w3.putObj l (.loop r)) := by
    intro g2 t2 r hs3
    have s4 := hs3.turn (o' := .loop r) (hLB g2 t2 hs3) rfl rfl rfl (by rw [hX3w]; exact hlo) (fun q => by cases q) (obs := (l, .loop r) :: os') (fun p hp => by
      rcases List.mem_cons.1 hp with rfl | hp
      · exact .inl rfl
      · exact .inr ⟨hne p hp, by rw [hX3o]; exact List.mem_cons_of_mem _ hp⟩)
    have e4 : ({ X3 with obs := (l, .loop r) :: os' } : Ctx) = { X.over a N0 (some l) with obs := (l, .loop r) :: os' } := by rw [← hX3, ← hX2]
    rw [e4] at s4
    exact hs.popO s4 (fun p hp => by rw [hdef] at hp; simpa [markObs] using hp)
  have kF : ∀ (c : Code) (g2 : Gh) (t2 : St), Sim X3 g2 t2 a2 w3 → K (X.done c) ⟨upd (popE t2.env) t (.bool false), t2.σ⟩ → ∃ v w', (Instr.endRound l (some c)).run X.P w3 = .ok v w' ∧ next (a.put (some t) v) w' := by
    intro c g2 t2 hs3 hk
    refine ⟨_, _, run_endRound (some c) (hLB g2 t2 hs3), ?_⟩
    have s5 := back g2 t2 { recR fid tm ps assign body D with state := .done, pending := some c } hs3
    have e5 : X.done c = { X with obs := (l, .loop { recR fid tm ps assign body D with state := .done, pending := some c }) :: os' } := by
      unfold Ctx.done; rw [hobs]; rfl
    rw [← e5] at s5
    have hdst : ∀ u, (some t : Option Tmp) = some u → u < (X.done c).N := dstOK_spec hd ho
    exact hq _ _ _ _ _ (s5.put hdst (.cl (.bool false))) ⟨⟨rfl, rfl⟩, rfl⟩ hk
  cases ex <;> simp only [lift, rndQ, roundPost] at q ⊢ <;> first
    | (obtain ⟨X', g2, t2, hs3, _, rfl, hk⟩ := q; exact kF _ g2 t2 hs3 hk)
    | (obtain ⟨_, _, _, _, _, q⟩ := q; exact q.elim)
    | exact q.elim
    | skip
  obtain ⟨X', g2, t2, hs3, _, rfl, hk⟩ := q
  refine ⟨_, _, run_endRound none (hLB g2 t2 hs3), ?_⟩
  have s5 := back g2 t2 (recR fid tm ps assign body D) hs3
  have e5 : ({ X with obs := (l, .loop (recR fid tm ps assign body D)) :: os' } : Ctx) = X := by rw [← hobs]
  rw [e5] at s5
  exact hq _ _ _ _ _ (s5.put (dstOK_spec hd ho) (.cl (.bool true))) ⟨⟨rfl, rfl⟩, rfl⟩ hk

/-- A round. -/
theorem y_yield {N0 : Nat} {ps : Array Tmp} {assign body : Code} {l : Nat} {args : Array Operand} {ts : Array TypeId} {x : Operand} {ds : List PV} (hR : Ran X N0 ps assign body l) (hw : wantP ops env ⟨some t, .call { callee := .value x, args, argTypes := ts }, ty, pos, after, gd⟩ = some true)
    (hf : evP env x = .fn (.yield l) []) (ha : args.toList.map (evP env) = ds) (hps : args.size = ps.size) (hpn : (ps.toList.all fun p => decide (p < N0)) = true) (hcalm : X.calm = true)
    (h : ∀ e2 o2 o3, Pwp { P := X.P, N := N0, ρ := some l, w0 := X.w0, imm0 := X.imm0, ext := e2, obs := o2, calm := true } assign
      (asgQ { P := X.P, N := N0, ρ := some l, w0 := X.w0, imm0 := X.imm0, ext := e2, obs := o2, calm := true } { P := X.P, N := N0, ρ := some l, w0 := X.w0, imm0 := X.imm0, ext := e2, obs := o3, calm := true } body
        (rndQ { P := X.P, N := N0, ρ := some l, w0 := X.w0, imm0 := X.imm0, ext := e2, obs := o3, calm := true } (fun s => Sq X ops (i + 1) os K ⟨upd (popE s.env) t (.bool true), s.σ⟩) (fun c s => Sq (X.done c) ops (i + 1) os K ⟨upd (popE s.env) t (.bool false), s.σ⟩)))
      ⟨pushE (setPs ps.toList ds (popE env)) env, σ⟩) (hN : N0 ≤ 1000000 := by exact Nat.le_of_ble_eq_true rfl) :
    Sq X ops i (⟨some t, .call { callee := .value x, args, argTypes := ts }, ty, pos, after, gd⟩ :: os) K ⟨env, σ⟩ := sq_of_opq' fun ho => y_yield0 ho hR hw hf ha hps hpn hcalm h hN

/-- A call that runs in the caller's state. -/
theorem y_inl0 {args : Array Operand} {ts : Array TypeId} {x : Operand} {gf : FuncId} {cap ds : List PV} {fn : Func} {c : Code} {N1 : Nat} (ho : ops[i]? = some ⟨some t, .call { callee := .value x, args, argTypes := ts }, ty, pos, after, gd⟩) (hw : wantP ops env ⟨some t, .call { callee := .value x, args, argTypes := ts }, ty, pos, after, gd⟩ = some true)
    (hf : evP env x = .fn (.func gf) cap) (hk : X.P.funcs[gf]? = some fn) (hb : fn.body = some c) (hname' : Callable X.P gf) (hN : fn.ntmps = N1) (ha : args.toList.map (evP env) ++ cap = ds) (hn : ds.length ≤ N1)
    (h : ∀ e1 o1, Pwp { P := X.P, N := N1, ρ := none, w0 := X.w0, imm0 := X.imm0, ext := e1, obs := o1, calm := true } c
      (inlQ X.P { P := X.P, N := N1, ρ := none, w0 := X.w0, imm0 := X.imm0, ext := e1, obs := o1, calm := true } fn (fun d s => K X ⟨upd (popE s.env) t d, s.σ⟩)) ⟨pushE (initEnv ds) env, σ⟩) (h6 : N1 ≤ 1000000 := by exact Nat.le_of_ble_eq_true rfl) :
    Opq X ops i K ⟨env, σ⟩ := by
  intro hd n g a w next Qo hs hq
  obtain ⟨fn2, c2, hf2, _, hname⟩ := hname'
  rw [hk] at hf2
  cases hf2
  unfold wpOpIn
  rw [ho]
  simp only
  rw [if_pos (want_sound hs hw)]
  have hv := hs.eval x
  rw [show evP (St.env ⟨env, σ⟩) x = .fn (.func gf) cap from hf] at hv
  obtain ⟨vs, e0, hnv, hcap⟩ := fn_inv hv
  have hexec := exec_call (P := X.P) (w := w) (o := ⟨some t, .call { callee := .value x, args, argTypes := ts }, ty, pos, after, gd⟩) rfl e0 ⟨fn, c, hk, hb, hname⟩
  refine ⟨fun _ _ => trivial, ?_⟩
  rw [Oper.semAt_eq _ _ _ (fun c q => by cases q), hexec]
  refine ⟨fun q => by simp [FX] at q, ?_⟩
  obtain ⟨av, hav⟩ : ∃ av : Array Value, av = args.map a.eval ++ vs := ⟨_, rfl⟩
  rw [← hav]
  have hz : av.size = ds.length := by rw [hav, ← ha]; simp [hnv]
  have hrd : ∀ (j : Nat) v d, av[j]? = some v → ds[j]? = some d → Rd w g.imm g.μ (St.pres ⟨env, σ⟩) v d := by
    intro j v d hv hd'
    subst hav; subst ha
    rcases Nat.lt_or_ge j args.size with q | q
    · rw [Array.getElem?_append_left (by simpa using q), Array.getElem?_map] at hv
      rw [List.getElem?_append_left (by simpa using q), List.getElem?_map] at hd'
      cases hx : args[j]? with
      | none => rw [hx] at hv; cases hv
      | some y =>
        have hx' : args.toList[j]? = some y := by simpa using hx
        rw [hx] at hv
        rw [hx'] at hd'
        cases hv
        cases hd'
        exact hs.eval y
    · rw [Array.getElem?_append_right (by simpa using q)] at hv
      rw [List.getElem?_append_right (by simpa using q)] at hd'
      exact hcap _ v d hv (by simpa using hd')
  have s1 := hs.push (N := N1) none (tmps := av ++ Array.replicate (fn.ntmps - av.size) undef) (top := initEnv ds) h6 (by
      simp only [Array.size_append, Array.size_replicate]
      omega) (fun i _ => rd_init hz hrd _ i)
  generalize hY : X.over a N1 none = Y at s1
  have hYe : Y = { P := X.P, N := N1, ρ := none, w0 := X.w0, imm0 := X.imm0, ext := Y.ext, obs := Y.obs, calm := true } := by
    rw [← hY]; simp only [Ctx.over]
  have h1 := h Y.ext Y.obs
  rw [← hYe] at h1
  have hYρ : Y.ρ = none := by rw [hYe]
  have hYP : Y.P = X.P := by rw [hYe]
  have hYc : Y.calm = true := by rw [hYe]
  have w1 := h1 (n - 1) g _ w s1
  rw [hYρ, hYP] at w1
  have hc : CallsIn (FX none) (n - 1) X.P gf av w fun e w'' => ∃ v, e = .returned v ∧ next (a.put (some t) v) w'' := by
    refine callsIn_of_wp_marks hk hb trivial ?_ rfl
    refine wpIn_mono w1 fun ex a1 w1 q => ?_
    have key : ∀ X' g1 t1, Sim X' g1 t1 a1 w1 → (X' = Y ∧ ∃ rs, ResL X.P t1 fn.results.toList rs ∧ K X ⟨upd (popE t1.env) t (tupOf rs), t1.σ⟩) → LeavesInM (FX none) (n - 1) X.P fn a1.tmps (fun e w'' => ∃ v, e = .returned v ∧ next (a.put (some t) v) w'') a1.defers .returning w1 := by
      rintro X' g1 t1 hs1 ⟨rfl, rs, hr, hk'⟩
      rw [hs1.big.2 hYc]
      rw [← hYP] at hr
      obtain ⟨v, hrun, hvr⟩ := res_all hs1 hr
      rw [hYP] at hrun
      refine ⟨v, hrun, v, rfl, ?_⟩
      rw [← hY] at hs1
      have s2 := hs.pop hs1
      exact hq _ _ _ _ _ (s2.put (dstOK_spec hd ho) hvr) ⟨⟨rfl, rfl⟩, rfl⟩ hk'
    cases ex <;> simp only [lift, inlQ, bodyPostM] at q ⊢ <;> first
      | (obtain ⟨X', g1, t1, h1, _, h2⟩ := q; exact key X' g1 t1 h1 h2)
      | (obtain ⟨X', g1, t1, h1, _, h2⟩ := q; exact h2.elim)
      | exact q.elim
  have hc2 : CallsIn (FX X.ρ) (n - 1) X.P gf av w fun e w'' => ∃ v, e = .returned v ∧ next (a.put (some t) v) w'' := hc
  refine hc2.mono fun e w'' hr => ?_
  obtain ⟨v, rfl, hk⟩ := hr
  exact hk

/-- A call that runs in the caller's state. -/
theorem y_inl {args : Array Operand} {ts : Array TypeId} {x : Operand} {gf : FuncId} {cap ds : List PV} {fn : Func} {c : Code} {N1 : Nat} (hw : wantP ops env ⟨some t, .call { callee := .value x, args, argTypes := ts }, ty, pos, after, gd⟩ = some true)
    (hf : evP env x = .fn (.func gf) cap) (hk : X.P.funcs[gf]? = some fn) (hb : fn.body = some c) (hname' : Callable X.P gf) (hN : fn.ntmps = N1) (ha : args.toList.map (evP env) ++ cap = ds) (hn : ds.length ≤ N1)
    (h : ∀ e1 o1, Pwp { P := X.P, N := N1, ρ := none, w0 := X.w0, imm0 := X.imm0, ext := e1, obs := o1, calm := true } c
      (inlQ X.P { P := X.P, N := N1, ρ := none, w0 := X.w0, imm0 := X.imm0, ext := e1, obs := o1, calm := true } fn (fun d s => Sq X ops (i + 1) os K ⟨upd (popE s.env) t d, s.σ⟩)) ⟨pushE (initEnv ds) env, σ⟩) (h6 : N1 ≤ 1000000 := by exact Nat.le_of_ble_eq_true rfl) :
    Sq X ops i (⟨some t, .call { callee := .value x, args, argTypes := ts }, ty, pos, after, gd⟩ :: os) K ⟨env, σ⟩ := sq_of_opq' fun ho => y_inl0 ho hw hf hk hb hname' hN ha hn h h6
end

section
variable {X : Ctx} {Q : PX → Ctx → St → Prop} {st : St}

/-- The ends of a piece of code come together. -/
theorem pw_jnE {J R : Type} {x : Code} {κ : J → Option R} {r : R} (F : J → St) (hk : ∀ j, κ j = some r → Q .normal X (F j)) (hx : Pwp X x (thenQ (fun X' s => X' = X ∧ ∃ j, κ j = some r ∧ Wk s (F j)) Q) st) : Pwp X x Q st := fun n g a w hs => wpIn_mono (hx n g a w hs) fun e a' w' q => by
  cases e <;> simp only [lift, thenQ] at q ⊢ <;> first | exact q | skip
  obtain ⟨X', g', st', h1, h3, rfl, j, h4, h5⟩ := q
  obtain ⟨g2, h6⟩ := h5 X' g' a' w' h1
  exact ⟨X', g2, _, h6, h3, hk j h4⟩

def endQ (K : Ctx → St → Prop) : PX → Ctx → St → Prop
  | .normal, X, s | .ret, X, s => K X s
  | _, _, _ => False

/-- .. and those by return. -/
theorem pw_jnR {J R : Type} {x : Code} {κ : J → Option R} {r : R} (F : J → St) (hk : ∀ j, κ j = some r → Q .normal X (F j) ∧ Q .ret X (F j)) (hx : Pwp X x (endQ (fun X' s => X' = X ∧ ∃ j, κ j = some r ∧ Wk s (F j))) st) : Pwp X x Q st := fun n g a w hs => wpIn_mono (hx n g a w hs) fun e a' w' q => by
  cases e <;> simp only [lift, endQ] at q ⊢ <;> first | (obtain ⟨X', g', st', h1, h3, h4⟩ := q; exact h4.elim) | exact q | skip
  all_goals
    obtain ⟨X', g', st', h1, h3, rfl, j, h4, h5⟩ := q
    obtain ⟨g2, h6⟩ := h5 X' g' a' w' h1
    first | exact ⟨X', g2, _, h6, h3, (hk j h4).1⟩ | exact ⟨X', g2, _, h6, h3, (hk j h4).2⟩

theorem dup {p q : Prop} (h : p) (e : p = q := by rfl) : p ∧ q := ⟨h, e ▸ h⟩
end
end Go.Pw
