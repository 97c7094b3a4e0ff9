/-
  Code, and functions.
-/
import Derived.Test.YtpnajadblhkomaaPw16
import Derived.RangeFuncLeaves
namespace Go.Pw
open Go.RowKit
set_option linter.unusedVariables false

inductive PX where
  | normal
  | exit (id : Nat)
  | goto (l : Nat)
  | ret

def lift (X : Ctx) (Q : PX → Ctx → St → Prop) : Exit → Act → World → Prop
  | .normal, a, w => ∃ X' g st, Sim X' g st a w ∧ (X'.P = X.P ∧ X'.ρ = X.ρ) ∧ Q .normal X' st
  | .exit id, a, w => ∃ X' g st, Sim X' g st a w ∧ (X'.P = X.P ∧ X'.ρ = X.ρ) ∧ Q (.exit id) X' st
  | .goto l, a, w => ∃ X' g st, Sim X' g st a w ∧ (X'.P = X.P ∧ X'.ρ = X.ρ) ∧ Q (.goto l) X' st
  | .ret, a, w => ∃ X' g st, Sim X' g st a w ∧ (X'.P = X.P ∧ X'.ρ = X.ρ) ∧ Q .ret X' st
  | .panic _, _, _ => False
  | .outgrown, _, _ => False

/-- From the state, the code comes to what is asked. -/
def Pwp (X : Ctx) (c : Code) (Q : PX → Ctx → St → Prop) (st : St) : Prop := ∀ (n : Nat) (g : Gh) (a : Act) (w : World), Sim X g st a w → c.wpIn (FX X.ρ) n X.P (lift X Q) a w

section
variable {X : Ctx} {Q : PX → Ctx → St → Prop} {st : St}

theorem Pwp.mono {c : Code} {Q' : PX → Ctx → St → Prop} (h : Pwp X c Q st) (hq : ∀ e X' s, Q e X' s → Q' e X' s) : Pwp X c Q' st := fun n g a w hs => wpIn_mono (h n g a w hs) fun e a' w' q => by
  cases e <;> simp only [lift] at q ⊢ <;> first | exact q | (obtain ⟨X', g', st', h1, h3, h2⟩ := q; exact ⟨X', g', st', h1, h3, hq _ _ _ h2⟩)

theorem pw_skip (h : Q .normal X st) : Pwp X .skip Q st := fun n g a w hs => wpIn_skip ⟨X, g, st, hs, ⟨rfl, rfl⟩, h⟩
theorem pw_label {l : Nat} (h : Q .normal X st) : Pwp X (.label l) Q st := fun n g a w hs => wpIn_label ⟨X, g, st, hs, ⟨rfl, rfl⟩, h⟩
theorem pw_exit {id : Nat} (h : Q (.exit id) X st) : Pwp X (.exit id) Q st := fun n g a w hs => wpIn_exit ⟨X, g, st, hs, ⟨rfl, rfl⟩, h⟩
theorem pw_goto {l : Nat} (h : Q (.goto l) X st) : Pwp X (.goto l) Q st := fun n g a w hs => wpIn_goto ⟨X, g, st, hs, ⟨rfl, rfl⟩, h⟩
theorem pw_ret (h : Q .ret X st) : Pwp X .ret Q st := fun n g a w hs => wpIn_ret ⟨X, g, st, hs, ⟨rfl, rfl⟩, h⟩

def thenQ (N : Ctx → St → Prop) (Q : PX → Ctx → St → Prop) : PX → Ctx → St → Prop
  | .normal, X, s => N X s
  | e, X, s => Q e X s

theorem lift_of {X X' : Ctx} (h : X'.P = X.P ∧ X'.ρ = X.ρ) : lift X' Q = lift X Q := by
  funext e a w
  cases e <;> simp only [lift, h.1, h.2]

theorem pw_seq {x y : Code} (h : Pwp X x (thenQ (fun X' => Pwp X' y Q) Q) st) : Pwp X (.seq x y) Q st := fun n g a w hs => wpIn_seq (wpIn_mono (h n g a w hs) fun e a' w' q => by
  cases e <;> simp only [lift, thenQ, Exit.then] at q ⊢ <;> first | exact q | (
    obtain ⟨X', g', st', h1, h3, h2⟩ := q
    have := h2 n g' a' w' h1
    rw [lift_of h3, h3.1, h3.2] at this
    exact this))

theorem pw_cond {c : Operand} {x y : Code} (b : Bool) (hc : evP st.env c = .bool b) (hx : b = true → Pwp X x Q st) (hy : b = false → Pwp X y Q st) : Pwp X (.cond c x y) Q st := fun n g a w hs => by
  have hv := hs.eval c
  rw [hc] at hv
  refine wpIn_cond hv.bool_inv ?_
  cases b
  · exact hy rfl n g a w hs
  · exact hx rfl n g a w hs

def blockQ (id : Nat) (Q : PX → Ctx → St → Prop) : PX → Ctx → St → Prop
  | .exit id', X, s => if id' = id then Q .normal X s else Q (.exit id') X s
  | e, X, s => Q e X s

theorem pw_block {id : Nat} {c : Code} (h : Pwp X c (blockQ id Q) st) : Pwp X (.block id c) Q st := fun n g a w hs => wpIn_block (wpIn_mono (h n g a w hs) fun e a' w' q => by
  cases e <;> simp only [lift, blockQ, Exit.inBlock] at q ⊢ <;> first
    | exact q
    | (obtain ⟨X', g', st', h1, h3, h2⟩ := q
       split
       · rename_i e; rw [if_pos e] at h2; exact ⟨X', g', st', h1, h3, h2⟩
       · rename_i e; rw [if_neg e] at h2; exact ⟨X', g', st', h1, h3, h2⟩))

theorem exists_least {p : Nat → Prop} (h : ∃ m, p m) : ∃ m, p m ∧ ∀ k, p k → m ≤ k := by
  obtain ⟨m, hm⟩ := h
  induction m using Nat.strongRecOn with
  | _ m ih =>
    by_cases q : ∃ k, k < m ∧ p k
    · obtain ⟨k, h1, h2⟩ := q
      exact ih k h1 h2
    · exact ⟨m, hm, fun k hk => Nat.le_of_not_lt fun h => q ⟨k, h, hk⟩⟩

/-- A loop: what holds at the head of every round, and a number that goes down. -/
theorem pw_loop {c : Code} (I : Nat → St → Prop) {m : Nat} (h0 : I m st) (hr : ∀ m s, I m s → Pwp X c (thenQ (fun X' s' => X' = X ∧ ∃ m', m' < m ∧ I m' s') Q) s) : Pwp X (.loop c) Q st := by
  intro n g a w hs
  -- the least number that serves
  have least : ∀ a w, ∃ k, (∃ m g s, Sim X g s a w ∧ I m s) → (∃ g s, Sim X g s a w ∧ I k s) ∧ ∀ m, (∃ g s, Sim X g s a w ∧ I m s) → k ≤ m := by
    intro a w
    by_cases q : ∃ m g s, Sim X g s a w ∧ I m s
    · obtain ⟨k, h1, h2⟩ := exists_least (p := fun m => ∃ g s, Sim X g s a w ∧ I m s) q
      exact ⟨k, fun _ => ⟨h1, h2⟩⟩
    · exact ⟨0, fun h => absurd h q⟩
  refine wpIn_loop (fun a w => ∃ m g s, Sim X g s a w ∧ I m s) (fun a w => Classical.choose (least a w)) ⟨m, g, st, hs, h0⟩ ?_
  rintro a w hI
  obtain ⟨⟨g1, s1, hs1, hI1⟩, _⟩ := Classical.choose_spec (least a w) hI
  refine wpIn_mono (hr _ s1 hI1 n g1 a w hs1) fun e a' w' q => ?_
  cases e <;> simp only [lift, thenQ, Exit.then] at q ⊢ <;> first | exact q | skip
  obtain ⟨X', g', st', h1, _, hX, m', hlt, h2⟩ := q
  rw [hX] at h1
  have hI' : ∃ m g s, Sim X g s a' w' ∧ I m s := ⟨m', g', st', h1, h2⟩
  exact ⟨hI', Nat.lt_of_le_of_lt ((Classical.choose_spec (least a' w') hI').2 m' ⟨g', st', h1, h2⟩) hlt⟩

theorem pw_region {id : Nat} {ops : Array Oper} (hd : dstOK X.N ops = true) (h : ∃ s, Runs X.P ops [] false (List.range ops.size) st s ∧ Q .normal X s) : Pwp X (.region id ops false) Q st := by
  intro n g a w hs
  obtain ⟨s, hr, hq⟩ := h
  exact wpIn_region (runs_sound hd (fun g' a' w' h' => ⟨X, g', s, h', ⟨rfl, rfl⟩, hq⟩) _ g st a w hs hr)

theorem pw_draw {id : Nat} {ops : Array Oper} (bar : List Nat) (hm : X.P.follows .mixedOrders = true) (hd : dstOK X.N ops = true) (hr : regOK ops bar (Region.before ops) = true)
    (h : ∃ s, Runs X.P ops bar true (List.range ops.size) st s ∧ Q .normal X s) : Pwp X (.region id ops true) Q st := by
  intro n g a w hs
  obtain ⟨s, hrun, hq⟩ := h
  have hrem : remL ops.size (Array.replicate ops.size false) = List.range ops.size := List.filter_eq_self.2 fun i hi => by
    have : i < ops.size := by simpa using hi
    simp [Array.getD_eq_getD_getElem?, this]
  refine wpIn_region_any hm (any_sound hd hr (fun g' a' w' h' => ⟨X, g', s, h', ⟨rfl, rfl⟩, hq⟩) _ _ g st a _ hs.drew (by simp) (by rw [hrem]; simp) (fun i o hi => ?_) (by rw [hrem]; exact hrun))
  exfalso
  rw [Array.getD_eq_getD_getElem?, Array.getElem?_replicate] at hi
  split at hi <;> cases hi

end

/-! ### Functions -/

def initEnv (ds : List PV) : Nat → PV := fun i => ds.getD i (.tup [])

/-- What a result reads as. -/
def ResR (P : Program) (st : St) : ResultVar → PV → Prop
  | .tmp t, d => evP st.env (.tmp t) = d
  | .cell t T, d => OpR P st.σ (evP st.env) none (.load T (.tmp t)) d .none

def ResL (P : Program) (st : St) : List ResultVar → List PV → Prop
  | [], [] => True
  | r :: rs, d :: ds => ResR P st r d ∧ ResL P st rs ds
  | _, _ => False

def tupOf : List PV → PV
  | [d] => d
  | ds => .tup ds

/-- What a function's body must come to. -/
def Fin (P : Program) (fn : Func) (d : PV) (st : St) : Prop :=
  ∃ rs, ResL P st fn.results.toList rs ∧ (tupOf rs).vok st.σ = true ∧ ((tupOf rs).view st.σ = d ∨ ((tupOf rs).view st.σ).w3 = d)

def FinN (P : Program) (fn : Func) (r : Row) (st : St) : Prop :=
  ∃ t l, fn.results = #[.tmp t] ∧ evP st.env (.tmp t) = .sl l ∧ st.σ l = some r ∧ r.cl = true

def fnQ (X : Ctx) (F : St → Prop) : PX → Ctx → St → Prop
  | .normal, X', s | .ret, X', s => X' = X ∧ F s
  | _, _, _ => False

section
variable {X : Ctx} {g : Gh} {st : St} {a : Act} {w : World}

def resS (tmps : Array Value) : ResultVar → Sem Value
  | .tmp t => pure (tmps.getD t undef)
  | .cell t T => do loadVar T (← asAddr (tmps.getD t undef))

theorem results_eq (fn : Func) (tmps : Array Value) : results fn tmps = (do let vs ← fn.results.mapM (resS tmps); pure (if h : vs.size = 1 then vs[0] else .tuple vs)) := by
  have : (fun x : ResultVar => match x with
      | .tmp t => (pure (tmps.getD t undef) : Sem Value)
      | .cell a t => do loadVar t (← asAddr (tmps.getD a undef))) = resS tmps := by
    funext r
    cases r <;> rfl
  unfold results
  rw [← this]
  rfl

theorem res_one (h : Sim X g st a w) {r : ResultVar} {d : PV} (hr : ResR X.P st r d) :
    ∃ v, (resS a.tmps r).run X.P w = .ok v w ∧ Rd w g.imm g.μ st.pres v d := by
  cases r with
  | tmp t =>
    have : evP st.env (.tmp t) = d := hr
    subst this
    exact ⟨_, rfl, h.envE t⟩
  | cell t T =>
    have hv := h.envE t
    have hr' : OpR X.P st.σ (evP st.env) none (.load T (.tmp t)) d .none := hr
    have key : ∀ (b o : Nat) (u : Value), a.tmps.getD t undef = .pointer (some ⟨b, o, none⟩) → (Instr.loadAt T (a.tmps.getD t undef)).run X.P w = .ok u w →
        (do loadVar T (← asAddr (a.tmps.getD t undef)) : Sem Value).run X.P w = .ok u w := by
      intro b o u e hrun
      rw [e] at hrun ⊢
      exact hrun
    cases hr' with
    | pureV _ _ hnd hnl h => exact absurd rfl (hnl _ _)
    | loadA _ _ l i f r y n hx hl hy ha hsz hf =>
      have hx' : evP st.env (.tmp t) = .ptr l i f := hx
      rw [hx'] at hv
      obtain ⟨u, h1, h2⟩ := h.loadA hv hl hy ha hsz hf
      obtain ⟨_, b, s, _, e⟩ := hv.ptr_inv
      exact ⟨u, key _ _ u e h1, h2⟩
    | loadS _ _ l i f r y _ hx hl hy ha hf =>
      have hx' : evP st.env (.tmp t) = .ptr l i f := hx
      rw [hx'] at hv
      obtain ⟨u, h1, h2⟩ := h.loadS hv hl hy ha hf
      obtain ⟨_, b, s, _, e⟩ := hv.ptr_inv
      exact ⟨u, key _ _ u e h1, h2⟩
    | loadRA _ _ cs n hx ha hsz hf =>
      have hx' : evP st.env (.tmp t) = .rptr cs := hx
      rw [hx'] at hv
      obtain ⟨u, h1, h2⟩ := h.loadRA hv ha hsz hf
      obtain ⟨b, o, _, e, _⟩ := hv.rptr_inv
      exact ⟨u, key _ _ u e h1, h2⟩
    | loadRS _ _ cs _ hx ha hf =>
      have hx' : evP st.env (.tmp t) = .rptr cs := hx
      rw [hx'] at hv
      obtain ⟨u, h1, h2⟩ := h.loadRS hv ha hf
      obtain ⟨b, o, _, e, _⟩ := hv.rptr_inv
      exact ⟨u, key _ _ u e h1, h2⟩

theorem res_list (h : Sim X g st a w) : ∀ {rs : List ResultVar} {ds : List PV}, ResL X.P st rs ds →
    ∃ vs : List Value, (rs.mapM (resS a.tmps)).run X.P w = .ok vs w ∧ vs.length = ds.length ∧
      ∀ (i : Nat) v d, vs[i]? = some v → ds[i]? = some d → Rd w g.imm g.μ st.pres v d
  | [], [], _ => ⟨[], rfl, rfl, fun i v d hv => by simp at hv⟩
  | r :: rs, d :: ds, hr => by
    obtain ⟨v, h1, h2⟩ := res_one h hr.1
    obtain ⟨vs, k1, k2, k3⟩ := res_list h hr.2
    refine ⟨v :: vs, ?_, by simp [k2], fun i v' d' hv hd => ?_⟩
    · rw [List.mapM_cons, Sem.run_bind, h1, Result.andThen_ok, Sem.run_bind, k1, Result.andThen_ok]
      rfl
    · cases i with
      | zero => simp at hv hd; subst hv hd; exact h2
      | succ i => exact k3 i v' d' (by simpa using hv) (by simpa using hd)
  | [], _ :: _, hr => hr.elim
  | _ :: _, [], hr => hr.elim

theorem res_all (h : Sim X g st a w) {fn : Func} {ds : List PV} (hr : ResL X.P st fn.results.toList ds) : ∃ v, (results fn a.tmps).run X.P w = .ok v w ∧ Rd w g.imm g.μ st.pres v (tupOf ds) := by
  obtain ⟨vs, k1, k2, k3⟩ := res_list h hr
  have hm : (fn.results.mapM (resS a.tmps)).run X.P w = .ok vs.toArray w := by
    rw [Array.mapM_eq_mapM_toList]
    simp only [← bind_pure_comp]
    rw [Sem.run_bind, k1]
    rfl
  by_cases h1 : vs.length = 1
  · match vs, h1, k1, k2, k3, hm with
    | [v], _, k1, k2, k3, hm =>
      match ds, k2, k3 with
      | [d], _, k3 =>
        refine ⟨v, ?_, k3 0 v d rfl rfl⟩
        rw [results_eq, Sem.run_bind, hm]
        rfl
  · refine ⟨.tuple vs.toArray, ?_, ?_⟩
    · rw [results_eq, Sem.run_bind, hm]
      simp only [Result.andThen_ok]
      rw [dif_neg (by simpa using h1)]
      rfl
    · have : tupOf ds = .tup ds := by
        match ds, k2 with
        | [], _ => rfl
        | [d], k2 => simp at k2; exact absurd k2 h1
        | _ :: _ :: _, _ => rfl
      rw [this]
      exact .tup _ _ (by simpa using k2) fun i v c hv hc => k3 i v c (by simpa using hv) hc

/-- The marks are taken, one by one. -/
theorem leave_marks {fn : Func} {tmps : Array Value} {R : Ending → World → Prop} {P : Program} {n : Nat} {base : Nat} {v : Value} : ∀ (rs : List Nat) (w : World), rs.Nodup →
    (∀ r ∈ rs, w.heap[r]? = some (.deferred (some [])) ∧ base ≤ r) → (∀ w', Bel base w w' → (∀ (b o : Nat), w'.cell? ⟨b, o, none⟩ = w.cell? ⟨b, o, none⟩ ∧ w'.frozen? ⟨b, o, none⟩ = w.frozen? ⟨b, o, none⟩) → w'.heap.size = w.heap.size → (∀ (k : Nat) x, w.heap[k]? = some x → isMapO x = true → w'.heap[k]? = some x) → (results fn tmps).run P w' = .ok v w' ∧ R (.returned v) w') →
    LeavesInM Fence.wide n P fn tmps R (rs.map fun r => { target := .collected r, args := #[] }) .returning w
  | [], w, _, _, hR => by
    obtain ⟨h1, h2⟩ := hR w (Bel.refl _ _) (fun _ _ => ⟨rfl, rfl⟩) rfl (fun _ _ q _ => q)
    exact ⟨v, h1, h2⟩
  | r :: rs, w, hn, hm, hR => by
    rw [List.nodup_cons] at hn
    have hr := hm r (by simp)
    have hlt := (Array.getElem?_eq_some_iff.1 hr.1).1
    have hcell : ∀ b o, (w.putObj r (.deferred none)).cell? ⟨b, o, none⟩ = w.cell? ⟨b, o, none⟩ := by
      intro b o
      by_cases e : b = r
      · subst e
        unfold World.cell?
        simp only
        rw [World.putObj_heap_same hlt, hr.1]
      · exact World.cell?_of_block (by rw [World.putObj_heap_other e])
    have hfro : ∀ b o, (w.putObj r (.deferred none)).frozen? ⟨b, o, none⟩ = w.frozen? ⟨b, o, none⟩ := by
      intro b o
      by_cases e : b = r
      · subst e
        unfold World.frozen?
        simp only
        rw [World.putObj_heap_same hlt, hr.1]
      · unfold World.frozen?
        simp only
        rw [World.putObj_heap_other e]
    have hb : Bel base w (w.putObj r (.deferred none)) := ⟨⟨rfl, rfl, rfl, by simp, fun k hk => World.putObj_heap_other (by omega)⟩, Nat.le_refl _⟩
    refine ⟨(by intro q; cases q), .inl ⟨r, w.putObj r (.deferred none), rfl, ?_, leave_marks (base := base) (v := v) rs _ hn.2 (fun k hk => ?_) fun w' h1 h2 h3 h4 => ?_⟩⟩
    · exact run_takeDeferred hr.1
    · rw [World.putObj_heap_other (fun e => hn.1 (by rw [← e]; exact hk))]
      exact hm k (by simp [hk])
    · exact hR w' (hb.trans h1) (fun b o => ⟨(h2 b o).1.trans (hcell b o), (h2 b o).2.trans (hfro b o)⟩) (by rw [h3]; simp) (fun k x hx hm => h4 k x (by
        rw [World.putObj_heap_other (fun e => by rw [e, hr.1] at hx; cases hx; cases hm)]
        exact hx) hm)

theorem tupOf_rd {ds : List PV} : True := trivial

/-- A function's word out of its body's. -/
theorem pcalls_of {P : Program} {f : FuncId} {fn : Func} {c : Code} {ds : List PV} {d : PV} (hf : P.funcs[f]? = some fn) (hb : fn.body = some c) (hn : ds.length ≤ fn.ntmps) (h6 : fn.ntmps ≤ 1000000)
    (h : ∀ X : Ctx, X.P = P → X.N = fn.ntmps → X.ρ = none → X.ext = (fun _ => undef) → X.obs = [] → X.calm = false → Pwp X c (fnQ X (Fin P fn d)) ⟨initEnv ds, fun _ => none⟩) : PCalls P f ds d := by
  intro w imm vs hlt hargs
  let X : Ctx := { P := P, N := fn.ntmps, ρ := none, w0 := w, imm0 := imm, ext := fun _ => undef }
  let a0 : Act := { tmps := vs ++ Array.replicate (fn.ntmps - vs.size) undef, defers := [] }
  have hsim : Sim X ⟨imm, fun _ => ⟨none, 0, 0, 0⟩⟩ ⟨initEnv ds, fun _ => none⟩ a0 w := by
    refine ⟨?_, fun i => ?_, (fun l r q => by cases q), (fun l l' r r' _ q => by cases q), (fun l r b o q => by cases q), hlt, fun b o q => .inl q, fun b o q => q, Bel.refl _ _, ⟨[], List.nodup_nil, rfl, fun r hr => by cases hr⟩, fun p hp => (by cases hp), ⟨h6, fun _ => rfl⟩, ⟨fun l r _ q => (by cases q), fun l l' r r' _ _ _ q => (by cases q)⟩⟩
    · have := hargs.1
      simp only [a0, X, Array.size_append, Array.size_replicate]
      omega
    · by_cases q6 : i < 1000000
      rotate_left
      · simp only [a0, initEnv, Ctx.val, if_neg q6, X]
        rw [List.getD_eq_getElem?_getD, List.getElem?_eq_none (by omega)]
        exact .cl (.tup #[] [] rfl fun i v c _ hc => by simp at hc)
      simp only [a0, initEnv, Ctx.val, if_pos q6]
      rw [Array.getD_eq_getD_getElem?, List.getD_eq_getElem?_getD]
      rcases Nat.lt_or_ge i vs.size with q | q
      · rw [Array.getElem?_append_left q, Array.getElem?_eq_getElem q, List.getElem?_eq_getElem (by rw [← hargs.1]; exact q)]
        exact .cl (hargs.2 i _ _ (Array.getElem?_eq_getElem q) (List.getElem?_eq_getElem (by rw [← hargs.1]; exact q)))
      · rw [Array.getElem?_append_right q, List.getElem?_eq_none (by rw [← hargs.1]; exact q), Array.getElem?_replicate]
        split
        · exact .cl (.tup #[] [] rfl fun i v c _ hc => by simp at hc)
        · exact .cl (.tup #[] [] rfl fun i v c _ hc => by simp at hc)
  have key : ∀ (g : Gh) (st : St) (a : Act) (w' : World), Sim X g st a w' → Fin P fn d st →
      LeavesInM Fence.wide 0 P fn a.tmps (fun e w' => ∃ v, e = .returned v ∧ Bel w.heap.size w w' ∧ Rd0 w' (newImm imm w w') v d) a.defers .returning w' := by
    intro g st a w' hs hfin
    obtain ⟨rs, hnd, hdef, hmk⟩ := hs.marks
    rw [hdef]
    have hbase : ∃ v, ∀ w'', Bel w.heap.size w' w'' → (∀ b o, w''.cell? ⟨b, o, none⟩ = w'.cell? ⟨b, o, none⟩) → w''.heap.size = w'.heap.size → (∀ (k : Nat) x, w'.heap[k]? = some x → isMapO x = true → w''.heap[k]? = some x) →
        (results fn a.tmps).run P w'' = .ok v w'' ∧ Rd0 w'' (newImm imm w w'') v d := by
      obtain ⟨ds', hres, hok, hd⟩ := hfin
      obtain ⟨v, hrun, hrd⟩ := res_all hs hres
      refine ⟨v, fun w'' hbl hc hz hmaps => ?_⟩
      have hrun' : (results fn a.tmps).run P w'' = .ok v w'' := by
        -- the same cells are loaded
        have same : ∀ (r : ResultVar) (u : Value), r ∈ fn.results.toList → (resS a.tmps r).run P w' = .ok u w' → (∃ d', ResR P st r d') → (resS a.tmps r).run P w'' = .ok u w'' := by
          rintro r u _ hu ⟨d', hr'⟩
          cases r with
          | tmp t => cases hu; rfl
          | cell t T =>
            have hr2 : OpR P st.σ (evP st.env) none (.load T (.tmp t)) d' .none := hr'
            have hvt := hs.envE t
            have look : ∀ (b o : Nat), a.tmps.getD t undef = .pointer (some ⟨b, o, none⟩) → (loadVar T ⟨b, o, none⟩).run P w' = .ok u w' →
                ((∃ n, tagg P T = some true ∧ tsize P T = some n ∧ ∀ j, j < n → ∃ q, w'.cell? ⟨b, o + j, none⟩ = some q) ∨ (tagg P T = some false ∧ ∃ q, w'.cell? ⟨b, o, none⟩ = some q)) →
                (resS a.tmps (.cell t T)).run P w'' = .ok u w'' := by
              intro b o e hl hcase
              have goal : (loadVar T ⟨b, o, none⟩).run P w'' = .ok u w'' := by
                rcases hcase with ⟨n, h1, h2, h3⟩ | ⟨h1, q, h3⟩
                · have e1 := run_loadVar_agg (w := w') h1 h2 (fun j => (w'.cell? ⟨b, o + j, none⟩).getD undef) (fun j hj => by obtain ⟨q, hq⟩ := h3 j hj; rw [hq]; rfl)
                  have e2 := run_loadVar_agg (w := w'') h1 h2 (fun j => (w'.cell? ⟨b, o + j, none⟩).getD undef) (fun j hj => by obtain ⟨q, hq⟩ := h3 j hj; rw [hc, hq]; rfl)
                  rw [e1] at hl
                  cases hl
                  exact e2
                · have e1 := run_loadVar_one (w := w') h1 h3
                  have e2 := run_loadVar_one (w := w'') h1 (by rw [hc]; exact h3)
                  rw [e1] at hl
                  cases hl
                  exact e2
              simp only [resS, e]
              exact goal
            have hu2 : ∀ (b o : Nat), a.tmps.getD t undef = .pointer (some ⟨b, o, none⟩) → (loadVar T ⟨b, o, none⟩).run P w' = .ok u w' := by
              intro b o e
              simp only [resS, e] at hu
              exact hu
            cases hr2 with
            | pureV _ _ hnd hnl h => exact absurd rfl (hnl _ _)
            | loadA _ _ l i f r y n hx' hl hy ha hsz hf =>
              have hx2 : evP st.env (.tmp t) = .ptr l i f := hx'
              rw [hx2] at hvt
              obtain ⟨_, b, s, hA, e⟩ := hvt.ptr_inv
              refine look _ _ e (hu2 _ _ e) (.inl ⟨n, ha, hsz, fun j hj => ?_⟩)
              obtain ⟨q, h1, _⟩ := hs.cell_of hl hy (List.getElem?_eq_getElem (show f + j < y.cells.length by omega)) hA
              exact ⟨q, by rw [Nat.add_assoc _ f j]; exact h1⟩
            | loadS _ _ l i f r y _ hx' hl hy ha hf =>
              have hx2 : evP st.env (.tmp t) = .ptr l i f := hx'
              rw [hx2] at hvt
              obtain ⟨_, b, s, hA, e⟩ := hvt.ptr_inv
              obtain ⟨q, h1, _⟩ := hs.cell_of hl hy hf hA
              exact look _ _ e (hu2 _ _ e) (.inr ⟨ha, q, h1⟩)
            | loadRA _ _ cs n hx' ha hsz hf =>
              have hx2 : evP st.env (.tmp t) = .rptr cs := hx'
              rw [hx2] at hvt
              obtain ⟨b, o, q, e, _, hq⟩ := hvt.rptr_inv
              exact look _ _ e (hu2 _ _ e) (.inl ⟨n, ha, hsz, fun j hj => ⟨_, (hq j _ (List.getElem?_eq_getElem (show j < cs.length by omega))).2.1⟩⟩)
            | loadRS _ _ cs _ hx' ha hf =>
              have hx2 : evP st.env (.tmp t) = .rptr cs := hx'
              rw [hx2] at hvt
              obtain ⟨b, o, q, e, _, hq⟩ := hvt.rptr_inv
              exact look _ _ e (hu2 _ _ e) (.inr ⟨ha, _, by simpa using (hq 0 _ hf).2.1⟩)
        have all : ∀ (rs : List ResultVar) (ds : List PV) (vs : List Value), (∀ r ∈ rs, r ∈ fn.results.toList) → ResL P st rs ds → (rs.mapM (resS a.tmps)).run P w' = .ok vs w' → (rs.mapM (resS a.tmps)).run P w'' = .ok vs w'' := by
          intro rs
          induction rs with
          | nil => intro ds vs _ _ q; cases q; rfl
          | cons r rs ih =>
            intro ds vs hm hr q
            cases ds with
            | nil => exact hr.elim
            | cons d' ds =>
              obtain ⟨u, h1, _⟩ := res_one (X := X) hs hr.1
              obtain ⟨us, k1, _, _⟩ := res_list (X := X) hs hr.2
              have h1' : (resS a.tmps r).run P w' = .ok u w' := h1
              have k1' : (rs.mapM (resS a.tmps)).run P w' = .ok us w' := k1
              rw [List.mapM_cons, Sem.run_bind, h1', Result.andThen_ok, Sem.run_bind, k1', Result.andThen_ok] at q
              rw [List.mapM_cons, Sem.run_bind, same r u (hm r (by simp)) h1' ⟨d', hr.1⟩, Result.andThen_ok, Sem.run_bind, ih ds us (fun r hr => hm r (by simp [hr])) hr.2 k1', Result.andThen_ok]
              cases q
              rfl
        obtain ⟨us, k1, k2, _⟩ := res_list (X := X) hs hres
        have k1' : (fn.results.toList.mapM (resS a.tmps)).run P w' = .ok us w' := k1
        have k3 := all fn.results.toList ds' us (fun _ q => q) hres k1'
        have hm : ∀ w0 : World, (fn.results.toList.mapM (resS a.tmps)).run P w0 = .ok us w0 → (fn.results.mapM (resS a.tmps)).run P w0 = .ok us.toArray w0 := by
          intro w0 q
          rw [Array.mapM_eq_mapM_toList]
          simp only [← bind_pure_comp]
          rw [Sem.run_bind, q]
          rfl
        have r1 : (results fn a.tmps).run P w' = .ok v w' := hrun
        rw [results_eq, Sem.run_bind, hm w' k1'] at r1
        rw [results_eq, Sem.run_bind, hm w'' k3]
        simp only [Result.andThen_ok] at r1 ⊢
        cases r1
        rfl
      refine ⟨hrun', ?_⟩
      have hX2 : Ext w' g.imm w' (newImm imm w w') := ⟨fun b o q => by
        rcases hs.immsub b o q with q' | q'
        · exact .inl q'
        · exact .inr ⟨q', hs.immlt b o q⟩, fun _ _ _ => rfl, fun _ _ _ _ q _ => q⟩
      have hv2 := hs.view (imm2 := newImm imm w w') hX2 hrd hok (fun l _ r hl i x j y b s hx' hy hA => by
        obtain ⟨b', s', u, q1, q2, _, q4, _⟩ := (hs.rows l r hl).cell i x j y hx' hy
        rw [hA] at q1
        cases q1
        by_cases hi : i < r.lo
        · exact hX2.im _ _ (q4 hi)
        · have := hs.own_lt hl ((hs.rows l r hl).mine hx' hy hA hi)
          exact .inr this)
      have hfin2 : Rd0 w' (newImm imm w w') v d := by
        rcases hd with rfl | rfl
        · exact hv2
        · exact hv2.w3
      refine hfin2.mono ⟨fun b o q => ?_, fun b o _ => hc b o, fun b o x q hx' hcl => ?_⟩
      · rcases q with q | ⟨q1, q2⟩
        · exact .inl q
        · exact .inr ⟨q1, by omega⟩
      · exact hmaps b x hx' hcl
    obtain ⟨v, hv⟩ := hbase
    exact leave_marks rs w' hnd hmk fun w'' h1 h2 h3 h4 => ⟨(hv w'' h1 (fun b o => (h2 b o).1) h3 h4).1, v, rfl, hs.below.trans h1, (hv w'' h1 (fun b o => (h2 b o).1) h3 h4).2⟩
  have hcall : CallsIn Fence.wide 0 P f vs w fun e w' => ∃ v, e = .returned v ∧ Bel w.heap.size w w' ∧ Rd0 w' (newImm imm w w') v d := by
    refine callsIn_of_wp_marks hf hb trivial ?_
    refine wpIn_mono (h X rfl rfl rfl rfl rfl rfl 0 _ a0 w hsim) fun e a w' q => ?_
    cases e <;> simp only [lift, fnQ] at q
    · obtain ⟨_, g, st, h1, _, hX, h2⟩ := q
      rw [hX] at h1
      exact key g st a w' h1 h2
    · obtain ⟨_, g, st, h1, _, h2⟩ := q
      exact h2.elim
    · obtain ⟨_, g, st, h1, _, h2⟩ := q
      exact h2.elim
    · obtain ⟨_, g, st, h1, _, hX, h2⟩ := q
      rw [hX] at h1
      exact key g st a w' h1 h2
  exact callsIn_wide.1 hcall


theorem pcallsN_of {P : Program} {f : FuncId} {fn : Func} {c : Code} {ds : List PV} {r : Row} (hf : P.funcs[f]? = some fn) (hb : fn.body = some c) (hn : ds.length ≤ fn.ntmps) (h6 : fn.ntmps ≤ 1000000)
    (h : ∀ X : Ctx, X.P = P → X.N = fn.ntmps → X.ρ = none → X.ext = (fun _ => undef) → X.obs = [] → X.calm = false → Pwp X c (fnQ X (FinN P fn r)) ⟨initEnv ds, fun _ => none⟩) : PCallsN P f ds r := by
  intro w imm vs hlt hargs
  let X : Ctx := { P := P, N := fn.ntmps, ρ := none, w0 := w, imm0 := imm, ext := fun _ => undef }
  let a0 : Act := { tmps := vs ++ Array.replicate (fn.ntmps - vs.size) undef, defers := [] }
  have hsim : Sim X ⟨imm, fun _ => ⟨none, 0, 0, 0⟩⟩ ⟨initEnv ds, fun _ => none⟩ a0 w := by
    refine ⟨?_, fun i => ?_, (fun l r q => by cases q), (fun l l' r r' _ q => by cases q), (fun l r b o q => by cases q), hlt, fun b o q => .inl q, fun b o q => q, Bel.refl _ _, ⟨[], List.nodup_nil, rfl, fun r hr => by cases hr⟩, fun p hp => (by cases hp), ⟨h6, fun _ => rfl⟩, ⟨fun l r _ q => (by cases q), fun l l' r r' _ _ _ q => (by cases q)⟩⟩
    · have := hargs.1
      simp only [a0, X, Array.size_append, Array.size_replicate]
      omega
    · by_cases q6 : i < 1000000
      rotate_left
      · simp only [a0, initEnv, Ctx.val, if_neg q6, X]
        rw [List.getD_eq_getElem?_getD, List.getElem?_eq_none (by omega)]
        exact .cl (.tup #[] [] rfl fun i v c _ hc => by simp at hc)
      simp only [a0, initEnv, Ctx.val, if_pos q6]
      rw [Array.getD_eq_getD_getElem?, List.getD_eq_getElem?_getD]
      rcases Nat.lt_or_ge i vs.size with q | q
      · rw [Array.getElem?_append_left q, Array.getElem?_eq_getElem q, List.getElem?_eq_getElem (by rw [← hargs.1]; exact q)]
        exact .cl (hargs.2 i _ _ (Array.getElem?_eq_getElem q) (List.getElem?_eq_getElem (by rw [← hargs.1]; exact q)))
      · rw [Array.getElem?_append_right q, List.getElem?_eq_none (by rw [← hargs.1]; exact q), Array.getElem?_replicate]
        split
        · exact .cl (.tup #[] [] rfl fun i v c _ hc => by simp at hc)
        · exact .cl (.tup #[] [] rfl fun i v c _ hc => by simp at hc)
  have key : ∀ (g : Gh) (st : St) (a : Act) (w' : World), Sim X g st a w' → FinN P fn r st →
      LeavesInM Fence.wide 0 P fn a.tmps (fun e w' => ∃ m : RLoc, e = .returned (.slice m.A m.n m.C) ∧ Bel w.heap.size w w' ∧
        RowOK w.heap.size w' (fun b o => newImm imm w w' b o ∧ ¬ OwnR m r b o) (fun _ => m) (fun _ => False) m r ∧ ∀ b o, OwnR m r b o → w.heap.size ≤ b) a.defers .returning w' := by
    intro g st a w' hs hfin
    obtain ⟨rs, hnd, hdef, hmk⟩ := hs.marks
    rw [hdef]
    obtain ⟨t, l, hres, ht, hl, hcl⟩ := hfin
    have hv := hs.envE t
    rw [ht] at hv
    obtain ⟨_, hv⟩ := hv.sl_inv
    have hR := hs.rows l r hl
    have hrun : ∀ w0 : World, (results fn a.tmps).run P w0 = .ok (.slice (g.μ l).A (g.μ l).n (g.μ l).C) w0 := by
      intro w0
      rw [← hv]
      simp only [results, hres, List.mapM_toArray, Sem.run_bind]
      rfl
    refine leave_marks rs w' hnd hmk fun w'' h1 h2 h3 h4 => ⟨hrun w'', g.μ l, rfl, hs.below.trans h1, ?_, fun b o ho => (hR.own b o ho).1⟩
    have hX : Ext w' g.imm w'' (fun b o => newImm imm w w'' b o ∧ ¬ OwnR (g.μ l) r b o) := by
      refine ⟨fun b o q => ⟨?_, fun k => hs.ownimm l r b o hl k q⟩, fun b o _ => (h2 b o).1, fun b o x q hx hcl => h4 b x hx hcl⟩
      rcases hs.immsub b o q with q' | q'
      · exact .inl q'
      · exact .inr ⟨q', by have := hs.immlt b o q; omega⟩
    refine ⟨hR.n, hR.z, hR.C, hR.lo, hR.el, hR.nil, hR.spot, fun i x j y hx hy => ?_, fun b o ho => ?_⟩
    · obtain ⟨b, s, u, k1, k2, _, k4, k5⟩ := hR.cell i x j y hx hy
      exact ⟨b, s, u, k1, by rw [(h2 _ _).1]; exact k2, .cl ((k5 hcl).mono hX), fun q => hX.im _ _ (k4 q), fun _ => (k5 hcl).mono hX⟩
    · obtain ⟨k1, k2, k3⟩ := hR.own b o ho
      exact ⟨k1, by rw [(h2 _ _).1]; exact k2, by rw [(h2 _ _).2]; exact k3⟩
  have hcall : CallsIn Fence.wide 0 P f vs w fun e w' => ∃ m : RLoc, e = .returned (.slice m.A m.n m.C) ∧ Bel w.heap.size w w' ∧
        RowOK w.heap.size w' (fun b o => newImm imm w w' b o ∧ ¬ OwnR m r b o) (fun _ => m) (fun _ => False) m r ∧ ∀ b o, OwnR m r b o → w.heap.size ≤ b := by
    refine callsIn_of_wp_marks hf hb trivial ?_
    refine wpIn_mono (h X rfl rfl rfl rfl rfl rfl 0 _ a0 w hsim) fun e a w' q => ?_
    cases e <;> simp only [lift, fnQ] at q
    · obtain ⟨_, g, st, h1, _, hX, h2⟩ := q
      rw [hX] at h1
      exact key g st a w' h1 h2
    · obtain ⟨_, g, st, h1, _, h2⟩ := q
      exact h2.elim
    · obtain ⟨_, g, st, h1, _, h2⟩ := q
      exact h2.elim
    · obtain ⟨_, g, st, h1, _, hX, h2⟩ := q
      rw [hX] at h1
      exact key g st a w' h1 h2
  exact callsIn_wide.1 hcall

end
end Go.Pw
