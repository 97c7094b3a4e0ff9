/-
  A range over a function; a call that runs within the caller's state.
-/
import Derived.Test.YtpnajadblhkomaaPw21
import Derived.Test.YtpnajadblhkomaaPw23
import Derived.RangeFuncIn
import Derived.RangeFuncRecord
namespace Go.Pw
open Go.RowKit Go.Sh
set_option linter.unusedVariables false

/-- The record of a loop over a function. -/
def recR (fn : FuncId) (tmps : Array Value) (ps : Array Tmp) (assign body : Code) (D : Nat) : Loop :=
  { state := .ready, pending := none, fn := fn, tmps := tmps, params := ps, assign := assign, body := body, defers := D }

/-- An iterator's context knows the record of the loop, which is ready, and the temporaries of the one that ranges. -/
structure Ran (X : Ctx) (N0 : Nat) (ps : Array Tmp) (assign body : Code) (l : Nat) : Prop where
  is : ∃ (tm : Array Value) (fn : FuncId) (D : Nat) (os : List (Nat × Obj)), X.obs = (l, .loop (recR fn tm ps assign body D)) :: os ∧ (∀ p ∈ os, p.1 ≠ l) ∧ tm.size = N0 ∧ ∀ i, i < 1000000 → X.ext (i + 1000000) = tm.getD i undef
  lo : X.w0.heap.size ≤ l

/-- The round has been left by a jump. -/
def doneO (c : Code) : List (Nat × Obj) → List (Nat × Obj)
  | (l, .loop r) :: os => (l, .loop { r with state := .done, pending := some c }) :: os
  | os => os

def Ctx.done (X : Ctx) (c : Code) : Ctx := { X with obs := doneO c X.obs }

/-- Where a jump leads. -/
def jumpQ (Q : PX → Ctx → St → Prop) : Code → Ctx → St → Prop
  | .ret, X, s => Q .ret X s
  | .exit id, X, s => Q (.exit id) X s
  | _, _, _ => False

/-- What an iterator's end must come to. -/
def iterQ (X Y : Ctx) (Q : PX → Ctx → St → Prop) : PX → Ctx → St → Prop
  | .normal, X', s | .ret, X', s => (X' = Y ∧ Q .normal X ⟨popE s.env, s.σ⟩) ∨ ∃ c, X' = Y.done c ∧ jumpQ Q c X ⟨popE s.env, s.σ⟩
  | _, _, _ => False

theorem run_callFunc' {P : Program} {f : FuncId} {fn : Func} {c : Code} (h1 : P.funcs[f]? = some fn) (h2 : fn.body = some c) (h3 : fn.name ≠ "runtime.NumGoroutine") (args : Array Value) (w : World) :
    (callFunc f args).run P w = .ok (.enter f args) w := by
  have hne : (fn.name == "runtime.NumGoroutine") = false := by simpa using h3
  simp only [callFunc, program, Sem.run, Sem.run_bind, Result.andThen_ok, h1, hne, h2]
  simp

theorem run_resolveRange {P : Program} {a : Act} {g : Operand} {gf : FuncId} {lb : Array Value} (hg : a.eval g = .func (.func gf) #[] lb) (l : Nat) (w : World) :
    (resolve a.eval (rangeCall g l) 0).run P w = .ok { target := .fn (.func gf) lb, args := #[.func (.yield l) #[] #[]] } w := by
  simp only [resolve, hg]
  simp [go_sem]

section
variable {X : Ctx} {Q : PX → Ctx → St → Prop} {st : St}

/-- The values with which a function begins. -/
theorem rd_init {w : World} {imm : Nat → Nat → Prop} {μ : Nat → RLoc} {pres : Nat → Prop} {vs : Array Value} {ds : List PV} (hn : vs.size = ds.length) (h : ∀ (i : Nat) v d, vs[i]? = some v → ds[i]? = some d → Rd w imm μ pres v d) (k : Nat) (i : Nat) :
    Rd w imm μ pres ((vs ++ Array.replicate k undef).getD i undef) (initEnv ds i) := by
  unfold initEnv
  rw [Array.getD_eq_getD_getElem?, List.getD_eq_getElem?_getD]
  rcases Nat.lt_or_ge i vs.size with q | q
  · rw [Array.getElem?_append_left q, Array.getElem?_eq_getElem q, List.getElem?_eq_getElem (by rw [← hn]; exact q)]
    exact h i _ _ (Array.getElem?_eq_getElem q) (List.getElem?_eq_getElem (by rw [← hn]; exact q))
  · rw [Array.getElem?_append_right q, List.getElem?_eq_none (by rw [← hn]; exact q), Array.getElem?_replicate]
    split
    · exact .cl (.tup #[] [] rfl fun i v c _ hc => by simp at hc)
    · exact .cl (.tup #[] [] rfl fun i v c _ hc => by simp at hc)

theorem results_none {fn : Func} (h : fn.results = #[]) (tmps : Array Value) (P : Program) (w : World) : (results fn tmps).run P w = .ok (.tuple #[]) w := by
  rw [results_eq, h, Array.mapM_eq_mapM_toList]
  simp only [List.mapM_nil, ← bind_pure_comp]
  rfl

theorem pw_range {g : Operand} {ps : Array Tmp} {assign body : Code} {gf : FuncId} {fn : Func} {c : Code} {cap : List PV} {N1 : Nat} (hg : evP st.env g = .fn (.func gf) cap) (hf : X.P.funcs[gf]? = some fn) (hb : fn.body = some c) (hN : fn.ntmps = N1) (hn : 1 + cap.length ≤ N1)
    (hres : fn.results = #[]) (hname' : Callable X.P gf) (hρ : X.ρ = none) (hcalm : X.calm = false)
    (h : ∀ l e1 o1, Ran { P := X.P, N := N1, ρ := none, w0 := X.w0, imm0 := X.imm0, ext := e1, obs := o1, calm := true } X.N ps assign body l →
      Pwp { P := X.P, N := N1, ρ := none, w0 := X.w0, imm0 := X.imm0, ext := e1, obs := o1, calm := true } c (iterQ X { P := X.P, N := N1, ρ := none, w0 := X.w0, imm0 := X.imm0, ext := e1, obs := o1, calm := true } Q) ⟨pushE (initEnv (.fn (.yield l) [] :: cap)) st.env, st.σ⟩)
    (h6 : N1 ≤ 1000000 := by exact Nat.le_of_ble_eq_true rfl) : Pwp X (.rangeFunc g ps assign body) Q st := by
  intro n g' a w hs
  obtain ⟨fn2, c2, hf2, _, hname⟩ := hname'
  rw [hf] at hf2
  cases hf2
  refine wpIn_rangeFunc fun fid _ => ?_
  have hv := hs.eval g
  rw [hg] at hv
  obtain ⟨vs, e, hnv, hcap⟩ := fn_inv hv
  generalize hrec : recR fid a.tmps ps assign body w.heap.size = rec
  have hrun1 : (Instr.enterLoop fid a.tmps ps assign body (FX X.ρ).round).run X.P w = .ok (w.heap.size + 1, [{ target := .collected w.heap.size, args := #[] }]) ((w.alloc (.deferred (some []))).alloc (.loop rec)) := by
    rw [hρ, ← hrec]
    exact run_enterLoop_outer fid a.tmps ps assign body
  have hinv : ∀ W : World, (invoke (.fn (.func gf) vs) #[.func (.yield (w.heap.size + 1)) #[] #[]]).run X.P W = .ok (.enter gf (#[.func (.yield (w.heap.size + 1)) #[] #[]] ++ vs)) W := fun W => by
    simp only [invoke]
    exact run_callFunc' hf hb hname _ _
  refine ⟨w.heap.size + 1, _, _, _, _, gf, #[.func (.yield (w.heap.size + 1)) #[] #[]] ++ vs, _, hrun1, run_resolveRange e _ _, fun _ _ => trivial, hinv _, fun q => by simp [FX] at q, ?_⟩
  -- the world with the two blocks more
  generalize hl : w.heap.size + 1 = l
  have s1 := hs.alloc (.deferred (some []))
  have s2 := s1.alloc (.loop rec)
  have hz1 : (w.alloc (.deferred (some []))).heap.size = w.heap.size + 1 := World.size_alloc ..
  have hD : ((w.alloc (.deferred (some []))).alloc (.loop rec)).heap[w.heap.size]? = some (.deferred (some [])) := by
    rw [Below.heap_alloc _ _ _ (by rw [hz1]; exact Nat.lt_succ_self _)]
    exact World.alloc_heap_new ..
  have hL : ((w.alloc (.deferred (some []))).alloc (.loop rec)).heap[l]? = some (.loop rec) := by
    have := World.alloc_heap_new (w.alloc (.deferred (some []))) (.loop rec)
    rw [hz1, hl] at this
    exact this
  generalize hw2 : (w.alloc (.deferred (some []))).alloc (.loop rec) = w2 at s2 hD hL ⊢
  have s3 := s2.mark hD hs.below.size (fun d hd q => absurd (hs.marks_lt d hd _ q) (Nat.lt_irrefl _)) hcalm
  generalize ha' : ({ a with defers := { target := .collected w.heap.size, args := #[] } :: a.defers } : Act) = a' at s3
  have ha2 : ({ a with defers := [{ target := .collected w.heap.size, args := #[] }] ++ a.defers } : Act) = a' := ha'
  rw [ha2]
  have htm : a'.tmps = a.tmps := by rw [← ha']
  refine callsIn_of_wp_marks hf hb trivial ?_ hρ
  have hyv : Rd w2 g'.imm g'.μ st.pres (.func (.yield l) #[] #[]) (.fn (.yield l) []) := .cl (.fn (.yield l) #[] [] rfl fun i v c _ hc => by simp at hc)
  have hx2 : Ext w g'.imm w2 g'.imm := by
    rw [← hw2]
    exact (Ext.alloc hs.immlt _).trans (Ext.alloc s1.immlt _)
  obtain ⟨av, hav⟩ : ∃ av : Array Value, av = (#[Value.func (.yield l) #[] #[]] ++ vs) := ⟨_, rfl⟩
  have hz : av.size = (PV.fn (.yield l) [] :: cap).length := by rw [hav]; simp [hnv]; omega
  have hav0 : av[0]? = some (Value.func (.yield l) #[] #[]) := by rw [hav, Array.getElem?_append_left (by simp)]; rfl
  have hav1 : ∀ i, av[i + 1]? = vs[i]? := fun i => by rw [hav, Array.getElem?_append_right (by simp)]; simp
  have hrd : ∀ (i : Nat) v d, av[i]? = some v → (PV.fn (.yield l) [] :: cap)[i]? = some d → Rd w2 g'.imm g'.μ st.pres v d := fun i v d hv hd => by
    cases i with
    | zero =>
      rw [hav0] at hv
      cases hv
      cases hd
      exact hyv
    | succ i =>
      rw [hav1] at hv
      exact (hcap i v d hv (by simpa using hd)).mono hx2 fun _ q => ⟨q, rfl⟩
  rw [← hav]
  have s4 := s3.push (N := N1) none (tmps := av ++ Array.replicate (fn.ntmps - av.size) undef) (top := initEnv (.fn (.yield l) [] :: cap)) h6 (by
      simp only [Array.size_append, Array.size_replicate]
      simp only [List.length_cons] at hz
      omega) (fun i _ => rd_init hz hrd _ i)
  have s5 := s4.watch hL rfl
  generalize hY : ({ X.over a' N1 none with obs := (l, .loop rec) :: (X.over a' N1 none).obs } : Ctx) = Y at s5
  have hYe : Y = { P := X.P, N := N1, ρ := none, w0 := X.w0, imm0 := X.imm0, ext := Y.ext, obs := Y.obs, calm := true } := by
    rw [← hY]; simp only [Ctx.over]
  have hYx : ∀ i, Y.ext i = X.val a' (i - 1000000) := fun i => by rw [← hY]; simp only [Ctx.over]
  have hYo : Y.obs = (l, .loop rec) :: (markObs a'.defers ++ X.obs) := by rw [← hY]; simp only [Ctx.over]
  have hos : ∀ p ∈ markObs a'.defers ++ X.obs, p.1 ≠ l := by
    intro p hp q
    have hlt : p.1 < w.heap.size + 1 := by
      rcases List.mem_append.1 hp with hp | hp
      · rw [← ha'] at hp
        obtain ⟨rs, _, r2, r3⟩ := hs.marks
        have e2 : ({ target := .collected w.heap.size, args := #[] } :: a.defers : List Deferred) = (w.heap.size :: rs).map fun r => { target := .collected r, args := #[] } := by rw [r2]; rfl
        simp only [e2, markObs_map] at hp
        obtain ⟨r, hr, rfl⟩ := List.mem_map.1 hp
        rcases List.mem_cons.1 hr with rfl | hr
        · exact Nat.lt_succ_self _
        · exact Nat.lt_succ_of_lt (Array.getElem?_eq_some_iff.1 (r3 r hr).1).1
      · exact Nat.lt_succ_of_lt (Array.getElem?_eq_some_iff.1 (hs.obs p hp).1).1
    omega
  have hran : Ran Y X.N ps assign body l := ⟨⟨a.tmps, fid, w.heap.size, _, by rw [hYo, ← hrec], hos, hs.size, fun i hi => by
      rw [hYx, Nat.add_sub_cancel, Ctx.val, if_pos hi, htm]⟩, by
      rw [← hY]
      have := hs.below.size
      show X.w0.heap.size ≤ l
      omega⟩
  have hp := h l Y.ext Y.obs (hYe ▸ hran)
  rw [← hYe] at hp
  have hp2 := hp (n - 1) _ _ _ s5
  have hYρ : Y.ρ = none := by rw [hYe]
  have hYP : Y.P = X.P := by rw [hYe]
  rw [hYρ, hYP] at hp2
  rw [hρ]
  have hYu : { Y with obs := (X.over a' N1 none).obs } = X.over a' N1 none := by rw [← hY]
  refine wpIn_mono hp2 fun ex a1 w1 q => ?_
  -- the iterator has ended
  have key : ∀ X' g1 st1, Sim X' g1 st1 a1 w1 → ((X' = Y ∧ Q .normal X ⟨popE st1.env, st1.σ⟩) ∨ ∃ c, X' = Y.done c ∧ jumpQ Q c X ⟨popE st1.env, st1.σ⟩) → LeavesInM (FX none) (n - 1) X.P fn a1.tmps (rangePost (FX none) n X.P l (lift X Q) a') a1.defers .returning w1 := by
    intro X' g1 st1 hs1 hq
    have hcal : X'.calm = true := by
      rcases hq with ⟨rfl, _⟩ | ⟨c', rfl, _⟩
      · rw [hYe]
      · rw [hYe]; rfl
    rw [hs1.big.2 hcal]
    refine ⟨_, results_none hres _ _ _, ?_⟩
    rcases hq with ⟨rfl, hq⟩ | ⟨c', rfl, hq⟩
    · have hh := (hs1.obs (l, .loop rec) (by rw [hYo]; exact List.mem_cons_self ..)).1
      refine ⟨rec.pending, _, run_endLoop hh (by rw [← hrec]; simp [recR]), ?_⟩
      have t1 := hs1.turn (o' := .loop { rec with state := .exhausted }) hh rfl rfl rfl hran.lo (fun q => by cases q) (obs := (X.over a' N1 none).obs) (fun p hp => .inr ⟨hos p hp, by rw [hYo]; exact List.mem_cons_of_mem _ hp⟩)
      rw [hYu] at t1
      have t2 := s3.pop t1
      have hpend : rec.pending = none := by rw [← hrec]; rfl
      simp only [hpend] at t2 ⊢
      exact ⟨X, _, _, t2, ⟨rfl, rfl⟩, hq⟩
    · have hdo : (Y.done c').obs = (l, .loop { rec with state := .done, pending := some c' }) :: (markObs a'.defers ++ X.obs) := by
        show doneO c' Y.obs = _
        rw [hYo]; rfl
      have hh := (hs1.obs (l, .loop { rec with state := .done, pending := some c' }) (by rw [hdo]; exact List.mem_cons_self ..)).1
      refine ⟨some c', _, run_endLoop hh (by simp), ?_⟩
      have t1 := hs1.turn (o' := .loop { rec with state := .exhausted, pending := some c' }) hh rfl rfl rfl hran.lo (fun q => by cases q) (obs := (X.over a' N1 none).obs) (fun p hp => .inr ⟨hos p hp, by rw [hdo]; exact List.mem_cons_of_mem _ hp⟩)
      have hYu2 : { Y.done c' with obs := (X.over a' N1 none).obs } = X.over a' N1 none := by rw [← hYu]; rfl
      rw [hYu2] at t1
      have t2 := s3.pop t1
      simp only
      cases c' <;> simp only [jumpQ] at hq <;> first | (exact hq.elim) | skip
      · exact wpIn_exit ⟨X, _, _, t2, ⟨rfl, rfl⟩, hq⟩
      · exact wpIn_ret ⟨X, _, _, t2, ⟨rfl, rfl⟩, hq⟩
  cases ex <;> simp only [lift, iterQ, bodyPostM] at q ⊢ <;> first
    | (obtain ⟨X', g1, st1, h1, _, h2⟩ := q; exact key X' g1 st1 h1 h2)
    | (obtain ⟨X', g1, st1, h1, _, h2⟩ := q; exact h2.elim)
    | exact q.elim
end
end Go.Pw
