/-
  A frame upon another: the temporaries of the one that waits are carried on.
-/
import Derived.Test.YtpnajadblhkomaaPw20
namespace Go.Pw
open Go.RowKit
set_option linter.unusedVariables false

/-- The temporaries of a frame, ahead of all that waits. -/
def pushE (top env : Nat → PV) : Nat → PV := fun i => if i < 1000000 then top i else env (i - 1000000)
def popE (env : Nat → PV) : Nat → PV := fun i => env (i + 1000000)

theorem popE_push (top env : Nat → PV) : popE (pushE top env) = env := by
  funext i
  unfold popE pushE
  rw [if_neg (by omega), Nat.add_sub_cancel]

/-- The marks of a frame that waits. -/
def markObs (ds : List Deferred) : List (Nat × Obj) := ds.filterMap fun d => match d.target with
  | .collected r => some (r, .deferred (some []))
  | _ => none

theorem markObs_map (rs : List Nat) : markObs (rs.map fun r => { target := .collected r, args := #[] }) = rs.map fun r => (r, Obj.deferred (some [])) := by
  induction rs with
  | nil => rfl
  | cons r rs ih =>
    unfold markObs at ih ⊢
    rw [List.map_cons, List.filterMap_cons]
    simp only [ih, List.map_cons]

/-- What stands above the frame that waits. -/
def Ctx.over (X : Ctx) (a : Act) (N : Nat) (ρ : Option Nat) : Ctx := { X with N := N, ρ := ρ, ext := fun i => X.val a (i - 1000000), obs := markObs a.defers ++ X.obs, calm := true }

section
variable {X : Ctx} {g : Gh} {st : St} {a : Act} {w : World}

theorem Sim.push (h : Sim X g st a w) {N : Nat} (ρ : Option Nat) {tmps : Array Value} {top : Nat → PV} (hN : N ≤ 1000000) (hs : tmps.size = N) (ht : ∀ i, i < 1000000 → Rd w g.imm g.μ st.pres (tmps.getD i undef) (top i)) :
    Sim (X.over a N ρ) g ⟨pushE top st.env, st.σ⟩ { tmps := tmps, defers := [] } w := by
  refine ⟨hs, fun i => ?_, h.rows, h.disj, h.ownimm, h.immlt, h.immsub, h.immsup, h.below, ⟨[], List.nodup_nil, rfl, fun r hr => by cases hr⟩, fun p hp => ?_, ⟨hN, fun _ => rfl⟩, h.maps⟩
  · by_cases q : i < 1000000
    · have e1 : (X.over a N ρ).val { tmps := tmps, defers := [] } i = tmps.getD i undef := if_pos q
      have e2 : pushE top st.env i = top i := if_pos q
      show Rd w g.imm g.μ st.pres _ (pushE top st.env i)
      rw [e1, e2]
      exact ht i q
    · have e1 : (X.over a N ρ).val { tmps := tmps, defers := [] } i = X.val a (i - 1000000) := by
        unfold Ctx.over
        rw [Ctx.val, if_neg q]
      have e2 : pushE top st.env i = st.env (i - 1000000) := if_neg q
      show Rd w g.imm g.μ st.pres _ (pushE top st.env i)
      rw [e1, e2]
      exact h.env _
  · rcases List.mem_append.1 hp with hp | hp
    · obtain ⟨rs, _, h2, h3⟩ := h.marks
      rw [h2, markObs_map] at hp
      obtain ⟨r, hr, rfl⟩ := List.mem_map.1 hp
      exact ⟨(h3 r hr).1, rfl, rfl⟩
    · exact h.obs p hp

theorem Sim.pop {N : Nat} {ρ : Option Nat} {st' : St} {a' : Act} {w0 : World} (h0 : Sim X g st a w0) {g' : Gh} (h : Sim (X.over a N ρ) g' st' a' w) : Sim X g' ⟨popE st'.env, st'.σ⟩ a w := by
  refine ⟨h0.size, fun i => ?_, h.rows, h.disj, h.ownimm, h.immlt, h.immsub, h.immsup, h.below, ?_, fun p hp => h.obs p (List.mem_append_right _ hp), h0.big, h.maps⟩
  · have := h.env (i + 1000000)
    have e1 : (X.over a N ρ).val a' (i + 1000000) = X.val a i := by
      have q : ¬ i + 1000000 < 1000000 := by omega
      unfold Ctx.over
      rw [Ctx.val, if_neg q]
      simp only [Nat.add_sub_cancel]
    rw [e1] at this
    exact this
  · obtain ⟨rs, h1, h2, h3⟩ := h0.marks
    refine ⟨rs, h1, h2, fun r hr => ⟨?_, (h3 r hr).2⟩⟩
    refine (h.obs (r, .deferred (some [])) (List.mem_append_left _ ?_)).1
    rw [h2, markObs_map]
    exact List.mem_map.2 ⟨r, hr, rfl⟩

/-- An object that is no cells, and no map, is turned. -/
theorem Sim.turn (h : Sim X g st a w) {l : Nat} {o o' : Obj} (hl : w.heap[l]? = some o) (hc : o.isCells = false) (hm : isMapO o = false) (hc' : o'.isCells = false) (hb : X.w0.heap.size ≤ l) (hmk : o ≠ .deferred (some [])) {obs : List (Nat × Obj)}
    (hobs : ∀ p ∈ obs, (p = (l, o')) ∨ (p.1 ≠ l ∧ p ∈ X.obs)) (hmo : isMapO o' = false := by rfl) : Sim { X with obs := obs } g st a (w.putObj l o') := by
  have hlt : l < w.heap.size := (Array.getElem?_eq_some_iff.1 hl).1
  have hcell : ∀ b i, (w.putObj l o').cell? ⟨b, i, none⟩ = w.cell? ⟨b, i, none⟩ := by
    intro b i
    by_cases e : b = l
    · subst e
      have none_of : ∀ (W : World) (o : Obj), W.heap[b]? = some o → o.isCells = false → W.cell? ⟨b, i, none⟩ = none := by
        intro W o hW ho
        cases hq : W.cell? ⟨b, i, none⟩ with
        | none => rfl
        | some u =>
          obtain ⟨o2, k1, k2⟩ := cells_of_cell hq
          rw [show W.heap[b]? = some o2 from k1] at hW
          cases hW
          rw [k2] at ho
          cases ho
      rw [none_of _ _ (World.putObj_heap_same hlt) hc', none_of _ _ hl hc]
    · exact World.cell?_of_block (by rw [World.putObj_heap_other e])
  have hfro : ∀ b i, (w.putObj l o').frozen? ⟨b, i, none⟩ = w.frozen? ⟨b, i, none⟩ ∨ b = l := by
    intro b i
    by_cases e : b = l
    · exact .inr e
    · left
      unfold World.frozen?
      simp only
      rw [World.putObj_heap_other e]
  have hx : Ext w g.imm (w.putObj l o') g.imm := ⟨fun _ _ q => q, fun b i _ => hcell b i, fun b i x _ hx hmx => by
    by_cases e : b = l
    · subst e
      rw [hl] at hx
      cases hx
      rw [hm] at hmx
      cases hmx
    · rw [World.putObj_heap_other e]; exact hx⟩
  refine ⟨h.size, fun i => (h.env i).mono hx fun _ q => ⟨q, rfl⟩, fun l' r q => (h.rows l' r q).mono hx (fun _ k => ⟨k, rfl⟩) fun b i ho => ⟨hcell b i, ?_⟩, h.disj, h.ownimm, fun b i q => ?_, h.immsub, h.immsup, ?_, ?_, fun p hp => ?_, h.big, h.maps.move hx (fun _ _ _ q _ _ => q) fun k x q1 q2 => ?_⟩
  · rcases hfro b i with e | e
    · exact e
    · subst e
      obtain ⟨_, h2, _⟩ := (h.rows l' r q).own b i ho
      obtain ⟨u, hu⟩ := Option.isSome_iff_exists.1 h2
      obtain ⟨o2, k1, k2⟩ := cells_of_cell hu
      simp only at k1
      rw [hl] at k1
      cases k1
      rw [hc] at k2
      cases k2
  · have := h.immlt b i q
    simpa [World.putObj] using this
  · exact h.below.trans ⟨⟨rfl, rfl, rfl, by simp [World.putObj], fun k hk => World.putObj_heap_other (by omega)⟩, Nat.le_refl _⟩
  · obtain ⟨rs, h1, h2, h3⟩ := h.marks
    refine ⟨rs, h1, h2, fun r hr => ⟨?_, (h3 r hr).2⟩⟩
    rw [World.putObj_heap_other (fun e => by subst e; have h4 := (h3 _ hr).1; rw [hl] at h4; exact hmk (Option.some.inj h4))]
    exact (h3 r hr).1
  · rcases hobs p hp with rfl | ⟨k1, k2⟩
    · exact ⟨World.putObj_heap_same hlt, hc', hmo⟩
    · rw [World.putObj_heap_other k1]
      exact h.obs p k2
  · by_cases e : k = l
    · subst e
      rw [hl] at q1
      cases q1
      rw [hm] at q2
      cases q2
    · rw [World.putObj_heap_other e]; exact q1

/-- A block for deferred calls, laid anew, is marked. -/
theorem Sim.mark (h : Sim X g st a w) {D : Nat} (hD : w.heap[D]? = some (.deferred (some []))) (hb : X.w0.heap.size ≤ D) (hn : ∀ d ∈ a.defers, d.target ≠ .collected D) (hc : X.calm = false) :
    Sim X g st { a with defers := { target := .collected D, args := #[] } :: a.defers } w := by
  obtain ⟨rs, h1, h2, h3⟩ := h.marks
  refine ⟨h.size, h.env, h.rows, h.disj, h.ownimm, h.immlt, h.immsub, h.immsup, h.below, ⟨D :: rs, ?_, by rw [h2]; rfl, fun r hr => ?_⟩, h.obs, ⟨h.big.1, fun q => (by rw [hc] at q; cases q)⟩, h.maps⟩
  · refine List.nodup_cons.2 ⟨fun hr => ?_, h1⟩
    exact hn { target := .collected D, args := #[] } (by rw [h2]; exact List.mem_map.2 ⟨D, hr, rfl⟩) rfl
  · rcases List.mem_cons.1 hr with rfl | hr
    · exact ⟨hD, hb⟩
    · exact h3 r hr

/-- The marks lie in the heap. -/
theorem Sim.marks_lt (h : Sim X g st a w) : ∀ d ∈ a.defers, ∀ r, d.target = .collected r → r < w.heap.size := by
  obtain ⟨rs, _, h2, h3⟩ := h.marks
  intro d hd r hr
  rw [h2] at hd
  obtain ⟨k, hk, rfl⟩ := List.mem_map.1 hd
  cases hr
  exact (Array.getElem?_eq_some_iff.1 (h3 _ hk).1).1

/-- One object more is watched. -/
theorem Sim.watch (h : Sim X g st a w) {l : Nat} {o : Obj} (hl : w.heap[l]? = some o) (hc : o.isCells = false) (hm : isMapO o = false := by rfl) : Sim { X with obs := (l, o) :: X.obs } g st a w :=
  ⟨h.size, h.env, h.rows, h.disj, h.ownimm, h.immlt, h.immsub, h.immsup, h.below, h.marks, fun p hp => by
    rcases List.mem_cons.1 hp with rfl | hp
    · exact ⟨hl, hc, hm⟩
    · exact h.obs p hp, h.big, h.maps⟩

/-- Less is watched. -/
theorem Sim.unwatch {obs : List (Nat × Obj)} (h : Sim { X with obs := obs } g st a w) (hs : ∀ p ∈ X.obs, p ∈ obs) : Sim X g st a w :=
  ⟨h.size, h.env, h.rows, h.disj, h.ownimm, h.immlt, h.immsub, h.immsup, h.below, h.marks, fun p hp => h.obs p (hs p hp), h.big, h.maps⟩
end
end Go.Pw
