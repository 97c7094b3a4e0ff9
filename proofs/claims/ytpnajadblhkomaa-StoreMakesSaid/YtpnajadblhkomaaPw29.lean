/-
  An append that takes the row over; a sort of a row; maps that are let go where they lie.
-/
import Derived.Test.YtpnajadblhkomaaPw28
namespace Go.Pw
open Go.RowKit
set_option linter.unusedVariables false

section
variable {X : Ctx} {g : Gh} {st : St} {a : Act} {w : World} {n : Nat} {K : Act → World → Prop} {Q : Exit → Act → World → Prop} {ρ : Option Nat} {P : Program}

theorem ar_mem {R0 : List (Nat × Row)} : ∀ {R : List (Nat × Row)}, Ar R0 st R → ∀ p ∈ R, RowLe id R0 st.σ p
  | [], _, _, h => by cases h
  | _ :: _, h, p, hp => by
    rcases List.mem_cons.1 hp with rfl | hp
    · exact h.1
    · exact ar_mem h.2 p hp

/-- What a row owns that is said less of, it owned. -/
theorem ownSub (h : Sim X g st a w) {L : List (Nat × PV)} {R : List (Nat × Row)} (hR : Ar R st R) {l : Nat} {r : Row} (hl : (St.of L R).σ l = some r) : ∃ r1, st.σ l = some r1 ∧ ∀ b o, OwnR (g.μ l) r b o → OwnR (g.μ l) r1 b o := by
  obtain ⟨r1, k1, _, k2, k3, k4, _, k6⟩ := ar_mem hR _ (lookup_mem hl)
  refine ⟨r1, k1, ?_⟩
  rintro b o ⟨s', hA, q1, q2⟩
  have hC := (h.rows _ _ k1).C
  refine ⟨s', hA, by simp only at k3; rw [k3]; exact q1, ?_⟩
  have : (if r.opn then (g.μ l).C else (g.μ l).n) * (g.μ l).z ≤ (if r1.opn then (g.μ l).C else (g.μ l).n) * (g.μ l).z := Nat.mul_le_mul_right _ (by
    simp only [id] at hC
    cases q : r.opn
    · simp only [Bool.false_eq_true, if_false]; split <;> omega
    · rw [k4 q]; exact Nat.le_refl _)
  omega

theorem op_apO {o : Oper} {x y : Operand} {T E : TypeId} {ys : List PV} {z by_ l s : Nat} {r : Row} {zv : Value} (L : List (Nat × PV)) (R : List (Nat × Row)) (h : Sim X g st a w) (hAg : Ag R st L) (hAr : Ar R st R) (hsR : R.lookup s = none)
    (ho : o.op = .call { callee := .builtin .append, args := #[x, y], argTypes := #[T, T] }) (hdst : ∀ t, o.dst = some t → t < X.N) (hlm : l < MB) (hl : R.lookup l = none)
    (hx : evP st.env x = .sl s) (hsr : st.σ s = some r) (hop : r.opn = true) (hlo0 : r.lo = 0) (hcl : r.cl = true) (hy : Src st.σ (evP st.env y) ys true) (hE : telem X.P T = some E) (hz : tsize X.P E = some z) (hb : tbytes X.P E = some by_) (hzv : tzero X.P E = some zv)
    (hzz : zv.cells.size = z) (hel : ∀ e ∈ r.els ++ ys, e.cells.length = z) (hrz : r.z = z) (hfit : (r.els.length + ys.length) * by_ ≤ 140737488355328) (h63 : r.els.length + ys.length ≤ 9223372036854775807)
    (hK : ∀ g' a' w', Sim X g' ⟨putE (envOf L) o.dst (.sl l), upd (rowsOf R) l (some ⟨r.els ++ ys, 0, true, z, true⟩)⟩ a' w' → K a' w') : o.wpIn (FX ρ) n X.P a w K Q := by
  have hnd : ∀ c, o.op ≠ .defer c := fun c => by rw [ho]; simp
  have hv := h.eval x
  have hu := h.eval y
  rw [hx] at hv
  obtain ⟨hp, e⟩ := hv.sl_inv
  have hR := h.rows s r hsr
  obtain ⟨B, cB, vals, eB, hyel, hlv, hvr, hone, hvc⟩ := Src.reads h hu hy (z := z) (fun y hy => hel y (List.mem_append_right _ hy))
  have hD : Sim X g (St.of L R) a w := wk_stG L R hAg hAr X g a w h
  have hDl : (St.of L R).σ l = none := hl
  have hDs : (St.of L R).σ s = none := hsR
  have hmz : (g.μ s).z = z := by rw [hR.z, hrz]
  rcases Nat.lt_or_ge (g.μ s).C ((g.μ s).n + ys.length) with hbig | hroom
  · -- a new block
    have hm : 0 < ys.length := by have := hR.C; omega
    obtain ⟨bB, sB, rfl, hBc⟩ := hvc hm
    obtain ⟨A', cA, olds, eA, hxel, hlo, hor, _, hoc⟩ := Src.reads h hv (.inr ⟨s, r, rfl, hsr, rfl, rfl⟩ : Src st.σ (.sl s) r.els r.cl) (z := z) (fun y hy => hel y (List.mem_append_left _ hy))
    rw [e] at eA
    simp only [Value.slice.injEq] at eA
    obtain ⟨rfl, hn', rfl⟩ := eA
    rw [hn'] at e hbig
    obtain ⟨C', cs, hr, hC', hcs, rest, hrest⟩ := run_append_big (P := X.P) (w := w) (ty := o.type) (c := cB) (B := ⟨bB, sB, none⟩) (m := ys.length) hE hz hb hzv hzz hbig (by rw [← hn']; exact hR.C) hR.nil hlo (fun q => hoc q) hlv
      (fun j u hj => by rw [addr_add]; exact hBc j u hj) hfit h63
    have hs := hD.drew.rowNew (l := l) (els := r.els ++ ys) (T := E) (C := C') (z := z) (opn := true) (cl := true) cs hlm hDl (by simpa using hC') hcs
      (fun e he => ⟨(List.mem_append.1 he).elim (hxel e) (hyel e), hel e he⟩) (fun i x j y u hx hy hu => by
        have hu' : (olds ++ vals ++ rest)[i * z + j]? = some u := by rw [← hrest]; simpa using hu
        have := join_reads (R := fun u y => Rd0 w g.imm u y) hlo (fun x hx => hel x hx) (fun i x j y u hx hy hu => (hor i x j y u hx hy hu).2 hcl) (fun i x j y u hx hy hu => (hvr i x j y u hx hy hu).2 rfl) rest hlv i x j y u hx hy hu'
        have hx0 : Ext w g.imm w.drew g.imm := ⟨fun _ _ q => q, fun _ _ _ => rfl, fun _ _ _ _ q _ => q⟩
        exact ⟨.cl (this.mono hx0), fun _ => this.mono hx0⟩)
    refine wpIn_value hnd (exec_append ho (by rw [e, eB]; exact hr)) (hK _ _ _ (hs.put hdst ?_))
    have := sl_new (w' := w.drew.alloc (.cells cs E)) (imm := g.imm) (μ := upd g.μ l ⟨some ⟨w.heap.size, 0, none⟩, (r.els ++ ys).length, C', z⟩)
      (pres := St.pres ⟨(St.of L R).env, upd (St.of L R).σ l (some ⟨r.els ++ ys, 0, true, z, true⟩)⟩) (l := l) ⟨_, upd_same _ _ _⟩ (upd_same _ _ _)
    simpa using this
  · -- in place
    have hn := hR.n
    -- the cells behind the row
    have hT : ∀ b s', (g.μ s).A = some ⟨b, s', none⟩ → ∀ o', s' + (g.μ s).n * z ≤ o' → o' < s' + (g.μ s).C * z → OwnR (g.μ s) r b o' := fun b s' hA o' q1 q2 =>
      ⟨s', hA, by have : r.lo * (g.μ s).z ≤ (g.μ s).n * (g.μ s).z := Nat.mul_le_mul_right _ hR.lo; rw [hmz] at *; omega, by rw [hop, if_pos rfl, hmz]; exact q2⟩
    have hTi : ∀ b o', (∃ s', (g.μ s).A = some ⟨b, s', none⟩ ∧ s' + (g.μ s).n * z ≤ o' ∧ o' < s' + (g.μ s).C * z) → ¬ g.imm b o' := by
      rintro b o' ⟨s', hA, q1, q2⟩ q
      exact h.ownimm s r b o' hsr (hT b s' hA o' q1 q2) q
    -- the whole of it is this row's
    have hW : ∀ b s', (g.μ s).A = some ⟨b, s', none⟩ → ∀ o', s' ≤ o' → o' < s' + (g.μ s).C * z → OwnR (g.μ s) r b o' := fun b s' hA o' q1 q2 =>
      ⟨s', hA, by rw [hlo0, Nat.zero_mul]; exact q1, by rw [hop, if_pos rfl, hmz]; exact q2⟩
    have hnew : ∀ (w' : World) (v' : Value), (Builtin.append_ #[T, T] o.type #[.slice (g.μ s).A (g.μ s).n (g.μ s).C, a.eval y]).run X.P w = .ok (.slice (g.μ s).A ((g.μ s).n + ys.length) (g.μ s).C) w' →
        (w' = w ∧ ys.length = 0 ∨ ∃ b s', (g.μ s).A = some ⟨b, s', none⟩ ∧ w' = w.setCells b (s' + (g.μ s).n * z) vals) → o.wpIn (FX ρ) n X.P a w K Q := by
      intro w' v' hrun hw'
      have hcell : ∀ b o', ¬ (∃ s', (g.μ s).A = some ⟨b, s', none⟩ ∧ s' + (g.μ s).n * z ≤ o' ∧ o' < s' + (g.μ s).C * z) → w'.cell? ⟨b, o', none⟩ = w.cell? ⟨b, o', none⟩ ∧ w'.frozen? ⟨b, o', none⟩ = w.frozen? ⟨b, o', none⟩ := by
        intro b o' q
        rcases hw' with ⟨rfl, _⟩ | ⟨b', s', hA, rfl⟩
        · exact ⟨rfl, rfl⟩
        · refine ⟨World.cell?_setCells_out b' vals _ w ⟨b, o', none⟩ fun q1 _ => ?_, World.frozen?_setCells b' vals _ w _⟩
          simp only at q1 ⊢
          subst q1
          rcases Nat.lt_or_ge o' (s' + (g.μ s).n * z) with q2 | q2
          · exact .inl q2
          · right
            rcases Nat.lt_or_ge o' (s' + (g.μ s).n * z + vals.length) with q3 | q3
            · exfalso
              refine q ⟨s', hA, q2, ?_⟩
              have : ((g.μ s).n + ys.length) * z ≤ (g.μ s).C * z := Nat.mul_le_mul_right _ hroom
              rw [Nat.add_mul] at this
              omega
            · exact q3
      have hxw : Ext w (g.imm) w' (g.imm) := ⟨fun _ _ q => q, fun b o' q => (hcell b o' fun q' => hTi b o' q' q).1, fun k _ x _ hx hc => by
        rcases hw' with ⟨rfl, _⟩ | ⟨b', s', hA, rfl⟩
        · exact hx
        · exact (heap_setCells_same b' vals _ w).same k x hx (not_cells_of_map hc)⟩
      have hlw : w'.heap.size = w.heap.size := by
        rcases hw' with ⟨rfl, _⟩ | ⟨b', s', hA, rfl⟩
        · rfl
        · exact size_setCells _ _ _ _
      have hbw : Bel X.w0.heap.size X.w0 w' := by
        rcases hw' with ⟨rfl, _⟩ | ⟨b', s', hA, rfl⟩
        · exact h.below
        · rcases Nat.eq_zero_or_pos vals.length with q | q
          · have : vals = [] := List.eq_nil_of_length_eq_zero q
            subst this
            exact h.below
          · refine below_setCells b' ?_ vals _ w h.below
            refine (h.own_lt hsr (hT b' s' hA (s' + (g.μ s).n * z) (Nat.le_refl _) ?_)).1
            have : ((g.μ s).n + ys.length) * z ≤ (g.μ s).C * z := Nat.mul_le_mul_right _ hroom
            rw [Nat.add_mul] at this
            omega
      -- the rows stand
      have hother : ∀ l' r' b o', (St.of L R).σ l' = some r' → OwnR (g.μ l') r' b o' → ¬ OwnR (g.μ s) r b o' := by
        intro l' r' b o' q ho' k
        have hl' : l' ≠ s := fun e => by rw [e, hDs] at q; cases q
        obtain ⟨r1, k1, k2⟩ := ownSub h hAr q
        exact h.disj l' s r1 r hl' k1 hsr b o' (k2 b o' ho') k
      have hin : ∀ b o', (∃ s', (g.μ s).A = some ⟨b, s', none⟩ ∧ s' + (g.μ s).n * z ≤ o' ∧ o' < s' + (g.μ s).C * z) → OwnR (g.μ s) r b o' := fun b o' ⟨s', hA, q1, q2⟩ => hT b s' hA o' q1 q2
      have hM := hD.move (w' := w') (imm' := g.imm) hxw (fun l' r' b o' q ho' => ⟨(hcell b o' fun k => hother l' r' b o' q ho' (hin b o' k)).1, (hcell b o' fun k => hother l' r' b o' q ho' (hin b o' k)).2, hD.ownimm l' r' b o' q ho'⟩)
        (fun b o' q => by rw [hlw]; exact hD.immlt b o' q) hD.immsub hbw (fun k x hx hc => by
          rcases hw' with ⟨rfl, _⟩ | ⟨b', s', hA, rfl⟩
          · exact hx
          · exact (heap_setCells_same b' vals _ w).same k x hx hc) (fun _ _ _ q _ _ => q)
      have hown : ∀ b o', OwnR ⟨(g.μ s).A, (g.μ s).n + ys.length, (g.μ s).C, z⟩ ⟨r.els ++ ys, 0, true, z, true⟩ b o' → OwnR (g.μ s) r b o' := by
        rintro b o' ⟨s', hA, q1, q2⟩
        simp only [if_true, Nat.zero_mul, Nat.add_zero] at q1 q2
        exact hW b s' hA o' q1 q2
      have hN := hM.row (l := l) (m := ⟨(g.μ s).A, (g.μ s).n + ys.length, (g.μ s).C, z⟩) (r := ⟨r.els ++ ys, 0, true, z, true⟩) hlm hDl
        ⟨by simp [hn], rfl, hroom, Nat.zero_le _, fun e he => ⟨(List.mem_append.1 he).elim (fun q => (hR.el e q).1) (hyel e), hel e he⟩, hR.nil, hR.spot, fun i x j y hx hy => ?_, fun b o' q => ?_⟩
        (fun l' r' b o' q ho' k => hother l' r' b o' q ho' (hown b o' k)) (fun b o' q k => h.ownimm s r b o' hsr (hown b o' q) k)
      · refine wpIn_value hnd (exec_append ho (by rw [e]; exact hrun)) (hK _ _ _ (hN.put hdst ?_))
        exact sl_new (l := l) (m := ⟨(g.μ s).A, (g.μ s).n + ys.length, (g.μ s).C, z⟩) ⟨_, upd_same _ _ _⟩ (upd_same _ _ _)
      · simp only at hx ⊢
        have hi := lt_of_get hx
        simp at hi
        have hxz : x.cells.length = z := hel x (List.mem_of_getElem? hx)
        have hj := PV.cells_len_pos hy
        rcases Nat.lt_or_ge i r.els.length with q | q
        · rw [List.getElem?_append_left q] at hx
          obtain ⟨b, s', u, k1, k2, k3, k4, k5⟩ := hR.cell i x j y hx hy
          rw [hmz] at k2
          have hzz' : (i + 1) * z ≤ (g.μ s).n * z := Nat.mul_le_mul_right _ (by omega)
          rw [Nat.add_mul, Nat.one_mul] at hzz'
          refine ⟨b, s', u, k1, ?_, .cl ((k5 hcl).mono hxw), fun q' => absurd q' (Nat.not_lt_zero _), fun _ => (k5 hcl).mono hxw⟩
          rw [(hcell b _ ?_).1]; · exact k2
          rintro ⟨s2, hA2, q1, q2⟩
          rw [k1] at hA2
          cases hA2
          omega
        · rw [List.getElem?_append_right q] at hx
          have hm : 0 < ys.length := by omega
          rcases hw' with ⟨_, q0⟩ | ⟨b', s', hA, rfl⟩
          · omega
          · have e1 : (i - r.els.length) * z = i * z - r.els.length * z := Nat.sub_mul _ _ _
            have e2 : r.els.length * z ≤ i * z := Nat.mul_le_mul_right _ q
            have e3 : (i - r.els.length + 1) * z ≤ ys.length * z := Nat.mul_le_mul_right _ (by omega)
            rw [Nat.add_mul, Nat.one_mul] at e3
            have hlt : (i - r.els.length) * z + j < vals.length := by omega
            have hu' := List.getElem?_eq_getElem hlt
            have hrd := hvr _ x j y _ hx hy hu'
            have hin2 := World.cell?_setCells_in b' vals (s' + (g.μ s).n * z) w (fun j' hj' => (hR.own b' _ (hT b' s' hA _ (by omega) (by
              have : ((g.μ s).n + ys.length) * z ≤ (g.μ s).C * z := Nat.mul_le_mul_right _ hroom
              rw [Nat.add_mul] at this
              omega))).2.1) _ hlt
            rw [show s' + (g.μ s).n * z + ((i - r.els.length) * z + j) = s' + i * z + j by rw [hn]; omega] at hin2
            exact ⟨b', s', _, hA, hin2, .cl ((hrd.2 rfl).mono hxw), fun q' => absurd q' (Nat.not_lt_zero _), fun _ => (hrd.2 rfl).mono hxw⟩
      · obtain ⟨s', hA, q1, q2⟩ := q
        simp only [if_true, Nat.zero_mul, Nat.add_zero] at q1 q2
        obtain ⟨k1, k2, k3⟩ := hR.own b o' (hW b s' hA o' q1 q2)
        refine ⟨k1, ?_, ?_⟩
        · rcases hw' with ⟨rfl, _⟩ | ⟨b', s2, hA2, rfl⟩
          · exact k2
          · rw [hA] at hA2
            cases hA2
            by_cases q3 : s' + (g.μ s).n * z ≤ o' ∧ o' < s' + (g.μ s).n * z + vals.length
            · have := World.cell?_setCells_in b vals (s' + (g.μ s).n * z) w (fun j' hj' => (hR.own b _ (hT b s' hA _ (by omega) (by
                have : ((g.μ s).n + ys.length) * z ≤ (g.μ s).C * z := Nat.mul_le_mul_right _ hroom
                rw [Nat.add_mul] at this
                omega))).2.1) (o' - (s' + (g.μ s).n * z)) (by omega)
              rw [show s' + (g.μ s).n * z + (o' - (s' + (g.μ s).n * z)) = o' by omega] at this
              rw [this]; rfl
            · rw [World.cell?_setCells_out b vals _ w ⟨b, o', none⟩ fun _ _ => by simp only; omega]
              exact k2
        · rcases hw' with ⟨rfl, _⟩ | ⟨b', s2, hA2, rfl⟩
          · exact k3
          · rw [World.frozen?_setCells]; exact k3
    rcases Nat.eq_zero_or_pos ys.length with hm | hm
    · refine hnew w undef ?_ (.inl ⟨rfl, hm⟩)
      rw [eB, hm]
      exact run_append_0 hE hz hR.C
    · obtain ⟨bB, sB, rfl, hBc⟩ := hvc hm
      obtain ⟨b, s', hA⟩ := hR.spot (by omega)
      refine hnew _ undef ?_ (.inr ⟨b, s', hA, rfl⟩)
      rw [eB, hA]
      refine run_append_room' hE hz hroom hlv (fun j u hj => by rw [addr_add]; exact hBc j u hj) hone fun j hj => (hR.own b _ (hT b s' hA _ (by omega) (by
        have : ((g.μ s).n + ys.length) * z ≤ (g.μ s).C * z := Nat.mul_le_mul_right _ hroom
        rw [Nat.add_mul] at this
        omega))).2

end
/-! ### Code within which one might jump, and doesn't -/
section
open Go
variable {P : Program} {F : Fence} {n : Nat} {b : Frame} {a : Act} {k : List Item} {cs : List Frame} {w : World}

theorem stepR_scope {c : Code} : step P (lone (b.atR a (.code (.scope c) :: k)) cs w) = .next (lone (b.atR a (.code c :: .inScope c :: k)) cs w) :=
  step_lone_go (by simp [stepG, stepG.exec, Frame.atR])
theorem stepR_inScope {c : Code} : step P (lone (b.atR a (.inScope c :: k)) cs w) = .next (lone (b.atR a k) cs w) :=
  step_lone_go (by simp [stepG, stepG.exec, Frame.atR])

theorem wpIn_scope {c : Code} {Q : Exit → Act → World → Prop} (hg : ∀ l a w, ¬ Q (.goto l) a w) (h : c.wpIn F n P Q a w) : (Code.scope c).wpIn F n P Q a w := by
  intro b k cs hro hb hr
  have h0 : (lone (b.atR a (.code (.scope c) :: k)) cs w).fenced P F := fenced_calm hb hr rfl
  obtain ⟨e, a₁, w₁, hq, harr⟩ := h b (.inScope c :: k) cs hro hb hr
  cases e with
  | normal => exact ⟨.normal, a₁, w₁, hq, .head h0 stepR_scope (StepsIn.trans harr (.one (fenced_calm hb hr rfl) stepR_inScope))⟩
  | exit id =>
    have hx : exitTo id (.inScope c :: k) = exitTo id k := by simp [exitTo]
    exact ⟨.exit id, a₁, w₁, hq, fun k' hk => .head h0 stepR_scope (harr.1 k' (by rw [hx]; exact hk)),
      fun hr' hk => let ⟨k₁, h1, h2⟩ := harr.2 hr' (by rw [hx]; exact hk); ⟨k₁, h1, .head h0 stepR_scope h2⟩⟩
  | goto l => exact absurd hq (hg l _ _)
  | ret => exact ⟨_, a₁, w₁, hq, .of_steps (.one h0 stepR_scope) harr⟩
  | panic ch => exact ⟨_, a₁, w₁, hq, .of_steps (.one h0 stepR_scope) harr⟩
  | outgrown => exact ⟨_, a₁, w₁, hq, .of_steps (.one h0 stepR_scope) harr⟩
end

def scopeQ (Q : PX → Ctx → St → Prop) : PX → Ctx → St → Prop
  | .goto _, _, _ => False
  | e, X, s => Q e X s

theorem scopeQ_exit {Q : PX → Ctx → St → Prop} {i : Nat} {X : Ctx} {s : St} (h : Q (.exit i) X s) : scopeQ Q (.exit i) X s := h
theorem scopeQ_normal {Q : PX → Ctx → St → Prop} {X : Ctx} {s : St} (h : Q .normal X s) : scopeQ Q .normal X s := h

theorem pw_scope {X : Ctx} {Q : PX → Ctx → St → Prop} {st : St} {c : Code} (h : Pwp X c (scopeQ Q) st) : Pwp X (.scope c) Q st := fun n g a w hs => by
  refine wpIn_mono (wpIn_scope (Q := lift X (scopeQ Q)) (fun l a' w' q => ?_) (h n g a w hs)) fun e a' w' q => ?_
  · obtain ⟨_, _, _, _, _, q⟩ := q; exact q
  · cases e <;> simp only [lift] at q ⊢ <;> first | exact q | (obtain ⟨X', g', st', h1, h3, h2⟩ := q; exact ⟨X', g', st', h1, h3, h2⟩) | (obtain ⟨X', g', st', h1, h3, h2⟩ := q; exact absurd h2 id)

/-! ### Functions as values, of which one knows the number -/

def FvR (e : Option Nat) : World → (Nat → Nat → Prop) → Value → Prop := fun _ _ v => v = match e with
  | none => .nilFunc
  | some n => .func (.func n) #[] #[]
abbrev fvE (e : Option Nat) : PV := .abs (FvR e)

def PV.fv0 : PV → PV
  | .fn (.func n) [] => fvE (some n)
  | .nilfn => fvE none
  | d => d
def PV.fv1 : PV → PV
  | .agg cs => .agg (cs.map PV.fv0)
  | d => d.fv0

theorem PV.fv0_sc {d : PV} (h : d.sc = true) : d.fv0.sc = true := by
  unfold PV.fv0
  split <;> first | rfl | exact h

theorem Rd0.fv0 {w : World} {imm : Nat → Nat → Prop} {v : Value} {d : PV} (h : Rd0 w imm v d) : Rd0 w imm v d.fv0 := by
  unfold PV.fv0
  split
  · cases h with
    | fn f vs cap hn _ =>
      obtain rfl : vs = #[] := Array.eq_empty_of_size_eq_zero (by simpa using hn)
      exact .abs _ _ rfl fun _ _ _ => rfl
  · cases h
    exact .abs _ _ rfl fun _ _ _ => rfl
  · exact h

theorem Rd.fv0 {w : World} {imm : Nat → Nat → Prop} {μ : Nat → RLoc} {pres : Nat → Prop} {v : Value} {d : PV} (h : Rd w imm μ pres v d) : Rd w imm μ pres v d.fv0 := by
  unfold PV.fv0
  split
  · exact .cl (h.clo1 rfl).fv0
  · exact .cl (h.clo1 rfl).fv0
  · exact h

theorem Rd.fv1 {w : World} {imm : Nat → Nat → Prop} {μ : Nat → RLoc} {pres : Nat → Prop} {v : Value} {d : PV} (h : Rd w imm μ pres v d) : Rd w imm μ pres v d.fv1 := by
  by_cases e : ∃ cs, d = .agg cs
  · obtain ⟨cs, rfl⟩ := e
    obtain ⟨vs, rfl, hn, hk⟩ := h.agg_inv
    have hsc := h.agg_sc
    refine .agg vs _ (List.all_eq_true.2 fun c hc => ?_) (by simpa using hn) fun i v c hv hc => ?_
    · obtain ⟨c0, h0, rfl⟩ := List.mem_map.1 hc
      exact PV.fv0_sc (List.all_eq_true.1 hsc c0 h0)
    · obtain ⟨c0, k1, rfl⟩ := map_get hc
      exact (hk i v c0 hv k1).fv0
  · have : d.fv1 = d.fv0 := by cases d <;> first | rfl | exact absurd ⟨_, rfl⟩ e
    rw [this]
    exact h.fv0

theorem wk_say {s : St} (t : Nat) {d d' : PV} (ht : s.env t = d) (hd : ∀ w imm μ pres v, Rd w imm μ pres v d → Rd w imm μ pres v d') : Wk s ⟨upd s.env t d', s.σ⟩ := fun X g a w h => by
  refine ⟨g, ⟨h.size, fun i => ?_, h.rows, h.disj, h.ownimm, h.immlt, h.immsub, h.immsup, h.below, h.marks, h.obs, h.big, h.maps⟩⟩
  by_cases q : i = t
  · subst q
    rw [show (St.mk (upd s.env i d') s.σ).env i = d' from upd_same _ _ _]
    exact hd _ _ _ _ _ (by rw [← ht]; exact h.env i)
  · rw [show (St.mk (upd s.env t d') s.σ).env i = s.env i from upd_other _ _ q]
    exact h.env i

/-- A function, or a struct of functions: of which one is said the number. -/
theorem wk_fv {s : St} (t : Nat) {d' : PV} (h : (s.env t).fv1 = d') : Wk s ⟨upd s.env t d', s.σ⟩ := by
  subst h
  exact wk_say t rfl fun _ _ _ _ _ q => q.fv1

/-- .. and back. -/
theorem wk_fn {s : St} (t : Nat) {e : Option Nat} {n : Nat} (ht : s.env t = fvE e) (he : e = some n) : Wk s ⟨upd s.env t (.fn (.func n) []), s.σ⟩ := by
  subst he
  refine wk_say t ht fun w imm μ pres v q => ?_
  have := q.abs_inv
  unfold FvR at this
  rw [this]
  exact .cl (.fn _ #[] [] rfl fun i v c _ hc => by simp at hc)
end Go.Pw
