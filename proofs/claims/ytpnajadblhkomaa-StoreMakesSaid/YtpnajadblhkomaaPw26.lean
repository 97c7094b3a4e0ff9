/-
  A cell of a variable is said otherwise.
-/
import Derived.Test.YtpnajadblhkomaaPw25
namespace Go.Pw
open Go.RowKit Go.Sh
set_option linter.unusedVariables false

theorem cells_set {x y y' z : PV} {j k : Nat} (hx : x.el = true) (hj : x.cells[j]? = some y) (hs : y'.sc = true) (h : (setC x j [y']).cells[k]? = some z) : (k = j ∧ z = y') ∨ (k ≠ j ∧ x.cells[k]? = some z) := by
  have hlt := PV.cells_len_pos hj
  have hc := (setC_cells (x := x) (f := j) (cs := [y']) hx (by simp; omega) (by simp [hs])).1
  rw [hc] at h
  have hk : (x.cells.take j).length = j := by simp; omega
  by_cases e : k = j
  · subst e
    left
    refine ⟨rfl, ?_⟩
    rw [List.append_assoc, List.getElem?_append_right (by omega)] at h
    simp [hk] at h
    exact h.symm
  · right
    refine ⟨e, ?_⟩
    rcases Nat.lt_or_ge k j with q | q
    · rw [List.append_assoc, List.getElem?_append_left (by omega), List.getElem?_take_of_lt q] at h
      exact h
    · rw [List.getElem?_append_right (by simp; omega)] at h
      simp only [List.length_append, hk, List.length_cons, List.length_nil, List.getElem?_drop] at h
      rwa [show j + (0 + 1) + (k - (j + (0 + 1))) = k by omega] at h

section
variable {X : Ctx} {st : St} {a : Act} {w : World} {g : Gh}

theorem Sim.recell (h : Sim X g st a w) {l0 j : Nat} {r0 : Row} {x y y' : PV} {cl' : Bool} (hl : st.σ l0 = some r0) (he : r0.els = [x]) (hj : x.cells[j]? = some y) (hs : y'.sc = true) (hr : ∀ b s v, (g.μ l0).A = some ⟨b, s, none⟩ → w.cell? ⟨b, s + 0 * (g.μ l0).z + j, none⟩ = some v → Rd w g.imm g.μ st.pres v y → Rd w g.imm g.μ st.pres v y')
    (hcl : cl' = true → r0.cl = true ∧ ∀ v, Rd0 w g.imm v y → Rd0 w g.imm v y') : Sim X g ⟨st.env, upd st.σ l0 (some ⟨[setC x j [y']], r0.lo, r0.opn, r0.z, cl'⟩)⟩ a w := by
  have hp : ∀ l, st.pres l → St.pres ⟨st.env, upd st.σ l0 (some ⟨[setC x j [y']], r0.lo, r0.opn, r0.z, cl'⟩)⟩ l ∧ g.μ l = g.μ l := by
    rintro l ⟨r, hr⟩
    refine ⟨?_, rfl⟩
    by_cases e : l = l0
    · subst e; exact ⟨_, upd_same _ _ _⟩
    · exact ⟨r, by rw [← hr]; exact upd_other _ _ e⟩
  have nomap : MB ≤ l0 → False := fun q => by
    obtain ⟨b', es, h1, _⟩ := h.maps.at_ l0 r0 q hl
    rw [he] at h1
    cases h1
    cases hj
  have hR := h.rows l0 r0 hl
  have hxel := hR.el x (by rw [he]; exact List.mem_cons_self ..)
  have hlt := PV.cells_len_pos hj
  have hset := setC_cells (x := x) (f := j) (cs := [y']) hxel.1 (by simp; omega) (by simp [hs])
  have hlen : (setC x j [y']).cells.length = x.cells.length := by rw [hset.1]; simp; omega
  have hown : ∀ b o, OwnR (g.μ l0) ⟨[setC x j [y']], r0.lo, r0.opn, r0.z, cl'⟩ b o → OwnR (g.μ l0) r0 b o := fun b o q => q
  have hcase : ∀ l r, upd st.σ l0 (some ⟨[setC x j [y']], r0.lo, r0.opn, r0.z, cl'⟩) l = some r → ∃ r1, st.σ l = some r1 ∧ (∀ b o, OwnR (g.μ l) r b o → OwnR (g.μ l) r1 b o) := by
    intro l r q
    by_cases e : l = l0
    · subst e; rw [upd_same] at q; cases q; exact ⟨r0, hl, hown⟩
    · rw [upd_other _ _ e] at q; exact ⟨r, q, fun _ _ q => q⟩
  refine ⟨h.size, fun i => (h.env i).mono (Ext.refl _ _) hp, fun l r q => ?_, fun l l' r r' hne q q' b o ho k => ?_, fun l r b o q ho => ?_, h.immlt, h.immsub, h.immsup, h.below, h.marks, h.obs, h.big, h.maps.upd hl (fun q => (nomap q).elim) fun q => (nomap q).elim⟩
  · by_cases e : l = l0
    · subst e
      rw [show (St.mk st.env (upd st.σ l (some ⟨[setC x j [y']], r0.lo, r0.opn, r0.z, cl'⟩))).σ l = _ from upd_same _ _ _] at q
      cases q
      refine ⟨by rw [hR.n, he]; rfl, hR.z, hR.C, hR.lo, fun z hz => ?_, hR.nil, hR.spot, fun i z k c hz hc => ?_, fun b o ho => hR.own b o ho⟩
      · simp only [List.mem_singleton] at hz
        subst hz
        exact ⟨hset.2, by rw [hlen]; exact hxel.2⟩
      · cases i with
        | succ i => simp at hz
        | zero =>
          simp only [List.getElem?_cons_zero, Option.some.injEq] at hz
          subst hz
          rcases cells_set hxel.1 hj hs hc with ⟨rfl, rfl⟩ | ⟨_, hc'⟩
          · obtain ⟨b, s, u, k1, k2, k3, k4, k5⟩ := hR.cell 0 x k y (by rw [he]; rfl) hj
            exact ⟨b, s, u, k1, k2, (hr b s u k1 k2 k3).mono (Ext.refl _ _) hp, k4, fun q => (hcl q).2 u (k5 (hcl q).1)⟩
          · obtain ⟨b, s, u, k1, k2, k3, k4, k5⟩ := hR.cell 0 x k c (by rw [he]; rfl) hc'
            exact ⟨b, s, u, k1, k2, k3.mono (Ext.refl _ _) hp, k4, fun q => k5 (hcl q).1⟩
    · rw [show (St.mk st.env (upd st.σ l0 (some ⟨[setC x j [y']], r0.lo, r0.opn, r0.z, cl'⟩))).σ l = st.σ l from upd_other _ _ e] at q
      exact (h.rows l r q).mono (Ext.refl _ _) hp fun _ _ _ => ⟨rfl, rfl⟩
  · obtain ⟨r1, h1, k1⟩ := hcase l r q
    obtain ⟨r2, h2, k2⟩ := hcase l' r' q'
    exact h.disj l l' r1 r2 hne h1 h2 b o (k1 b o ho) (k2 b o k)
  · obtain ⟨r1, h1, k1⟩ := hcase l r q
    exact h.ownimm l r1 b o h1 (k1 b o ho)
end

/-- The nil slice in a variable, as a row that holds nothing. -/
theorem wk_nilC {s : St} {l0 j l z : Nat} {x x' : PV} {lo zz : Nat} {opn cl : Bool} (hl0 : s.σ l0 = some ⟨[x], lo, opn, zz, cl⟩) (hj : x.cells[j]? = some (.lst true [])) (hl : s.σ l = none) (hx : setC x j [.sl l] = x') (hne : (l == l0) = false) (hlm : l < MB := by exact Nat.le_of_ble_eq_true rfl) :
    Wk s ⟨s.env, upd (upd s.σ l (some ⟨[], 0, true, z, true⟩)) l0 (some ⟨[x'], lo, opn, zz, false⟩)⟩ := fun X g a w h => by
  subst hx
  have hne' : l ≠ l0 := by simpa using hne
  have nomap : MB ≤ l0 → False := fun q => by
    obtain ⟨b', es, h1, _⟩ := h.maps.at_ l0 _ q hl0
    cases h1
    cases hj
  have hxr := (h.rows l0 _ hl0).cell 0 x j _ rfl hj
  obtain ⟨b0, s0, u, hA0, hu, hv, _, _⟩ := hxr
  obtain ⟨A, c, z', u', e, h1, h2, h3, _⟩ := hv.lst_inv
  have hc := h2 rfl
  simp only [List.length_nil] at hc e
  subst hc
  have hs := h.sameRow (l := l) (A := A) (xs := []) (z := z) hlm hl (fun _ => rfl) (fun _ q => by cases q) (fun q => absurd q (Nat.lt_irrefl _)) true
  -- the cell holds that very slice: its reading is of one value only
  have hl0' : (St.mk s.env (upd s.σ l (some ⟨[], 0, true, z, true⟩))).σ l0 = some ⟨[x], lo, opn, zz, cl⟩ := by rw [← hl0]; exact upd_other _ _ (Ne.symm hne')
  have hs' : Sim X ⟨g.imm, upd g.μ l ⟨A, 0, 0, z⟩⟩ ⟨s.env, upd s.σ l (some ⟨[], 0, true, z, true⟩)⟩ a w := hs
  have hR := hs'.rows l0 _ hl0'
  have hμ : upd g.μ l ⟨A, 0, 0, z⟩ l0 = g.μ l0 := upd_other _ _ (Ne.symm hne')
  have hp : ∀ l', St.pres ⟨s.env, upd s.σ l (some ⟨[], 0, true, z, true⟩)⟩ l' → St.pres ⟨s.env, upd (upd s.σ l (some ⟨[], 0, true, z, true⟩)) l0 (some ⟨[setC x j [.sl l]], lo, opn, zz, false⟩)⟩ l' ∧ upd g.μ l ⟨A, 0, 0, z⟩ l' = upd g.μ l ⟨A, 0, 0, z⟩ l' := by
    rintro l' ⟨r, hr⟩
    refine ⟨?_, rfl⟩
    by_cases e : l' = l0
    · subst e; exact ⟨_, upd_same _ _ _⟩
    · exact ⟨r, by rw [← hr]; exact upd_other _ _ e⟩
  have hxel := hR.el x (List.mem_cons_self ..)
  have hlt := PV.cells_len_pos hj
  have hset := setC_cells (x := x) (f := j) (cs := [.sl l]) hxel.1 (by simp; omega) rfl
  have hlen : (setC x j [.sl l]).cells.length = x.cells.length := by rw [hset.1]; simp; omega
  have hcase : ∀ l' r, upd (upd s.σ l (some ⟨[], 0, true, z, true⟩)) l0 (some ⟨[setC x j [.sl l]], lo, opn, zz, false⟩) l' = some r → ∃ r1, upd s.σ l (some ⟨[], 0, true, z, true⟩) l' = some r1 ∧ (∀ b o, OwnR (upd g.μ l ⟨A, 0, 0, z⟩ l') r b o → OwnR (upd g.μ l ⟨A, 0, 0, z⟩ l') r1 b o) := by
    intro l' r q
    by_cases e : l' = l0
    · subst e; rw [upd_same] at q; cases q; exact ⟨_, hl0', fun _ _ q => q⟩
    · rw [upd_other _ _ e] at q; exact ⟨r, q, fun _ _ q => q⟩
  refine ⟨⟨g.imm, upd g.μ l ⟨A, 0, 0, z⟩⟩, ⟨hs'.size, fun i => (hs'.env i).mono (Ext.refl _ _) hp, fun l' r q => ?_, fun l1 l2 r r' hne q q' b o ho k => ?_, fun l' r b o q ho => ?_, hs'.immlt, hs'.immsub, hs'.immsup, hs'.below, hs'.marks, hs'.obs, hs'.big, hs'.maps.upd hl0' (fun q => (nomap q).elim) fun q => (nomap q).elim⟩⟩
  · by_cases e : l' = l0
    · subst e
      rw [show (St.mk s.env (upd (upd s.σ l (some ⟨[], 0, true, z, true⟩)) l' (some ⟨[setC x j [.sl l]], lo, opn, zz, false⟩))).σ l' = _ from upd_same _ _ _] at q
      cases q
      refine ⟨hR.n, hR.z, hR.C, hR.lo, fun z hz => ?_, hR.nil, hR.spot, fun i z k c hz hc => ?_, fun b o ho => hR.own b o ho⟩
      · simp only [List.mem_singleton] at hz
        subst hz
        exact ⟨hset.2, by rw [hlen]; exact hxel.2⟩
      · cases i with
        | succ i => simp at hz
        | zero =>
          simp only [List.getElem?_cons_zero, Option.some.injEq] at hz
          subst hz
          rcases cells_set hxel.1 hj rfl hc with ⟨rfl, rfl⟩ | ⟨_, hc'⟩
          · obtain ⟨b, s1, u1, k1, k2, k3, k4, k5⟩ := hR.cell 0 x k _ rfl hj
            refine ⟨b, s1, u1, k1, k2, ?_, k4, fun q => by cases q⟩
            simp only [hμ] at k1 k2
            rw [hA0] at k1
            cases k1
            rw [hu] at k2
            cases k2
            rw [e]
            exact sl_new (m := ⟨A, 0, 0, z⟩) ⟨⟨[], 0, true, z, true⟩, (upd_other _ _ hne').trans (upd_same _ _ _)⟩ (upd_same _ _ _)
          · obtain ⟨b, s, u, k1, k2, k3, k4, k5⟩ := hR.cell 0 x k c rfl hc'
            exact ⟨b, s, u, k1, k2, k3.mono (Ext.refl _ _) hp, k4, fun q => by cases q⟩
    · rw [show (St.mk s.env (upd (upd s.σ l (some ⟨[], 0, true, z, true⟩)) l0 (some ⟨[setC x j [.sl l]], lo, opn, zz, false⟩))).σ l' = upd s.σ l (some ⟨[], 0, true, z, true⟩) l' from upd_other _ _ e] at q
      exact (hs'.rows l' r q).mono (Ext.refl _ _) hp fun _ _ _ => ⟨rfl, rfl⟩
  · obtain ⟨r1, h1, k1⟩ := hcase l1 r q
    obtain ⟨r2, h2, k2⟩ := hcase l2 r' q'
    exact hs'.disj l1 l2 r1 r2 hne h1 h2 b o (k1 b o ho) (k2 b o k)
  · obtain ⟨r1, h1, k1⟩ := hcase l' r q
    exact hs'.ownimm l' r1 b o h1 (k1 b o ho)

/-- A tight slice in a variable: that is forgotten. -/
theorem wk_w1R {s : St} (l0 j : Nat) {x x' y : PV} {lo zz : Nat} {opn cl : Bool} (hl0 : s.σ l0 = some ⟨[x], lo, opn, zz, cl⟩) (hj : x.cells[j]? = some y) (hs : y.w1.sc = true) (hx : setC x j [y.w1] = x') : Wk s ⟨s.env, upd s.σ l0 (some ⟨[x'], lo, opn, zz, cl⟩)⟩ := fun X g a w h => by
  subst hx
  exact ⟨g, h.recell hl0 rfl hj hs (fun _ _ v _ _ q => q.w1) (fun q => ⟨q, fun v q => q.w1⟩)⟩

/-- A row that a variable holds is shown. -/
theorem wk_vwC {s : St} (l0 j : Nat) {x x' y y' : PV} {σ' : Nat → Option Row} {lo zz : Nat} {opn cl : Bool} {r00 : Row} (h00 : s.σ l0 = some r00) (he : r00.els = [x]) (hj : x.cells[j]? = some y) (hok : y.vok s.σ = true) (hy : y.vw s.σ = y') (hf : frzL s.σ (y.vrefs s.σ) = σ') (hl0 : σ' l0 = some ⟨[x], lo, opn, zz, cl⟩) (hs : y'.sc = true) (hx : setC x j [y'] = x') :
    Wk s ⟨s.env, upd σ' l0 (some ⟨[x'], lo, opn, zz, false⟩)⟩ := fun X g a w h => by
  subst hx; subst hy; subst hf
  obtain ⟨imm', h1, h2, h3⟩ := h.frzL (y.vrefs s.σ)
  refine ⟨⟨imm', g.μ⟩, h1.recell hl0 rfl hj hs (fun b s1 v hA hv _ => ?_) (fun q => by cases q)⟩
  obtain ⟨b', s', u, k1, k2, k3, _, _⟩ := (h.rows l0 r00 h00).cell 0 x j y (by rw [he]; rfl) hj
  have hA' : (g.μ l0).A = some ⟨b, s1, none⟩ := hA
  rw [hA'] at k1
  cases k1
  have hv' : w.cell? ⟨b, s1 + 0 * (g.μ l0).z + j, none⟩ = some v := hv
  rw [hv'] at k2
  cases k2
  exact .cl (h.view h2 k3 hok h3).w2
end Go.Pw
