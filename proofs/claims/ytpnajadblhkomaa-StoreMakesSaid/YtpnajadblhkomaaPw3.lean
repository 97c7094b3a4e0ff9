/-
  Cells that are written; rows that are let go; what is shown to a call.
-/
import Derived.Test.YtpnajadblhkomaaPw2
import Derived.Laws.IdiomCopy
namespace Go.Pw
open Go.RowKit

variable {X : Ctx} {g : Gh} {st : St} {a : Act} {w : World}

theorem heap_setCells_same (b : Nat) : ∀ (vs : List Value) (o : Nat) (w : World), KeepsOthers w (w.setCells b o vs)
  | [], _, w => KeepsOthers.refl w
  | _ :: r, o, w => (KeepsOthers.setCell w _ _).trans (heap_setCells_same b r (o + 1) _)

theorem size_setCells (b : Nat) : ∀ (vs : List Value) (o : Nat) (w : World), (w.setCells b o vs).heap.size = w.heap.size
  | [], _, _ => rfl
  | _ :: r, o, w => by rw [World.setCells, size_setCells b r, World.size_setCell]

theorem below_setCells {B : Nat} {w0 : World} (b : Nat) (hb : B ≤ b) : ∀ (vs : List Value) (o : Nat) (w : World), Bel B w0 w → Bel B w0 (w.setCells b o vs)
  | [], _, _, h => h
  | _ :: r, o, _, h => below_setCells b hb r (o + 1) _ (h.setCell (p := ⟨b, o, none⟩) hb _)

theorem one_eq (v : Value) : one v = v.oneCell' := by cases v <;> rfl

theorem lt_of_get {α : Type} {l : List α} {i : Nat} {x : α} (h : l[i]? = some x) : i < l.length := by
  rcases Nat.lt_or_ge i l.length with q | q
  · exact q
  · rw [List.getElem?_eq_none q] at h; cases h

/-- Cells that a row owns are written. -/
theorem Sim.write (h : Sim X g st a w) {l : Nat} {r : Row} {b o : Nat} {vs : List Value} {els : List PV} {cl : Bool} (hl : st.σ l = some r)
    (hmine : ∀ j, j < vs.length → OwnR (g.μ l) r b (o + j)) (hlen : els.length = r.els.length) (hel : ∀ x ∈ els, x.el = true ∧ x.cells.length = r.z)
    (hcell : ∀ (i : Nat) x (j : Nat) y, els[i]? = some x → x.cells[j]? = some y → ∃ b' s u, (g.μ l).A = some ⟨b', s, none⟩ ∧
      (w.setCells b o vs).cell? ⟨b', s + i * (g.μ l).z + j, none⟩ = some u ∧ Rd w g.imm g.μ st.pres u y ∧ (i < r.lo → g.imm b' (s + i * (g.μ l).z + j)) ∧ (cl = true → Rd0 w g.imm u y))
    (hne : 0 < vs.length) :
    Sim X g ⟨st.env, upd st.σ l (some { r with els := els, cl := cl })⟩ a (w.setCells b o vs) := by
  have hmine' : ∀ x, o ≤ x → x < o + vs.length → OwnR (g.μ l) r b x := fun x h1 h2 => by
    have := hmine (x - o) (by omega)
    rwa [show o + (x - o) = x by omega] at this
  have hb : X.w0.heap.size ≤ b := (h.own_lt hl (hmine 0 hne)).1
  have hout : ∀ b' o', ¬ OwnR (g.μ l) r b' o' → (w.setCells b o vs).cell? ⟨b', o', none⟩ = w.cell? ⟨b', o', none⟩ := fun b' o' hn =>
    World.cell?_setCells_out b vs o w ⟨b', o', none⟩ fun e _ => by
      simp only at e ⊢
      subst e
      rcases Nat.lt_or_ge o' o with q | q
      · exact .inl q
      · rcases Nat.lt_or_ge o' (o + vs.length) with q' | q'
        · exact absurd (hmine' o' q q') hn
        · exact .inr q'
  have hx : Ext w g.imm (w.setCells b o vs) g.imm := ⟨fun _ _ q => q, fun b' o' q => hout b' o' fun k => h.ownimm l r b' o' hl k q,
    fun k _ x _ hx hc => (heap_setCells_same b vs o w).same k x hx (not_cells_of_map hc)⟩
  have hp : ∀ l', st.pres l' → St.pres ⟨st.env, upd st.σ l (some { r with els := els, cl := cl })⟩ l' ∧ g.μ l' = g.μ l' := by
    rintro l' ⟨r', hr'⟩
    refine ⟨?_, rfl⟩
    by_cases e : l' = l
    · exact ⟨_, by rw [e]; exact upd_same _ _ _⟩
    · exact ⟨r', by rw [show (St.mk st.env (upd st.σ l (some { r with els := els, cl := cl }))).σ l' = st.σ l' from upd_other _ _ e]; exact hr'⟩
  have hcase : ∀ l' r', upd st.σ l (some { r with els := els, cl := cl }) l' = some r' → (l' = l ∧ r' = { r with els := els, cl := cl }) ∨ (l' ≠ l ∧ st.σ l' = some r') := by
    intro l' r' q
    by_cases e : l' = l
    · subst e; rw [upd_same] at q; cases q; exact .inl ⟨rfl, rfl⟩
    · rw [upd_other _ _ e] at q; exact .inr ⟨e, q⟩
  have hR := h.rows l r hl
  have nomap : MB ≤ l → False := fun q => by
    obtain ⟨b', es, h1, _⟩ := h.maps.at_ l r q hl
    have hz : r.z = 0 := by
      have := (hR.el (.mapc es) (by rw [h1]; exact List.mem_cons_self ..)).2
      rw [← this]; rfl
    obtain ⟨s, _, k1, k2⟩ := hmine 0 hne
    rw [hR.z, hz] at k1 k2
    simp only [Nat.mul_zero] at k1 k2
    omega
  refine ⟨h.size, fun i => (h.env i).mono hx hp, fun l' r' q => ?_, fun l1 l2 r1 r2 hne q1 q2 b' o' ho => ?_, fun l' r' b' o' q ho => ?_,
    fun b' o' q => by rw [size_setCells]; exact h.immlt b' o' q, h.immsub, h.immsup, below_setCells b hb vs o w h.below, h.marks.mono (heap_setCells_same b vs o w).same, fun p hp' => ⟨(heap_setCells_same b vs o w).same _ _ (h.obs p hp').1 (h.obs p hp').2.1, (h.obs p hp').2⟩, h.big,
    (h.maps.move hx (fun _ _ _ q _ _ => q) fun k o q1 q2 => (heap_setCells_same b vs _ w).same k o q1 (not_cells_of_map q2)).upd hl (fun q => (nomap q).elim) fun q => (nomap q).elim⟩
  · rcases hcase l' r' q with ⟨rfl, rfl⟩ | ⟨e, q'⟩
    · refine ⟨by rw [hR.n]; exact hlen.symm, hR.z, hR.C, hR.lo, hel, hR.nil, hR.spot, fun i x j y hx' hy => ?_, fun b' o' ho => ?_⟩
      · obtain ⟨b', s, u, h1, h2, h3, h4, h5⟩ := hcell i x j y hx' hy
        exact ⟨b', s, u, h1, h2, h3.mono hx hp, h4, fun q => (h5 q).mono hx⟩
      · obtain ⟨h1, h2, h3⟩ := hR.own b' o' ho
        refine ⟨h1, ?_, by rw [World.frozen?_setCells]; exact h3⟩
        by_cases q : b' = b ∧ o ≤ o' ∧ o' < o + vs.length
        · obtain ⟨rfl, q1, q2⟩ := q
          have := World.cell?_setCells_in b' vs o w (fun j hj => (hR.own b' (o + j) (hmine j hj)).2.1) (o' - o) (by omega)
          rw [show o + (o' - o) = o' by omega] at this
          rw [this]; rfl
        · rw [World.cell?_setCells_out b vs o w ⟨b', o', none⟩ fun e _ => by simp only at e ⊢; omega]
          exact h2
    · refine (h.rows l' r' q').mono hx hp fun b' o' ho => ⟨hout b' o' fun k => h.disj l' l r' r e q' hl b' o' ho k, World.frozen?_setCells b vs o w _⟩
  · rcases hcase l1 r1 q1 with ⟨rfl, rfl⟩ | ⟨e1, q1'⟩ <;> rcases hcase l2 r2 q2 with ⟨rfl, rfl⟩ | ⟨e2, q2'⟩
    · exact absurd rfl hne
    · exact fun k => h.disj l1 l2 r r2 hne hl q2' b' o' ho k
    · exact fun k => h.disj l1 l2 r1 r hne q1' hl b' o' ho k
    · exact h.disj l1 l2 r1 r2 hne q1' q2' b' o' ho
  · rcases hcase l' r' q with ⟨rfl, rfl⟩ | ⟨e, q'⟩
    · exact h.ownimm l' r b' o' hl ho
    · exact h.ownimm l' r' b' o' q' ho

/-- A row is let go: nobody writes what it holds any more. -/
def frz1 (σ : Nat → Option Row) (l : Nat) : Nat → Option Row :=
  match σ l with
  | some r => upd σ l (some { r with lo := r.els.length })
  | none => σ

def frzL (σ : Nat → Option Row) (ls : List Nat) : Nat → Option Row := ls.foldl frz1 σ

def frzImm (g : Gh) (σ : Nat → Option Row) (l lo : Nat) : Nat → Nat → Prop :=
  fun b o => g.imm b o ∨ ∃ r s, σ l = some r ∧ OwnR (g.μ l) r b o ∧ (g.μ l).A = some ⟨b, s, none⟩ ∧ o < s + lo * (g.μ l).z

theorem Sim.frz (h : Sim X g st a w) {l : Nat} {r : Row} (hl : st.σ l = some r) (lo : Nat) (h1 : r.lo ≤ lo) (h2 : lo ≤ r.els.length) (opn : Bool) (hop : opn = true → r.opn = true) :
    Sim X ⟨frzImm g st.σ l lo, g.μ⟩ ⟨st.env, upd st.σ l (some { r with lo := lo, opn := opn })⟩ a w := by
  have hR := h.rows l r hl
  have hx : Ext w g.imm w (frzImm g st.σ l lo) := ⟨fun _ _ q => .inl q, fun _ _ _ => rfl, fun _ _ _ _ q _ => q⟩
  have hp : ∀ l', st.pres l' → St.pres ⟨st.env, upd st.σ l (some { r with lo := lo, opn := opn })⟩ l' ∧ g.μ l' = g.μ l' := by
    rintro l' ⟨r', hr'⟩
    refine ⟨?_, rfl⟩
    by_cases e : l' = l
    · exact ⟨_, by rw [e]; exact upd_same _ _ _⟩
    · exact ⟨r', by rw [show (St.mk st.env (upd st.σ l (some { r with lo := lo, opn := opn }))).σ l' = st.σ l' from upd_other _ _ e]; exact hr'⟩
  have hcase : ∀ l' r', upd st.σ l (some { r with lo := lo, opn := opn }) l' = some r' → (l' = l ∧ r' = { r with lo := lo, opn := opn }) ∨ (l' ≠ l ∧ st.σ l' = some r') := by
    intro l' r' q
    by_cases e : l' = l
    · subst e; rw [upd_same] at q; cases q; exact .inl ⟨rfl, rfl⟩
    · rw [upd_other _ _ e] at q; exact .inr ⟨e, q⟩
  have hsub : ∀ b o, OwnR (g.μ l) { r with lo := lo, opn := opn } b o → OwnR (g.μ l) r b o ∧ ∀ s, (g.μ l).A = some ⟨b, s, none⟩ → s + lo * (g.μ l).z ≤ o := by
    rintro b o ⟨s, hA, k1, k2⟩
    have e1 : r.lo * (g.μ l).z ≤ lo * (g.μ l).z := Nat.mul_le_mul_right _ h1
    have e2 : (if opn then (g.μ l).C else (g.μ l).n) * (g.μ l).z ≤ (if r.opn then (g.μ l).C else (g.μ l).n) * (g.μ l).z := Nat.mul_le_mul_right _ (by
      have := hR.C
      cases opn
      · simp only [Bool.false_eq_true, if_false]; split <;> omega
      · rw [hop rfl]; exact Nat.le_refl _)
    simp only at k1 k2
    refine ⟨⟨s, hA, by omega, by omega⟩, fun s' hA' => ?_⟩
    rw [hA] at hA'
    cases hA'
    exact k1
  refine ⟨h.size, fun i => (h.env i).mono hx hp, fun l' r' q => ?_, fun l1 l2 r1 r2 hne q1 q2 b' o' ho => ?_, fun l' r' b' o' q ho => ?_,
    fun b o q => ?_, fun b o q => ?_, fun b o q => .inl (h.immsup b o q), h.below, h.marks, h.obs, h.big,
    (h.maps.move hx (fun b o x q hx' hm => q.elim id fun ⟨r2, s, hr2, k, _, _⟩ => by rw [own_no_map (h.rows l r2 hr2) k hx'] at hm; cases hm) (fun _ _ q _ => q)).upd hl (fun _ => rfl) fun _ => rfl⟩
  · rcases hcase l' r' q with ⟨rfl, rfl⟩ | ⟨e, q'⟩
    · refine ⟨hR.n, hR.z, hR.C, by rw [hR.n]; exact h2, hR.el, hR.nil, hR.spot, fun i x j y hx' hy => ?_, fun b o ho => hR.own b o (hsub b o ho).1⟩
      obtain ⟨b, s, u, k1, k2, k3, k4, k5⟩ := hR.cell i x j y hx' hy
      refine ⟨b, s, u, k1, k2, k3.mono hx hp, fun hi' => ?_, fun q => (k5 q).mono hx⟩
      by_cases hi : i < r.lo
      · exact .inl (k4 hi)
      · refine .inr ⟨r, s, hl, hR.mine hx' hy k1 hi, k1, ?_⟩
        have hz : x.cells.length = (g.μ l').z := by rw [hR.z]; exact (hR.el x (List.mem_of_getElem? hx')).2
        have hj := PV.cells_len_pos hy
        simp only at hi'
        have : (i + 1) * (g.μ l').z ≤ lo * (g.μ l').z := Nat.mul_le_mul_right _ (by omega)
        rw [Nat.add_mul, Nat.one_mul] at this
        show s + i * (g.μ l').z + j < s + lo * (g.μ l').z
        omega
    · exact (h.rows l' r' q').mono hx hp fun _ _ _ => ⟨rfl, rfl⟩
  · rcases hcase l1 r1 q1 with ⟨rfl, rfl⟩ | ⟨e1, q1'⟩ <;> rcases hcase l2 r2 q2 with ⟨rfl, rfl⟩ | ⟨e2, q2'⟩
    · exact absurd rfl hne
    · exact fun k => h.disj l1 l2 r r2 hne hl q2' b' o' (hsub _ _ ho).1 k
    · exact fun k => h.disj l1 l2 r1 r hne q1' hl b' o' ho (hsub _ _ k).1
    · exact h.disj l1 l2 r1 r2 hne q1' q2' b' o' ho
  · rintro (k | ⟨r2, s, hr2, k, kA, k'⟩)
    · rcases hcase l' r' q with ⟨rfl, rfl⟩ | ⟨e, q'⟩
      · exact h.ownimm l' r b' o' hl (hsub _ _ ho).1 k
      · exact h.ownimm l' r' b' o' q' ho k
    · rw [hl] at hr2
      cases hr2
      rcases hcase l' r' q with ⟨rfl, rfl⟩ | ⟨e, q'⟩
      · have := (hsub _ _ ho).2 s kA
        omega
      · exact h.disj l' l r' r e q' hl b' o' ho k
  · rcases q with q | ⟨r2, s, hr2, k, _, _⟩
    · exact h.immlt b o q
    · rw [hl] at hr2; cases hr2; exact (h.own_lt hl k).2
  · rcases q with q | ⟨r2, s, hr2, k, _, _⟩
    · exact h.immsub b o q
    · rw [hl] at hr2; cases hr2; exact .inr (h.own_lt hl k).1

/-- What a row holds lies where it stays. -/
def Shown (imm : Nat → Nat → Prop) (m : RLoc) (r : Row) : Prop :=
  ∀ (i : Nat) x (j : Nat) y b s, r.els[i]? = some x → x.cells[j]? = some y → m.A = some ⟨b, s, none⟩ → imm b (s + i * m.z + j)

theorem Sim.frzL (h : Sim X g st a w) : ∀ (ls : List Nat), ∃ imm', Sim X ⟨imm', g.μ⟩ ⟨st.env, Pw.frzL st.σ ls⟩ a w ∧ Ext w g.imm w imm' ∧
    ∀ l ∈ ls, ∀ r, st.σ l = some r → Shown imm' (g.μ l) r := by
  intro ls
  induction ls generalizing g st with
  | nil => exact ⟨g.imm, h, Ext.refl _ _, fun _ q => by simp at q⟩
  | cons l ls ih =>
    cases hl : st.σ l with
    | none =>
      have e : Pw.frzL st.σ (l :: ls) = Pw.frzL st.σ ls := by simp [Pw.frzL, frz1, hl]
      obtain ⟨imm', h1, h2, h3⟩ := ih h
      refine ⟨imm', by rw [e]; exact h1, h2, fun l' q r hr => ?_⟩
      rcases List.mem_cons.1 q with rfl | q
      · rw [hl] at hr; cases hr
      · exact h3 l' q r hr
    | some r =>
      have e : Pw.frzL st.σ (l :: ls) = Pw.frzL (upd st.σ l (some { r with lo := r.els.length, opn := r.opn })) ls := by simp [Pw.frzL, frz1, hl]
      have h0 := h.frz hl r.els.length (by have := (h.rows l r hl).lo; have := (h.rows l r hl).n; omega) (Nat.le_refl _) r.opn id
      obtain ⟨imm', h1, h2, h3⟩ := ih h0
      have hx : Ext w g.imm w (frzImm g st.σ l r.els.length) := ⟨fun _ _ q => .inl q, fun _ _ _ => rfl, fun _ _ _ _ q _ => q⟩
      refine ⟨imm', by rw [e]; exact h1, hx.trans h2, fun l' q r' hr => ?_⟩
      have hself : ∀ r2, st.σ l = some r2 → Shown imm' (g.μ l) r2 := by
        intro r2 hr2 i x j y b s hx' hy hA
        rw [hl] at hr2; cases hr2
        have hrow := h0.rows l { r with lo := r.els.length, opn := r.opn } (upd_same _ _ _)
        obtain ⟨b', s', u, k1, _, _, k4, _⟩ := hrow.cell i x j y hx' hy
        rw [hA] at k1; cases k1
        exact h2.im _ _ (k4 (lt_of_get hx'))
      by_cases el : l' = l
      · subst el; exact hself r' hr
      · rcases List.mem_cons.1 q with q | q
        · exact absurd q el
        · exact h3 l' q r' (by rw [show (St.mk st.env (upd st.σ l (some { r with lo := r.els.length, opn := r.opn }))).σ l' = st.σ l' from upd_other _ _ el]; exact hr)

/-! ### What is shown to a call -/

def PV.v0 (σ : Nat → Option Row) : PV → PV
  | .sl l => match σ l with
    | some r => .lst false r.els
    | none => .junk
  | d => d

def PV.v0ok (σ : Nat → Option Row) : PV → Bool
  | .sl l => match σ l with
    | some r => r.cl
    | none => false
  | d => d.clo1

def PV.v0refs : PV → List Nat
  | .sl l => [l]
  | _ => []

def PV.v2 (σ : Nat → Option Row) : PV → PV
  | .ptr l i f => match σ l with
    | some r => match r.els[i]? with
      | some x => .rptr ((x.cells.drop f).map (PV.v0 σ))
      | none => .junk
    | none => .junk
  | d => d.v0 σ

def PV.v2ok (σ : Nat → Option Row) : PV → Bool
  | .ptr l i f => match σ l with
    | some r => match r.els[i]? with
      | some x => (x.cells.drop f).all fun y => y.v0ok σ && y.sc
      | none => false
    | none => false
  | d => d.v0ok σ

def PV.v2refs (σ : Nat → Option Row) : PV → List Nat
  | .ptr l i f => l :: (match σ l with
    | some r => match r.els[i]? with
      | some x => (x.cells.drop f).flatMap PV.v0refs
      | none => []
    | none => [])
  | d => d.v0refs

def PV.v3 (σ : Nat → Option Row) : PV → PV
  | .agg cs => .agg (cs.map (PV.v0 σ))
  | .fn f cap => .fn f (cap.map (PV.v2 σ))
  | d => d.v2 σ

def PV.v3ok (σ : Nat → Option Row) : PV → Bool
  | .agg cs => cs.all fun y => y.v0ok σ && y.sc
  | .fn _ cap => cap.all (PV.v2ok σ)
  | d => d.v2ok σ

def PV.v3refs (σ : Nat → Option Row) : PV → List Nat
  | .agg cs => cs.flatMap PV.v0refs
  | .fn _ cap => cap.flatMap (PV.v2refs σ)
  | d => d.v2refs σ

def PV.view (σ : Nat → Option Row) : PV → PV
  | .tup cs => .tup (cs.map (PV.v3 σ))
  | d => d.v3 σ

def PV.vok (σ : Nat → Option Row) : PV → Bool
  | .tup cs => cs.all (PV.v3ok σ)
  | d => d.v3ok σ

def PV.vrefs (σ : Nat → Option Row) : PV → List Nat
  | .tup cs => cs.flatMap (PV.v3refs σ)
  | d => d.v3refs σ

theorem PV.v0_sc {σ : Nat → Option Row} {d : PV} (h : d.v0ok σ = true) (hs : d.sc = true) : (d.v0 σ).sc = true := by
  cases d <;> first | (exact hs) | skip
  rename_i l
  simp only [PV.v0, PV.v0ok] at *
  cases hl : σ l with
  | none => rw [hl] at h; cases h
  | some r => rfl

section
variable {imm2 : Nat → Nat → Prop} {v : Value} {d : PV}

theorem Sim.v0 (h : Sim X g st a w) (hx : Ext w g.imm w imm2) (hr : Rd w g.imm g.μ st.pres v d) (hok : d.v0ok st.σ = true)
    (hs : ∀ l ∈ d.v0refs, ∀ r, st.σ l = some r → Shown imm2 (g.μ l) r) : Rd0 w imm2 v (d.v0 st.σ) := by
  by_cases hd : ∃ l, d = .sl l
  · obtain ⟨l, rfl⟩ := hd
    cases hr with
    | cl h => cases h
    | sl _ hp =>
      obtain ⟨r, hl⟩ := hp
      have hR := h.rows l r hl
      simp only [PV.v0, hl]
      simp only [PV.v0ok, hl] at hok
      rw [hR.n]
      refine .lst (g.μ l).A (g.μ l).C (g.μ l).z false r.els (fun i j => match (g.μ l).A with | some ⟨b, s, _⟩ => (w.cell? ⟨b, s + i * (g.μ l).z + j, none⟩).getD undef | none => undef)
        (by rw [← hR.n]; exact hR.C) (fun q => by cases q) hR.nil (fun x q => by rw [hR.z]; exact hR.el x q) (fun h0 => ?_) (fun i x j y hx' hy => ?_)
      · obtain ⟨b, s, hA⟩ := hR.spot (by have := hR.C; have := hR.n; omega)
        refine ⟨b, s, hA, fun i x j y hx' hy => ⟨hs l (by simp [PV.v0refs]) r hl i x j y b s hx' hy hA, ?_⟩⟩
        obtain ⟨b', s', u, k1, k2, _⟩ := hR.cell i x j y hx' hy
        rw [hA] at k1; cases k1
        rw [hA]; simp only [k2, Option.getD_some]
      · obtain ⟨b', s', u, k1, k2, _, _, k5⟩ := hR.cell i x j y hx' hy
        rw [k1]
        simp only [k2, Option.getD_some]
        exact (k5 hok).mono hx
  · have e : d.v0 st.σ = d := by cases d <;> first | rfl | exact absurd ⟨_, rfl⟩ hd
    have e' : d.v0ok st.σ = d.clo1 := by cases d <;> first | rfl | exact absurd ⟨_, rfl⟩ hd
    rw [e]
    rw [e'] at hok
    exact (hr.clo1 hok).mono hx

theorem Sim.v2 (h : Sim X g st a w) (hx : Ext w g.imm w imm2) (hr : Rd w g.imm g.μ st.pres v d) (hok : d.v2ok st.σ = true)
    (hs : ∀ l ∈ d.v2refs st.σ, ∀ r, st.σ l = some r → Shown imm2 (g.μ l) r) : Rd0 w imm2 v (d.v2 st.σ) := by
  by_cases hd : ∃ l i f, d = .ptr l i f
  · obtain ⟨l, i, f, rfl⟩ := hd
    cases hr with
    | cl h => cases h
    | ptr _ _ _ b s hp hA =>
      obtain ⟨r, hl⟩ := hp
      have hR := h.rows l r hl
      simp only [PV.v2ok, hl] at hok
      simp only [PV.v2refs, hl] at hs
      simp only [PV.v2, hl]
      cases hx' : r.els[i]? with
      | none => rw [hx'] at hok; cases hok
      | some x =>
        rw [hx'] at hok
        simp only [hx'] at hs
        simp only
        have hget : ∀ (j : Nat) y, ((x.cells.drop f).map (PV.v0 st.σ))[j]? = some y → ∃ y0, x.cells[f + j]? = some y0 ∧ y = y0.v0 st.σ ∧ y0.v0ok st.σ = true ∧ y0.sc = true ∧ (∀ l' ∈ y0.v0refs, l' ∈ (x.cells.drop f).flatMap PV.v0refs) := by
          intro j y hy
          rw [List.getElem?_map, List.getElem?_drop] at hy
          cases hy0 : x.cells[f + j]? with
          | none => rw [hy0] at hy; cases hy
          | some y0 =>
            rw [hy0] at hy
            have hmem : y0 ∈ x.cells.drop f := List.mem_of_getElem? (by rw [List.getElem?_drop]; exact hy0 : (x.cells.drop f)[j]? = some y0)
            have hok' := List.all_eq_true.1 hok y0 hmem
            simp only [Bool.and_eq_true] at hok'
            exact ⟨y0, rfl, by simpa using hy.symm, hok'.1, hok'.2, fun l' hl' => List.mem_flatMap.2 ⟨y0, hmem, hl'⟩⟩
        refine .rptr b (s + i * (g.μ l).z + f) _ (fun j => (w.cell? ⟨b, s + i * (g.μ l).z + f + j, none⟩).getD undef) ?_ (fun j y hy => ?_) (fun j y hy => ?_)
        · rw [List.all_eq_true]
          intro y hy
          obtain ⟨j, hj⟩ := List.getElem?_of_mem hy
          obtain ⟨y0, _, rfl, k2, k3, _⟩ := hget j y hj
          exact PV.v0_sc k2 k3
        · obtain ⟨y0, k0, rfl, k2, k3, _⟩ := hget j y hy
          obtain ⟨b', s', u, q1, q2, _⟩ := hR.cell i x (f + j) y0 hx' k0
          rw [hA] at q1; cases q1
          have := hs l (by simp) r hl i x (f + j) y0 b s hx' k0 hA
          rw [← Nat.add_assoc] at q2 this
          exact ⟨this, by rw [q2]; rfl⟩
        · obtain ⟨y0, k0, rfl, k2, k3, k4⟩ := hget j y hy
          obtain ⟨b', s', u, q1, q2, q3, _⟩ := hR.cell i x (f + j) y0 hx' k0
          rw [hA] at q1; cases q1
          rw [← Nat.add_assoc] at q2
          simp only [q2, Option.getD_some]
          exact h.v0 hx q3 k2 fun l' hl' r' hr' => hs l' (List.mem_cons_of_mem _ (k4 l' hl')) r' hr'
  · have e : d.v2 st.σ = d.v0 st.σ := by cases d <;> first | rfl | exact absurd ⟨_, _, _, rfl⟩ hd
    have e' : d.v2ok st.σ = d.v0ok st.σ := by cases d <;> first | rfl | exact absurd ⟨_, _, _, rfl⟩ hd
    have e'' : d.v2refs st.σ = d.v0refs := by cases d <;> first | rfl | exact absurd ⟨_, _, _, rfl⟩ hd
    rw [e]
    rw [e'] at hok
    rw [e''] at hs
    exact h.v0 hx hr hok hs

theorem Sim.v3 (h : Sim X g st a w) (hx : Ext w g.imm w imm2) (hr : Rd w g.imm g.μ st.pres v d) (hok : d.v3ok st.σ = true)
    (hs : ∀ l ∈ d.v3refs st.σ, ∀ r, st.σ l = some r → Shown imm2 (g.μ l) r) : Rd0 w imm2 v (d.v3 st.σ) := by
  cases d
  case agg cs =>
    obtain ⟨vs, rfl, hn, hc⟩ := hr.agg_inv
    simp only [PV.v3ok, List.all_eq_true, Bool.and_eq_true] at hok
    simp only [PV.v3refs] at hs
    refine .agg vs _ ?_ (by simpa using hn) fun i v c hv hc' => ?_
    · rw [List.all_eq_true]
      intro y hy
      obtain ⟨y0, h0, rfl⟩ := List.mem_map.1 hy
      exact PV.v0_sc (hok y0 h0).1 (hok y0 h0).2
    · rw [List.getElem?_map] at hc'
      cases hc0 : cs[i]? with
      | none => rw [hc0] at hc'; cases hc'
      | some c0 =>
        rw [hc0] at hc'; cases hc'
        have hm := List.mem_of_getElem? hc0
        exact h.v0 hx (hc i v c0 hv hc0) (hok c0 hm).1 fun l hl => hs l (List.mem_flatMap.2 ⟨c0, hm, hl⟩)
  case fn f cap =>
    have hinv : ∃ vs : Array Value, v = .func f #[] vs ∧ vs.size = cap.length ∧ ∀ (i : Nat) v c, vs[i]? = some v → cap[i]? = some c → Rd w g.imm g.μ st.pres v c := by
      cases hr with
      | cl h => cases h with | fn _ vs _ hn h => exact ⟨vs, rfl, hn, fun i v c hv hc => .cl (h i v c hv hc)⟩
      | fn _ vs _ hn h => exact ⟨vs, rfl, hn, h⟩
    obtain ⟨vs, rfl, hn, hc⟩ := hinv
    simp only [PV.v3ok, List.all_eq_true] at hok
    simp only [PV.v3refs] at hs
    refine .fn f vs _ (by simpa using hn) fun i v c hv hc' => ?_
    rw [List.getElem?_map] at hc'
    cases hc0 : cap[i]? with
    | none => rw [hc0] at hc'; cases hc'
    | some c0 =>
      rw [hc0] at hc'; cases hc'
      have hm := List.mem_of_getElem? hc0
      exact h.v2 hx (hc i v c0 hv hc0) (hok c0 hm) fun l hl => hs l (List.mem_flatMap.2 ⟨c0, hm, hl⟩)
  case tup cs => exact h.v2 hx hr hok hs
  all_goals exact h.v2 hx hr hok hs

theorem Sim.view (h : Sim X g st a w) (hx : Ext w g.imm w imm2) (hr : Rd w g.imm g.μ st.pres v d) (hok : d.vok st.σ = true)
    (hs : ∀ l ∈ d.vrefs st.σ, ∀ r, st.σ l = some r → Shown imm2 (g.μ l) r) : Rd0 w imm2 v (d.view st.σ) := by
  cases d
  case tup cs =>
    obtain ⟨vs, rfl, hn, hc⟩ := hr.tup_inv
    simp only [PV.vok, List.all_eq_true] at hok
    simp only [PV.vrefs] at hs
    refine .tup vs _ (by simpa using hn) fun i v c hv hc' => ?_
    rw [List.getElem?_map] at hc'
    cases hc0 : cs[i]? with
    | none => rw [hc0] at hc'; cases hc'
    | some c0 =>
      rw [hc0] at hc'; cases hc'
      have hm := List.mem_of_getElem? hc0
      exact h.v3 hx (hc i v c0 hv hc0) (hok c0 hm) fun l hl => hs l (List.mem_flatMap.2 ⟨c0, hm, hl⟩)
  all_goals exact h.v3 hx hr hok hs

end

end Go.Pw
