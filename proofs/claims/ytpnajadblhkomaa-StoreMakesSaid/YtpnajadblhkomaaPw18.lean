/-
  Less is said of a state: what a loop needs at its head; functions that return a slice of their own.
-/
import Derived.Test.YtpnajadblhkomaaPw17
namespace Go.Pw
open Go.RowKit
set_option linter.unusedVariables false

/-- Whatever the one says is so, the other says less. -/
def Wk (s s' : St) : Prop := ∀ (X : Ctx) (g : Gh) (a : Act) (w : World), Sim X g s a w → ∃ g', Sim X g' s' a w

theorem Wk.refl (s : St) : Wk s s := fun X g a w h => ⟨g, h⟩
theorem Wk.trans {s s' s'' : St} (h : Wk s s') (k : Wk s' s'') : Wk s s'' := fun X g a w q => by
  obtain ⟨g', q'⟩ := h X g a w q
  exact k X g' a w q'

theorem pw_wk {X : Ctx} {c : Code} {Q : PX → Ctx → St → Prop} {st st' : St} (h : Wk st st') (hc : Pwp X c Q st') : Pwp X c Q st := fun n g a w hs => by
  obtain ⟨g', hs'⟩ := h X g a w hs
  exact hc n g' a w hs'

/-- A loop, with less said at its head. -/
theorem pw_loopW {X : Ctx} {Q : PX → Ctx → St → Prop} {st : St} {c : Code} (I : Nat → St → Prop) {m : Nat} {s0 : St} (hw : Wk st s0) (h0 : I m s0) (hr : ∀ m s, I m s → Pwp X c (thenQ (fun X' s' => X' = X ∧ ∃ m' s'', m' < m ∧ Wk s' s'' ∧ I m' s'') Q) s) : Pwp X (.loop c) Q st := by
  refine pw_wk hw (pw_loop (fun m s => ∃ s'', Wk s s'' ∧ I m s'') (m := m) ⟨s0, Wk.refl _, h0⟩ fun m s ⟨s1, hw1, h1⟩ => pw_wk hw1 ((hr m s1 h1).mono fun e X' s' q => ?_))
  cases e <;> simp only [thenQ] at q ⊢ <;> first | exact q | skip
  obtain ⟨hX, m', s'', h1, h2, h3⟩ := q
  exact ⟨hX, m', h1, s'', h2, h3⟩

theorem wk_frz (s : St) (ls : List Nat) : Wk s ⟨s.env, frzL s.σ ls⟩ := fun X g a w h => by
  obtain ⟨imm', h1, _⟩ := h.frzL ls
  exact ⟨_, h1⟩

/-- The slice that is nil, as a row that holds nothing. -/
theorem wk_nil {s : St} {t l z : Nat} (ht : s.env t = .lst true []) (hl : s.σ l = none) (hlm : l < MB := by exact Nat.le_of_ble_eq_true rfl) : Wk s ⟨upd s.env t (.sl l), upd s.σ l (some ⟨[], 0, true, z, true⟩)⟩ := fun X g a w h => by
  have hv := h.env t
  rw [ht] at hv
  obtain ⟨A, c, z', u, e, h1, h2, h3, _⟩ := hv.lst_inv
  have hc := h2 rfl
  simp only [List.length_nil] at hc e
  subst hc
  have hs := h.sameRow (l := l) (A := A) (xs := []) (z := z) hlm hl (fun _ => rfl) (fun _ q => by cases q) (fun q => absurd q (Nat.lt_irrefl _)) true
  refine ⟨_, ⟨hs.size, fun i => ?_, hs.rows, hs.disj, hs.ownimm, hs.immlt, hs.immsub, hs.immsup, hs.below, hs.marks, hs.obs, hs.big, hs.maps⟩⟩
  by_cases q : i = t
  · subst q
    rw [show (St.mk (upd s.env i (.sl l)) (upd s.σ l (some ⟨[], 0, true, z, true⟩))).env i = .sl l from upd_same _ _ _, e]
    exact sl_new (m := ⟨A, 0, 0, z⟩) ⟨_, upd_same _ _ _⟩ (upd_same _ _ _)
  · rw [show (St.mk (upd s.env t (.sl l)) (upd s.σ l (some ⟨[], 0, true, z, true⟩))).env i = s.env i from upd_other _ _ q]
    exact hs.env i

def PV.ren0 (π : Nat → Nat) : PV → PV
  | .sl l => .sl (π l)
  | .mp l => .mp (π l)
  | .ptr l i f => .ptr (π l) i f
  | d => d

def PV.ren1 (π : Nat → Nat) : PV → PV
  | .fn f cap => .fn f (cap.map (PV.ren0 π))
  | d => d.ren0 π

def PV.ren (π : Nat → Nat) : PV → PV
  | .agg cs => .agg (cs.map (PV.ren1 π))
  | d => d.ren1 π

def PV.refs0 : PV → List Nat
  | .sl l => [l]
  | .mp l => [l]
  | .ptr l _ _ => [l]
  | _ => []

def PV.refs1 : PV → List Nat
  | .fn _ cap => cap.flatMap PV.refs0
  | d => d.refs0

def PV.refs : PV → List Nat
  | .agg cs => cs.flatMap PV.refs1
  | d => d.refs1

section
variable {w : World} {imm : Nat → Nat → Prop} {μ μ' : Nat → RLoc} {pres pres' : Nat → Prop} {π : Nat → Nat}

/-- What names no row says the same of whatever rows; what holds others is said anew. -/
theorem Rd.closedish {v : Value} {d : PV} (h : Rd w imm μ pres v d) (h1 : ∀ l, d ≠ .sl l) (h2 : ∀ l i f, d ≠ .ptr l i f) (h3 : ∀ cs, d ≠ .agg cs) (h4 : ∀ f cap, d ≠ .fn f cap) (h5 : ∀ cs, d ≠ .tup cs) (h6 : ∀ l, d ≠ .mp l) : Rd w imm μ' pres' v d := by
  cases h with
  | cl h => exact .cl h
  | agg vs cs => exact absurd rfl (h3 cs)
  | tup vs cs => exact absurd rfl (h5 cs)
  | fn f vs cap => exact absurd rfl (h4 f cap)
  | sl l => exact absurd rfl (h1 l)
  | mp l => exact absurd rfl (h6 l)
  | ptr l i f => exact absurd rfl (h2 l i f)

theorem Rd.ren0 {v : Value} {d : PV} (ht : ∀ cs, d ≠ .tup cs) (ha : ∀ cs, d ≠ .agg cs) (hf : ∀ f cap, d ≠ .fn f cap) (h : Rd w imm μ pres v (d.ren0 π)) (hr : ∀ l ∈ d.refs0, pres' l ∧ μ' l = μ (π l) ∧ (MB ≤ π l → MB ≤ l)) : Rd w imm μ' pres' v d := by
  by_cases e1 : ∃ l, d = .sl l
  · obtain ⟨l, rfl⟩ := e1
    have h' : Rd w imm μ pres v (.sl (π l)) := h
    obtain ⟨_, rfl⟩ := h'.sl_inv
    obtain ⟨k1, k2, _⟩ := hr l (by simp [PV.refs0])
    rw [← k2]
    exact .sl l k1
  by_cases e2 : ∃ l i f, d = .ptr l i f
  · obtain ⟨l, i, f, rfl⟩ := e2
    have h' : Rd w imm μ pres v (.ptr (π l) i f) := h
    obtain ⟨_, b, s, hA, rfl⟩ := h'.ptr_inv
    obtain ⟨k1, k2, _⟩ := hr l (by simp [PV.refs0])
    rw [← k2] at hA ⊢
    exact .ptr l i f b s k1 hA
  by_cases e3 : ∃ l, d = .mp l
  · obtain ⟨l, rfl⟩ := e3
    have h' : Rd w imm μ pres v (.mp (π l)) := h
    obtain ⟨_, h2, b, hA, rfl⟩ := h'.mp_inv
    obtain ⟨k1, k2, k3⟩ := hr l (by simp [PV.refs0])
    exact .mp l b k1 (k3 h2) (by rw [k2]; exact hA)
  · have e : d.ren0 π = d := by cases d <;> first | rfl | exact absurd ⟨_, rfl⟩ e1 | exact absurd ⟨_, _, _, rfl⟩ e2 | exact absurd ⟨_, rfl⟩ e3
    rw [e] at h
    exact h.closedish (fun l q => e1 ⟨l, q⟩) (fun l i f q => e2 ⟨l, i, f, q⟩) ha hf ht fun l q => e3 ⟨l, q⟩

theorem Rd.ren1 {v : Value} {d : PV} (ht : ∀ cs, d ≠ .tup cs) (ha : ∀ cs, d ≠ .agg cs) (hc : ∀ f cap, d = .fn f cap → ∀ y ∈ cap, (∀ cs, y ≠ .tup cs) ∧ (∀ cs, y ≠ .agg cs) ∧ ∀ f cap, y ≠ .fn f cap)
    (h : Rd w imm μ pres v (d.ren1 π)) (hr : ∀ l ∈ d.refs1, pres' l ∧ μ' l = μ (π l) ∧ (MB ≤ π l → MB ≤ l)) : Rd w imm μ' pres' v d := by
  by_cases e1 : ∃ f cap, d = .fn f cap
  · obtain ⟨f, cap, rfl⟩ := e1
    have h' : Rd w imm μ pres v (.fn f (cap.map (PV.ren0 π))) := h
    obtain ⟨vs, rfl, hn, hk⟩ := fn_inv h'
    refine .fn f vs cap (by simpa using hn) fun i v c hv hc' => ?_
    have hm := List.mem_of_getElem? hc'
    obtain ⟨q1, q2, q3⟩ := hc f cap rfl c hm
    exact (hk i v _ hv (by rw [List.getElem?_map, hc']; rfl)).ren0 q1 q2 q3 fun l hl => hr l (List.mem_flatMap.2 ⟨c, hm, hl⟩)
  · have e : d.ren1 π = d.ren0 π := by cases d <;> first | rfl | exact absurd ⟨_, _, rfl⟩ e1
    have e' : d.refs1 = d.refs0 := by cases d <;> first | rfl | exact absurd ⟨_, _, rfl⟩ e1
    rw [e] at h
    rw [e'] at hr
    exact h.ren0 ht ha (fun f cap q => e1 ⟨f, cap, q⟩) hr

/-- Values that can be said anew: nothing within what is captured but numbers and names of rows. -/
def capOK : PV → Bool
  | .fn _ cap => cap.all fun y => match y with | .tup _ | .agg _ | .fn .. => false | _ => true
  | _ => true

def renOK : PV → Bool
  | .tup _ => false
  | .agg cs => cs.all capOK
  | d => capOK d

theorem capOK_spec {d : PV} (h : capOK d = true) : ∀ f cap, d = .fn f cap → ∀ y ∈ cap, (∀ cs, y ≠ .tup cs) ∧ (∀ cs, y ≠ .agg cs) ∧ ∀ f cap, y ≠ .fn f cap := by
  rintro f cap rfl y hy
  have := List.all_eq_true.1 h y hy
  refine ⟨fun cs e => ?_, fun cs e => ?_, fun f cap e => ?_⟩ <;> (subst e; cases this)

theorem Rd.ren {v : Value} {d : PV} (hok : renOK d = true) (h : Rd w imm μ pres v (d.ren π)) (hr : ∀ l ∈ d.refs, pres' l ∧ μ' l = μ (π l) ∧ (MB ≤ π l → MB ≤ l)) : Rd w imm μ' pres' v d := by
  by_cases e1 : ∃ cs, d = .agg cs
  · obtain ⟨cs, rfl⟩ := e1
    have h' : Rd w imm μ pres v (.agg (cs.map (PV.ren1 π))) := h
    obtain ⟨vs, rfl, hn, hk⟩ := h'.agg_inv
    have hsc := h'.agg_sc
    simp only [renOK, List.all_eq_true] at hok
    rw [List.all_eq_true] at hsc
    have hsc' : ∀ c ∈ cs, c.sc = true := fun c hc => by
      have := hsc (c.ren1 π) (List.mem_map.2 ⟨c, hc, rfl⟩)
      cases c <;> first | rfl | exact this
    refine .agg vs cs (List.all_eq_true.2 hsc') (by simpa using hn) fun i v c hv hc => ?_
    have hm := List.mem_of_getElem? hc
    refine (hk i v _ hv (by rw [List.getElem?_map, hc]; rfl)).ren1 (fun es q => ?_) (fun es q => ?_) (capOK_spec (hok c hm)) fun l hl => hr l (List.mem_flatMap.2 ⟨c, hm, hl⟩)
    · have := hsc' c hm; rw [q] at this; cases this
    · have := hsc' c hm; rw [q] at this; cases this
  · have e : d.ren π = d.ren1 π := by cases d <;> first | rfl | exact absurd ⟨_, rfl⟩ e1
    have e' : d.refs = d.refs1 := by cases d <;> first | rfl | exact absurd ⟨_, rfl⟩ e1
    have e2 : ∀ cs, d ≠ .tup cs := fun cs q => by subst q; cases hok
    have e3 : capOK d = true := by cases d <;> first | exact hok | exact absurd ⟨_, rfl⟩ e1 | cases hok
    rw [e] at h
    rw [e'] at hr
    exact h.ren1 e2 (fun cs q => e1 ⟨cs, q⟩) (capOK_spec e3) hr
end

/-- States that are written out. -/
def envOf (L : List (Nat × PV)) : Nat → PV := fun i => (L.lookup i).getD .junk
def rowsOf (R : List (Nat × Row)) : Nat → Option Row := fun i => R.lookup i
def St.of (L : List (Nat × PV)) (R : List (Nat × Row)) : St := ⟨envOf L, rowsOf R⟩

theorem lookup_mem {α : Type} {L : List (Nat × α)} {i : Nat} {x : α} (h : L.lookup i = some x) : (i, x) ∈ L := by
  induction L with
  | nil => cases h
  | cons p L ih =>
    obtain ⟨k, y⟩ := p
    rw [List.lookup_cons] at h
    split at h
    · rename_i q
      have : i = k := by simpa using q
      subst this
      cases h
      exact List.mem_cons_self ..
    · exact List.mem_cons_of_mem _ (ih h)

/-- The names of maps are those of maps. -/
def okM (l m : Nat) (c c' : Bool) : Bool := (decide (MB ≤ l) == decide (MB ≤ m)) && (decide (l < MB) || c == c')

/-- One row, said anew. -/
def RowLe (π : Nat → Nat) (R : List (Nat × Row)) (σ : Nat → Option Row) (p : Nat × Row) : Prop :=
  ∃ r, σ (π p.1) = some r ∧ okM p.1 (π p.1) r.cl p.2.cl = true ∧ r.z = p.2.z ∧ r.lo = p.2.lo ∧ (p.2.opn = true → r.opn = true) ∧ (p.2.cl = true → r.cl = true) ∧
    ((p.2.cl = true ∧ r.els = p.2.els) ∨ (p.2.cl = false ∧ r.els = p.2.els.map (PV.ren π) ∧ p.2.els.all renOK = true ∧ (p.2.els.flatMap PV.refs).all (fun l => (R.lookup l).isSome) = true))

/-- Less is said: only of some temporaries, only of some rows, and by other names. -/
theorem wk_subG {s : St} (π : Nat → Nat) (L : List (Nat × PV)) (R : List (Nat × Row)) (he : ∀ p ∈ L, s.env p.1 = p.2.ren π ∧ renOK p.2 = true ∧ p.2.refs.all (fun l => (R.lookup l).isSome) = true)
    (hr : ∀ p ∈ R, RowLe π R s.σ p) (hi : ∀ p ∈ R, ∀ q ∈ R, π p.1 = π q.1 → p.1 = q.1) : ∀ (X : Ctx) (g : Gh) (a : Act) (w : World), Sim X g s a w → Sim X ⟨g.imm, fun l => g.μ (π l)⟩ (St.of L R) a w := by
  intro X g a w h
  have hget : ∀ l r', rowsOf R l = some r' → RowLe π R s.σ (l, r') := fun l r' q => hr _ (lookup_mem q)
  have hmap : ∀ l r', rowsOf R l = some r' → (MB ≤ l ↔ MB ≤ π l) ∧ (MB ≤ l → ∃ r, s.σ (π l) = some r ∧ r.cl = r'.cl ∧ (∀ es, r.els = [.mapc es] → r'.els = [.mapc es])) := fun l r' q => by
    obtain ⟨r, h1, h2, _, _, _, _, h6⟩ := hget l r' q
    simp only [okM, Bool.and_eq_true, beq_iff_eq, Bool.or_eq_true, decide_eq_true_eq, decide_eq_decide] at h2
    refine ⟨h2.1, fun h => ⟨r, h1, h2.2.elim (fun k => absurd h (Nat.not_le.2 k)) id, fun es he => ?_⟩⟩
    rcases h6 with ⟨_, h6⟩ | ⟨_, h6, _⟩
    · exact h6 ▸ he
    · simp only at h6
      rw [he] at h6
      match hq : r'.els with
      | [] => rw [hq] at h6; simp at h6
      | _ :: _ :: _ => rw [hq] at h6; simp at h6
      | [x] =>
        rw [hq] at h6
        simp only [List.map_cons, List.map_nil, List.cons.injEq, and_true] at h6
        cases x <;> first | (cases h6; rfl) | cases h6
  have hx : ∀ (l : Nat), (R.lookup l).isSome = true → St.pres (St.of L R) l ∧ g.μ (π l) = g.μ (π l) ∧ (MB ≤ π l → MB ≤ l) := fun l q => by
    obtain ⟨r, hr⟩ := Option.isSome_iff_exists.1 q
    exact ⟨⟨r, hr⟩, rfl, (hmap l r hr).1.2⟩
  have hsub : ∀ l r' r, r.els.length = r'.els.length → r.z = r'.z → r.lo = r'.lo → (r'.opn = true → r.opn = true) → ∀ b o, OwnR (g.μ (π l)) r' b o → s.σ (π l) = some r → OwnR (g.μ (π l)) r b o := by
    rintro l r' r h1 h2 h3 h4 b o ⟨s', hA, k1, k2⟩ hl
    refine ⟨s', hA, by rw [h3]; exact k1, ?_⟩
    have hC := (h.rows _ r hl).C
    have : (if r'.opn then (g.μ (π l)).C else (g.μ (π l)).n) * (g.μ (π l)).z ≤ (if r.opn then (g.μ (π l)).C else (g.μ (π l)).n) * (g.μ (π l)).z := Nat.mul_le_mul_right _ (by
      cases q : r'.opn
      · simp only [Bool.false_eq_true, if_false]; split <;> omega
      · rw [h4 q]; exact Nat.le_refl _)
    omega
  have hlen : ∀ l r', rowsOf R l = some r' → ∃ r, s.σ (π l) = some r ∧ r.els.length = r'.els.length ∧ r.z = r'.z ∧ r.lo = r'.lo ∧ (r'.opn = true → r.opn = true) := by
    intro l r' q
    obtain ⟨r, h1, _, h2, h3, h4, _, h6⟩ := hget l r' q
    refine ⟨r, h1, ?_, h2, h3, h4⟩
    rcases h6 with ⟨_, h6⟩ | ⟨_, h6, _⟩
    · rw [h6]
    · rw [h6]; simp
  refine ⟨h.size, fun i => ?_, fun l r' q => ?_, fun l l' r r' hne q q' b o ho => ?_, fun l r' b o q ho => ?_, h.immlt, h.immsub, h.immsup, h.below, h.marks, h.obs, h.big, ⟨fun l r' hl q => ?_, fun l l' r r' hl hl' hne q q' hc => ?_⟩⟩
  · show Rd w g.imm (fun l => g.μ (π l)) (St.pres (St.of L R)) _ ((L.lookup i).getD .junk)
    cases hq : L.lookup i with
    | none => exact .cl (.junk _)
    | some d =>
      obtain ⟨k1, k2, k3⟩ := he (i, d) (lookup_mem hq)
      have hv := h.env i
      rw [k1] at hv
      exact hv.ren k2 fun l hl => hx l (List.all_eq_true.1 k3 l hl)
  · obtain ⟨r, h1, _, h2, h3, h4, h5, h6⟩ := hget l r' q
    simp only at h1 h2 h3 h4 h5 h6
    have hR := h.rows _ r h1
    obtain ⟨_, _, hl, _⟩ := hlen l r' q
    have hl2 : r.els.length = r'.els.length := by
      rcases h6 with ⟨_, h6⟩ | ⟨_, h6, _⟩
      · rw [h6]
      · rw [h6]; simp
    have hcellz : ∀ (d : PV), (d.ren π).cells.length = d.cells.length := fun d => by
      cases d <;> first | rfl | simp [PV.ren, PV.cells]
    have helz : ∀ (d : PV), (d.ren π).el = true → d.el = true := fun d => by
      cases d <;> first | exact fun q => q | skip
      intro q
      simp only [PV.ren, PV.el, List.all_eq_true] at q ⊢
      intro c hc
      have := q (c.ren1 π) (List.mem_map.2 ⟨c, hc, rfl⟩)
      cases c <;> first | rfl | exact this
    refine ⟨by rw [← hl2]; exact hR.n, by rw [← h2]; exact hR.z, hR.C, by rw [← h3]; exact hR.lo, fun x hx' => ?_, hR.nil, hR.spot, fun i x j y hx' hy => ?_, fun b o ho => hR.own b o (hsub l r' r hl2 h2 h3 h4 b o ho h1)⟩
    · rcases h6 with ⟨_, h6⟩ | ⟨_, h6, _⟩
      · rw [← h2]; exact hR.el x (by rw [h6]; exact hx')
      · have := hR.el (x.ren π) (by rw [h6]; exact List.mem_map.2 ⟨x, hx', rfl⟩)
        exact ⟨helz x this.1, by rw [← hcellz, ← h2]; exact this.2⟩
    · rcases h6 with ⟨hc, h6⟩ | ⟨hnc, h6, h7, h8⟩
      · obtain ⟨b, s', u, k1, k2, k3, k4, k5⟩ := hR.cell i x j y (by rw [h6]; exact hx') hy
        exact ⟨b, s', u, k1, k2, .cl (k5 (h5 hc)), by rw [← h3]; exact k4, fun _ => k5 (h5 hc)⟩
      · have hm := List.mem_of_getElem? hx'
        have hxr : r.els[i]? = some (x.ren π) := by rw [h6, List.getElem?_map, hx']; rfl
        have hok := List.all_eq_true.1 h7 x hm
        have hrefs : ∀ l' ∈ x.refs, (R.lookup l').isSome = true := fun l' hl' => List.all_eq_true.1 h8 l' (List.mem_flatMap.2 ⟨x, hm, hl'⟩)
        -- the cell, by its own name
        have hyr : ∃ y', (x.ren π).cells[j]? = some y' ∧ ∀ v, Rd w g.imm g.μ s.pres v y' → Rd w g.imm (fun l => g.μ (π l)) (St.pres (St.of L R)) v y := by
          by_cases e : ∃ cs, x = .agg cs
          · obtain ⟨cs, rfl⟩ := e
            have hy' : cs[j]? = some y := hy
            refine ⟨y.ren1 π, by show (cs.map (PV.ren1 π))[j]? = _; rw [List.getElem?_map, hy']; rfl, fun v hv => ?_⟩
            have hmy := List.mem_of_getElem? hy'
            simp only [renOK, List.all_eq_true] at hok
            have hel := helz _ (hR.el _ (List.mem_of_getElem? hxr)).1
            have hsc := PV.el_cells hel y (by exact hmy)
            exact hv.ren1 (fun es q => by rw [q] at hsc; cases hsc) (fun es q => by rw [q] at hsc; cases hsc) (capOK_spec (hok y hmy)) fun l' hl' => hx l' (hrefs l' (List.mem_flatMap.2 ⟨y, hmy, hl'⟩))
          · have hxc : x.cells = [x] := by cases x <;> first | rfl | exact absurd ⟨_, rfl⟩ e | cases hy
            rw [hxc] at hy
            have hj : j = 0 ∧ y = x := by
              cases j with
              | zero => simp at hy; exact ⟨rfl, hy.symm⟩
              | succ j => simp at hy
            obtain ⟨rfl, rfl⟩ := hj
            have hrc : (y.ren π).cells = [y.ren π] := by cases y <;> first | rfl | exact absurd ⟨_, rfl⟩ e | cases hxc
            exact ⟨y.ren π, by rw [hrc]; rfl, fun v hv => hv.ren hok fun l' hl' => hx l' (hrefs l' hl')⟩
        obtain ⟨y', hy', hrd⟩ := hyr
        obtain ⟨b, s', u, k1, k2, k3, k4, k5⟩ := hR.cell i (x.ren π) j y' hxr hy'
        exact ⟨b, s', u, k1, k2, hrd u k3, by rw [← h3]; exact k4, fun q' => by rw [hnc] at q'; cases q'⟩
  · obtain ⟨r0, k0, k1, k2, k3, k4⟩ := hlen l r q
    obtain ⟨r1, m0, m1, m2, m3, m4⟩ := hlen l' r' q'
    exact fun k => h.disj (π l) (π l') r0 r1 (fun e => hne (hi (l, r) (lookup_mem q) (l', r') (lookup_mem q') e)) k0 m0 b o (hsub l r r0 k1 k2 k3 k4 b o ho k0) (hsub l' r' r1 m1 m2 m3 m4 b o k m0)
  · obtain ⟨r0, k0, k1, k2, k3, k4⟩ := hlen l r' q
    exact h.ownimm (π l) r0 b o k0 (hsub l r' r0 k1 k2 k3 k4 b o ho k0)
  · obtain ⟨k1, k2⟩ := hmap l r' q
    obtain ⟨r, k3, k4, k5⟩ := k2 hl
    obtain ⟨b, es, m1, m2, m3, m4, m5, m6⟩ := h.maps.at_ (π l) r (k1.1 hl) k3
    exact ⟨b, es, k5 es m1, m2, m3, m4, fun c => m5 (by rw [k4]; exact c), fun c => m6 (by rw [k4]; exact c)⟩
  · obtain ⟨k1, k2⟩ := hmap l r q
    obtain ⟨k1', k2'⟩ := hmap l' r' q'
    obtain ⟨r0, k3, k4, _⟩ := k2 hl
    obtain ⟨r1, k3', k4', _⟩ := k2' hl'
    exact h.maps.apart (π l) (π l') r0 r1 (k1.1 hl) (k1'.1 hl') (fun e => hne (hi (l, r) (lookup_mem q) (l', r') (lookup_mem q') e)) k3 k3' (by rw [k4]; exact hc)

theorem wk_sub {s : St} (π : Nat → Nat) (L : List (Nat × PV)) (R : List (Nat × Row)) (he : ∀ p ∈ L, s.env p.1 = p.2.ren π ∧ renOK p.2 = true ∧ p.2.refs.all (fun l => (R.lookup l).isSome) = true)
    (hr : ∀ p ∈ R, RowLe π R s.σ p) (hi : ∀ p ∈ R, ∀ q ∈ R, π p.1 = π q.1 → p.1 = q.1) : Wk s (St.of L R) := fun X g a w h => ⟨_, wk_subG π L R he hr hi X g a w h⟩

end Go.Pw
