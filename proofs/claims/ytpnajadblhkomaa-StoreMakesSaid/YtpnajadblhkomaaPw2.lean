/-
  How a state's word of the world is handed on.
-/
import Derived.Test.YtpnajadblhkomaaPw1
namespace Go.Pw
set_option linter.unusedVariables false
open Go.RowKit

variable {X : Ctx} {g : Gh} {st : St} {a : Act} {w : World}

theorem PV.cells_len_pos {d : PV} {y : PV} {j : Nat} (h : d.cells[j]? = some y) : j < d.cells.length := by
  rcases Nat.lt_or_ge j d.cells.length with h' | h'
  · exact h'
  · rw [List.getElem?_eq_none h'] at h; cases h

/-- A cell of a row's contents lies in the row's own, or is one that stays. -/
theorem RowOK.mine {base : Nat} {w : World} {imm : Nat → Nat → Prop} {μ : Nat → RLoc} {pres : Nat → Prop} {m : RLoc} {r : Row} (h : RowOK base w imm μ pres m r)
    {i j : Nat} {x y : PV} (hx : r.els[i]? = some x) (hy : x.cells[j]? = some y) {b s : Nat} (hA : m.A = some ⟨b, s, none⟩) (hi : ¬ i < r.lo) : OwnR m r b (s + i * m.z + j) := by
  have hlen : i < r.els.length := by
    rcases Nat.lt_or_ge i r.els.length with h' | h'
    · exact h'
    · rw [List.getElem?_eq_none h'] at hx; cases hx
  have hz : x.cells.length = m.z := by rw [h.z]; exact (h.el x (List.mem_of_getElem? hx)).2
  have hj := PV.cells_len_pos hy
  rw [hz] at hj
  refine ⟨s, hA, ?_, ?_⟩
  · have : r.lo * m.z ≤ i * m.z := Nat.mul_le_mul_right _ (by omega)
    omega
  · have hn := h.n
    have hC := h.C
    have h1 : (i + 1) * m.z ≤ m.n * m.z := Nat.mul_le_mul_right _ (by omega)
    have h2 : m.n * m.z ≤ (if r.opn then m.C else m.n) * m.z := Nat.mul_le_mul_right _ (by split <;> omega)
    rw [Nat.add_mul, Nat.one_mul] at h1
    omega

theorem RowOK.mono {base : Nat} {w : World} {imm : Nat → Nat → Prop} {μ : Nat → RLoc} {pres : Nat → Prop} {m : RLoc} {r : Row} (h : RowOK base w imm μ pres m r)
    {w' : World} {imm' : Nat → Nat → Prop} {μ' : Nat → RLoc} {pres' : Nat → Prop} (he : Ext w imm w' imm') (hp : ∀ l, pres l → pres' l ∧ μ' l = μ l)
    (hown : ∀ b o, OwnR m r b o → w'.cell? ⟨b, o, none⟩ = w.cell? ⟨b, o, none⟩ ∧ w'.frozen? ⟨b, o, none⟩ = w.frozen? ⟨b, o, none⟩) : RowOK base w' imm' μ' pres' m r where
  n := h.n
  z := h.z
  C := h.C
  lo := h.lo
  el := h.el
  nil := h.nil
  spot := h.spot
  cell i x j y hx hy := by
    obtain ⟨b, s, u, hA, hc, hr, hi, hcl⟩ := h.cell i x j y hx hy
    refine ⟨b, s, u, hA, ?_, hr.mono he hp, fun q => he.im _ _ (hi q), fun q => (hcl q).mono he⟩
    by_cases hlo : i < r.lo
    · rw [he.cl _ _ (hi hlo)]; exact hc
    · rw [(hown _ _ (h.mine hx hy hA hlo)).1]; exact hc
  own b o ho := by
    obtain ⟨h1, h2, h3⟩ := h.own b o ho
    obtain ⟨k1, k2⟩ := hown b o ho
    exact ⟨h1, by rw [k1]; exact h2, by rw [k2]; exact h3⟩

theorem MapsOK.move {base : Nat} {imm : Nat → Nat → Prop} {μ : Nat → RLoc} {σ : Nat → Option Row} (h : MapsOK base w imm μ σ) {w' : World} {imm' : Nat → Nat → Prop} (he : Ext w imm w' imm')
    (hmi : ∀ b o x, imm' b o → w.heap[b]? = some x → isMapO x = true → imm b o) (hk : ∀ (k : Nat) (o : Obj), w.heap[k]? = some o → isMapO o = true → w'.heap[k]? = some o) : MapsOK base w' imm' μ σ where
  at_ l r hl hr := by
    obtain ⟨b, es, h1, h2, h3, h4, h5, h6⟩ := h.at_ l r hl hr
    refine ⟨b, es, h1, h2, h3, h4.mono he fun o q1 q2 => hk b o q1 q2, fun q o k => ?_, fun q => he.im _ _ (h6 q)⟩
    obtain ⟨ents, clock, k1, _⟩ := h4
    exact h5 q o (hmi b o _ k k1 rfl)
  apart := h.apart

/-- No map lies in a block of cells that a row owns. -/
theorem own_no_map {base : Nat} {w : World} {imm : Nat → Nat → Prop} {μ : Nat → RLoc} {pres : Nat → Prop} {m : RLoc} {r : Row} (h : RowOK base w imm μ pres m r) {b o : Nat} (ho : OwnR m r b o) {x : Obj} (hx : w.heap[b]? = some x) : isMapO x = false := by
  obtain ⟨_, h2, _⟩ := h.own b o ho
  obtain ⟨u, hu⟩ := Option.isSome_iff_exists.1 h2
  obtain ⟨o2, k1, k2⟩ := cells_of_cell hu
  simp only at k1
  rw [hx] at k1
  cases k1
  cases x <;> first | rfl | cases k2

theorem MapsOK.upd {base : Nat} {imm : Nat → Nat → Prop} {μ : Nat → RLoc} {σ : Nat → Option Row} (h : MapsOK base w imm μ σ) {l : Nat} {r r' : Row} (hl : σ l = some r) (he : MB ≤ l → r'.els = r.els) (hc : MB ≤ l → r'.cl = r.cl) : MapsOK base w imm μ (upd σ l (some r')) where
  at_ l' q hl' hr := by
    by_cases e : l' = l
    · subst e
      rw [upd_same] at hr
      cases hr
      obtain ⟨b, es, h1, h2⟩ := h.at_ l' r hl' hl
      exact ⟨b, es, by rw [he hl']; exact h1, by rw [hc hl']; exact h2⟩
    · rw [upd_other _ _ e] at hr
      exact h.at_ l' q hl' hr
  apart l1 l2 r1 r2 h1 h2 hne q1 q2 q3 := by
    have f : ∀ l' q, MB ≤ l' → Pw.upd σ l (some r') l' = some q → ∃ q', σ l' = some q' ∧ q'.cl = q.cl := fun l' q hl' hr => by
      by_cases e : l' = l
      · subst e
        rw [upd_same] at hr
        cases hr
        exact ⟨r, hl, (hc hl').symm⟩
      · rw [upd_other _ _ e] at hr
        exact ⟨q, hr, rfl⟩
    obtain ⟨s1, k1, k2⟩ := f l1 r1 h1 q1
    obtain ⟨s2, k3, _⟩ := f l2 r2 h2 q2
    exact h.apart l1 l2 s1 s2 h1 h2 hne k1 k3 (by rw [k2]; exact q3)

theorem MapsOK.new {base : Nat} {imm : Nat → Nat → Prop} {μ : Nat → RLoc} {σ : Nat → Option Row} (h : MapsOK base w imm μ σ) {l : Nat} {m : RLoc} {r : Option Row} (hl : l < MB) : MapsOK base w imm (Pw.upd μ l m) (Pw.upd σ l r) where
  at_ l' q hl' hr := by
    have e : l' ≠ l := fun e => by subst e; exact absurd hl (Nat.not_lt.2 hl')
    rw [upd_other _ _ e] at hr ⊢
    exact h.at_ l' q hl' hr
  apart l1 l2 r1 r2 h1 h2 hne q1 q2 q3 := by
    have e1 : l1 ≠ l := fun e => by subst e; exact absurd hl (Nat.not_lt.2 h1)
    have e2 : l2 ≠ l := fun e => by subst e; exact absurd hl (Nat.not_lt.2 h2)
    rw [upd_other _ _ e1] at q1
    rw [upd_other _ _ e2] at q2
    rw [upd_other _ _ e1, upd_other _ _ e2]
    exact h.apart l1 l2 r1 r2 h1 h2 hne q1 q2 q3

/-- The world goes on; what rows own is as it was. -/
theorem Sim.move (h : Sim X g st a w) {w' : World} {imm' : Nat → Nat → Prop} (he : Ext w g.imm w' imm')
    (hown : ∀ l r b o, st.σ l = some r → OwnR (g.μ l) r b o → w'.cell? ⟨b, o, none⟩ = w.cell? ⟨b, o, none⟩ ∧ w'.frozen? ⟨b, o, none⟩ = w.frozen? ⟨b, o, none⟩ ∧ ¬ imm' b o)
    (hlt : ∀ b o, imm' b o → b < w'.heap.size) (hsub : ∀ b o, imm' b o → X.imm0 b o ∨ X.w0.heap.size ≤ b) (hb : Bel X.w0.heap.size X.w0 w')
    (hk : ∀ (k : Nat) (o : Obj), w.heap[k]? = some o → o.isCells = false → w'.heap[k]? = some o)
    (hmi : ∀ b o x, imm' b o → w.heap[b]? = some x → isMapO x = true → g.imm b o) : Sim X ⟨imm', g.μ⟩ st a w' where
  size := h.size
  env i := (h.env i).mono he fun _ hl => ⟨hl, rfl⟩
  rows l r hl := (h.rows l r hl).mono he (fun _ hl => ⟨hl, rfl⟩) fun b o ho => ⟨(hown l r b o hl ho).1, (hown l r b o hl ho).2.1⟩
  disj := h.disj
  ownimm l r b o hl ho := (hown l r b o hl ho).2.2
  immlt := hlt
  immsub := hsub
  immsup b o q := he.im _ _ (h.immsup b o q)
  below := hb
  marks := h.marks.mono hk
  obs p hp := ⟨hk _ _ (h.obs p hp).1 (h.obs p hp).2.1, (h.obs p hp).2⟩
  big := h.big
  maps := h.maps.move he hmi fun k o q1 q2 => hk k o q1 (not_cells_of_map q2)

theorem Sim.own_lt (h : Sim X g st a w) {l : Nat} {r : Row} (hl : st.σ l = some r) {b o : Nat} (ho : OwnR (g.μ l) r b o) : X.w0.heap.size ≤ b ∧ b < w.heap.size := by
  obtain ⟨h1, h2, _⟩ := (h.rows l r hl).own b o ho
  obtain ⟨u, hu⟩ := Option.isSome_iff_exists.1 h2
  exact ⟨h1, World.block_lt_of_cell? _ _ hu⟩

/-- A block more. -/
theorem Ext.alloc {imm : Nat → Nat → Prop} (hlt : ∀ b o, imm b o → b < w.heap.size) (o : Obj) : Ext w imm (w.alloc o) imm where
  im _ _ h := h
  cl b i h := World.cell?_alloc_lt _ _ _ (hlt b i h)
  ob b i x h hx _ := (Below.heap_alloc w o b (hlt b i h)).trans hx

theorem Sim.alloc (h : Sim X g st a w) (o : Obj) : Sim X g st a (w.alloc o) :=
  h.move (Ext.alloc h.immlt o) (fun l r b i hl ho => ⟨World.cell?_alloc_lt _ _ _ (h.own_lt hl ho).2, World.frozen?_alloc_old _ _ _ (Nat.ne_of_lt (h.own_lt hl ho).2), h.ownimm l r b i hl ho⟩)
    (fun b i q => by rw [World.size_alloc]; exact Nat.lt_succ_of_lt (h.immlt b i q)) h.immsub (h.below.alloc h.below.size o) (KeepsOthers.alloc w o).same (fun _ _ _ q _ _ => q)

theorem Sim.drew (h : Sim X g st a w) : Sim X g st a w.drew :=
  h.move ⟨fun _ _ q => q, fun _ _ _ => rfl, fun _ _ _ _ q _ => q⟩ (fun l r b i hl ho => ⟨rfl, rfl, h.ownimm l r b i hl ho⟩) h.immlt h.immsub h.below.drew (fun _ _ q _ => q) (fun _ _ _ q _ _ => q)

/-- A temporary is written. -/
theorem Sim.put (h : Sim X g st a w) {v : Value} {d : PV} {dst : Option Tmp} (hd : ∀ t, dst = some t → t < X.N) (hv : Rd w g.imm g.μ st.pres v d) :
    Sim X g ⟨putE st.env dst d, st.σ⟩ (a.put dst v) w := by
  cases dst with
  | none => exact ⟨h.size, h.env, h.rows, h.disj, h.ownimm, h.immlt, h.immsub, h.immsup, h.below, h.marks, h.obs, h.big, h.maps⟩
  | some t =>
    have ht := hd t rfl
    rw [← h.size] at ht
    refine ⟨by simpa [Act.put] using h.size, fun i => ?_, h.rows, h.disj, h.ownimm, h.immlt, h.immsub, h.immsup, h.below, h.marks, h.obs, h.big, h.maps⟩
    simp only [putE, upd]
    by_cases h6 : i < 1000000
    · have hv0 := h.env i
      simp only [Ctx.val, Act.put, if_pos h6] at hv0 ⊢
      by_cases hi : i = t
      · subst hi
        rw [if_pos rfl]
        simp only [Array.getD_eq_getD_getElem?, Array.getElem?_setIfInBounds, if_true, ht]
        exact hv
      · rw [if_neg hi]
        simp only [Array.getD_eq_getD_getElem?, Array.getElem?_setIfInBounds, if_neg (Ne.symm hi)]
        rw [← Array.getD_eq_getD_getElem?]
        exact hv0
    · have hv0 := h.env i
      simp only [Ctx.val, if_neg h6] at hv0 ⊢
      have hi : i ≠ t := fun e => absurd (Nat.lt_of_lt_of_le (hd t rfl) h.big.1) (by subst e; exact h6)
      rw [if_neg hi]
      exact hv0

/-- A row is new. -/
theorem Sim.row (h : Sim X g st a w) {l : Nat} {m : RLoc} {r : Row} (hlm : l < MB) (hl : st.σ l = none) (hr : RowOK X.w0.heap.size w g.imm g.μ st.pres m r)
    (hd : ∀ l' r' b o, st.σ l' = some r' → OwnR (g.μ l') r' b o → ¬ OwnR m r b o) (hi : ∀ b o, OwnR m r b o → ¬ g.imm b o) :
    Sim X ⟨g.imm, upd g.μ l m⟩ ⟨st.env, upd st.σ l (some r)⟩ a w := by
  have hp : ∀ l', st.pres l' → St.pres ⟨st.env, upd st.σ l (some r)⟩ l' ∧ upd g.μ l m l' = g.μ l' := by
    rintro l' ⟨r', hr'⟩
    have hne : l' ≠ l := fun e => by subst e; rw [hl] at hr'; cases hr'
    exact ⟨⟨r', by simpa [upd_other _ _ hne] using hr'⟩, upd_other _ _ hne⟩
  have hcase : ∀ l' r', upd st.σ l (some r) l' = some r' → (l' = l ∧ r' = r) ∨ (l' ≠ l ∧ st.σ l' = some r') := by
    intro l' r' q
    by_cases e : l' = l
    · subst e; rw [upd_same] at q; cases q; exact .inl ⟨rfl, rfl⟩
    · rw [upd_other _ _ e] at q; exact .inr ⟨e, q⟩
  refine ⟨h.size, fun i => (h.env i).mono (Ext.refl _ _) hp, fun l' r' q => ?_, fun l1 l2 r1 r2 hne q1 q2 b o ho => ?_, fun l' r' b o q ho => ?_, h.immlt, h.immsub, h.immsup, h.below, h.marks, h.obs, h.big, h.maps.new hlm⟩
  · rcases hcase l' r' q with ⟨rfl, rfl⟩ | ⟨e, q'⟩
    · simp only [upd_same]
      exact hr.mono (Ext.refl _ _) hp fun _ _ _ => ⟨rfl, rfl⟩
    · simp only [upd_other _ _ e]
      exact (h.rows l' r' q').mono (Ext.refl _ _) hp fun _ _ _ => ⟨rfl, rfl⟩
  · rcases hcase l1 r1 q1 with ⟨rfl, rfl⟩ | ⟨e1, q1'⟩ <;> rcases hcase l2 r2 q2 with ⟨rfl, rfl⟩ | ⟨e2, q2'⟩
    · exact absurd rfl hne
    · simp only [upd_same, upd_other _ _ e2] at ho ⊢
      exact fun k => hd _ _ b o q2' k ho
    · simp only [upd_same, upd_other _ _ e1] at ho ⊢
      exact hd _ _ b o q1' ho
    · simp only [upd_other _ _ e1, upd_other _ _ e2] at ho ⊢
      exact h.disj l1 l2 r1 r2 hne q1' q2' b o ho
  · rcases hcase l' r' q with ⟨rfl, rfl⟩ | ⟨e, q'⟩
    · simp only [upd_same] at ho
      exact hi b o ho
    · simp only [upd_other _ _ e] at ho
      exact h.ownimm l' r' b o q' ho

/-- A row of a block that is new: its cells are what 'vs' reads. -/
theorem Sim.rowNew (h : Sim X g st a w) {l : Nat} {els : List PV} {T C z : Nat} {opn cl : Bool} (cs : Array Value) (hlm : l < MB) (hl : st.σ l = none)
    (hC : els.length ≤ C) (hcs : cs.size = C * z) (hel : ∀ x ∈ els, x.el = true ∧ x.cells.length = z)
    (hcell : ∀ (i : Nat) x (j : Nat) y u, els[i]? = some x → x.cells[j]? = some y → cs[i * z + j]? = some u → Rd w g.imm g.μ st.pres u y ∧ (cl = true → Rd0 w g.imm u y)) :
    Sim X ⟨g.imm, upd g.μ l ⟨some ⟨w.heap.size, 0, none⟩, els.length, C, z⟩⟩ ⟨st.env, upd st.σ l (some ⟨els, 0, opn, z, cl⟩)⟩ a (w.alloc (.cells cs T)) := by
  have h1 := h.alloc (.cells cs T)
  have hown : ∀ b o, OwnR ⟨some ⟨w.heap.size, 0, none⟩, els.length, C, z⟩ ⟨els, 0, opn, z, cl⟩ b o → b = w.heap.size ∧ o < cs.size := by
    rintro b o ⟨s, hA, h2, h3⟩
    simp only [Option.some.injEq, Addr.mk.injEq] at hA
    obtain ⟨rfl, rfl, _⟩ := hA
    refine ⟨rfl, ?_⟩
    have : (if opn then C else els.length) * z ≤ C * z := Nat.mul_le_mul_right _ (by split <;> omega)
    rw [hcs]
    simp only at h3
    omega
  refine h1.row hlm hl ?_ ?_ ?_
  · refine ⟨rfl, rfl, hC, Nat.zero_le _, hel, (fun q => by cases q), fun _ => ⟨_, _, rfl⟩, fun i x j y hx hy => ?_, fun b o ho => ?_⟩
    · have hi : i < els.length := by
        rcases Nat.lt_or_ge i els.length with q | q
        · exact q
        · rw [List.getElem?_eq_none q] at hx; cases hx
      have hj : j < z := by rw [← (hel x (List.mem_of_getElem? hx)).2]; exact PV.cells_len_pos hy
      have hlt : i * z + j < cs.size := by
        have : (i + 1) * z ≤ C * z := Nat.mul_le_mul_right _ (by omega)
        rw [Nat.add_mul, Nat.one_mul] at this
        omega
      have hu : cs[i * z + j]? = some cs[i * z + j] := Array.getElem?_eq_getElem hlt
      have hr := hcell i x j y _ hx hy hu
      have hx1 : Ext w g.imm (w.alloc (.cells cs T)) g.imm := Ext.alloc h.immlt _
      refine ⟨w.heap.size, 0, cs[i * z + j], rfl, ?_, hr.1.mono hx1 fun _ q => ⟨q, rfl⟩, fun q => absurd q (Nat.not_lt_zero _), fun q => (hr.2 q).mono hx1⟩
      rw [World.cell?_alloc_new, Nat.zero_add]
      exact hu
    · obtain ⟨rfl, ho'⟩ := hown b o ho
      refine ⟨h.below.size, ?_, ?_⟩
      · rw [World.cell?_alloc_new]; simp [ho']
      · simp
  · intro l' r' b o hl' ho k
    have := (h.own_lt hl' ho).2
    have := (hown b o k).1
    omega
  · intro b o ho q
    have := h.immlt b o q
    have := (hown b o ho).1
    omega

end Go.Pw
