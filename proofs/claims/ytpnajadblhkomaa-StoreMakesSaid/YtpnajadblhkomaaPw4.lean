/-
  What one operation does to a state.
-/
import Derived.Test.YtpnajadblhkomaaPw3
import Derived.Laws.Append
import Derived.Laws.MakeOwn
import Derived.IntWalk
namespace Go.Pw
open Go.RowKit

def tsize (P : Program) (t : TypeId) : Option Nat := (P.info? t).map (·.size)
def tbytes (P : Program) (t : TypeId) : Option Nat := (P.info? t).map (·.bytes)
def tzero (P : Program) (t : TypeId) : Option Value := (P.info? t).bind (·.zero)
/-- Is it a struct or an array? -/
def tagg (P : Program) (t : TypeId) : Option Bool := (P.underlying t).map fun | .struct _ | .array _ _ => true | _ => false
def telem (P : Program) (t : TypeId) : Option TypeId := match P.underlying t with | some (.slice e) => some e | _ => none
def tarr (P : Program) (t : TypeId) : Option (Nat × TypeId) := match P.underlying t with | some (.array n e) => some (n, e) | _ => none
/-- Where a field lies. -/
def foff (P : Program) (t : TypeId) (f : Nat) : Option (Nat × TypeId) :=
  match P.underlying t with
  | some (.struct fs) => match fs[f]? with
    | some fd => match tsize P fd.type with
      | some (_ + 1) => some (fd.offset, fd.type)
      | _ => none
    | none => none
  | _ => none
def tint (P : Program) (t : TypeId) : Option IntKind := match P.underlying t with | some (.int k) => some k | _ => none

/-! ### Less is said of a slice: nothing of what lies behind its end -/
def PV.w0 : PV → PV
  | .lst _ xs => .lst false xs
  | d => d

def PV.w1 : PV → PV
  | .agg cs => .agg (cs.map PV.w0)
  | .rptr cs => .rptr (cs.map PV.w0)
  | d => d.w0

def PV.w2 : PV → PV
  | .fn f cap => .fn f (cap.map PV.w1)
  | d => d.w1

def PV.w3 : PV → PV
  | .tup vs => .tup (vs.map PV.w2)
  | d => d.w2

theorem w0_sc {d : PV} (h : d.sc = true) : d.w0.sc = true := by cases d <;> first | exact h | rfl
theorem w0_sc' {d : PV} : d.w0.sc = d.sc := by cases d <;> rfl
theorem w0_clo1 {d : PV} : d.w0.clo1 = d.clo1 := by cases d <;> rfl

theorem all_w0 {cs : List PV} (h : cs.all PV.sc = true) : (cs.map PV.w0).all PV.sc = true := by
  rw [List.all_eq_true] at h ⊢
  intro y hy
  obtain ⟨y0, h0, rfl⟩ := List.mem_map.1 hy
  exact w0_sc (h y0 h0)

theorem map_get {α β : Type} {f : α → β} {l : List α} {i : Nat} {c : β} (h : (l.map f)[i]? = some c) : ∃ c0, l[i]? = some c0 ∧ f c0 = c := by
  rw [List.getElem?_map] at h
  cases hq : l[i]? with
  | none => rw [hq] at h; cases h
  | some c0 => rw [hq] at h; exact ⟨c0, rfl, by simpa using h⟩

theorem Rd0.w0 {w : World} {imm : Nat → Nat → Prop} {v : Value} {d : PV} (h : Rd0 w imm v d) : Rd0 w imm v d.w0 := by
  cases h with
  | lst A c z t xs u h1 h2 h3 h4 h5 h6 => exact .lst A c z false xs u h1 (fun q => by cases q) h3 h4 h5 h6
  | bool b => exact .bool b
  | int k n => exact .int k n
  | str s => exact .str s
  | agg vs cs a b c => exact .agg vs cs a b c
  | tup vs cs a b => exact .tup vs cs a b
  | rptr b o cs u a b c => exact .rptr _ o cs u a b c
  | fn f vs cap a b => exact .fn f vs cap a b
  | nilfn => exact .nilfn
  | abs R v a b => exact .abs R v a b
  | junk v => exact .junk v

theorem Rd0.w1 {w : World} {imm : Nat → Nat → Prop} {v : Value} {d : PV} (h : Rd0 w imm v d) : Rd0 w imm v d.w1 := by
  cases h with
  | lst A c z t xs u h1 h2 h3 h4 h5 h6 => exact .lst A c z false xs u h1 (fun q => by cases q) h3 h4 h5 h6
  | bool b => exact .bool b
  | int k n => exact .int k n
  | str s => exact .str s
  | agg vs cs hsc hn hc =>
    refine .agg vs _ (all_w0 hsc) (by simpa using hn) fun i v c hv hc' => ?_
    obtain ⟨c0, k1, rfl⟩ := map_get hc'
    exact (hc i v c0 hv k1).w0
  | tup vs cs a b => exact .tup vs cs a b
  | rptr b o cs u hsc ha hc =>
    refine .rptr b o _ u (all_w0 hsc) (fun j y hy => ?_) (fun j y hy => ?_)
    · obtain ⟨c0, k1, rfl⟩ := map_get hy
      exact ha j c0 k1
    · obtain ⟨c0, k1, rfl⟩ := map_get hy
      exact (hc j c0 k1).w0
  | fn f vs cap a b => exact .fn f vs cap a b
  | nilfn => exact .nilfn
  | abs R v a b => exact .abs R v a b
  | junk v => exact .junk v

theorem Rd0.w2 {w : World} {imm : Nat → Nat → Prop} {v : Value} {d : PV} (h : Rd0 w imm v d) : Rd0 w imm v d.w2 := by
  by_cases e : ∃ f cs, d = .fn f cs
  · obtain ⟨f, cs, rfl⟩ := e
    cases h with
    | fn f vs _ hn hc =>
      refine .fn f vs _ (by simpa using hn) fun i v c hv hc' => ?_
      obtain ⟨c0, k1, rfl⟩ := map_get hc'
      exact (hc i v c0 hv k1).w1
  · have : d.w2 = d.w1 := by cases d <;> first | rfl | exact absurd ⟨_, _, rfl⟩ e
    rw [this]
    exact h.w1

theorem Rd0.w3 {w : World} {imm : Nat → Nat → Prop} {v : Value} {d : PV} (h : Rd0 w imm v d) : Rd0 w imm v d.w3 := by
  by_cases e : ∃ cs, d = .tup cs
  · obtain ⟨cs, rfl⟩ := e
    cases h with
    | tup vs _ hn hc =>
      refine .tup vs _ (by simpa using hn) fun i v c hv hc' => ?_
      obtain ⟨c0, k1, rfl⟩ := map_get hc'
      exact (hc i v c0 hv k1).w2
  · have : d.w3 = d.w2 := by cases d <;> first | rfl | exact absurd ⟨_, rfl⟩ e
    rw [this]
    exact h.w2

section
variable {w : World} {imm : Nat → Nat → Prop} {μ : Nat → RLoc} {pres : Nat → Prop}
theorem Rd.w0 {v : Value} {d : PV} (h : Rd w imm μ pres v d) : Rd w imm μ pres v d.w0 := by
  cases h with
  | cl h => exact .cl h.w0
  | agg vs cs a b c => exact .agg vs cs a b c
  | tup vs cs a b => exact .tup vs cs a b
  | fn f vs cap a b => exact .fn f vs cap a b
  | sl l a => exact .sl l a
  | mp l b a c d => exact .mp l b a c d
  | ptr l i f b s a c => exact .ptr l i f b s a c

theorem Rd.w1 {v : Value} {d : PV} (h : Rd w imm μ pres v d) : Rd w imm μ pres v d.w1 := by
  cases h with
  | cl h => exact .cl h.w1
  | agg vs cs hsc hn hc =>
    refine .agg vs _ (all_w0 hsc) (by simpa using hn) fun i v c hv hc' => ?_
    obtain ⟨c0, k1, rfl⟩ := map_get hc'
    exact (hc i v c0 hv k1).w0
  | tup vs cs a b => exact .tup vs cs a b
  | fn f vs cap a b => exact .fn f vs cap a b
  | sl l a => exact .sl l a
  | mp l b a c d => exact .mp l b a c d
  | ptr l i f b s a c => exact .ptr l i f b s a c

theorem Rd.w2 {v : Value} {d : PV} (h : Rd w imm μ pres v d) : Rd w imm μ pres v d.w2 := by
  by_cases e : ∃ f cs, d = .fn f cs
  · obtain ⟨f, cs, rfl⟩ := e
    cases h with
    | cl h => exact .cl h.w2
    | fn f vs _ hn hc =>
      refine .fn f vs _ (by simpa using hn) fun i v c hv hc' => ?_
      obtain ⟨c0, k1, rfl⟩ := map_get hc'
      exact (hc i v c0 hv k1).w1
  · have : d.w2 = d.w1 := by cases d <;> first | rfl | exact absurd ⟨_, _, rfl⟩ e
    rw [this]
    exact h.w1
end

theorem w0_cells {d : PV} (h : d.sc = true) : d.w0.cells = d.cells.map PV.w0 := by cases d <;> first | rfl | cases h
theorem w1_el {d : PV} (h : d.el = true) : d.w1.el = true := by
  cases d <;> first | exact h | rfl | skip
  exact all_w0 h

/-- What is handed over. -/
def PV.vw (σ : Nat → Option Row) (d : PV) : PV := (d.view σ).w2

/-- No map. -/
def NilMap : World → (Nat → Nat → Prop) → Value → Prop := fun _ _ v => v = .map none

def PV.ofV1 : Value → PV
  | .bool b => .bool b
  | .int k n => .int k n
  | .string s => .str s
  | .slice none 0 0 => .lst true []
  | .nilFunc => .nilfn
  | .map none => .abs NilMap
  | _ => .junk

def PV.ofV0 (v : Value) : PV := (PV.ofV1 v).w0

def PV.ofV : Value → PV
  | .agg vs => if (vs.toList.map PV.ofV1).all PV.sc then .agg (vs.toList.map PV.ofV1) else .junk
  | .tuple vs => if vs.toList.isEmpty then .tup [] else .junk
  | v => PV.ofV1 v

theorem rd_ofV1 (w : World) (imm : Nat → Nat → Prop) (v : Value) : Rd0 w imm v (PV.ofV1 v) := by
  unfold PV.ofV1
  split
  · exact .bool _
  · exact .int _ _
  · exact .str _
  · exact .lst none 0 1 true [] (fun _ _ => undef) (Nat.le_refl _) (fun _ => rfl) (fun _ => rfl) (fun _ q => by simp at q) (fun q => absurd q (Nat.lt_irrefl _)) (fun i x j y q => by simp at q)
  · exact .nilfn
  · exact .abs _ _ rfl fun _ _ _ => rfl
  · exact .junk _

theorem rd_ofV (w : World) (imm : Nat → Nat → Prop) (v : Value) : Rd0 w imm v (PV.ofV v) := by
  unfold PV.ofV
  split
  · rename_i vs
    split
    · rename_i h
      refine .agg vs _ h (by simp) fun i v c hv hc => ?_
      rw [List.getElem?_map] at hc
      have : vs.toList[i]? = some v := by simpa using hv
      rw [this] at hc
      cases hc
      exact rd_ofV1 w imm v
    · exact .junk _
  · rename_i vs
    split
    · rename_i h
      refine .tup vs [] (by simpa using h) fun i v c hv hc => by simp at hc
    · exact .junk _
  · exact rd_ofV1 w imm _

def evP (env : Nat → PV) : Operand → PV
  | .tmp t => if t < 1000000 then env t else .junk
  | .const v => PV.ofV v
  | .global _ => .junk
  | .func f => .fn (.func f) []

section
variable {X : Ctx} {g : Gh} {st : St} {a : Act} {w : World}

theorem Sim.eval (h : Sim X g st a w) (x : Operand) : Rd w g.imm g.μ st.pres (a.eval x) (evP st.env x) := by
  cases x with
  | tmp t =>
    have := h.env t
    unfold Ctx.val at this
    unfold evP
    by_cases q : t < 1000000
    · rw [if_pos q] at this
      simp only [if_pos q]
      exact this
    · simp only [if_neg q]
      exact .cl (.junk _)
  | const v => exact .cl (rd_ofV _ _ _)
  | global g => exact .cl (.junk _)
  | func f => exact .cl (.fn _ #[] [] rfl fun i v c _ hc => by simp at hc)

theorem Sim.envE (h : Sim X g st a w) (t : Nat) : Rd w g.imm g.μ st.pres (a.tmps.getD t undef) (evP st.env (.tmp t)) := h.eval (.tmp t)

/-! ### Inversions -/
theorem Rd.bool_inv {w : World} {imm : Nat → Nat → Prop} {μ : Nat → RLoc} {pres : Nat → Prop} {v : Value} {b : Bool} (h : Rd w imm μ pres v (.bool b)) : v = .bool b := by
  cases h with | cl h => cases h; rfl
theorem Rd.int_inv {w : World} {imm : Nat → Nat → Prop} {μ : Nat → RLoc} {pres : Nat → Prop} {v : Value} {k : IntKind} {n : Int} (h : Rd w imm μ pres v (.int k n)) : v = .int k n := by
  cases h with | cl h => cases h; rfl
theorem Rd.str_inv {w : World} {imm : Nat → Nat → Prop} {μ : Nat → RLoc} {pres : Nat → Prop} {v : Value} {s : ByteArray} (h : Rd w imm μ pres v (.str s)) : v = .string s := by
  cases h with | cl h => cases h; rfl
theorem Rd.ptr_inv {w : World} {imm : Nat → Nat → Prop} {μ : Nat → RLoc} {pres : Nat → Prop} {v : Value} {l i f : Nat} (h : Rd w imm μ pres v (.ptr l i f)) :
    pres l ∧ ∃ b s, (μ l).A = some ⟨b, s, none⟩ ∧ v = .pointer (some ⟨b, s + i * (μ l).z + f, none⟩) := by
  cases h with
  | cl h => cases h
  | ptr _ _ _ b s hp hA => exact ⟨hp, b, s, hA, rfl⟩
theorem Rd.sl_inv {w : World} {imm : Nat → Nat → Prop} {μ : Nat → RLoc} {pres : Nat → Prop} {v : Value} {l : Nat} (h : Rd w imm μ pres v (.sl l)) :
    pres l ∧ v = .slice (μ l).A (μ l).n (μ l).C := by
  cases h with
  | cl h => cases h
  | sl _ hp => exact ⟨hp, rfl⟩
theorem Rd.mp_inv {w : World} {imm : Nat → Nat → Prop} {μ : Nat → RLoc} {pres : Nat → Prop} {v : Value} {l : Nat} (h : Rd w imm μ pres v (.mp l)) :
    pres l ∧ MB ≤ l ∧ ∃ b, (μ l).A = some ⟨b, 0, none⟩ ∧ v = .map (some b) := by
  cases h with
  | cl h => cases h
  | mp _ b hp hl hA => exact ⟨hp, hl, b, hA, rfl⟩
theorem Rd.rptr_inv {w : World} {imm : Nat → Nat → Prop} {μ : Nat → RLoc} {pres : Nat → Prop} {v : Value} {cs : List PV} (h : Rd w imm μ pres v (.rptr cs)) :
    ∃ b o, ∃ u : Nat → Value, v = .pointer (some ⟨b, o, none⟩) ∧ cs.all PV.sc = true ∧ ∀ (j : Nat) y, cs[j]? = some y → imm b (o + j) ∧ w.cell? ⟨b, o + j, none⟩ = some (u j) ∧ Rd0 w imm (u j) y := by
  cases h with
  | cl h => cases h with | rptr b o _ u hsc hA h => exact ⟨b, o, u, rfl, hsc, fun j y hy => ⟨(hA j y hy).1, (hA j y hy).2, h j y hy⟩⟩
theorem Rd.lst_inv {w : World} {imm : Nat → Nat → Prop} {μ : Nat → RLoc} {pres : Nat → Prop} {v : Value} {t : Bool} {xs : List PV} (h : Rd w imm μ pres v (.lst t xs)) :
    ∃ A c z, ∃ u : Nat → Nat → Value, v = .slice A xs.length c ∧ xs.length ≤ c ∧ (t = true → c = xs.length) ∧ (A = none → c = 0) ∧ (∀ x ∈ xs, x.el = true ∧ x.cells.length = z) ∧
      (0 < xs.length → ∃ b s, A = some ⟨b, s, none⟩ ∧ ∀ (i : Nat) x (j : Nat) y, xs[i]? = some x → x.cells[j]? = some y →
        imm b (s + i * z + j) ∧ w.cell? ⟨b, s + i * z + j, none⟩ = some (u i j)) ∧
      (∀ (i : Nat) x (j : Nat) y, xs[i]? = some x → x.cells[j]? = some y → Rd0 w imm (u i j) y) := by
  cases h with
  | cl h => cases h with | lst A c z _ _ u h1 h2 h3 h4 h5 h6 => exact ⟨A, c, z, u, rfl, h1, h2, h3, h4, h5, h6⟩

theorem Rd.agg_sc {w : World} {imm : Nat → Nat → Prop} {μ : Nat → RLoc} {pres : Nat → Prop} {v : Value} {cs : List PV} (h : Rd w imm μ pres v (.agg cs)) : cs.all PV.sc = true := by
  cases h with
  | cl h => cases h; assumption
  | agg _ _ hsc => exact hsc

/-! ### Runs -/
theorem run_sizeOf' {P : Program} {t : TypeId} {n : Nat} (h : tsize P t = some n) (w : World) : (sizeOf t).run P w = .ok n w := by
  unfold tsize at h
  cases hi : P.info? t with
  | none => rw [hi] at h; cases h
  | some i => rw [hi] at h; simp at h; simp [sizeOf, typeInfo, hi, h]

theorem run_isAgg' {P : Program} {t : TypeId} {b : Bool} (h : tagg P t = some b) (w : World) : (isAgg t).run P w = .ok b w := by
  unfold tagg at h
  cases hi : P.underlying t with
  | none => rw [hi] at h; cases h
  | some i =>
    rw [hi] at h
    simp only [Option.map_some, Option.some.injEq] at h
    subst h
    simp only [isAgg, Sem.run_bind, run_underlying hi, Result.andThen_ok]
    cases i <;> rfl

theorem run_zero' {P : Program} {t : TypeId} {v : Value} (h : tzero P t = some v) (w : World) : (zeroValue t).run P w = .ok v w := by
  unfold tzero at h
  cases hi : P.info? t with
  | none => rw [hi] at h; cases h
  | some i => rw [hi] at h; simp at h; simp [zeroValue, typeInfo, hi, h]

theorem addr_add (b o n : Nat) : (⟨b, o, none⟩ : Addr).add n = ⟨b, o + n, none⟩ := by
  unfold Addr.add
  split
  · simp_all
  · rfl

/-- Cells that read as 'ys' are loaded. -/
theorem run_loadVar_agg {P : Program} {t : TypeId} {n b o : Nat} (ha : tagg P t = some true) (hs : tsize P t = some n) (u : Nat → Value)
    (h : ∀ j, j < n → w.cell? ⟨b, o + j, none⟩ = some (u j)) : (loadVar t ⟨b, o, none⟩).run P w = .ok (.agg ((List.range n).map u).toArray) w := by
  have := run_loadCells (P := P) w ⟨b, o, none⟩ n u (fun j hj => by rw [addr_add]; exact h j hj)
  simp only [loadVar, Sem.run_bind, run_isAgg' ha, Result.andThen_ok, if_true, run_sizeOf' hs, this]
  rfl

theorem run_loadVar_one {P : Program} {t : TypeId} {b o : Nat} {u : Value} (ha : tagg P t = some false) (h : w.cell? ⟨b, o, none⟩ = some u) :
    (loadVar t ⟨b, o, none⟩).run P w = .ok u w := by
  simp only [loadVar, Sem.run_bind, run_isAgg' ha, Result.andThen_ok, Bool.false_eq_true, if_false, load, Sem.run, h]

theorem run_storeVar {P : Program} {t : TypeId} {n b o : Nat} {v : Value} (hs : tsize P t = some n) (hn : v.cells.size = n)
    (hc : ∀ j, j < n → (w.cell? ⟨b, o + j, none⟩).isSome = true ∧ w.frozen? ⟨b, o + j, none⟩ = false) (h1 : ∀ u ∈ v.cells.toList, one u = true) :
    (storeVar t ⟨b, o, none⟩ v).run P w = .ok () (w.setCells b o v.cells.toList) := by
  have := run_storeCells_cells (P := P) b o v.cells.toList 0 w (fun j hj => by simpa using (hc j (by simpa [hn] using hj)).1)
    (fun j hj => by simpa using (hc j (by simpa [hn] using hj)).2) (fun u hu => by rw [← one_eq]; exact h1 u hu)
  simp only [storeVar, Sem.run_bind, run_sizeOf' hs, Result.andThen_ok, hn, ne_eq, not_true_eq_false, if_false]
  simpa using this
end

/-! ### The calls -/

def RdL (w : World) (imm : Nat → Nat → Prop) (vs : Array Value) (ds : List PV) : Prop :=
  vs.size = ds.length ∧ ∀ (i : Nat) v d, vs[i]? = some v → ds[i]? = some d → Rd0 w imm v d

def newImm (imm : Nat → Nat → Prop) (w w' : World) : Nat → Nat → Prop := fun b o => imm b o ∨ (w.heap.size ≤ b ∧ b < w'.heap.size)

/-- Function f, on arguments that read as ds, returns what reads as d, and turns nothing that was there. -/
def PCalls (P : Program) (f : FuncId) (ds : List PV) (d : PV) : Prop :=
  ∀ (w : World) (imm : Nat → Nat → Prop) (vs : Array Value), (∀ b o, imm b o → b < w.heap.size) → RdL w imm vs ds →
    Calls P f vs w fun e w' => ∃ v, e = .returned v ∧ Bel w.heap.size w w' ∧ Rd0 w' (newImm imm w w') v d

/-- .. returns a slice of its own. -/
def PCallsN (P : Program) (f : FuncId) (ds : List PV) (r : Row) : Prop :=
  ∀ (w : World) (imm : Nat → Nat → Prop) (vs : Array Value), (∀ b o, imm b o → b < w.heap.size) → RdL w imm vs ds →
    Calls P f vs w fun e w' => ∃ m : RLoc, e = .returned (.slice m.A m.n m.C) ∧ Bel w.heap.size w w' ∧
      RowOK w.heap.size w' (fun b o => newImm imm w w' b o ∧ ¬ OwnR m r b o) (fun _ => m) (fun _ => False) m r ∧ ∀ b o, OwnR m r b o → w.heap.size ≤ b

def PV.flat1 : PV → Bool
  | .bool _ | .int .. | .str _ => true
  | _ => false

def PV.flat2 : PV → Bool
  | .agg cs => cs.all PV.flat1
  | d => d.flat1

def PV.flat : PV → Bool
  | .agg cs => cs.all PV.flat1
  | .tup cs => cs.all PV.flat2
  | d => d.flat1

inductive Eff where
  | none
  | new (l : Nat) (r : Row)
  | app (s l : Nat) (r : Row)
  | sto (l i f : Nat) (cs : List PV)
  | cpy (l : Nat) (ys : List PV)
  | frz (ls : List Nat)
  | frzN (ls : List Nat) (l : Nat) (r : Row)

def setC1 (x : PV) : List PV → PV
  | [c] => c
  | _ => x

def setC (x : PV) (f : Nat) (cs : List PV) : PV :=
  match x with
  | .agg es => .agg (es.take f ++ cs ++ es.drop (f + cs.length))
  | x => setC1 x cs

def Eff.apply (σ : Nat → Option Row) : Eff → Nat → Option Row
  | .none => σ
  | .new l r => upd σ l (some r)
  | .app s l r => upd (match σ s with | some q => upd σ s (some { q with lo := q.els.length, opn := false }) | Option.none => σ) l (some r)
  | .sto l i f cs => match σ l with
    | some q => match q.els[i]? with
      | some x => upd σ l (some { q with els := q.els.set i (setC x f cs), cl := q.cl && cs.all PV.clo1 })
      | Option.none => σ
    | Option.none => σ
  | .cpy l ys => match σ l with
    | some q => upd σ l (some { q with els := ys ++ q.els.drop ys.length })
    | Option.none => σ
  | .frz ls => frzL σ ls
  | .frzN ls l r => upd (frzL σ ls) l (some r)

def Eff.ok (σ : Nat → Option Row) : Eff → Prop
  | .none => True
  | .new l _ => σ l = Option.none
  | .app s l _ => σ l = Option.none ∧ ∃ q, σ s = some q ∧ q.opn = true
  | .sto l i f cs => ∃ q x, σ l = some q ∧ q.els[i]? = some x ∧ q.lo ≤ i ∧ f + cs.length ≤ x.cells.length ∧ cs.all PV.sc = true
  | .cpy l ys => ∃ q, σ l = some q ∧ q.lo = 0 ∧ ys.length ≤ q.els.length
  | .frz _ => True
  | .frzN _ l _ => σ l = Option.none


def cmpI : BinOp → Int → Int → Option Bool
  | .eql, a, b => some (a == b)
  | .neq, a, b => some (a != b)
  | .lss, a, b => some (decide (a < b))
  | .leq, a, b => some (decide (a ≤ b))
  | .gtr, a, b => some (decide (a > b))
  | .geq, a, b => some (decide (a ≥ b))
  | _, _, _ => none

def ariI (k : IntKind) : BinOp → Int → Int → Option Int
  | .add, a, b => some (k.wrap (a + b))
  | .sub, a, b => some (k.wrap (a - b))
  | .mul, a, b => some (k.wrap (a * b))
  | .quo, a, b => if b = 0 then none else some (k.wrap (a.tdiv b))
  | .rem, a, b => if b = 0 then none else some (a.tmod b)
  | _, _, _ => none

/-- The parts of a struct, or an array, laid over its zero. -/
def fillP (place : Nat → Option (Nat × Nat)) (cs : List PV) : List (Nat × PV) → Option (List PV)
  | [] => some cs
  | (i, d) :: rest =>
    match place i with
    | none => none
    | some (off, size) => if d.cells.length ≠ size ∨ cs.length < off + d.cells.length ∨ d.el = false then none
      else fillP place (cs.take off ++ d.cells ++ cs.drop (off + d.cells.length)) rest

def bplaces (P : Program) (t : TypeId) : Option (Nat → Option (Nat × Nat)) :=
  match P.underlying t with
  | some (.array _ e) => (P.info? e).map fun ie i => some (i * ie.size, ie.size)
  | some (.struct fields) => (fields.toList.mapM (fun f => (P.info? f.type).map fun i => (f.offset, i.size))).map fun places i => places.toArray[i]?
  | _ => none

/-- What is appended, and copied: a slice whose elements are read. -/
def Src (σ : Nat → Option Row) (d : PV) (ys : List PV) (cl : Bool) : Prop :=
  (∃ t, d = .lst t ys ∧ cl = true) ∨ (∃ l r, d = .sl l ∧ σ l = some r ∧ ys = r.els ∧ cl = r.cl)

/-- A bound of a slice expression. -/
def Bnd (ρ : Operand → PV) (x : Option Operand) (dflt n : Nat) : Prop :=
  match x with
  | some y => ∃ k, ρ y = .int k n
  | none => n = dflt

/-- What an operation of the state yields, and does. -/
inductive OpR (P : Program) (σ : Nat → Option Row) (ρ : Operand → PV) (dst : Option Tmp) : Op → PV → Eff → Prop
  | pureV (op d) (hnd : ∀ c, op ≠ .defer c) (hnl : ∀ T x, op ≠ .load T x) (h : ∀ (o : Oper) (w : World) (imm : Nat → Nat → Prop) (μ : Nat → RLoc) (pres : Nat → Prop) (ev : Operand → Value), o.op = op → (∀ x, x ∈ op.operands → Rd w imm μ pres (ev x) (ρ x)) →
      ∃ u, (execOp ev o).run P w = .ok (.value u) w ∧ Rd w imm μ pres u d) : OpR P σ ρ dst op d .none
  | move (x) : OpR P σ ρ dst (.move x) (ρ x) .none
  | assign (x) : OpR P σ ρ dst (.assign x) (ρ x) .none
  | pick (c a b t) (h : ρ c = .bool t) : OpR P σ ρ dst (.pick c a b) (if t then ρ a else ρ b) .none
  | box (T x l) (hd : dst = some l) (hx : (ρ x).el = true) : OpR P σ ρ dst (.box T x) (.ptr l 0 0) (.new l ⟨[ρ x], 0, false, (ρ x).cells.length, (ρ x).clo⟩)
  | alloc (T l v) (hd : dst = some l) (hz : tzero P T = some v) (hx : (PV.ofV v).el = true) :
      OpR P σ ρ dst (.alloc T) (.ptr l 0 0) (.new l ⟨[PV.ofV v], 0, false, (PV.ofV v).cells.length, true⟩)
  | loadA (T x l i f r y n) (hx : ρ x = .ptr l i f) (hl : σ l = some r) (hy : r.els[i]? = some y) (ha : tagg P T = some true) (hs : tsize P T = some n) (hf : f + n ≤ y.cells.length) :
      OpR P σ ρ dst (.load T x) (.agg ((y.cells.drop f).take n)) .none
  | loadS (T x l i f r y d) (hx : ρ x = .ptr l i f) (hl : σ l = some r) (hy : r.els[i]? = some y) (ha : tagg P T = some false) (hf : y.cells[f]? = some d) :
      OpR P σ ρ dst (.load T x) d .none
  | loadRA (T x cs n) (hx : ρ x = .rptr cs) (ha : tagg P T = some true) (hs : tsize P T = some n) (hf : n ≤ cs.length) :
      OpR P σ ρ dst (.load T x) (.agg (cs.take n)) .none
  | loadRS (T x cs d) (hx : ρ x = .rptr cs) (ha : tagg P T = some false) (hf : cs[0]? = some d) :
      OpR P σ ρ dst (.load T x) d .none
  | store (T x y l i f d) (hx : ρ x = .ptr l i f) (hd : ρ y = d ∨ (ρ y).w1 = d) (hy : d.el = true) (hs : tsize P T = some d.cells.length) (hpos : 0 < d.cells.length) :
      OpR P σ ρ dst (.store T x y) (.tup []) (.sto l i f d.cells)
  | nilCheckP (x l i f) (hx : ρ x = .ptr l i f) : OpR P σ ρ dst (.nilCheck x) (ρ x) .none
  | nilCheckR (x cs) (hx : ρ x = .rptr cs) : OpR P σ ρ dst (.nilCheck x) (ρ x) .none
  | not (t x b) (hx : ρ x = .bool b) : OpR P σ ρ dst (.unOp .not t x) (.bool (!b)) .none
  | neg (t x k n) (hx : ρ x = .int k n) : OpR P σ ρ dst (.unOp .neg t x) (.int k (k.wrap (0 - n))) .none
  | ari (op t u x y k a b r) (hx : ρ x = .int k a) (hy : ρ y = .int k b) (hr : ariI k op a b = some r) : OpR P σ ρ dst (.binOp op t x y u) (.int k r) .none
  | cmp (op t u x y k a b r) (hx : ρ x = .int k a) (hy : ρ y = .int k b) (hr : cmpI op a b = some r) : OpR P σ ρ dst (.binOp op t x y u) (.bool r) .none
  | eqB (t u x y a b) (hx : ρ x = .bool a) (hy : ρ y = .bool b) (ht : P.underlying t = some .bool) : OpR P σ ρ dst (.binOp .eql t x y u) (.bool (a == b)) .none
  | neB (t u x y a b) (hx : ρ x = .bool a) (hy : ρ y = .bool b) (ht : P.underlying t = some .bool) : OpR P σ ρ dst (.binOp .neq t x y u) (.bool (a != b)) .none
  | eqS (t u x y a b) (hx : ρ x = .str a) (hy : ρ y = .str b) : OpR P σ ρ dst (.binOp .eql t x y u) (.bool (a.toList == b.toList)) .none
  | neS (t u x y a b) (hx : ρ x = .str a) (hy : ρ y = .str b) : OpR P σ ρ dst (.binOp .neq t x y u) (.bool (!(a.toList == b.toList))) .none
  | conv (s t x k k' n) (hx : ρ x = .int k' n) (hs : (P.underlying s).isSome = true) (ht : tint P t = some k) : OpR P σ ρ dst (.convert s t x) (.int k (k.wrap n)) .none
  | fieldAddrP (T x f l i q off ft) (hx : ρ x = .ptr l i q) (ho : foff P T f = some (off, ft)) : OpR P σ ρ dst (.fieldAddr T x f) (.ptr l i (q + off)) .none
  | fieldAddrR (T x f cs off ft) (hx : ρ x = .rptr cs) (ho : foff P T f = some (off, ft)) : OpR P σ ρ dst (.fieldAddr T x f) (.rptr (cs.drop off)) .none
  | fieldA (T x f cs off ft n) (hx : ρ x = .agg cs) (ho : foff P T f = some (off, ft)) (ha : tagg P ft = some true) (hs : tsize P ft = some n) (hn : off + n ≤ cs.length) :
      OpR P σ ρ dst (.field T x f) (.agg ((cs.drop off).take n)) .none
  | fieldS (T x f cs off ft d) (hx : ρ x = .agg cs) (ho : foff P T f = some (off, ft)) (ha : tagg P ft = some false) (hd : cs[off]? = some d) :
      OpR P σ ρ dst (.field T x f) d .none
  | idxL (T x y t xs k n e E) (hx : ρ x = .lst t xs) (hy : ρ y = .int k n) (h0 : 0 ≤ n) (he : xs[n.toNat]? = some e) (hE : telem P T = some E) (hz : tsize P E = some e.cells.length) :
      OpR P σ ρ dst (.indexAddr T x y) (.rptr e.cells) .none
  | idxR (T x y l r k n E) (hx : ρ x = .sl l) (hl : σ l = some r) (hy : ρ y = .int k n) (h0 : 0 ≤ n) (hn : n.toNat < r.els.length) (hE : telem P T = some E) (hz : tsize P E = some r.z) :
      OpR P σ ρ dst (.indexAddr T x y) (.ptr l n.toNat 0) .none
  | idxA (T x y l i f k n) (len : Nat) (E z) (hx : ρ x = .ptr l i f) (hy : ρ y = .int k n) (h0 : 0 ≤ n) (hn : n < (len : Int)) (hE : tarr P T = some (len, E)) (hz : tsize P E = some z) :
      OpR P σ ρ dst (.indexAddr T x y) (.ptr l i (f + n.toNat * z)) .none
  | idxRA (T x y cs k n) (len : Nat) (E z) (hx : ρ x = .rptr cs) (hy : ρ y = .int k n) (h0 : 0 ≤ n) (hn : n < (len : Int)) (hE : tarr P T = some (len, E)) (hz : tsize P E = some z) :
      OpR P σ ρ dst (.indexAddr T x y) (.rptr (cs.drop (n.toNat * z))) .none
  | extract (x i ds d) (hx : ρ x = .tup ds) (hd : ds[i]? = some d) : OpR P σ ρ dst (.extract x i) d .none
  | build (T parts pl z zs cs) (hpl : bplaces P T = some pl) (hz : tzero P T = some z) (hzs : PV.ofV z = .agg zs) (hsc : cs.all PV.sc = true) (hf : fillP pl zs (parts.toList.map fun p => (p.1, (ρ p.2).w1)) = some cs) :
      OpR P σ ρ dst (.build T parts) (.agg cs) .none
  | mkFunc (fn cap) : OpR P σ ρ dst (.makeFunc fn #[] cap) (.fn fn (cap.toList.map ρ)) .none
  | mkSlice (T x y l k k' n E z v) (hd : dst = some l) (hx : ρ x = .int k n) (hy : ρ y = .int k' n) (h0 : 0 ≤ n) (hE : telem P T = some E) (hz : tsize P E = some z) (hv : tzero P E = some v)
      (hel : ((PV.ofV v).w1).el = true) (hvz : ((PV.ofV v).w1).cells.length = z) (b : Nat) (hb : tbytes P E = some b) (hbm : b * n ≤ 281474976710656) (hn : n ≤ 9223372036854775807) :
      OpR P σ ρ dst (.makeSlice T x y) (.sl l) (.new l ⟨List.replicate n.toNat ((PV.ofV v).w1), 0, true, z, true⟩)
  | lenL (x t xs T) (hx : ρ x = .lst t xs) (hT : (telem P T).isSome = true) (ts) (hts : ts[0]? = some T) :
      OpR P σ ρ dst (.call { callee := .builtin .len, args := #[x], argTypes := ts }) (.int .i64 xs.length) .none
  | lenR (x l r T) (hx : ρ x = .sl l) (hl : σ l = some r) (hT : (telem P T).isSome = true) (ts) (hts : ts[0]? = some T) :
      OpR P σ ρ dst (.call { callee := .builtin .len, args := #[x], argTypes := ts }) (.int .i64 r.els.length) .none
  | lenS (x s T) (hx : ρ x = .str s) (hT : P.underlying T = some .string) (ts) (hts : ts[0]? = some T) :
      OpR P σ ρ dst (.call { callee := .builtin .len, args := #[x], argTypes := ts }) (.int .i64 s.size) .none
  | min2 (x y k a b ts) (hx : ρ x = .int k a) (hy : ρ y = .int k b) : OpR P σ ρ dst (.call { callee := .builtin .min, args := #[x, y], argTypes := ts }) (.int k (if b < a then b else a)) .none
  | max2 (x y k a b ts) (hx : ρ x = .int k a) (hy : ρ y = .int k b) : OpR P σ ρ dst (.call { callee := .builtin .max, args := #[x, y], argTypes := ts }) (.int k (if b > a then b else a)) .none
  | call (f args ts cap d) (x) (hf : ρ x = .fn (.func f) cap) (hb : ∃ fn c, P.funcs[f]? = some fn ∧ fn.body = some c ∧ fn.name ≠ "runtime.NumGoroutine")
      (hok : (args.toList.map ρ ++ cap).all (PV.vok σ) = true) (h : PCalls P f ((args.toList.map ρ ++ cap).map (PV.vw σ)) d) (hfl : d.flat = true) :
      OpR P σ ρ dst (.call { callee := .value x, args, argTypes := ts }) d .none
  | callF (f args ts cap d) (x) (hf : ρ x = .fn (.func f) cap) (hb : ∃ fn c, P.funcs[f]? = some fn ∧ fn.body = some c ∧ fn.name ≠ "runtime.NumGoroutine")
      (hok : (args.toList.map ρ ++ cap).all (PV.vok σ) = true) (h : PCalls P f ((args.toList.map ρ ++ cap).map (PV.vw σ)) d) :
      OpR P σ ρ dst (.call { callee := .value x, args, argTypes := ts }) d (.frz ((args.toList.map ρ ++ cap).flatMap (PV.vrefs σ)))
  | callN (f args ts cap l r) (x) (hd : dst = some l) (hf : ρ x = .fn (.func f) cap) (hb : ∃ fn c, P.funcs[f]? = some fn ∧ fn.body = some c ∧ fn.name ≠ "runtime.NumGoroutine")
      (hok : (args.toList.map ρ ++ cap).all (PV.vok σ) = true) (h : PCallsN P f ((args.toList.map ρ ++ cap).map (PV.vw σ)) r) (hcl : r.cl = true) :
      OpR P σ ρ dst (.call { callee := .value x, args, argTypes := ts }) (.sl l) (.frzN ((args.toList.map ρ ++ cap).flatMap (PV.vrefs σ)) l r)
  | appT (x y T E xs ys cl z by_ l zv) (hd : dst = some l) (hx : ρ x = .lst true xs) (hy : Src σ (ρ y) ys cl) (hE : telem P T = some E) (hz : tsize P E = some z) (hb : tbytes P E = some by_) (hzv : tzero P E = some zv)
      (hzz : zv.cells.size = z) (hel : ∀ e ∈ xs ++ ys, e.cells.length = z) (hfit : (xs.length + ys.length) * by_ ≤ 140737488355328) (h63 : xs.length + ys.length ≤ 9223372036854775807) :
      OpR P σ ρ dst (.call { callee := .builtin .append, args := #[x, y], argTypes := #[T, T] }) (.sl l) (.new l ⟨xs ++ ys, xs.length, true, z, cl⟩)
  | appR (x y T E s r ys cl z by_ l zv) (hd : dst = some l) (hx : ρ x = .sl s) (hs : σ s = some r) (hy : Src σ (ρ y) ys cl) (hE : telem P T = some E) (hz : tsize P E = some z) (hb : tbytes P E = some by_) (hzv : tzero P E = some zv)
      (hzz : zv.cells.size = z) (hel : ∀ e ∈ r.els ++ ys, e.cells.length = z) (hrz : r.z = z) (hfit : (r.els.length + ys.length) * by_ ≤ 140737488355328) (h63 : r.els.length + ys.length ≤ 9223372036854775807) :
      OpR P σ ρ dst (.call { callee := .builtin .append, args := #[x, y], argTypes := #[T, T] }) (.sl l) (.app s l ⟨r.els ++ ys, r.els.length, true, z, r.cl && cl⟩)
  | buildSlice (T E parts len z l zv els cl) (hd : dst = some l) (hE : telem P T = some E) (hz : tsize P E = some z) (hzv : tzero P E = some zv) (hlen : els.length = len) (hel : ∀ x ∈ els, x.el = true ∧ x.cells.length = z)
      (hbig : len * z ≤ 2 ^ 24) (hf : fillP (fun i => some (i * z, z)) (List.replicate (len * z) .junk) (parts.toList.map fun p => (p.1, (ρ p.2).w1)) = some (els.flatMap PV.cells))
      (hcl : cl = true → els.all (fun x => x.cells.all PV.clo1) = true) : OpR P σ ρ dst (.buildSlice T len parts) (.sl l) (.new l ⟨els, 0, true, z, cl⟩)
  | buildI (T E parts len z zv els) (hE : telem P T = some E) (hz : tsize P E = some z) (hzv : tzero P E = some zv) (hlen : els.length = len) (hel : ∀ x ∈ els, x.el = true ∧ x.cells.length = z)
      (hbig : len * z ≤ 2 ^ 24) (hf : fillP (fun i => some (i * z, z)) (List.replicate (len * z) .junk) (parts.toList.map fun p => (p.1, (ρ p.2).w1)) = some (els.flatMap PV.cells))
      (hcl : els.all (fun x => x.cells.all PV.clo1) = true) : OpR P σ ρ dst (.buildSlice T len parts) (.lst true els) .none
  | nilSlice (T E parts l z) (hd : dst = some l) (hE : telem P T = some E) (hz : tsize P E = some z) (hp : parts = #[]) : OpR P σ ρ dst (.buildSlice T 0 parts) (.lst true []) .none
  | sliceL (T E z x lo hi mx t xs i j k) (hx : ρ x = .lst t xs) (hE : telem P T = some E) (hz : tsize P E = some z) (hel : ∀ e ∈ xs, e.cells.length = z) (hlo : Bnd ρ lo 0 i) (hhi : Bnd ρ hi xs.length j) (hmx : Bnd ρ mx xs.length k)
      (hmh : mx.isSome = true → hi.isSome = true) (hij : i ≤ j) (hjk : j ≤ k) (hk : k ≤ xs.length) :
      OpR P σ ρ dst (.slice T x lo hi mx) (.lst (if mx.isSome then decide (j = k) else t && decide (j = xs.length)) ((xs.take j).drop i)) .none
  | sliceR (T E z x lo s r i l) (hd : dst = some l) (hx : ρ x = .sl s) (hs : σ s = some r) (hE : telem P T = some E) (hz : tsize P E = some z) (hrz : r.z = z) (hlo : Bnd ρ lo 0 i) (hi : i ≤ r.els.length) :
      OpR P σ ρ dst (.slice T x lo none none) (.sl l) (.app s l ⟨r.els.drop i, r.els.length - i, true, z, r.cl⟩)
  | sliceF (T E z x lo hi s r i j) (hx : ρ x = .sl s) (hs : σ s = some r) (hcl : r.cl = true) (hE : telem P T = some E) (hz : tsize P E = some z) (hrz : r.z = z) (hlo : Bnd ρ lo 0 i) (hhi : Bnd ρ hi r.els.length j) (hij : i ≤ j) (hj : j ≤ r.els.length) :
      OpR P σ ρ dst (.slice T x lo hi none) (.lst false ((r.els.take j).drop i)) (.frz [s])
  | copy (x y T U E l r ys z) (hx : ρ x = .sl l) (hl : σ l = some r) (hcl : r.cl = true) (hy : Src σ (ρ y) ys true) (hE : telem P T = some E) (hz : tsize P E = some z) (hrz : r.z = z) (hel : ∀ e ∈ ys, e.cells.length = z) (hn : ys.length ≤ r.els.length) (hzp : 0 < z) :
      OpR P σ ρ dst (.call { callee := .builtin .copy, args := #[x, y], argTypes := #[T, U] }) (.int .i64 ys.length) (.cpy l ys)

end Go.Pw
