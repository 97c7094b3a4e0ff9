/-
  Pure values, what they say of a world, and states: the ground of a calculus for Go functions that make memory and turn none that was there.
-/
import Derived.OrdersIn
import Derived.TacticsIn
import Derived.Below
import Derived.RangeFuncOwn
namespace Go.Pw
open Go.RowKit

/-- A value as a tree: what lies behind a slice that nobody turns any more is part of it. -/
inductive PV where
  | bool (b : Bool)
  | int (k : IntKind) (n : Int)
  | str (s : ByteArray)
  | agg (cs : List PV)
  | tup (vs : List PV)
  | lst (tight : Bool) (xs : List PV)
  | sl (l : Nat)
  | mp (l : Nat)
  | mapc (es : List PV)
  | ptr (l i f : Nat)
  | rptr (cs : List PV)
  | fn (f : Fn) (cap : List PV)
  | nilfn
  | abs (R : World → (Nat → Nat → Prop) → Value → Prop)
  | junk

def PV.cells : PV → List PV
  | .agg cs => cs
  | .mapc _ => []
  | d => [d]

def PV.sc : PV → Bool
  | .agg _ | .tup _ | .junk | .mapc _ => false
  | _ => true

def PV.el : PV → Bool
  | .agg cs => cs.all PV.sc
  | .mapc _ => true
  | d => d.sc

theorem PV.el_cells {d : PV} (h : d.el = true) : ∀ y ∈ d.cells, y.sc = true := by
  cases d <;> simp [PV.el, PV.cells, PV.sc] at * <;> exact h

/-- Where a row lies. -/
structure RLoc where
  A : Option Addr
  n : Nat
  C : Nat
  z : Nat

def isMapO : Obj → Bool
  | .map .. => true
  | _ => false

theorem not_cells_of_map {o : Obj} (h : isMapO o = true) : o.isCells = false := by cases o <;> first | rfl | cases h

/-- What stays of a world. -/
structure Ext (w : World) (imm : Nat → Nat → Prop) (w' : World) (imm' : Nat → Nat → Prop) : Prop where
  im : ∀ b o, imm b o → imm' b o
  cl : ∀ b o, imm b o → w'.cell? ⟨b, o, none⟩ = w.cell? ⟨b, o, none⟩
  ob : ∀ b o x, imm b o → w.heap[b]? = some x → isMapO x = true → w'.heap[b]? = some x

theorem Ext.refl (w : World) (imm : Nat → Nat → Prop) : Ext w imm w imm := ⟨fun _ _ h => h, fun _ _ _ => rfl, fun _ _ _ _ h _ => h⟩
theorem Ext.trans {w w' w'' : World} {i i' i'' : Nat → Nat → Prop} (h : Ext w i w' i') (k : Ext w' i' w'' i'') : Ext w i w'' i'' :=
  ⟨fun b o q => k.im b o (h.im b o q), fun b o q => (k.cl b o (h.im b o q)).trans (h.cl b o q),
   fun b o x q hx hc => k.ob b o x (h.im b o q) (h.ob b o x q hx hc) hc⟩

/-- A value of one cell. -/
def one : Value → Bool
  | .agg _ | .tuple _ => false
  | _ => true

inductive Rd0 (w : World) (imm : Nat → Nat → Prop) : Value → PV → Prop
  | bool (b : Bool) : Rd0 w imm (.bool b) (.bool b)
  | int (k : IntKind) (n : Int) : Rd0 w imm (.int k n) (.int k n)
  | str (s : ByteArray) : Rd0 w imm (.string s) (.str s)
  | agg (vs : Array Value) (cs : List PV) (hsc : cs.all PV.sc = true) (hn : vs.size = cs.length)
      (h : ∀ (i : Nat) v c, vs[i]? = some v → cs[i]? = some c → Rd0 w imm v c) : Rd0 w imm (.agg vs) (.agg cs)
  | tup (vs : Array Value) (cs : List PV) (hn : vs.size = cs.length)
      (h : ∀ (i : Nat) v c, vs[i]? = some v → cs[i]? = some c → Rd0 w imm v c) : Rd0 w imm (.tuple vs) (.tup cs)
  | lst (A : Option Addr) (c z : Nat) (t : Bool) (xs : List PV) (u : Nat → Nat → Value) (hc : xs.length ≤ c) (ht : t = true → c = xs.length)
      (hnil : A = none → c = 0) (hel : ∀ x ∈ xs, x.el = true ∧ x.cells.length = z)
      (hA : 0 < xs.length → ∃ b s, A = some ⟨b, s, none⟩ ∧ ∀ (i : Nat) x (j : Nat) y, xs[i]? = some x → x.cells[j]? = some y →
        imm b (s + i * z + j) ∧ w.cell? ⟨b, s + i * z + j, none⟩ = some (u i j))
      (h : ∀ (i : Nat) x (j : Nat) y, xs[i]? = some x → x.cells[j]? = some y → Rd0 w imm (u i j) y) : Rd0 w imm (.slice A xs.length c) (.lst t xs)
  | rptr (b o : Nat) (cs : List PV) (u : Nat → Value) (hsc : cs.all PV.sc = true)
      (hA : ∀ (j : Nat) y, cs[j]? = some y → imm b (o + j) ∧ w.cell? ⟨b, o + j, none⟩ = some (u j))
      (h : ∀ (j : Nat) y, cs[j]? = some y → Rd0 w imm (u j) y) : Rd0 w imm (.pointer (some ⟨b, o, none⟩)) (.rptr cs)
  | fn (f : Fn) (vs : Array Value) (cap : List PV) (hn : vs.size = cap.length)
      (h : ∀ (i : Nat) v c, vs[i]? = some v → cap[i]? = some c → Rd0 w imm v c) : Rd0 w imm (.func f #[] vs) (.fn f cap)
  | nilfn : Rd0 w imm .nilFunc .nilfn
  | abs (R : World → (Nat → Nat → Prop) → Value → Prop) (v : Value) (ho : one v = true) (h : ∀ w' imm', Ext w imm w' imm' → R w' imm' v) : Rd0 w imm v (.abs R)
  | junk (v : Value) : Rd0 w imm v .junk

/-- The entries of a map that lies there. -/
def MapAt (w : World) (imm : Nat → Nat → Prop) (b : Nat) (es : List PV) : Prop :=
  ∃ ents clock, w.heap[b]? = some (.map ents clock) ∧ ents.size = es.length ∧ ∀ (i : Nat) e, ents[i]? = some e → ∃ k v, es[i]? = some (.tup [k, v]) ∧ Rd0 w imm e.key k ∧ Rd0 w imm e.val v

/-- The names of rows that are maps. -/
abbrev MB : Nat := 5000000

theorem Rd0.mono {w : World} {imm : Nat → Nat → Prop} {w' : World} {imm' : Nat → Nat → Prop}
    (he : Ext w imm w' imm') {v : Value} {d : PV} (h : Rd0 w imm v d) : Rd0 w' imm' v d := by
  induction h with
  | bool b => exact .bool b
  | int k n => exact .int k n
  | str s => exact .str s
  | agg vs cs hsc hn _ ih => exact .agg vs cs hsc hn ih
  | tup vs cs hn _ ih => exact .tup vs cs hn ih
  | lst A c z t xs u hc ht hnil hel hA _ ih =>
    refine .lst A c z t xs u hc ht hnil hel (fun h0 => ?_) ih
    obtain ⟨b, s, rfl, hcell⟩ := hA h0
    exact ⟨b, s, rfl, fun i x j y hx hy => ⟨he.im _ _ (hcell i x j y hx hy).1, (he.cl _ _ (hcell i x j y hx hy).1).trans (hcell i x j y hx hy).2⟩⟩
  | rptr b o cs u hsc hA _ ih =>
    exact .rptr b o cs u hsc (fun j y hy => ⟨he.im _ _ (hA j y hy).1, (he.cl _ _ (hA j y hy).1).trans (hA j y hy).2⟩) ih
  | fn f vs cap hn _ ih => exact .fn f vs cap hn ih
  | nilfn => exact .nilfn
  | abs R v ho h => exact .abs R v ho fun w'' imm'' h' => h w'' imm'' (he.trans h')
  | junk v => exact .junk v

theorem Rd0.one {w : World} {imm : Nat → Nat → Prop} {v : Value} {d : PV} (h : Rd0 w imm v d) (hs : d.sc = true) : one v = true := by
  cases h <;> first | rfl | assumption | (simp [PV.sc] at hs)

theorem MapAt.mono {w : World} {imm : Nat → Nat → Prop} {w' : World} {imm' : Nat → Nat → Prop} (he : Ext w imm w' imm') {b : Nat} {es : List PV} (h : MapAt w imm b es) (hb : ∀ o, w.heap[b]? = some o → isMapO o = true → w'.heap[b]? = some o) : MapAt w' imm' b es := by
  obtain ⟨ents, clock, h1, h2, h3⟩ := h
  refine ⟨ents, clock, hb _ h1 rfl, h2, fun i e hi => ?_⟩
  obtain ⟨k, v, k1, k2, k3⟩ := h3 i e hi
  exact ⟨k, v, k1, k2.mono he, k3.mono he⟩

/-- A map that nobody turns any more. -/
def ImMap (es : List PV) (w : World) (imm : Nat → Nat → Prop) (v : Value) : Prop := ∃ b, v = .map (some b) ∧ imm b 0 ∧ MapAt w imm b es

theorem rd_imMap {w : World} {imm : Nat → Nat → Prop} {v : Value} {es : List PV} (h : ImMap es w imm v) : Rd0 w imm v (.abs (ImMap es)) := by
  obtain ⟨b, rfl, h1, h2⟩ := h
  refine .abs _ _ rfl fun w' imm' he => ⟨b, rfl, he.im _ _ h1, h2.mono he fun o h3 h4 => he.ob _ _ _ h1 h3 h4⟩

inductive Rd (w : World) (imm : Nat → Nat → Prop) (μ : Nat → RLoc) (pres : Nat → Prop) : Value → PV → Prop
  | cl {v : Value} {d : PV} (h : Rd0 w imm v d) : Rd w imm μ pres v d
  | agg (vs : Array Value) (cs : List PV) (hsc : cs.all PV.sc = true) (hn : vs.size = cs.length)
      (h : ∀ (i : Nat) v c, vs[i]? = some v → cs[i]? = some c → Rd w imm μ pres v c) : Rd w imm μ pres (.agg vs) (.agg cs)
  | tup (vs : Array Value) (cs : List PV) (hn : vs.size = cs.length)
      (h : ∀ (i : Nat) v c, vs[i]? = some v → cs[i]? = some c → Rd w imm μ pres v c) : Rd w imm μ pres (.tuple vs) (.tup cs)
  | fn (f : Fn) (vs : Array Value) (cap : List PV) (hn : vs.size = cap.length)
      (h : ∀ (i : Nat) v c, vs[i]? = some v → cap[i]? = some c → Rd w imm μ pres v c) : Rd w imm μ pres (.func f #[] vs) (.fn f cap)
  | sl (l : Nat) (hp : pres l) : Rd w imm μ pres (.slice (μ l).A (μ l).n (μ l).C) (.sl l)
  | mp (l b : Nat) (hp : pres l) (hl : MB ≤ l) (hA : (μ l).A = some ⟨b, 0, none⟩) : Rd w imm μ pres (.map (some b)) (.mp l)
  | ptr (l i f b s : Nat) (hp : pres l) (hA : (μ l).A = some ⟨b, s, none⟩) : Rd w imm μ pres (.pointer (some ⟨b, s + i * (μ l).z + f, none⟩)) (.ptr l i f)

theorem Rd.mono {w : World} {imm : Nat → Nat → Prop} {μ : Nat → RLoc} {pres : Nat → Prop} {w' : World} {imm' : Nat → Nat → Prop} {μ' : Nat → RLoc} {pres' : Nat → Prop}
    (he : Ext w imm w' imm') (hp : ∀ l, pres l → pres' l ∧ μ' l = μ l) {v : Value} {d : PV} (h : Rd w imm μ pres v d) : Rd w' imm' μ' pres' v d := by
  induction h with
  | cl h => exact .cl (h.mono he)
  | agg vs cs hsc hn _ ih => exact .agg vs cs hsc hn ih
  | tup vs cs hn _ ih => exact .tup vs cs hn ih
  | fn f vs cap hn _ ih => exact .fn f vs cap hn ih
  | sl l hl => rw [← (hp l hl).2]; exact .sl l (hp l hl).1
  | mp l b hl h1 hA => exact .mp l b (hp l hl).1 h1 (by rw [(hp l hl).2]; exact hA)
  | ptr l i f b s hl hA => rw [← (hp l hl).2] at hA ⊢; exact .ptr l i f b s (hp l hl).1 hA

theorem Rd.one {w : World} {imm : Nat → Nat → Prop} {μ : Nat → RLoc} {pres : Nat → Prop} {v : Value} {d : PV} (h : Rd w imm μ pres v d) (hs : d.sc = true) : one v = true := by
  cases h <;> first | rfl | (rename_i h; exact h.one hs) | (simp [PV.sc] at hs)

theorem cells_of_one {v : Value} (h : one v = true) : v.cells = #[v] := by
  cases v <;> first | rfl | (simp [one] at h)

theorem PV.cells_of_sc {d : PV} (h : d.sc = true) : d.cells = [d] := by cases d <;> first | rfl | (simp [PV.sc] at h)

theorem Rd.agg_inv {w : World} {imm : Nat → Nat → Prop} {μ : Nat → RLoc} {pres : Nat → Prop} {v : Value} {cs : List PV} (h : Rd w imm μ pres v (.agg cs)) :
    ∃ vs : Array Value, v = .agg vs ∧ vs.size = cs.length ∧ ∀ (i : Nat) v c, vs[i]? = some v → cs[i]? = some c → Rd w imm μ pres v c := by
  cases h with
  | cl h => cases h with | agg vs _ hsc hn h => exact ⟨vs, rfl, hn, fun i v c hv hc => .cl (h i v c hv hc)⟩
  | agg vs _ hsc hn h => exact ⟨vs, rfl, hn, h⟩

theorem Rd.tup_inv {w : World} {imm : Nat → Nat → Prop} {μ : Nat → RLoc} {pres : Nat → Prop} {v : Value} {cs : List PV} (h : Rd w imm μ pres v (.tup cs)) :
    ∃ vs : Array Value, v = .tuple vs ∧ vs.size = cs.length ∧ ∀ (i : Nat) v c, vs[i]? = some v → cs[i]? = some c → Rd w imm μ pres v c := by
  cases h with
  | cl h => cases h with | tup vs _ hn h => exact ⟨vs, rfl, hn, fun i v c hv hc => .cl (h i v c hv hc)⟩
  | tup vs _ hn h => exact ⟨vs, rfl, hn, h⟩

theorem Rd.no_mapc {w : World} {imm : Nat → Nat → Prop} {μ : Nat → RLoc} {pres : Nat → Prop} {v : Value} {es : List PV} (h : Rd w imm μ pres v (.mapc es)) : False := by
  cases h with
  | cl h => cases h

theorem Rd.cells {w : World} {imm : Nat → Nat → Prop} {μ : Nat → RLoc} {pres : Nat → Prop} {v : Value} {d : PV} (h : Rd w imm μ pres v d) (hs : d.el = true) :
    v.cells.size = d.cells.length ∧ ∀ (j : Nat) u y, v.cells[j]? = some u → d.cells[j]? = some y → Rd w imm μ pres u y := by
  by_cases hd : d.sc = true
  · rw [cells_of_one (h.one hd), PV.cells_of_sc hd]
    refine ⟨rfl, fun j u y hu hy => ?_⟩
    cases j with
    | zero => simp at hu hy; subst hu hy; exact h
    | succ j => simp at hy
  · cases d <;> first | (exact absurd rfl hd) | (exact absurd hs hd) | (exact h.no_mapc.elim) | skip
    obtain ⟨vs, rfl, hn, hc⟩ := h.agg_inv
    exact ⟨hn, hc⟩

/-- Closed: names no row. -/
def PV.clo1 : PV → Bool
  | .sl _ | .ptr .. | .agg _ | .tup _ | .mp _ => false
  | .fn _ cap => cap.isEmpty
  | _ => true

def PV.clo : PV → Bool
  | .agg cs | .tup cs | .fn _ cs => cs.all PV.clo1
  | d => d.clo1

theorem Rd.clo1 {w : World} {imm : Nat → Nat → Prop} {μ : Nat → RLoc} {pres : Nat → Prop} {v : Value} {d : PV} (h : Rd w imm μ pres v d) (hs : d.clo1 = true) : Rd0 w imm v d := by
  cases h with
  | cl h => exact h
  | fn f vs cap hn h =>
    have : cap = [] := by simpa [PV.clo1] using hs
    subst this
    exact .fn f vs [] hn fun i v c _ hc => by simp at hc
  | _ => simp [PV.clo1] at hs

theorem Rd.clo {w : World} {imm : Nat → Nat → Prop} {μ : Nat → RLoc} {pres : Nat → Prop} {v : Value} {d : PV} (h : Rd w imm μ pres v d) (hs : d.clo = true) : Rd0 w imm v d := by
  cases h with
  | cl h => exact h
  | agg vs cs hsc hn h => exact .agg vs cs hsc hn fun i v c hv hc => (h i v c hv hc).clo1 (by simp [PV.clo] at hs; exact hs c (List.mem_of_getElem? hc))
  | tup vs cs hn h => exact .tup vs cs hn fun i v c hv hc => (h i v c hv hc).clo1 (by simp [PV.clo] at hs; exact hs c (List.mem_of_getElem? hc))
  | fn f vs cs hn h => exact .fn f vs cs hn fun i v c hv hc => (h i v c hv hc).clo1 (by simp [PV.clo] at hs; exact hs c (List.mem_of_getElem? hc))
  | sl l hp => simp [PV.clo, PV.clo1] at hs
  | mp l b hp => simp [PV.clo, PV.clo1] at hs
  | ptr l i f b s hp hA => simp [PV.clo, PV.clo1] at hs

/-- A row of cells that this activation made, or took over. -/
structure Row where
  els : List PV
  lo : Nat
  opn : Bool
  z : Nat
  cl : Bool

def OwnR (m : RLoc) (r : Row) (b o : Nat) : Prop :=
  ∃ s, m.A = some ⟨b, s, none⟩ ∧ s + r.lo * m.z ≤ o ∧ o < s + (if r.opn then m.C else m.n) * m.z

structure RowOK (base : Nat) (w : World) (imm : Nat → Nat → Prop) (μ : Nat → RLoc) (pres : Nat → Prop) (m : RLoc) (r : Row) : Prop where
  n : m.n = r.els.length
  z : m.z = r.z
  C : m.n ≤ m.C
  lo : r.lo ≤ m.n
  el : ∀ x ∈ r.els, x.el = true ∧ x.cells.length = r.z
  nil : m.A = none → m.C = 0
  spot : 0 < m.C → ∃ b s, m.A = some ⟨b, s, none⟩
  cell : ∀ (i : Nat) x (j : Nat) y, r.els[i]? = some x → x.cells[j]? = some y → ∃ b s u, m.A = some ⟨b, s, none⟩ ∧ w.cell? ⟨b, s + i * m.z + j, none⟩ = some u ∧
    Rd w imm μ pres u y ∧ (i < r.lo → imm b (s + i * m.z + j)) ∧ (r.cl = true → Rd0 w imm u y)
  own : ∀ b o, OwnR m r b o → base ≤ b ∧ (w.cell? ⟨b, o, none⟩).isSome = true ∧ w.frozen? ⟨b, o, none⟩ = false

/-- The rows that are maps. -/
structure MapsOK (base : Nat) (w : World) (imm : Nat → Nat → Prop) (μ : Nat → RLoc) (σ : Nat → Option Row) : Prop where
  at_ : ∀ l r, MB ≤ l → σ l = some r → ∃ b es, r.els = [.mapc es] ∧ (μ l).A = some ⟨b, 0, none⟩ ∧ base ≤ b ∧ MapAt w imm b es ∧ (r.cl = false → ∀ o, ¬ imm b o) ∧ (r.cl = true → imm b 0)
  apart : ∀ l l' r r', MB ≤ l → MB ≤ l' → l ≠ l' → σ l = some r → σ l' = some r' → r.cl = false → (μ l).A ≠ (μ l').A

/-- A state: the temporaries, and the rows. -/
structure St where
  env : Nat → PV
  σ : Nat → Option Row

def upd {α : Type} (f : Nat → α) (k : Nat) (x : α) : Nat → α := fun i => if i = k then x else f i

theorem upd_same {α : Type} (f : Nat → α) (k : Nat) (x : α) : upd f k x k = x := if_pos rfl
theorem upd_other {α : Type} (f : Nat → α) {k i : Nat} (x : α) (h : i ≠ k) : upd f k x i = f i := if_neg h
theorem upd_comm {α : Type} (f : Nat → α) {k l : Nat} (x y : α) (h : k ≠ l) : upd (upd f k x) l y = upd (upd f l y) k x := by
  funext i
  unfold upd
  by_cases h1 : i = k <;> by_cases h2 : i = l <;> simp [h1, h2] <;> omega

def putE (env : Nat → PV) (dst : Option Tmp) (d : PV) : Nat → PV :=
  match dst with
  | some t => upd env t d
  | none => env

/-- What is fixed for one activation. -/
structure Ctx where
  P : Program
  N : Nat
  ρ : Option Nat
  w0 : World
  imm0 : Nat → Nat → Prop
  ext : Nat → Value := fun _ => undef
  obs : List (Nat × Obj) := []
  /-- no call is deferred -/
  calm : Bool := false

/-- The temporaries; from far on those of a frame that waits. -/
def Ctx.val (X : Ctx) (a : Act) (i : Nat) : Value := if i < 1000000 then a.tmps.getD i undef else X.ext i

structure Gh where
  imm : Nat → Nat → Prop
  μ : Nat → RLoc

def St.pres (st : St) (l : Nat) : Prop := ∃ r, st.σ l = some r

/-- The marks of loops over functions, among the deferred calls. -/
def Marks (base : Nat) (ds : List Deferred) (w : World) : Prop :=
  ∃ rs : List Nat, rs.Nodup ∧ ds = rs.map (fun r => { target := .collected r, args := #[] }) ∧ ∀ r ∈ rs, w.heap[r]? = some (.deferred (some [])) ∧ base ≤ r

theorem Marks.mono {base : Nat} {ds : List Deferred} {w w' : World} (h : Marks base ds w) (hk : ∀ (k : Nat) (o : Obj), w.heap[k]? = some o → o.isCells = false → w'.heap[k]? = some o) : Marks base ds w' := by
  obtain ⟨rs, h1, h2, h3⟩ := h
  exact ⟨rs, h1, h2, fun r hr => ⟨hk r _ (h3 r hr).1 rfl, (h3 r hr).2⟩⟩

/-- What was there is as it was, below a number; random numbers are drawn, never given back. -/
structure Bel (B : Nat) (w w' : World) : Prop extends Below B w w' where
  dr : w.drawn ≤ w'.drawn

theorem Bel.refl (B : Nat) (w : World) : Bel B w w := ⟨Below.refl B w, Nat.le_refl _⟩

theorem Bel.trans {B : Nat} {a b c : World} (h : Bel B a b) (k : Bel B b c) : Bel B a c := ⟨h.toBelow.trans k.toBelow, Nat.le_trans h.dr k.dr⟩

theorem Bel.mono {B B' : Nat} {w w' : World} (h : Bel B w w') (hB : B' ≤ B) : Bel B' w w' := ⟨h.toBelow.mono hB, h.dr⟩

theorem Bel.drew {B : Nat} {a w : World} (h : Bel B a w) : Bel B a w.drew := ⟨h.toBelow.drew, Nat.le_succ_of_le h.dr⟩

theorem Bel.alloc {B : Nat} {a w : World} (h : Bel B a w) (hB : B ≤ w.heap.size) (o : Obj) : Bel B a (w.alloc o) := ⟨h.toBelow.alloc hB o, h.dr⟩

theorem Bel.setCell {B : Nat} {a w : World} (h : Bel B a w) {p : Addr} (hp : B ≤ p.block) (u : Value) : Bel B a (w.setCell p u) := ⟨h.toBelow.setCell hp u, h.dr⟩

structure Sim (X : Ctx) (g : Gh) (st : St) (a : Act) (w : World) : Prop where
  size : a.tmps.size = X.N
  env : ∀ i, Rd w g.imm g.μ st.pres (X.val a i) (st.env i)
  rows : ∀ l r, st.σ l = some r → RowOK X.w0.heap.size w g.imm g.μ st.pres (g.μ l) r
  disj : ∀ l l' r r', l ≠ l' → st.σ l = some r → st.σ l' = some r' → ∀ b o, OwnR (g.μ l) r b o → ¬ OwnR (g.μ l') r' b o
  ownimm : ∀ l r b o, st.σ l = some r → OwnR (g.μ l) r b o → ¬ g.imm b o
  immlt : ∀ b o, g.imm b o → b < w.heap.size
  immsub : ∀ b o, g.imm b o → X.imm0 b o ∨ X.w0.heap.size ≤ b
  immsup : ∀ b o, X.imm0 b o → g.imm b o
  below : Bel X.w0.heap.size X.w0 w
  marks : Marks X.w0.heap.size a.defers w
  obs : ∀ p ∈ X.obs, w.heap[p.1]? = some p.2 ∧ p.2.isCells = false ∧ isMapO p.2 = false
  big : X.N ≤ 1000000 ∧ (X.calm = true → a.defers = [])
  maps : MapsOK X.w0.heap.size w g.imm g.μ st.σ

end Go.Pw
