/-
  Operations, by what they come to in plain terms.
-/
import Derived.Test.YtpnajadblhkomaaPw19
namespace Go.Pw
open Go.RowKit Go.Sh
set_option linter.unusedVariables false

/-! ### Words with results by name -/
section
variable {P : Program} {σ : Nat → Option Row} {ρ : Operand → PV} {dst : Option Tmp}

theorem o_move {x : Operand} {d : PV} (h : ρ x = d) : OpR P σ ρ dst (.move x) d .none := by rw [← h]; exact .move x
theorem o_assign {x : Operand} {d : PV} (h : ρ x = d) : OpR P σ ρ dst (.assign x) d .none := by rw [← h]; exact .assign x
theorem o_pickT {c a b : Operand} {d : PV} (hc : ρ c = .bool true) (h : ρ a = d) : OpR P σ ρ dst (.pick c a b) d .none := by rw [← h]; exact .pick c a b true hc
theorem o_pickF {c a b : Operand} {d : PV} (hc : ρ c = .bool false) (h : ρ b = d) : OpR P σ ρ dst (.pick c a b) d .none := by rw [← h]; exact .pick c a b false hc
theorem o_not {t : TypeId} {x : Operand} {b r : Bool} (h : ρ x = .bool b) (hr : (!b) = r) : OpR P σ ρ dst (.unOp .not t x) (.bool r) .none := by rw [← hr]; exact .not t x b h
theorem o_box {T : TypeId} {x : Operand} {t : Tmp} {d : PV} {z : Nat} {cl : Bool} (h : ρ x = d) (hd : dst = some t) (he : d.el = true) (hz : d.cells.length = z) (hcl : d.clo = cl) :
    OpR P σ ρ dst (.box T x) (.ptr t 0 0) (.new t ⟨[d], 0, false, z, cl⟩) := by subst h; subst hz; subst hcl; exact .box T x t hd he
theorem o_alloc {T : TypeId} {t : Tmp} {v : Value} {d : PV} {z : Nat} (hd : dst = some t) (hz : tzero P T = some v) (hv : PV.ofV v = d) (he : d.el = true) (hz' : d.cells.length = z) :
    OpR P σ ρ dst (.alloc T) (.ptr t 0 0) (.new t ⟨[d], 0, false, z, true⟩) := by subst hv; subst hz'; exact .alloc T t v hd hz he
theorem o_loadA {T : TypeId} {x : Operand} {l i f n : Nat} {r : Row} {y : PV} {cs : List PV} (hx : ρ x = .ptr l i f) (hl : σ l = some r) (hy : r.els[i]? = some y) (ha : tagg P T = some true) (hs : tsize P T = some n) (hf : f + n ≤ y.cells.length)
    (hd : (y.cells.drop f).take n = cs) : OpR P σ ρ dst (.load T x) (.agg cs) .none := by rw [← hd]; exact .loadA T x l i f r y n hx hl hy ha hs hf
theorem o_loadRA {T : TypeId} {x : Operand} {n : Nat} {es cs : List PV} (hx : ρ x = .rptr es) (ha : tagg P T = some true) (hs : tsize P T = some n) (hf : n ≤ es.length)
    (hd : es.take n = cs) : OpR P σ ρ dst (.load T x) (.agg cs) .none := by rw [← hd]; exact .loadRA T x es n hx ha hs hf
theorem o_loadS {T : TypeId} {x : Operand} {l i f : Nat} {r : Row} {y d : PV} (hx : ρ x = .ptr l i f) (hl : σ l = some r) (hy : r.els[i]? = some y) (ha : tagg P T = some false) (hd : y.cells[f]? = some d) : OpR P σ ρ dst (.load T x) d .none :=
  .loadS T x l i f r y d hx hl hy ha hd
theorem o_loadRS {T : TypeId} {x : Operand} {es : List PV} {d : PV} (hx : ρ x = .rptr es) (ha : tagg P T = some false) (hd : es[0]? = some d) : OpR P σ ρ dst (.load T x) d .none := .loadRS T x es d hx ha hd
theorem NearT.row {T : List Nat} {σ σ' : Nat → Option Row} {l : Nat} {r : Row} (h : NearT T σ σ') (hm : T.contains l = true) (hl : σ l = some r) : ∃ r', σ' l = some r' ∧ r'.els = r.els ∧ r'.z = r.z ∧ r'.cl = r.cl := by
  have := h l hm
  rw [hl] at this
  cases hq : σ' l with
  | none => rw [hq] at this; cases this
  | some r' =>
    rw [hq] at this
    simp only [Option.map_some, Option.some.injEq, core, Prod.mk.injEq] at this
    exact ⟨r', rfl, this.1.symm, this.2.1.symm, this.2.2.symm⟩
theorem n_loadA {T : TypeId} {x : Operand} {l i f n : Nat} {r : Row} {y : PV} {cs : List PV} {K : List Nat} {σ' : Nat → Option Row} (hN : NearT K σ σ') (hx : ρ x = .ptr l i f) (hm : K.contains l = true) (hl : σ l = some r) (hy : r.els[i]? = some y) (ha : tagg P T = some true) (hs : tsize P T = some n) (hf : f + n ≤ y.cells.length)
    (hd : (y.cells.drop f).take n = cs) : OpR P σ' ρ dst (.load T x) (.agg cs) .none := by
  obtain ⟨r', h1, h2, _⟩ := hN.row hm hl
  exact o_loadA hx h1 (by rw [h2]; exact hy) ha hs hf hd
theorem n_loadS {T : TypeId} {x : Operand} {l i f : Nat} {r : Row} {y d : PV} {K : List Nat} {σ' : Nat → Option Row} (hN : NearT K σ σ') (hx : ρ x = .ptr l i f) (hm : K.contains l = true) (hl : σ l = some r) (hy : r.els[i]? = some y) (ha : tagg P T = some false) (hd : y.cells[f]? = some d) : OpR P σ' ρ dst (.load T x) d .none := by
  obtain ⟨r', h1, h2, _⟩ := hN.row hm hl
  exact o_loadS hx h1 (by rw [h2]; exact hy) ha hd
theorem n_idxR {T E : TypeId} {x y : Operand} {l z : Nat} {r : Row} {k : IntKind} {n : Int} {m : Nat} {K : List Nat} {σ' : Nat → Option Row} (hN : NearT K σ σ') (hx : ρ x = .sl l) (hm' : K.contains l = true) (hl : σ l = some r) (hy : ρ y = .int k n) (hn : n = (m : Int)) (hm : m < r.els.length) (hE : telem P T = some E) (hz : tsize P E = some z) (hrz : r.z = z) :
    OpR P σ' ρ dst (.indexAddr T x y) (.ptr l m 0) .none := by
  obtain ⟨r', h1, h2, h3, _⟩ := hN.row hm' hl
  subst hn; subst hrz
  have := OpR.idxR (P := P) (dst := dst) T x y l r' k m E hx h1 hy (by omega) (by simpa [h2] using hm) hE (by rw [h3]; exact hz)
  simpa using this
theorem o_lenL {x : Operand} {T E : TypeId} {t : Bool} {xs : List PV} {n : Int} (hx : ρ x = .lst t xs) (hE : telem P T = some E) (hn : (xs.length : Int) = n) : OpR P σ ρ dst (.call { callee := .builtin .len, args := #[x], argTypes := #[T] }) (.int .i64 n) .none := by
  subst hn; exact .lenL x t xs T hx (by rw [hE]; rfl) _ rfl
theorem o_lenR {x : Operand} {T E : TypeId} {l : Nat} {r : Row} {n : Int} (hx : ρ x = .sl l) (hl : σ l = some r) (hE : telem P T = some E) (hn : (r.els.length : Int) = n) : OpR P σ ρ dst (.call { callee := .builtin .len, args := #[x], argTypes := #[T] }) (.int .i64 n) .none := by
  subst hn; exact .lenR x l r T hx hl (by rw [hE]; rfl) _ rfl
theorem o_lenS {x : Operand} {T : TypeId} {s : ByteArray} {n : Int} (hx : ρ x = .str s) (hE : P.underlying T = some .string) (hn : (s.size : Int) = n) : OpR P σ ρ dst (.call { callee := .builtin .len, args := #[x], argTypes := #[T] }) (.int .i64 n) .none := by
  subst hn; exact .lenS x s T hx hE _ rfl
theorem o_min {x y : Operand} {k : IntKind} {a b r : Int} {ts : Array TypeId} (hx : ρ x = .int k a) (hy : ρ y = .int k b) (hr : (if b < a then b else a) = r) : OpR P σ ρ dst (.call { callee := .builtin .min, args := #[x, y], argTypes := ts }) (.int k r) .none := by
  subst hr; exact .min2 x y k a b ts hx hy
theorem o_max {x y : Operand} {k : IntKind} {a b r : Int} {ts : Array TypeId} (hx : ρ x = .int k a) (hy : ρ y = .int k b) (hr : (if b > a then b else a) = r) : OpR P σ ρ dst (.call { callee := .builtin .max, args := #[x, y], argTypes := ts }) (.int k r) .none := by
  subst hr; exact .max2 x y k a b ts hx hy
theorem o_ari {op : BinOp} {t u : TypeId} {x y : Operand} {k : IntKind} {a b r : Int} (hx : ρ x = .int k a) (hy : ρ y = .int k b) (hr : ariI k op a b = some r) : OpR P σ ρ dst (.binOp op t x y u) (.int k r) .none := .ari op t u x y k a b r hx hy hr
theorem o_cmp {op : BinOp} {t u : TypeId} {x y : Operand} {k : IntKind} {a b : Int} {r : Bool} (hx : ρ x = .int k a) (hy : ρ y = .int k b) (hr : cmpI op a b = some r) : OpR P σ ρ dst (.binOp op t x y u) (.bool r) .none := .cmp op t u x y k a b r hx hy hr
theorem o_eqB {t u : TypeId} {x y : Operand} {a b r : Bool} (hx : ρ x = .bool a) (hy : ρ y = .bool b) (ht : P.underlying t = some .bool) (hr : (a == b) = r) : OpR P σ ρ dst (.binOp .eql t x y u) (.bool r) .none := by subst hr; exact .eqB t u x y a b hx hy ht
theorem o_neB {t u : TypeId} {x y : Operand} {a b r : Bool} (hx : ρ x = .bool a) (hy : ρ y = .bool b) (ht : P.underlying t = some .bool) (hr : (a != b) = r) : OpR P σ ρ dst (.binOp .neq t x y u) (.bool r) .none := by subst hr; exact .neB t u x y a b hx hy ht
theorem o_eqS {t u : TypeId} {x y : Operand} {a b : ByteArray} {r : Bool} (hx : ρ x = .str a) (hy : ρ y = .str b) (hr : (a.toList == b.toList) = r) : OpR P σ ρ dst (.binOp .eql t x y u) (.bool r) .none := by subst hr; exact .eqS t u x y a b hx hy
theorem o_neS {t u : TypeId} {x y : Operand} {a b : ByteArray} {r : Bool} (hx : ρ x = .str a) (hy : ρ y = .str b) (hr : (!(a.toList == b.toList)) = r) : OpR P σ ρ dst (.binOp .neq t x y u) (.bool r) .none := by subst hr; exact .neS t u x y a b hx hy
theorem o_conv {s t : TypeId} {x : Operand} {k k' : IntKind} {n r : Int} {D : TypeDesc} (hx : ρ x = .int k' n) (hs : P.underlying s = some D) (ht : tint P t = some k) (hr : k.wrap n = r) : OpR P σ ρ dst (.convert s t x) (.int k r) .none := by
  subst hr; exact .conv s t x k k' n hx (by rw [hs]; rfl) ht
theorem o_extract {x : Operand} {i : Nat} {ds : List PV} {d : PV} (hx : ρ x = .tup ds) (hd : ds[i]? = some d) : OpR P σ ρ dst (.extract x i) d .none := .extract x i ds d hx hd
theorem o_idxA {T E : TypeId} {x y : Operand} {l i f k2 : Nat} {k : IntKind} {n : Int} {m len z : Nat} (hx : ρ x = .ptr l i f) (hy : ρ y = .int k n) (hn : n = (m : Int)) (hm : m < len) (hE : tarr P T = some (len, E)) (hz : tsize P E = some z) (hk : f + m * z = k2) :
    OpR P σ ρ dst (.indexAddr T x y) (.ptr l i k2) .none := by
  subst hn; subst hk
  have := OpR.idxA (P := P) (σ := σ) (dst := dst) T x y l i f k m len E z hx hy (by omega) (by omega) hE hz
  simpa using this
theorem o_mkSlice {T E : TypeId} {x y : Operand} {t : Tmp} {k k' : IntKind} {n : Int} {m z b : Nat} {v : Value} {d : PV} (hd : dst = some t) (hx : ρ x = .int k n) (hy : ρ y = .int k' n) (hn : n = (m : Int)) (hE : telem P T = some E) (hz : tsize P E = some z) (hv : tzero P E = some v) (hb : tbytes P E = some b)
    (hdv : (PV.ofV v).w1 = d) (hel : d.el = true) (hvz : d.cells.length = z) (hbm : b * m ≤ 281474976710656) (hm : m ≤ 9223372036854775807) : OpR P σ ρ dst (.makeSlice T x y) (.sl t) (.new t ⟨List.replicate m d, 0, true, z, true⟩) := by
  subst hn; subst hdv
  have := OpR.mkSlice (P := P) (σ := σ) T x y t k k' m E z v hd hx hy (by omega) hE hz hv hel hvz b hb (by have h := Int.ofNat_le.2 hbm; rw [Int.natCast_mul] at h; exact h) (by omega)
  simpa using this
theorem o_slice {T E : TypeId} {z i j k : Nat} {x : Operand} {lo hi mx : Option Operand} {t t' : Bool} {xs ys : List PV} (hx : ρ x = .lst t xs) (hE : telem P T = some E) (hz : tsize P E = some z) (hel : ∀ e ∈ xs, e.cells.length = z) (hlo : Bnd ρ lo 0 i) (hhi : Bnd ρ hi xs.length j) (hmx : Bnd ρ mx xs.length k)
    (hmh : mx.isSome = true → hi.isSome = true) (hij : i ≤ j) (hjk : j ≤ k) (hk : k ≤ xs.length) (ht : (if mx.isSome then decide (j = k) else t && decide (j = xs.length)) = t') (hy : (xs.take j).drop i = ys) : OpR P σ ρ dst (.slice T x lo hi mx) (.lst t' ys) .none := by
  subst ht; subst hy; exact .sliceL T E z x lo hi mx t xs i j k hx hE hz hel hlo hhi hmx hmh hij hjk hk
theorem o_sliceR {T E : TypeId} {z i n : Nat} {x : Operand} {lo : Option Operand} {s : Nat} {r : Row} {t : Tmp} {ys : List PV} {cl : Bool} (hd : dst = some t) (hx : ρ x = .sl s) (hs : σ s = some r) (hE : telem P T = some E) (hz : tsize P E = some z) (hrz : r.z = z) (hlo : Bnd ρ lo 0 i) (hi : i ≤ r.els.length) (hy : r.els.drop i = ys) (hn : r.els.length - i = n) (hcl : r.cl = cl) :
    OpR P σ ρ dst (.slice T x lo none none) (.sl t) (.app s t ⟨ys, n, true, z, cl⟩) := by subst hy; subst hn; subst hcl; exact .sliceR T E z x lo s r i t hd hx hs hE hz hrz hlo hi
theorem o_appT {x y : Operand} {T E : TypeId} {t : Tmp} {xs ys zs : List PV} {cl : Bool} {z by_ n : Nat} {zv : Value} (hd : dst = some t) (hx : ρ x = .lst true xs) (hy : Src σ (ρ y) ys cl) (hE : telem P T = some E) (hz : tsize P E = some z) (hb : tbytes P E = some by_) (hzv : tzero P E = some zv) (hzz : zv.cells.size = z)
    (hel : ∀ e ∈ xs ++ ys, e.cells.length = z) (hfit : (xs.length + ys.length) * by_ ≤ 140737488355328) (h63 : xs.length + ys.length ≤ 9223372036854775807) (hzs : xs ++ ys = zs) (hn : xs.length = n) :
    OpR P σ ρ dst (.call { callee := .builtin .append, args := #[x, y], argTypes := #[T, T] }) (.sl t) (.new t ⟨zs, n, true, z, cl⟩) := by
  subst hzs; subst hn; exact .appT x y T E xs ys cl z by_ t zv hd hx hy hE hz hb hzv hzz hel hfit h63
theorem o_appR {x y : Operand} {T E : TypeId} {t : Tmp} {s : Nat} {r : Row} {ys zs : List PV} {cl cl' : Bool} {z by_ n : Nat} {zv : Value} (hd : dst = some t) (hx : ρ x = .sl s) (hs : σ s = some r) (hy : Src σ (ρ y) ys cl) (hE : telem P T = some E) (hz : tsize P E = some z) (hb : tbytes P E = some by_) (hzv : tzero P E = some zv)
    (hzz : zv.cells.size = z) (hel : ∀ e ∈ r.els ++ ys, e.cells.length = z) (hrz : r.z = z) (hfit : (r.els.length + ys.length) * by_ ≤ 140737488355328) (h63 : r.els.length + ys.length ≤ 9223372036854775807) (hzs : r.els ++ ys = zs) (hn : r.els.length = n) (hcl : (r.cl && cl) = cl') :
    OpR P σ ρ dst (.call { callee := .builtin .append, args := #[x, y], argTypes := #[T, T] }) (.sl t) (.app s t ⟨zs, n, true, z, cl'⟩) := by
  subst hzs; subst hn; subst hcl; exact .appR x y T E s r ys cl z by_ t zv hd hx hs hy hE hz hb hzv hzz hel hrz hfit h63
theorem o_bslice {T E : TypeId} {parts : Array (Nat × Operand)} {len z : Nat} {t : Tmp} {zv : Value} {els : List PV} {ps : List (Nat × PV)} {cl : Bool} (hd : dst = some t) (hp : (parts.toList.map fun p => (p.1, (ρ p.2).w1)) = ps) (hE : telem P T = some E) (hz : tsize P E = some z) (hzv : tzero P E = some zv)
    (hlen : els.length = len) (hel : els.all (fun x => x.el && (x.cells.length == z)) = true) (hbig : len * z ≤ 2 ^ 24) (hf : fillP (fun i => some (i * z, z)) (List.replicate (len * z) .junk) ps = some (els.flatMap PV.cells))
    (hcl : cl = true → els.all (fun x => x.cells.all PV.clo1) = true) : OpR P σ ρ dst (.buildSlice T len parts) (.sl t) (.new t ⟨els, 0, true, z, cl⟩) := by
  subst hp
  refine .buildSlice T E parts len z t zv els cl hd hE hz hzv hlen (fun x hx => ?_) hbig hf hcl
  have := List.all_eq_true.1 hel x hx
  simp only [Bool.and_eq_true, beq_iff_eq] at this
  exact this
theorem o_bI {α : Type} {f : α → PV} {l : List α} {T E : TypeId} {parts : Array (Nat × Operand)} {len z : Nat} {zv : Value} {ps : List (Nat × PV)} (hp : (parts.toList.map fun p => (p.1, (ρ p.2).w1)) = ps) (hE : telem P T = some E) (hz : tsize P E = some z) (hzv : tzero P E = some zv)
    (hlen : (l.map f).length = len) (hel : (l.map f).all (fun x => x.el && (x.cells.length == z)) = true) (hbig : len * z ≤ 2 ^ 24) (hf : fillP (fun i => some (i * z, z)) (List.replicate (len * z) .junk) ps = some ((l.map f).flatMap PV.cells))
    (hcl : (l.map f).all (fun x => x.cells.all PV.clo1) = true) : OpR P σ ρ dst (.buildSlice T len parts) (.lst true (l.map f)) .none := by
  subst hp
  refine .buildI T E parts len z zv _ hE hz hzv hlen (fun x hx => ?_) hbig hf hcl
  have := List.all_eq_true.1 hel x hx
  simp only [Bool.and_eq_true, beq_iff_eq] at this
  exact this
theorem o_nslice {T E : TypeId} {z : Nat} {t : Tmp} (hd : dst = some t) (hE : telem P T = some E) (hz : tsize P E = some z) : OpR P σ ρ dst (.buildSlice T 0 #[]) (.lst true []) .none := .nilSlice T E #[] t z hd hE hz rfl
theorem o_copy {x y : Operand} {T U E : TypeId} {l z : Nat} {r : Row} {ys : List PV} {n : Int} (hx : ρ x = .sl l) (hl : σ l = some r) (hcl : r.cl = true) (hy : Src σ (ρ y) ys true) (hE : telem P T = some E) (hz : tsize P E = some z) (hrz : r.z = z) (hel : ∀ e ∈ ys, e.cells.length = z) (hn : ys.length ≤ r.els.length)
    (hzp : 0 < z) (hk : (ys.length : Int) = n) : OpR P σ ρ dst (.call { callee := .builtin .copy, args := #[x, y], argTypes := #[T, U] }) (.int .i64 n) (.cpy l ys) := by
  subst hk; exact .copy x y T U E l r ys z hx hl hcl hy hE hz hrz hel hn hzp

theorem o_store {T : TypeId} {x y : Operand} {l i f n : Nat} {d : PV} {cs : List PV} (hx : ρ x = .ptr l i f) (hy : ρ y = d ∨ (ρ y).w1 = d) (hc : d.cells = cs) (he : d.el = true) (hs : tsize P T = some n) (hp : 0 < n) (hn : cs.length = n) :
    OpR P σ ρ dst (.store T x y) (.tup []) (.sto l i f cs) := by subst hc; subst hn; exact .store T x y l i f d hx hy he hs hp
theorem o_fieldAddrP {T : TypeId} {x : Operand} {f l i q off k : Nat} {ft : TypeId} (hx : ρ x = .ptr l i q) (ho : foff P T f = some (off, ft)) (hk : q + off = k) : OpR P σ ρ dst (.fieldAddr T x f) (.ptr l i k) .none := by
  subst hk; exact .fieldAddrP T x f l i q off ft hx ho
theorem o_fieldAddrR {T : TypeId} {x : Operand} {f off : Nat} {ft : TypeId} {cs es : List PV} (hx : ρ x = .rptr es) (ho : foff P T f = some (off, ft)) (hk : es.drop off = cs) : OpR P σ ρ dst (.fieldAddr T x f) (.rptr cs) .none := by
  subst hk; exact .fieldAddrR T x f es off ft hx ho
theorem o_fieldA {T : TypeId} {x : Operand} {f off n : Nat} {ft : TypeId} {cs es : List PV} (hx : ρ x = .agg es) (ho : foff P T f = some (off, ft)) (ha : tagg P ft = some true) (hs : tsize P ft = some n) (hn : off + n ≤ es.length) (hk : (es.drop off).take n = cs) :
    OpR P σ ρ dst (.field T x f) (.agg cs) .none := by subst hk; exact .fieldA T x f es off ft n hx ho ha hs hn
theorem o_idxL {T E : TypeId} {x y : Operand} {t : Bool} {xs cs : List PV} {k : IntKind} {n : Int} {m z : Nat} {e : PV} (hx : ρ x = .lst t xs) (hy : ρ y = .int k n) (hn : n = (m : Int)) (he : xs[m]? = some e) (hE : telem P T = some E) (hz : tsize P E = some z) (hez : e.cells.length = z) (hc : e.cells = cs) :
    OpR P σ ρ dst (.indexAddr T x y) (.rptr cs) .none := by subst hn; subst hc; subst hez; exact .idxL T x y t xs k m e E hx hy (by omega) (by simpa using he) hE hz
theorem o_idxR {T E : TypeId} {x y : Operand} {l z : Nat} {r : Row} {k : IntKind} {n : Int} {m : Nat} (hx : ρ x = .sl l) (hl : σ l = some r) (hy : ρ y = .int k n) (hn : n = (m : Int)) (hm : m < r.els.length) (hE : telem P T = some E) (hz : tsize P E = some z) (hrz : r.z = z) :
    OpR P σ ρ dst (.indexAddr T x y) (.ptr l m 0) .none := by
  subst hn; subst hrz
  have := OpR.idxR (P := P) (dst := dst) T x y l r k m E hx hl hy (by omega) (by simpa using hm) hE hz
  simpa using this
theorem o_build {T : TypeId} {parts : Array (Nat × Operand)} {pl : Nat → Option (Nat × Nat)} {z : Value} {zs cs : List PV} {ps : List (Nat × PV)} (hp : (parts.toList.map fun p => (p.1, (ρ p.2).w1)) = ps) (hpl : bplaces P T = some pl) (hz : tzero P T = some z) (hzs : PV.ofV z = .agg zs)
    (hf : fillP pl zs ps = some cs) (hsc : cs.all PV.sc = true) : OpR P σ ρ dst (.build T parts) (.agg cs) .none := by subst hp; exact .build T parts pl z zs cs hpl hz hzs hsc hf
theorem o_mkFunc {fn : Fn} {cap : Array Operand} {cs : List PV} (h : cap.toList.map ρ = cs) : OpR P σ ρ dst (.makeFunc fn #[] cap) (.fn fn cs) .none := by subst h; exact .mkFunc fn cap

theorem consE {α : Type} {a b : α} {l m : List α} (h : a = b) (k : l = m) : a :: l = b :: m := by rw [h, k]
theorem partE {i : Nat} {a b : PV} (h : a = b) : (i, a.w1) = (i, b.w1) := by rw [h]

/-- Can it be called? -/
def Callable (P : Program) (f : FuncId) : Prop := ∃ fn c, P.funcs[f]? = some fn ∧ fn.body = some c ∧ fn.name ≠ "runtime.NumGoroutine"

/-- A call, by the callee's word. -/
theorem o_call {f : FuncId} {args : Array Operand} {ts : Array TypeId} {x : Operand} {ds vs cap : List PV} {d : PV} (hx : ρ x = .fn (.func f) cap) (hk : Callable P f) (ha : args.toList.map ρ ++ cap = ds) (h : PCalls P f vs d)
    (hok : ds.all (PV.vok σ) = true := by rfl) (hv : ds.map (PV.vw σ) = vs := by rfl) (hfl : d.flat = true := by rfl) : OpR P σ ρ dst (.call { callee := .value x, args, argTypes := ts }) d .none := by
  subst ha; subst hv; exact .call f args ts cap d x hx hk hok h hfl
theorem o_callF {f : FuncId} {args : Array Operand} {ts : Array TypeId} {x : Operand} {ds vs cap : List PV} {ls : List Nat} {d : PV} (hx : ρ x = .fn (.func f) cap) (hk : Callable P f) (ha : args.toList.map ρ ++ cap = ds) (h : PCalls P f vs d)
    (hok : ds.all (PV.vok σ) = true := by rfl) (hv : ds.map (PV.vw σ) = vs := by rfl) (hl : ds.flatMap (PV.vrefs σ) = ls := by rfl) : OpR P σ ρ dst (.call { callee := .value x, args, argTypes := ts }) d (.frz ls) := by
  subst ha; subst hv; subst hl; exact .callF f args ts cap d x hx hk hok h
theorem o_callN {f : FuncId} {args : Array Operand} {ts : Array TypeId} {x : Operand} {ds vs cap : List PV} {ls : List Nat} {l : Tmp} {r : Row} (hx : ρ x = .fn (.func f) cap) (hk : Callable P f) (ha : args.toList.map ρ ++ cap = ds) (h : PCallsN P f vs r)
    (hd : dst = some l := by rfl) (hok : ds.all (PV.vok σ) = true := by rfl) (hv : ds.map (PV.vw σ) = vs := by rfl) (hcl : r.cl = true := by rfl) (hl : ds.flatMap (PV.vrefs σ) = ls := by rfl) :
    OpR P σ ρ dst (.call { callee := .value x, args, argTypes := ts }) (.sl l) (.frzN ls l r) := by
  subst ha; subst hv; subst hl; exact .callN f args ts cap l r x hd hx hk hok h hcl
end
section
variable {P : Program} {σ : Nat → Option Row} {ρ : Operand → PV} {dst : Option Tmp}
/-! ### In plain terms -/

theorem pk_or {c a b : Operand} {x y g : Bool} (hc : ρ c = .bool x) (ha : ρ a = .bool true) (hb : ρ b = cond g (.bool y) (.tup [])) (hg : x = false → g = true) : OpR P σ ρ dst (.pick c a b) (.bool (x || y)) .none := by
  have := OpR.pick (P := P) (σ := σ) (dst := dst) c a b x hc
  rw [ha, hb] at this
  cases x
  · rw [hg rfl] at this; exact this
  · exact this
theorem pk_and {c a b : Operand} {x y g : Bool} (hc : ρ c = .bool x) (ha : ρ a = cond g (.bool y) (.tup [])) (hb : ρ b = .bool false) (hg : x = true → g = true) : OpR P σ ρ dst (.pick c a b) (.bool (x && y)) .none := by
  have := OpR.pick (P := P) (σ := σ) (dst := dst) c a b x hc
  rw [ha, hb] at this
  cases x
  · exact this
  · rw [hg rfl] at this; exact this
theorem pk_or' {c a b : Operand} {x y : Bool} (hc : ρ c = .bool x) (ha : ρ a = .bool true) (hb : ρ b = .bool y) : OpR P σ ρ dst (.pick c a b) (.bool (x || y)) .none := by
  have := OpR.pick (P := P) (σ := σ) (dst := dst) c a b x hc
  rw [ha, hb] at this
  cases x <;> exact this
theorem pk_and' {c a b : Operand} {x y : Bool} (hc : ρ c = .bool x) (ha : ρ a = .bool y) (hb : ρ b = .bool false) : OpR P σ ρ dst (.pick c a b) (.bool (x && y)) .none := by
  have := OpR.pick (P := P) (σ := σ) (dst := dst) c a b x hc
  rw [ha, hb] at this
  cases x <;> exact this
theorem o_pick {c a b : Operand} {x : Bool} {d e : PV} (hc : ρ c = .bool x) (ha : ρ a = d) (hb : ρ b = e) : OpR P σ ρ dst (.pick c a b) (cond x d e) .none := by
  have := OpR.pick (P := P) (σ := σ) (dst := dst) c a b x hc
  rw [ha, hb] at this
  cases x <;> exact this

/-- What stands under a guard that holds. -/
theorem ct {g : Bool} {a b : PV} (h : g = true) : cond g a b = a := by rw [h]; rfl
theorem andL {a b : Bool} (h : (a && b) = true) : a = true := by cases a <;> first | rfl | cases h
theorem andR {a b : Bool} (h : (a && b) = true) : b = true := by cases a <;> cases b <;> first | rfl | cases h
theorem andI {a b : Bool} (h : a = true) (k : b = true) : (a && b) = true := by rw [h, k]; rfl
theorem eqF {b : Bool} (h : b = false) : (b == false) = true := by rw [h]; rfl
theorem eqT {b : Bool} (h : b = true) : (b == true) = true := by rw [h]; rfl

theorem o_lnL {α : Type} {f : α → PV} {xs : List α} {x : Operand} {T E : TypeId} {t : Bool} (hx : ρ x = .lst t (xs.map f)) (hE : telem P T = some E) : OpR P σ ρ dst (.call { callee := .builtin .len, args := #[x], argTypes := #[T] }) (.int .i64 xs.length) .none := o_lenL hx hE (by simp)
theorem o_lnR {α : Type} {f : α → PV} {xs : List α} {x : Operand} {T E : TypeId} {l : Nat} {r : Row} (hx : ρ x = .sl l) (hl : σ l = some r) (he : r.els = xs.map f) (hE : telem P T = some E) : OpR P σ ρ dst (.call { callee := .builtin .len, args := #[x], argTypes := #[T] }) (.int .i64 xs.length) .none :=
  o_lenR hx hl hE (by rw [he]; simp)

theorem ix_map {α β : Type} (f : α → β) {xs : List α} {i : Int} {e : α} (h : ix xs i = some e) : 0 ≤ i ∧ (xs.map f)[i.toNat]? = some (f e) := by
  obtain ⟨h0, h1⟩ := ix_get h
  exact ⟨h0, by rw [List.getElem?_map, h1]; rfl⟩

theorem o_ixL {α : Type} {f : α → PV} {xs : List α} {i : Int} {e : α} {T E : TypeId} {x y : Operand} {t : Bool} {k : IntKind} {z : Nat} {cs : List PV} (h : ix xs i = some e) (hx : ρ x = .lst t (xs.map f)) (hy : ρ y = .int k i)
    (hE : telem P T = some E) (hz : tsize P E = some z) (hc : (f e).cells = cs) (hl : cs.length = z) : OpR P σ ρ dst (.indexAddr T x y) (.rptr cs) .none := by
  obtain ⟨h0, h1⟩ := ix_map f h
  subst hc; subst hl
  exact .idxL T x y t (xs.map f) k i (f e) E hx hy h0 h1 hE hz
theorem o_ixR {α : Type} {f : α → PV} {xs : List α} {i : Int} {e : α} {T E : TypeId} {x y : Operand} {l : Nat} {k : IntKind} {z : Nat} {r : Row} (h : ix xs i = some e) (hx : ρ x = .sl l) (hr : σ l = some r) (he : r.els = xs.map f) (hy : ρ y = .int k i)
    (hE : telem P T = some E) (hz : tsize P E = some z) (hl : r.z = z) : OpR P σ ρ dst (.indexAddr T x y) (.ptr l i.toNat 0) .none := by
  obtain ⟨h0, h1⟩ := ix_map f h
  subst hl
  exact .idxR T x y l r k i E hx hr hy h0 (by rw [he]; exact (List.getElem?_eq_some_iff.1 h1).1) hE hz
theorem o_ldE {α : Type} {f : α → PV} {xs : List α} {i : Int} {e : α} {T : TypeId} {x : Operand} {l q n : Nat} {r : Row} {cs : List PV} (h : ix xs i = some e) (hx : ρ x = .ptr l i.toNat q) (hr : σ l = some r) (he : r.els = xs.map f)
    (ha : tagg P T = some true) (hs : tsize P T = some n) (hf : q + n ≤ (f e).cells.length) (hd : ((f e).cells.drop q).take n = cs) : OpR P σ ρ dst (.load T x) (.agg cs) .none :=
  o_loadA hx hr (by rw [he]; exact (ix_map f h).2) ha hs hf hd
theorem o_ldS {α : Type} {f : α → PV} {xs : List α} {i : Int} {e : α} {T : TypeId} {x : Operand} {l q : Nat} {r : Row} {d : PV} (h : ix xs i = some e) (hx : ρ x = .ptr l i.toNat q) (hr : σ l = some r) (he : r.els = xs.map f)
    (ha : tagg P T = some false) (hd : (f e).cells[q]? = some d) : OpR P σ ρ dst (.load T x) d .none :=
  o_loadS hx hr (by rw [he]; exact (ix_map f h).2) ha hd

theorem o_apT {α : Type} {f : α → PV} {xs ys zs : List α} {b : Nat} {x y : Operand} {T E : TypeId} {t : Tmp} {z : Nat} {zv : Value} (h : app b xs ys = some zs) (hd : dst = some t) (hx : ρ x = .lst true (xs.map f)) (hy : Src σ (ρ y) (ys.map f) true)
    (hE : telem P T = some E) (hz : tsize P E = some z) (hb : tbytes P E = some b) (hzv : tzero P E = some zv) (hzz : zv.cells.size = z) (hel : ∀ e, (f e).cells.length = z) :
    OpR P σ ρ dst (.call { callee := .builtin .append, args := #[x, y], argTypes := #[T, T] }) (.sl t) (.new t ⟨zs.map f, xs.length, true, z, true⟩) := by
  obtain ⟨h1, h2, rfl⟩ := app_some h
  exact o_appT hd hx hy hE hz hb hzv hzz (fun e he => by rw [← List.map_append] at he; obtain ⟨a, _, rfl⟩ := List.mem_map.1 he; exact hel a) (by simpa using h1) (by simpa using h2) (by simp) (by simp)
theorem o_apR {α : Type} {f : α → PV} {xs ys zs : List α} {b : Nat} {x y : Operand} {T E : TypeId} {t : Tmp} {z s : Nat} {r : Row} {zv : Value} (h : app b xs ys = some zs) (hd : dst = some t) (hx : ρ x = .sl s) (hs : σ s = some r) (he : r.els = xs.map f) (hrz : r.z = z) (hcl : r.cl = true)
    (hy : Src σ (ρ y) (ys.map f) true) (hE : telem P T = some E) (hz : tsize P E = some z) (hb : tbytes P E = some b) (hzv : tzero P E = some zv) (hzz : zv.cells.size = z) (hel : ∀ e, (f e).cells.length = z) :
    OpR P σ ρ dst (.call { callee := .builtin .append, args := #[x, y], argTypes := #[T, T] }) (.sl t) (.app s t ⟨zs.map f, xs.length, true, z, true⟩) := by
  obtain ⟨h1, h2, rfl⟩ := app_some h
  exact o_appR hd hx hs hy hE hz hb hzv hzz (fun e q => by rw [he, ← List.map_append] at q; obtain ⟨a, _, rfl⟩ := List.mem_map.1 q; exact hel a) hrz (by rw [he]; simpa using h1) (by rw [he]; simpa using h2) (by rw [he]; simp) (by rw [he]; simp) (by rw [hcl]; rfl)
theorem o_mk {α : Type} {f : α → PV} {zs : List α} {z0 : α} {n : Int} {T E : TypeId} {x y : Operand} {t : Tmp} {k k' : IntKind} {z b : Nat} {v : Value} (h : mk b n z0 = some zs) (hd : dst = some t) (hx : ρ x = .int k n) (hy : ρ y = .int k' n) (hE : telem P T = some E) (hz : tsize P E = some z)
    (hv : tzero P E = some v) (hb : tbytes P E = some b) (hdv : (PV.ofV v).w1 = f z0) (hel : (PV.ofV v).w1.el = true) (hvz : (PV.ofV v).w1.cells.length = z) : OpR P σ ρ dst (.makeSlice T x y) (.sl t) (.new t ⟨zs.map f, 0, true, z, true⟩) := by
  obtain ⟨h1, h2, h3, rfl⟩ := mk_some h
  rw [List.map_replicate, ← hdv]
  exact .mkSlice T x y t k k' n E z v hd hx hy h1 hE hz hv hel hvz b hb h2 h3

def BndI (ρ : Operand → PV) (x : Option Operand) (dflt n : Int) : Prop :=
  match x with
  | some y => ∃ k, ρ y = .int k n
  | none => n = dflt

theorem BndI.bnd {ρ : Operand → PV} {x : Option Operand} {d n : Int} {d' : Nat} (h : BndI ρ x d n) (h0 : 0 ≤ n) (hd : d = d') : Bnd ρ x d' n.toNat := by
  cases x with
  | none => have : n = d := h; show n.toNat = d'; omega
  | some y => obtain ⟨k, hk⟩ := h; exact ⟨k, by rw [hk]; congr; omega⟩

theorem o_cutL {α : Type} {f : α → PV} {xs zs : List α} {i j : Int} {T E : TypeId} {z : Nat} {x : Operand} {lo hi : Option Operand} (h : cut xs i j = some zs) (hx : ρ x = .lst false (xs.map f)) (hlo : BndI ρ lo 0 i) (hhi : BndI ρ hi xs.length j)
    (hE : telem P T = some E) (hz : tsize P E = some z) (hel : ∀ e, (f e).cells.length = z) : OpR P σ ρ dst (.slice T x lo hi none) (.lst false (zs.map f)) .none := by
  obtain ⟨h1, h2, h3, rfl⟩ := cut_some h
  have := o_slice (P := P) (σ := σ) (dst := dst) (mx := none) (t' := false) (i := i.toNat) (j := j.toNat) (k := (xs.map f).length) (ys := ((xs.take j.toNat).drop i.toNat).map f) hx hE hz (fun e he => by obtain ⟨a, _, rfl⟩ := List.mem_map.1 he; exact hel a)
    (hlo.bnd h1 rfl) (hhi.bnd (by omega) (by simp)) rfl (fun q => by cases q) (by omega) (by simp; omega) (Nat.le_refl _) rfl (by simp [List.map_take, List.map_drop])
  exact this
theorem o_cutT {α : Type} {f : α → PV} {xs zs : List α} {i j : Int} {T E : TypeId} {z : Nat} {x : Operand} {lo hi mx : Option Operand} (h : cut xs i j = some zs) (hx : ρ x = .lst false (xs.map f)) (hlo : BndI ρ lo 0 i) (hhi : BndI ρ hi xs.length j) (hmx : BndI ρ mx xs.length j) (hm : mx.isSome = true) (hs : hi.isSome = true)
    (hE : telem P T = some E) (hz : tsize P E = some z) (hel : ∀ e, (f e).cells.length = z) : OpR P σ ρ dst (.slice T x lo hi mx) (.lst true (zs.map f)) .none := by
  obtain ⟨h1, h2, h3, rfl⟩ := cut_some h
  exact o_slice (P := P) (σ := σ) (dst := dst) (t' := true) (i := i.toNat) (j := j.toNat) (k := j.toNat) (ys := ((xs.take j.toNat).drop i.toNat).map f) hx hE hz (fun e he => by obtain ⟨a, _, rfl⟩ := List.mem_map.1 he; exact hel a)
    (hlo.bnd h1 rfl) (hhi.bnd (by omega) (by simp)) (hmx.bnd (by omega) (by simp)) (fun _ => hs) (by omega) (Nat.le_refl _) (by simp; omega) (by rw [hm]; simp) (by simp [List.map_take, List.map_drop])
/-- A part of a row, which is then shown. -/
theorem o_cutF {α : Type} {f : α → PV} {xs zs : List α} {i j : Int} {T E : TypeId} {z s : Nat} {r : Row} {x : Operand} {lo hi : Option Operand} (h : cut xs i j = some zs) (hx : ρ x = .sl s) (hs : σ s = some r) (he : r.els = xs.map f) (hcl : r.cl = true) (hrz : r.z = z) (hlo : BndI ρ lo 0 i) (hhi : BndI ρ hi xs.length j)
    (hE : telem P T = some E) (hz : tsize P E = some z) : OpR P σ ρ dst (.slice T x lo hi none) (.lst false (zs.map f)) (.frz [s]) := by
  obtain ⟨h1, h2, h3, rfl⟩ := cut_some h
  have := OpR.sliceF (P := P) (σ := σ) (dst := dst) T E z x lo hi s r i.toNat j.toNat hx hs hcl hE hz hrz (hlo.bnd h1 rfl) (hhi.bnd (by omega) (by rw [he]; simp)) (by omega) (by rw [he]; simp; omega)
  rw [he] at this
  rwa [← List.map_take, ← List.map_drop] at this
end
end Go.Pw
