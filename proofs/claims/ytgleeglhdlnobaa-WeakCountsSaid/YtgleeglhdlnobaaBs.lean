/-
  Words for slices that are read and made: a slice value that holds a list, below the heap's end of a world; how it is carried over later worlds. Plain lemmas, no function of the program is spoken of.
  Conditions: none.
-/
import Derived.Test.YtgleeglhdlnobaaProg
import Derived.WalkKit
import Derived.ProofKit
import Derived.OpenShut
import Derived.Deep.Slices
import Derived.Deep.Fields
import Derived.Lib.Hide
import Derived.Laws.OwnMore
import Derived.Laws.AppendOwnNone
import Derived.Laws.CopyOwn
import Derived.Maps.AppendAt
import Derived.ShutString
import Derived.ChangeOld
import Derived.Below
import Derived.Lib.SmallJoins
namespace Go.Proofs.Ytgleeglhdlnobaa.Bs
open Go.RowKit Go.ChangeShapes Go.WideShapes Go.Deep

section
variable {α : Type} {f : α → Value} {w w' : World} {v : Value} {l : List α}

/-- The slice value v holds the things l, each in one cell (f says what the cell holds). -/
def Sl (w : World) (f : α → Value) (v : Value) (l : List α) : Prop :=
  ∃ A c, v = .slice A l.length c ∧ l.length ≤ c ∧ c ≤ maxLen ∧ (A = none → c = 0) ∧
    (0 < l.length → ∃ b off, A = some ⟨b, off, none⟩ ∧ b < w.heap.size ∧ ∀ k u, (l.map f)[k]? = some u → w.cell? ⟨b, off + k, none⟩ = some u)

theorem Sl.below (h : Sl w f v l) (hb : Below w.heap.size w w') : Sl w' f v l := by
  obtain ⟨A, c, h1, h2, h3, h0, h4⟩ := h
  refine ⟨A, c, h1, h2, h3, h0, fun hp => ?_⟩
  obtain ⟨b, off, ha, hlt, hc⟩ := h4 hp
  exact ⟨b, off, ha, Nat.lt_of_lt_of_le hlt hb.size, fun k u hu => (hb.cell (p := ⟨b, off + k, none⟩) hlt).trans (hc k u hu)⟩

theorem Sl.alloc (h : Sl w f v l) (o : Obj) : Sl (w.alloc o) f v l := h.below ((Below.refl _ _).alloc (Nat.le_refl _) o)
theorem Sl.drew (h : Sl w f v l) : Sl w.drew f v l := h
theorem Sl.drewN (h : Sl w f v l) (n : Nat) : Sl (w.drewN n) f v l := h

theorem Sl.none_ : Sl w f (.slice none 0 0) ([] : List α) := ⟨none, 0, rfl, Nat.le_refl _, Nat.zero_le _, fun _ => rfl, fun h => absurd h (Nat.lt_irrefl _)⟩

theorem Sl.at_ (h : Sl w f v l) {k : Nat} (hk : k < l.length) : ∃ b off c, v = .slice (some ⟨b, off, none⟩) l.length c ∧ b < w.heap.size ∧ w.cell? ⟨b, off + k, none⟩ = some (f l[k]) := by
  obtain ⟨A, c, h1, _, _, _, h4⟩ := h
  obtain ⟨b, off, ha, hlt, hc⟩ := h4 (by omega)
  exact ⟨b, off, c, by rw [h1, ha], hlt, hc k _ (by simp [hk])⟩

theorem Sl.len_le (h : Sl w f v l) : l.length ≤ maxLen := by
  obtain ⟨A, c, _, h2, h3, _, _⟩ := h
  exact Nat.le_trans h2 h3

/-- What the call's own row holds is a slice that holds it. -/
theorem Sl.of_own {base : Nat} {e : TypeId} (h : w.ownsRow base e 1 v l.length (l.map f)) : Sl w f v l := by
  have hlt := h.lt
  rcases h.2 with ⟨hv, hn⟩ | ⟨g, cap, cur, hv, hg, hh, hnc, hcm, hs, ht⟩
  · have : l = [] := List.eq_nil_of_length_eq_zero hn
    subst this
    rw [hv]
    exact Sl.none_
  · refine ⟨some ⟨g, 0, none⟩, cap, hv, hnc, hcm, fun h => (by cases h), fun _ => ⟨g, 0, rfl, (hlt g (by rw [hv]; rfl)).2, fun k u hu => ?_⟩⟩
    have := h.cells (g := g) (by rw [hv]; rfl) k u hu
    rw [add_plain] at this
    exact this

theorem Sl.empty (w : World) (f : α → Value) (A : Option Addr) : Sl w f (.slice A 0 0) ([] : List α) :=
  ⟨A, 0, rfl, Nat.zero_le _, Nat.zero_le _, fun _ => rfl, fun h => absurd h (Nat.lt_irrefl _)⟩

/-- A cut of a slice: from i on, n of them. -/
theorem Sl.cut {A : Option Addr} {c c' i n : Nat} (h : Sl w f (.slice A l.length c) l) (hn : 0 < n) (hin : i + n ≤ l.length) (hc1 : n ≤ c') (hc2 : c' ≤ maxLen) :
    Sl w f (.slice (Option.map (fun x => x.add i) A) n c') ((l.drop i).take n) := by
  obtain ⟨A', c0, h1, h2, h3, _, h4⟩ := h
  injection h1 with hA _ _
  subst hA
  have hlen : ((l.drop i).take n).length = n := by rw [List.length_take, List.length_drop]; omega
  obtain ⟨b, off, rfl, hlt, hc⟩ := h4 (by omega)
  refine ⟨some ⟨b, off + i, none⟩, c', by rw [hlen, Option.map_some, add_plain], by omega, hc2, fun h => (by cases h), fun _ => ⟨b, off + i, rfl, hlt, fun k u hu => ?_⟩⟩
  have hk : k < n := by
    rcases Nat.lt_or_ge k n with h5 | h5
    · exact h5
    · rw [List.getElem?_eq_none (by rw [List.length_map, hlen]; exact h5)] at hu; cases hu
  rw [Nat.add_assoc]
  refine hc (i + k) u ?_
  rw [← hu, List.getElem?_map, List.getElem?_map, List.getElem?_take, if_pos hk, List.getElem?_drop]
/-- The address of a cut from i to j. -/
def cutA (A : Option Addr) (i j : Nat) : Option Addr := if j = i then A else Option.map (fun x => x.add i) A
theorem cutA_eq (A : Option Addr) (i : Nat) : cutA A i i = A := if_pos rfl
theorem cutA_ne (A : Option Addr) {i j : Nat} (h : ¬ j = i) : cutA A i j = Option.map (fun x => x.add i) A := if_neg h
theorem Sl.part {A : Option Addr} {c i j : Nat} (h : Sl w f (.slice A l.length c) l) (hij : i ≤ j) (hj : j ≤ l.length) : Sl w f (.slice (cutA A i j) (j - i) (j - i)) ((l.drop i).take (j - i)) := by
  have hm := h.len_le
  by_cases e : j = i
  · subst e
    rw [cutA_eq, Nat.sub_self, List.take_zero]
    exact Sl.empty _ _ _
  · rw [cutA_ne A e]
    exact h.cut (by omega) (by omega) (Nat.le_refl _) (by omega)
theorem Sl.head {A : Option Addr} {c c' n : Nat} (h : Sl w f (.slice A l.length c) l) (hn : n ≤ l.length) (hc1 : n ≤ c') (hc2 : c' ≤ c) : Sl w f (.slice A n c') (l.take n) := by
  obtain ⟨A', c0, h1, h2, h3, h0, h4⟩ := h
  injection h1 with hA _ hcc
  subst hA hcc
  have hlen : (l.take n).length = n := by rw [List.length_take]; omega
  refine ⟨A, c', by rw [hlen], by omega, Nat.le_trans hc2 h3, fun h => by have := h0 h; omega, fun hp => ?_⟩
  obtain ⟨b, off, ha, hlt, hc⟩ := h4 (by omega)
  refine ⟨b, off, ha, hlt, fun k u hu => hc k u ?_⟩
  have hk : k < n := by
    rcases Nat.lt_or_ge k n with h5 | h5
    · exact h5
    · rw [List.getElem?_eq_none (by rw [List.length_map, hlen]; exact h5)] at hu; cases hu
  rw [← hu, List.getElem?_map, List.getElem?_map, List.getElem?_take, if_pos hk]

/-- A row of the call's own, full: its block; and back. -/
theorem own_block {base : Nat} {e : TypeId} {n g : Nat} {xs : List Value} (h : w.ownsRow base e 1 (.slice (some ⟨g, 0, none⟩) n n) n xs) : w.heap[g]? = some (.cells xs.toArray e (0, 0)) := by
  rcases h.2 with ⟨hv, _⟩ | ⟨g', cap, cur, hv, _, hh, _, _, hs, ht⟩
  · cases hv
  · injection hv with h1 h2 h3
    injection h1 with h1
    injection h1 with h1
    subst h1 h3
    rw [hh]
    have : cur = xs.toArray := by
      rw [← ht, List.take_of_length_le (by rw [Array.length_toList, hs]; exact Nat.le_refl _)]
    rw [this]
theorem own_of_block {base : Nat} {e : TypeId} {n g : Nat} {xs : List Value} (h : w.heap[g]? = some (.cells xs.toArray e (0, 0))) (hl : xs.length = n) (hm : n ≤ maxLen) (hb : base ≤ g) :
    w.ownsRow base e 1 (.slice (some ⟨g, 0, none⟩) n n) n xs :=
  ⟨by omega, .inr ⟨g, n, xs.toArray, rfl, hb, h, Nat.le_refl _, hm, by simp [hl], by rw [List.take_of_length_le (by simp [hl])]⟩⟩

theorem splice_all {β : Type} (L cs : List β) (h : cs.length = L.length) : splice L 0 cs = cs := by
  unfold splice
  rw [List.take_zero, List.drop_of_length_le (by omega)]
  simp

/-- A call hands back a slice that holds l, and turns nothing that was there. -/
def GivesSl (w : World) (f : α → Value) (l : List α) (e : Ending) (w' : World) : Prop := ∃ v, e = .returned v ∧ Sl w' f v l ∧ Below w.heap.size w w'

/-- The numbers fit int. -/
def Wf (l : List Int) : Prop := ∀ x ∈ l, (Lit.int .i64 x).wf = true
theorem Wf.at_ {l : List Int} (h : Wf l) {k : Nat} (hk : k < l.length) : (Lit.int .i64 l[k]).wf = true := h _ (List.getElem_mem hk)

end

/-! ### Slices of structs: s cells a thing -/
section
variable {α : Type} {f : α → List Value} {s : Nat} {w w' : World} {v : Value} {l : List α}

theorem flat_len (hf : ∀ a, (f a).length = s) (l : List α) : (l.flatMap f).length = l.length * s := by
  induction l with
  | nil => simp
  | cons a l ih => rw [List.flatMap_cons, List.length_append, ih, hf, List.length_cons, Nat.succ_mul]; omega
theorem flat_get (hf : ∀ a, (f a).length = s) : ∀ (l : List α) (k : Nat) (hk : k < l.length) (j : Nat), j < s → (l.flatMap f)[k * s + j]? = (f l[k])[j]?
  | [], k, hk, _, _ => absurd hk (Nat.not_lt_zero _)
  | a :: l, 0, _, j, hj => by
    rw [List.flatMap_cons, Nat.zero_mul, Nat.zero_add, List.getElem?_append_left (by rw [hf]; exact hj)]; rfl
  | a :: l, k + 1, hk, j, hj => by
    have hk' : k < l.length := by simpa using hk
    rw [List.flatMap_cons, List.getElem?_append_right (by rw [hf, Nat.succ_mul]; omega), hf, Nat.succ_mul, show k * s + s + j - s = k * s + j from by omega, flat_get hf l k hk' j hj]
    rfl

/-- The slice value v holds the things l, each in s cells (f says what they hold). -/
def Ss (s : Nat) (w : World) (f : α → List Value) (v : Value) (l : List α) : Prop :=
  (∀ a, (f a).length = s) ∧ ∃ A c, v = .slice A l.length c ∧ l.length ≤ c ∧ c ≤ maxLen ∧ (A = none → c = 0) ∧
    (0 < l.length → ∃ b off, A = some ⟨b, off, none⟩ ∧ b < w.heap.size ∧ ∀ k u, (l.flatMap f)[k]? = some u → w.cell? ⟨b, off + k, none⟩ = some u)

theorem Ss.below (h : Ss s w f v l) (hb : Below w.heap.size w w') : Ss s w' f v l := by
  obtain ⟨hf, A, c, h1, h2, h3, h0, h4⟩ := h
  refine ⟨hf, A, c, h1, h2, h3, h0, fun hp => ?_⟩
  obtain ⟨b, off, ha, hlt, hc⟩ := h4 hp
  exact ⟨b, off, ha, Nat.lt_of_lt_of_le hlt hb.size, fun k u hu => (hb.cell (p := ⟨b, off + k, none⟩) hlt).trans (hc k u hu)⟩
theorem Ss.len_le (h : Ss s w f v l) : l.length ≤ maxLen := by
  obtain ⟨_, A, c, _, h2, h3, _, _⟩ := h
  exact Nat.le_trans h2 h3
theorem Ss.none_ (hf : ∀ a, (f a).length = s) : Ss s w f (.slice none 0 0) ([] : List α) := ⟨hf, none, 0, rfl, Nat.le_refl _, Nat.zero_le _, fun _ => rfl, fun h => absurd h (Nat.lt_irrefl _)⟩
theorem Ss.at_ (h : Ss s w f v l) {k : Nat} (hk : k < l.length) : ∃ b off c, v = .slice (some ⟨b, off, none⟩) l.length c ∧ b < w.heap.size ∧ ∀ j, j < s → w.cell? ⟨b, off + k * s + j, none⟩ = (f l[k])[j]? := by
  obtain ⟨hf, A, c, h1, _, _, _, h4⟩ := h
  obtain ⟨b, off, ha, hlt, hc⟩ := h4 (by omega)
  refine ⟨b, off, c, by rw [h1, ha], hlt, fun j hj => ?_⟩
  have hg := flat_get hf l k hk j hj
  have he := List.getElem?_eq_getElem (l := f l[k]) (i := j) (by rw [hf]; exact hj)
  rw [he] at hg ⊢
  rw [Nat.add_assoc]
  exact hc _ _ hg
theorem Ss.of_own {base : Nat} {e : TypeId} (hf : ∀ a, (f a).length = s) (h : w.ownsRow base e s v l.length (l.flatMap f)) : Ss s w f v l := by
  have hlt := h.lt
  rcases h.2 with ⟨hv, hn⟩ | ⟨g, cap, cur, hv, hg, hh, hnc, hcm, hs, ht⟩
  · have : l = [] := List.eq_nil_of_length_eq_zero hn
    subst this
    rw [hv]
    exact Ss.none_ hf
  · refine ⟨hf, some ⟨g, 0, none⟩, cap, hv, hnc, hcm, fun h => (by cases h), fun _ => ⟨g, 0, rfl, (hlt g (by rw [hv]; rfl)).2, fun k u hu => ?_⟩⟩
    have := h.cells (g := g) (by rw [hv]; rfl) k u hu
    rw [add_plain] at this
    exact this
end

section
variable {H : Type} {enc : TypeId × Value → H} {P : Program} {w : World} {t e : TypeId} {v : Value} {d : DataW H} {p : List MemPlace} {r : Reach} {b0 : Nat}
theorem ss_of_trod {α : Type} (s : Nat) (hs0 : 0 < s) (f : α → List Value) (hf : ∀ a, (f a).length = s) (G : α → Prop) (ht : P.underlying t = some (.slice e)) (he : P.cellsOf e = s)
    (hd : ∀ (n : Nat) (cs : List Value) (y : DataW H × List MemPlace), cs.length = s → DataW.trod enc P w 0 (fun _ => true) true n e cs = some y → ∃ a, cs = f a ∧ G a)
    (hv : Value.okWide P w r b0 t v) (h : DataW.Trod enc P w 0 (fun _ => true) true t v d p) : ∃ l : List α, Ss s w f v l ∧ ∀ a ∈ l, G a := by
  obtain ⟨a0, len, cap, rfl⟩ := okWide_slice ht hv
  obtain ⟨fuel, hfu⟩ := h
  rcases open_slice ht hfu with ⟨hcs, _⟩ | ⟨a, len', cap', m, n, D, Pl, hcs, _, hl, hm, hmm, hx, hi⟩
  · simp [Value.cells] at hcs
    obtain ⟨rfl, rfl, rfl⟩ := hcs
    exact ⟨[], Ss.none_ hf, fun a ha => absurd ha (List.not_mem_nil)⟩
  · simp [Value.cells] at hcs
    obtain ⟨rfl, rfl, rfl⟩ := hcs
    simp only [if_true] at hmm
    subst hmm
    rw [he] at hi
    have hex : ∀ i, i < len → ∃ x : α, w.cells? 0 (a.add (i * s)) s = some (f x) ∧ G x := fun i hik => by
      obtain ⟨cs', hc, ht'⟩ := hi i (by omega)
      obtain ⟨_, hcl, _⟩ := World.cells?_some hc
      obtain ⟨x, hx, hg⟩ := hd n cs' _ hcl ht'
      exact ⟨x, by rw [hc, hx], hg⟩
    rcases Nat.eq_zero_or_pos len with h0 | h0
    · subst h0
      exact ⟨[], ⟨hf, _, _, rfl, Nat.zero_le _, hm, fun h => (by cases h), fun h => absurd h (Nat.lt_irrefl _)⟩, fun a ha => absurd ha (List.not_mem_nil)⟩
    · obtain ⟨x0, hx0, _⟩ := hex 0 h0
      have : Inhabited α := ⟨x0⟩
      obtain ⟨F, hF⟩ := choose_lt hex
      have cell : ∀ i, i < len → ∀ j, j < s → w.cell? (a.add (i * s + j)) = (f (F i))[j]? := fun i hik j hj => by
        obtain ⟨_, hcl, hat⟩ := World.cells?_some (hF i hik).1
        rw [← Go.Deep.add_add, hat j hj]
      obtain ⟨b, off, spot⟩ := a
      have hc0 := cell 0 h0 0 hs0
      rw [List.getElem?_eq_getElem (by rw [hf]; exact hs0)] at hc0
      have hspot : spot = none := by simpa [Addr.add] using World.cell?_spot hc0
      subst hspot
      have hb : b < w.heap.size := by
        have := World.block_lt_of_cell? w _ hc0
        simpa [Addr.add] using this
      refine ⟨(List.range len).map F, ⟨hf, some ⟨b, off, none⟩, m, by simp, by simpa using hl, hm, fun h => (by cases h), fun _ => ⟨b, off, rfl, hb, fun k u hu => ?_⟩⟩, ?_⟩
      · have hfl := flat_len hf ((List.range len).map F)
        rw [List.length_map, List.length_range] at hfl
        have hk : k < len * s := by
          rcases Nat.lt_or_ge k (len * s) with h1 | h1
          · exact h1
          · rw [List.getElem?_eq_none (by omega)] at hu; cases hu
        have hkd : k / s < len := (Nat.div_lt_iff_lt_mul hs0).2 hk
        have hkm : k % s < s := Nat.mod_lt _ hs0
        have hdm : k / s * s + k % s = k := by rw [Nat.mul_comm]; exact Nat.div_add_mod k s
        have hc := cell (k / s) hkd (k % s) hkm
        rw [hdm, add_plain] at hc
        rw [hc, ← hu]
        have := flat_get hf ((List.range len).map F) (k / s) (by simpa using hkd) (k % s) hkm
        rw [hdm] at this
        rw [this]
        simp
      · intro a ha
        obtain ⟨k, hk, rfl⟩ := List.mem_map.1 ha
        exact (hF k (List.mem_range.1 hk)).2
end

/-! ### append(out, l...) onto a row of the call's own -/
theorem wpList_append_sl {α : Type} {f : α → Value} {P : Program} {w : World} {ops : Array Oper} {rest : List Oper} {o : Oper} {a : Act} {Q : Exit → Act → World → Prop} (hgd : o.guard = none) (s x : Operand) (t : TypeId)
    (ho : o.op = .call { callee := .builtin .append, args := #[s, x], argTypes := #[t, t] })
    (base : Nat) (e : TypeId) (i : TypeInfo) (z : Value) (bytes : Nat) (ht : P.underlying t = some (.slice e)) (hi : P.info? e = some i) (hz : i.zero = some z)
    (hsize : i.size = 1) (hby : i.bytes = bytes) (hzs : z.cells.size = 1)
    (v : Value) (n : Nat) (xs : List Value) (hs : a.eval s = v) (hown : w.ownsRow base e 1 v n xs)
    (A : Option Addr) (c : Nat) (l : List α) (hx : a.eval x = .slice A l.length c) (hr : Sl w f (.slice A l.length c) l) (h1 : ∀ u ∈ l.map f, u.oneCell' = true)
    (h63 : n + l.length ≤ maxLen) (hbytes : (n + l.length) * bytes ≤ 140737488355328) (hbase : base ≤ w.heap.size)
    (h : ∀ v' w', w'.ownsRow base e 1 v' (n + l.length) (xs ++ l.map f) → w.grownBy w' v.ownBlock → wpList P ops Q rest (a.put o.dst v') w') : wpList P ops Q (o :: rest) a w := by
  obtain ⟨A', c', h2, h3, h4, h5, h6⟩ := hr
  injection h2 with hA _ hc
  subst hA hc
  cases A with
  | none =>
    have hc := h5 rfl
    subst hc
    have hl : l = [] := List.eq_nil_of_length_eq_zero (by omega)
    subst hl
    refine wpList_append_own_none hgd s x t ho base e i 1 ht hi v n xs hs hown (by simpa using hx) ?_
    exact h v w (by simpa using hown) (World.grownBy.refl w _)
  | some ad =>
    refine wpList_append_own (P := P) w hgd s x t ho base e i z 1 bytes ht hi hz hsize hby hzs (by decide) v n xs hs hown ad l.length c (l.map f) hx (by simp) (fun j u hu => ?_) h1 h63 hbytes hbase (fun v' w' q1 q2 _ => h v' w' q1 q2)
    rcases Nat.eq_zero_or_pos l.length with h0 | h0
    · have hl : l = [] := List.eq_nil_of_length_eq_zero h0
      subst hl
      simp at hu
    · obtain ⟨b, off, ha, _, hc⟩ := h6 h0
      injection ha with ha
      subst ha
      rw [add_plain]
      exact hc j u hu

/-! ### From the form's own reading of a slice argument -/
section
variable {H : Type} {enc : TypeId × Value → H} {P : Program} {w : World} {t e : TypeId} {v : Value} {d : DataW H} {p : List MemPlace} {r : Reach} {b0 : Nat}

theorem sl_of_trod {α : Type} (f : α → Value) (G : α → Prop) (ht : P.underlying t = some (.slice e)) (he : P.cellsOf e = 1)
    (hd : ∀ (n : Nat) (u : Value) (y : DataW H × List MemPlace), DataW.trod enc P w 0 (fun _ => true) true n e [u] = some y → ∃ a, u = f a ∧ G a)
    (hv : Value.okWide P w r b0 t v) (h : DataW.Trod enc P w 0 (fun _ => true) true t v d p) : ∃ l : List α, Sl w f v l ∧ ∀ a ∈ l, G a := by
  obtain ⟨a0, len, cap, rfl⟩ := okWide_slice ht hv
  have hlt : ∀ x ∈ p, x.block < w.heap.size := by obtain ⟨m, hm⟩ := h; exact DataW.trod_lt m _ _ _ hm
  obtain ⟨fuel, hf⟩ := h
  rcases open_slice1 ht he hf with ⟨hcs, _⟩ | ⟨a, len', cap', m, n, V, D, Pl, hcs, _, hl, hm, hmm, hx, hi⟩
  · simp [Value.cells] at hcs
    obtain ⟨rfl, rfl, rfl⟩ := hcs
    exact ⟨[], Sl.none_, fun a ha => absurd ha (List.not_mem_nil)⟩
  · simp [Value.cells] at hcs
    obtain ⟨rfl, rfl, rfl⟩ := hcs
    simp only [if_true] at hmm
    subst hmm
    have hex : ∀ i, i < len → ∃ x : α, V i = f x ∧ G x := fun i hik => hd n _ _ (hi i (by omega)).2
    rcases Nat.eq_zero_or_pos len with h0 | h0
    · subst h0
      exact ⟨[], ⟨_, _, rfl, Nat.zero_le _, hm, fun h => (by cases h), fun h => absurd h (Nat.lt_irrefl _)⟩, fun a ha => absurd ha (List.not_mem_nil)⟩
    · obtain ⟨x0, _, _⟩ := hex 0 h0
      have : Inhabited α := ⟨x0⟩
      obtain ⟨F, hF⟩ := choose_lt hex
      obtain ⟨b, off, spot⟩ := a
      have hspot : spot = none := by simpa [Addr.add] using World.cell?_spot (hi 0 (by omega)).1
      subst hspot
      have hb : b < w.heap.size := by
        have hx2 := (Prod.mk.inj hx).2
        have := hlt (.cell b off) (by rw [hx2]; exact List.mem_append_left _ (by
          cases m with
          | zero => omega
          | succ m => simp [MemPlace.row, List.range_succ_eq_map]))
        exact this
      refine ⟨(List.range len).map F, ⟨some ⟨b, off, none⟩, m, by simp, by simpa using hl, hm, fun h => (by cases h), fun _ => ⟨b, off, rfl, hb, fun k u hu => ?_⟩⟩, ?_⟩
      · have hk : k < len := by
          rcases Nat.lt_or_ge k len with h1 | h1
          · exact h1
          · rw [List.getElem?_eq_none (by simpa using h1)] at hu; cases hu
        have hc := (hi k (by omega)).1
        rw [add_plain] at hc
        rw [hc]
        simp [hk] at hu
        rw [← hu, (hF k hk).1]
      · intro a ha
        obtain ⟨k, hk, rfl⟩ := List.mem_map.1 ha
        exact (hF k (List.mem_range.1 hk)).2

theorem ints_of_trod (ht : P.underlying t = some (.slice e)) (he : P.cellsOf e = 1) (hu : P.underlying e = some (.int .i64)) (hv : Value.okWide P w r b0 t v) (h : DataW.Trod enc P w 0 (fun _ => true) true t v d p) :
    ∃ l : List Int, Sl w (Value.int .i64) v l ∧ Wf l :=
  sl_of_trod (Value.int .i64) (fun x => (Lit.int .i64 x).wf = true) ht he (fun n u y hy => by
    obtain ⟨x, hx, _, hw⟩ := DataW.trod_int hu hy
    exact ⟨x, by simpa using hx, hw⟩) hv h
theorem bools_of_trod (ht : P.underlying t = some (.slice e)) (he : P.cellsOf e = 1) (hu : P.underlying e = some .bool) (hv : Value.okWide P w r b0 t v) (h : DataW.Trod enc P w 0 (fun _ => true) true t v d p) :
    ∃ l : List Bool, Sl w Value.bool v l ∧ ∀ x ∈ l, True :=
  sl_of_trod Value.bool (fun _ => True) ht he (fun n u y hy => by
    obtain ⟨x, hx, _⟩ := DataW.trod_bool hu hy
    exact ⟨x, by simpa using hx, trivial⟩) hv h
theorem texts_of_trod (ht : P.underlying t = some (.slice e)) (he : P.cellsOf e = 1) (hu : P.underlying e = some .string) (hv : Value.okWide P w r b0 t v) (h : DataW.Trod enc P w 0 (fun _ => true) true t v d p) :
    ∃ l : List ByteArray, Sl w Value.string v l ∧ ∀ x ∈ l, x.size ≤ maxLen :=
  sl_of_trod Value.string (fun x => x.size ≤ maxLen) ht he (fun n u y hy => by
    obtain ⟨x, hx, _, hw⟩ := DataW.trod_string hu hy
    exact ⟨x, by simpa using hx, hw⟩) hv h
end
end Go.Proofs.Ytgleeglhdlnobaa.Bs
