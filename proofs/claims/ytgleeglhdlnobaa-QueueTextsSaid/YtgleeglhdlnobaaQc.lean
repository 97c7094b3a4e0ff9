/-
  The functions of packages queue and mortmainref02 over queues: what each returns, and that nothing that was there is turned.
  Conditions: the premises of each (a queue holds 1000 at most).
-/
import Derived.Test.YtgleeglhdlnobaaBs
import Derived.Deep.RegionHeld3
import Derived.Deep.RegionLaw
import Derived.Deep.RegionLawGrows
import Derived.Deep.QuietTactic
import Derived.BigQuiet
import Derived.Deep.AppendLies
namespace Go.Proofs.Ytgleeglhdlnobaa.Qc
open Go.RowKit Bs
set_option linter.unusedVariables false

/-- Block g is known whole. -/
def Bk (w : World) (g : Nat) (cs : Array Value) (t : TypeId) : Prop := w.heap[g]? = some (.cells cs t (0, 0))
section
variable {w w' : World} {g : Nat} {cs : Array Value} {t : TypeId}
theorem Bk.lt (h : Bk w g cs t) : g < w.heap.size := by
  rcases Nat.lt_or_ge g w.heap.size with h1 | h1
  · exact h1
  · unfold Bk at h; rw [Array.getElem?_eq_none h1] at h; cases h
theorem Bk.below (h : Bk w g cs t) (hb : Below w.heap.size w w') : Bk w' g cs t := (hb.block g h.lt).trans h
theorem Bk.cell (h : Bk w g cs t) (i : Nat) : w.cell? ⟨g, i, none⟩ = cs[i]? := cell_of_row w g i cs t (0, 0) h
theorem Bk.frozen (h : Bk w g cs t) (i : Nat) : w.frozen? ⟨g, i, none⟩ = false := by unfold Bk at h; simp [World.frozen?, h]
theorem Bk.new (w : World) (cs : Array Value) (t : TypeId) : Bk (w.alloc (.cells cs t)) w.heap.size cs t := heap_alloc_new w _
theorem Bk.alloc (h : Bk w g cs t) (o : Obj) : Bk (w.alloc o) g cs t := (Below.heap_alloc w o g h.lt).trans h
theorem Bk.drew (h : Bk w g cs t) : Bk w.drew g cs t := h
end

theorem join_bel {A W w4 : World} (hW : Below A.heap.size A W) (hb : Below W.heap.size W w4) : Below A.heap.size A w4 := hW.trans (hb.mono hW.size)
theorem news_keep {W w3 : World} {x : Value} {t : TypeId} (hb : Below (W.alloc (.cells #[x] t)).heap.size (W.alloc (.cells #[x] t)) w3) :
    ∀ j u, [x][j]? = some u → w3.cell? ((⟨W.heap.size, 0, none⟩ : Addr).add j) = some u := fun j u hu => by
  have hj : j = 0 := by
    rcases Nat.eq_zero_or_pos j with h | h
    · exact h
    · rw [List.getElem?_eq_none (by simp; omega)] at hu; cases hu
  subst hj
  have := cell_one_new W x t 0 u hu
  rw [← this]
  exact hb.cell (by simp [Addr.add])
theorem news_keep2 {W w3 : World} {x : Value} {t : TypeId} (hb : Below (W.alloc (.cells #[x] t)).drew.heap.size (W.alloc (.cells #[x] t)).drew w3) :
    ∀ j u, [x][j]? = some u → w3.cell? ((⟨W.heap.size, 0, none⟩ : Addr).add j) = some u :=
  news_keep (W := W) (t := t) ((Below.drew (Below.refl (W.alloc (.cells #[x] t)).heap.size _)).trans hb)
theorem own_up {w : World} {base base' : Nat} {e : TypeId} {s n : Nat} {v : Value} {xs : List Value} (h : w.ownsRow base' e s v n xs) (hb : base ≤ base') : w.ownsRow base e s v n xs := by
  obtain ⟨h1, h2⟩ := h
  refine ⟨h1, ?_⟩
  rcases h2 with h2 | ⟨g, cap, cur, hv, hg, r⟩
  · exact .inl h2
  · exact .inr ⟨g, cap, cur, hv, by omega, r⟩

/-- append(l, x) where there is no room, as a step of a drawn region. -/
theorem step_app1 {α : Type} {f : α → Value} {P : Program} {ops : Array Oper} {o : Oper} {a : Act} {w : World} {K : Act → World → Prop} {Q : Exit → Act → World → Prop} {E : Prop}
    (hg : o.guard = none) (s x : Operand) (t : TypeId) (hop : o.op = Op.call { callee := Callee.builtin Builtin.append, args := #[s, x], argTypes := #[t, t] })
    (e : TypeId) (i : TypeInfo) (z : Value) (bytes : Nat) (h1 : P.underlying t = some (.slice e)) (h2 : P.info? e = some i) (h3 : i.zero = some z) (h4 : i.size = 1) (h5 : i.bytes = bytes) (h6 : z.cells.size = 1)
    (ao : Option Addr) (cap : Nat) (l : List α) (hs : a.eval s = .slice ao l.length cap) (hr : Sl w f (.slice ao l.length cap) l)
    (ad : Addr) (u : Value) (hx : a.eval x = .slice (some ad) 1 1) (hc : ∀ j y, [u][j]? = some y → w.cell? (ad.add j) = some y) (h1c : u.oneCell' = true)
    (hfull : cap < l.length + 1) (b1 : l.length + 1 ≤ maxLen) (b2 : (l.length + 1) * bytes ≤ 140737488355328)
    (hK : ∀ v' w', w'.ownsRow w.heap.size e 1 v' (l.length + 1) (l.map f ++ [u]) → w.grownBy w' none → K (a.put o.dst v') w') :
    if Region.wanted o (yielded ops a.tmps) = true then Oper.wp P o a w K Q else E := by
  obtain ⟨A', c', q1, q2, q3, q4, q5⟩ := hr
  injection q1 with qa _ qc
  subst qa qc
  refine step_append_grows hg s x t hop e i z 1 bytes h1 h2 h3 h4 h5 h6 (by decide) ao l.length cap (l.map f) hs (fun h => by have := q4 h; omega) (by simp) (fun b hb j y hy => ?_) ad 1 1 [u] hx rfl hc (by intro y hy; simp at hy; subst hy; exact h1c) hfull b1 b2 hK
  rcases Nat.eq_zero_or_pos l.length with h0 | h0
  · have hl : l = [] := List.eq_nil_of_length_eq_zero h0
    subst hl
    simp at hy
  · obtain ⟨b', off, ha, _, hcc⟩ := q5 h0
    rw [hb] at ha
    injection ha with ha
    subst ha
    rw [Go.WideShapes.add_plain]
    exact hcc j y hy

/-- What a walk through a drawn region carries: nothing that was there when it began has turned. -/
def St (W0 W : World) : Prop := Below W0.heap.size W0 W
theorem St.bk {W0 W : World} (h : St W0 W) {g : Nat} {cs : Array Value} {t : TypeId} (k : Bk W0 g cs t) : Bk W g cs t := k.below h
theorem St.sl {α : Type} {f : α → Value} {W0 W : World} (h : St W0 W) {v : Value} {l : List α} (k : Sl W0 f v l) : Sl W f v l := k.below h
theorem St.on {W0 W W' : World} (h : St W0 W) (k : Below W.heap.size W W') : St W0 W' := Below.trans h (k.mono h.size)
theorem St.alloc {W0 W : World} (h : St W0 W) (o : Obj) : St W0 (W.alloc o) := Below.alloc h h.size o

namespace I
theorem info : (Try.prog.info? 3).map (fun i => (i.zero, i.size, i.bytes)) = some (some (.int .i64 0), 1, 8) := by kernel_rfl
theorem len_any (v : Value) (l : List Int) (c : Int) (w : World) (h : Sl w (Value.int .i64) v l) :
    Calls Try.prog 22 #[.agg #[v, .int .i64 c]] w fun e w' => e = .returned (.int .i64 l.length) ∧ Below w.heap.size w w' := by
  obtain ⟨A, cp, rfl, h1, h2, h0, h3⟩ := h
  clear h3 h0
  go_enter Try.func22, Try.ntmps22
  go_wp2
  go_ret
  exact ⟨rfl, (Below.refl _ _).alloc (Nat.le_refl _) _⟩

theorem part_any (A : Option Addr) (n c i j : Nat) (ii jj : Int) (w : World) (hi : ii = i) (hj : jj = j) (hij : i ≤ j) (hjn : j ≤ c) (hc : c ≤ maxLen) :
    Calls Try.prog 35 #[.slice A n c, .int .i64 ii, .int .i64 jj] w fun e w' => e = .returned (.slice (cutA A i j) (j - i) (j - i)) ∧ w = w' := by
  subst hi hj
  unfold maxLen at hc
  by_cases e : j = i
  · subst e
    rw [cutA_eq]
    go_enter Try.func35, Try.ntmps35
    go_wp2
    go_ret
    exact ⟨by simp, rfl⟩
  · rw [cutA_ne A e]
    go_enter Try.func35, Try.ntmps35
    go_wp2
    go_ret
    exact ⟨rfl, rfl⟩

theorem new_any (c : Int) (w : World) :
    Calls Try.prog 23 #[.int .i64 c] w fun e w' => e = .returned (.agg #[.slice none 0 0, .int .i64 c]) ∧ Below w.heap.size w w' := by
  go_enter Try.func23, Try.ntmps23
  go_wp2
  refine bodyPost_ret (v := .agg #[.slice none 0 0, .int .i64 c]) (by simp [results, Try.results23, go_sem]) rfl ⟨rfl, ?_⟩
  exact (Below.refl _ _).alloc (Nat.le_refl _) _

/-- A queue that holds l, its capacity c, and an error. -/
def GivesQE (w : World) (l : List Int) (c er : Int) (e : Ending) (w' : World) : Prop :=
  ∃ v, e = .returned (.tuple #[.agg #[v, .int .i64 c], .int .i64 er]) ∧ Sl w' (Value.int .i64) v l ∧ Below w.heap.size w w'
/-- A queue whose list is what is left of l0 behind the first k, and these: wherever l0 lies they do. -/
def GivesQL (w : World) (v0 : Value) (l0 : List Int) (k : Nat) (c : Int) (e : Ending) (w' : World) : Prop :=
  ∃ v u, e = .returned (.tuple #[.agg #[v, .int .i64 c], u]) ∧ (∀ W, Sl W (Value.int .i64) v0 l0 → Sl W (Value.int .i64) v (l0.drop k) ∧ Sl W (Value.int .i64) u (l0.take k)) ∧ Below w.heap.size w w'

theorem push_full (v : Value) (l : List Int) (c : Int) (x : Int) (w : World) (h : Sl w (Value.int .i64) v l) (hf : c ≤ l.length) :
    Calls Try.prog 13 #[.agg #[v, .int .i64 c], .int .i64 x] w (GivesQE w l c 4) := by
  have H := Lib.hid h
  obtain ⟨A, cp, rfl, q1, q2, q0, q3⟩ := id h
  clear q1 q2 q0 q3
  go_enter Try.func13, Try.ntmps13
  go_wp2_with fail
  have k1 := (Bk.new w #[.slice A l.length cp, .int .i64 c] 24).alloc (.cells #[.slice none 0 0, .int .i64 0] 24)
  have k2 := Bk.new (w.alloc (.cells #[.slice A l.length cp, .int .i64 c] 24)) #[.slice none 0 0, .int .i64 0] 24
  rw [World.size_alloc] at k2
  have b0 : Below w.heap.size w ((w.alloc (.cells #[.slice A l.length cp, .int .i64 c] 24)).alloc (.cells #[.slice none 0 0, .int .i64 0] 24)) := ((Below.refl _ _).alloc (Nat.le_refl _) _).alloc (by simp) _
  have hs := h.below b0
  generalize (w.alloc (.cells #[.slice A l.length cp, .int .i64 c] 24)).alloc (.cells #[.slice none 0 0, .int .i64 0] 24) = W0 at *
  have K1 := Lib.hid k1
  have K2 := Lib.hid k2
  have HS := Lib.hid hs
  have c1 := k1.cell 0
  have c2 := k1.cell 1
  simp at c1 c2
  have s0 : St W0 W0.drew := Below.drew (Below.refl _ _)
  clear k1 k2 h hs
  have s1 : St W0 W0.drew ∧ W0.drew.cell? ⟨w.heap.size, 0, none⟩ = some (.slice A l.length cp) ∧ W0.drew.cell? ⟨w.heap.size, 1, none⟩ = some (.int .i64 c) := ⟨s0, c1, c2⟩
  go_region_held3 (fun W => St W0 W ∧ W.cell? ⟨w.heap.size, 0, none⟩ = some (.slice A l.length cp) ∧ W.cell? ⟨w.heap.size, 1, none⟩ = some (.int .i64 c))
    (first | exact s1 | exact ⟨hst, (Bk.cell (hst.bk K1.out) 0).trans (by simp), (Bk.cell (hst.bk K1.out) 1).trans (by simp)⟩)
    (first | (go_at_call 22; refine (len_any _ l _ _ (St.sl (And.left ‹_›) HS.out)).mono ?_; rintro e w1 ⟨rfl, hb⟩; have hst : St W0 w1 := s0.on hb))
  have kk := hst.bk K2.out
  have KK := Lib.hid kk
  have d1 := kk.cell 0
  have d2 := kk.cell 1
  have d3 := kk.frozen 0
  have d4 := kk.frozen 1
  have e1 := (hst.bk K1.out).cell 0
  have e2 := (hst.bk K1.out).cell 1
  simp at d1 d2 e1 e2
  clear kk c1 c2 s1
  go_wp2
  refine bodyPost_ret (v := .tuple #[.agg #[.slice A l.length cp, .int .i64 c], .int .i64 4]) (by simp [results, Try.results13, go_sem, d1, d2]) rfl ⟨_, rfl, ?_, ?_⟩
  · exact H.out.below (((b0.trans (Below.mono hst b0.size)).setCell (by simp) _).setCell (by simp) _)
  · exact ((b0.trans (Below.mono hst b0.size)).setCell (by simp) _).setCell (by simp) _

set_option maxHeartbeats 4000000 in
theorem drain_any (v : Value) (l : List Int) (c : Int) (n : Int) (k : Nat) (w : World) (h : Sl w (Value.int .i64) v l) (hk : n ≤ 0 ∧ k = 0 ∨ 0 < n ∧ n < l.length ∧ n = k ∨ (l.length : Int) ≤ n ∧ 0 < n ∧ k = l.length) :
    Calls Try.prog 18 #[.agg #[v, .int .i64 c], .int .i64 n] w (GivesQL w v l k c) := by
  have H := Lib.hid h
  have hm := h.len_le
  obtain ⟨A, cp, rfl, q1, q2, q0, q3⟩ := id h
  clear q0 q3
  unfold maxLen at q2
  have hkl : k ≤ l.length := by omega
  have HK := Lib.hid hk
  unfold maxLen at hm
  go_enter Try.func18, Try.ntmps18
  go_wp2_with fail
  have k1 := (Bk.new w #[.slice A l.length cp, .int .i64 c] 24).alloc (.cells #[.slice none 0 0, .int .i64 0] 24)
  have k2 := Bk.new (w.alloc (.cells #[.slice A l.length cp, .int .i64 c] 24)) #[.slice none 0 0, .int .i64 0] 24
  rw [World.size_alloc] at k2
  have b0 : Below w.heap.size w ((w.alloc (.cells #[.slice A l.length cp, .int .i64 c] 24)).alloc (.cells #[.slice none 0 0, .int .i64 0] 24)) := ((Below.refl _ _).alloc (Nat.le_refl _) _).alloc (by simp) _
  have hs := h.below b0
  generalize (w.alloc (.cells #[.slice A l.length cp, .int .i64 c] 24)).alloc (.cells #[.slice none 0 0, .int .i64 0] 24) = W0 at *
  have K1 := Lib.hid k1
  have K2 := Lib.hid k2
  clear k1 k2
  refine (len_any _ l _ W0 hs).mono ?_
  rintro e w1 ⟨rfl, hb⟩
  have e1 := (K1.out.below hb).cell 0
  have e2 := (K1.out.below hb).cell 1
  simp at e1 e2
  have K11 := Lib.hid (K1.out.below hb)
  have K21 := Lib.hid (K2.out.below hb)
  have B1 := Lib.hid (b0.trans (hb.mono b0.size))
  have hsz := hb.size
  have hlt := K1.out.lt
  have hlt2 := K2.out.lt
  clear hb b0 hs h
  have hl0 : (0 : Int) ≤ (l.length : Int) := Int.natCast_nonneg _
  have hcut := Lib.hid (H.out.part (Nat.zero_le k) hkl)
  have hcut2 := Lib.hid (H.out.part hkl (Nat.le_refl _))
  obtain ⟨m, E1⟩ : ∃ m : Int, (if (l.length : Int) < n then (l.length : Int) else n) = m := ⟨_, rfl⟩
  have E2 : (if 0 < m then m else 0) = (k : Int) := by rw [← E1]; split <;> split <;> omega
  clear hk
  go_wp2_with fail
  clear E1 E2
  refine (part_any A l.length cp 0 k 0 _ w1 rfl rfl (Nat.zero_le _) (by omega) (by unfold maxLen; omega)).mono ?_
  rintro e w2 ⟨rfl, rfl⟩
  go_wp2_with fail
  have f1 := K11.out.frozen 0
  have s1 := (H.out.below B1.out).drew
  have S1 := Lib.hid s1
  clear s1
  go_region_with (first | (go_at_call 22; refine (len_any _ l _ _ S1.out).mono ?_; rintro e w3 ⟨rfl, hb3⟩; have g1 := (K11.out.drew.below hb3).cell 0; have g2 := (K11.out.drew.below hb3).cell 1; have g3 := (K11.out.drew.below hb3).frozen 0; have i1 := (K21.out.drew.below hb3).cell 0; have i2 := (K21.out.drew.below hb3).cell 1; have i3 := (K21.out.drew.below hb3).frozen 0; have i4 := (K21.out.drew.below hb3).frozen 1; simp at g1 g2 i1 i2) | (go_at_call 35; refine (part_any A l.length cp k l.length _ _ _ rfl rfl hkl (by omega) (by unfold maxLen; omega)).mono ?_; rintro e w4 ⟨rfl, rfl⟩))
  all_goals
    have BF := Lib.hid ((B1.out.trans ((Below.drew (Below.refl w1.heap.size w1)).trans hb3 |>.mono B1.out.size)))
    go_wp2
    refine bodyPost_ret (v := .tuple #[.agg #[.slice (cutA A k l.length) (l.length - k) (l.length - k), .int .i64 c], .slice (cutA A 0 k) k k]) (by simp [results, Try.results18, go_sem, i1, i2]) rfl ⟨_, _, rfl, ?_, ?_⟩
    · intro W hW
      have y1 := hW.part hkl (Nat.le_refl _)
      have y2 := hW.part (Nat.zero_le k) hkl
      rw [List.take_of_length_le (by rw [List.length_drop]; exact Nat.le_refl _)] at y1
      exact ⟨y1, by simpa using y2⟩
    · exact ((BF.out.setCell (p := ⟨w.heap.size, 0, none⟩) (Nat.le_refl _) _).setCell (p := ⟨w.heap.size + 1, 0, none⟩) (by simp) _).setCell (p := ⟨w.heap.size + 1, 1, none⟩) (by simp) _

end I

end Go.Proofs.Ytgleeglhdlnobaa.Qc
