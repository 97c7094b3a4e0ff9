/-
  vec.Names and vec.Count, which range over the iterator vec.named: what each returns for fields that are read, and that nothing that was there is turned.
  Conditions: a list of fields is no longer than 1000.
-/
import Derived.RangeFuncNested
import Derived.RangeFuncBound
import Derived.RangeFuncCalls
import Derived.RangeFuncLeaves
import Derived.Shelf.Abstract
import Derived.Shelf.RegionOpen
import Derived.OwnWalkIn
import Derived.TacticsInMore
import Derived.LoopNIn
import Derived.LoopIn
import Derived.Test.YtkfpomkabjdcaabVc
namespace Go.Proofs.Ytkfpomkabjdcaab.Vi
open Go.RowKit Go.Shelf Bs Vc
set_option linter.unusedVariables false
attribute [local go_sem] Oper.semAt_some

set_option maxRecDepth 100000 in
set_option maxHeartbeats 2000000 in
/-- The iterator's loop, for every loop body that keeps what lay below n₀. -/
theorem loop_in (F : Fence) (n : Nat) (hf : F.fn 16) (hro : F.round = none) (hn : 1 ≤ n) (lp Bx n₀ : Nat) (v : Value) (l : List Int) (hl : l.length ≤ 1000) (J Jx : List Int → World → Prop)
    (hY : ∀ pre x W, J pre W → pre.length < l.length → YieldAt F (n - 1) Try.prog lp #[.int .i64 x] W fun e W' =>
      (e = .returned (.bool true) ∧ J (pre ++ [x]) W' ∧ Below n₀ W W') ∨ (e = .returned (.bool false) ∧ Jx (pre ++ [x]) W'))
    (W : World) (hBx : W.cell? ⟨Bx, 0, none⟩ = some v) (hs : ∃ W0 : World, Sl W0 (Value.int .i64) v l ∧ W0.heap.size = n₀ ∧ Below n₀ W0 W) (h0 : J [] W) :
    CallsIn F n Try.prog 16 #[.func (.yield lp) #[] #[], .pointer (some ⟨Bx, 0, none⟩)] W fun e W' => (∃ u, e = .returned u) ∧
      ((∃ ys, ys = named l ∧ J ys W') ∨ (∃ pre, pre <+: named l ∧ Jx pre W')) := by
  obtain ⟨W0, hs, hz, hb0⟩ := hs
  obtain ⟨A, c, rfl, h1, h2, h0', h3⟩ := hs
  have H3 := Lib.hid h3
  have HZ := Lib.hid hz
  clear h1 h2 h3 hz h0'
  refine callsIn_of_wp Try.func16 rfl hf ?_ hro
  simp only [Try.ntmps16, List.size_toArray, List.length_cons, List.length_nil, Nat.reduceAdd, Nat.reduceSub, Array.replicate_succ, Array.replicate_zero, List.push_toArray, List.append_toArray, List.nil_append, List.cons_append]
  gi_wp2
  gi_loopw [7] (fun i wr => ∃ k : Nat, k ≤ l.length ∧ i = .int .i64 k ∧ J (named (l.take k)) wr ∧ Below n₀ W0 wr) (fun i _ => l.length - (intOf i).toNat)
  case atStart => exact ⟨0, Nat.zero_le _, rfl, h0, hb0⟩
  case round =>
    obtain ⟨k, hk, rfl, hJs, hnx⟩ := hrel
    by_cases hlt : k < l.length
    · obtain ⟨b, off, rfl, hb, hc⟩ := H3.out (by omega)
      have c1 := (hnx.cell (p := ⟨b, off + k, none⟩) (by rw [← HZ.out]; exact hb)).trans (hc k (.int .i64 l[k]) (by simp [hlt]))
      have ex : l[k]? = some l[k] := List.getElem?_eq_getElem hlt
      clear hc
      generalize l[k] = x at c1 ex
      have EX := Lib.hid (named_take ex)
      clear ex
      by_cases hx0 : x = 0
      · have p2 : (x != 0) = false := by simpa using hx0
        have E : Hid (named (l.take (k + 1)) = named (l.take k)) := Lib.hid (by rw [EX.out, if_pos hx0]; simp)
        clear hx0 EX
        gi_wp2
        refine ⟨fun _ h => (by cases h), ?_⟩
        gi_wp2
        go_roundw
        case rel => exact ⟨k + 1, by omega, by go_num, by rw [E.out]; exact hJs, hnx⟩
        case measure => simp [intOf]; omega
      · have p2 : (x != 0) = true := by simpa using hx0
        have E : Hid (named (l.take (k + 1)) = named (l.take k) ++ [x]) := Lib.hid (by rw [EX.out, if_neg hx0])
        clear hx0 EX
        obtain ⟨fn, tmps, assign, body, hy, hR⟩ := hY _ x wr hJs (by have := named_le l k; omega)
        gi_wp2
        refine hR.mono ?_
        rintro e W3 (⟨rfl, hJ3, hk3⟩ | ⟨rfl, hJx3⟩)
        · gi_wp2
          go_roundw
          case rel => exact ⟨k + 1, by omega, by go_num, by rw [E.out]; exact hJ3, hnx.trans hk3⟩
          case measure => simp [intOf]; omega
        · gi_wp2
          refine bodyPost_ret (results_none rfl _ _ _) rfl ?_
          refine ⟨⟨_, rfl⟩, .inr ⟨_, ?_, hJx3⟩⟩
          rw [← E.out]
          unfold named
          exact List.IsPrefix.filter _ (List.take_prefix _ _)
    · gi_wp2
      go_end0
      exact ⟨⟨_, rfl⟩, .inl ⟨_, by rw [List.take_of_length_le (by omega)], hJs⟩⟩

theorem named_in (F : Fence) (n : Nat) (hf : F.fn 15) (hro : F.round = none) (v : Value) (A : Option Addr) (len cap : Nat) (hv : v = .slice A len cap) (w : World) :
    CallsIn F n Try.prog 15 #[v] w fun e w' => e = .returned (.func (.func 16) #[] #[.pointer (some ⟨w.heap.size, 0, none⟩)]) ∧ w' = w.alloc (.cells #[v] 22) := by
  subst hv
  refine callsIn_of_wp Try.func15 rfl hf ?_ hro
  simp only [Try.ntmps15, List.size_toArray, List.length_cons, List.length_nil, Nat.reduceAdd, Nat.reduceSub, Array.replicate_succ, Array.replicate_zero, List.push_toArray, List.append_toArray, List.nil_append, List.cons_append]
  gi_wp2
  go_ret
  exact ⟨rfl, rfl⟩

theorem named_stops (F : Fence) (n : Nat) (hf : F.fn 16) (hro : F.round = none) (hn : 1 ≤ n) (Bx n₀ : Nat) (v : Value) (l : List Int) (hl : l.length ≤ 1000) (w w0 : World) (hBx : Bx < w.heap.size) (hn₀ : n₀ ≤ w.heap.size) (hz : w0.heap.size = n₀)
    (hc : w.cell? ⟨Bx, 0, none⟩ = some v) (hs : Sl w0 (Value.int .i64) v l) (hb : Below n₀ w0 w) :
    SeqStopsK F n Try.prog 16 #[.pointer (some ⟨Bx, 0, none⟩)] (fun x : Int => #[Value.int .i64 x]) (Below n₀) (fun ys => ys = named l) (fun pre => pre <+: named l) l.length w := fun lp J Jx W hW _ _ hY h0 =>
  loop_in F n hf hro hn lp Bx n₀ v l hl J Jx hY W ((hW.cell (p := ⟨Bx, 0, none⟩) hBx).trans hc) ⟨w0, hs, hz, hb.trans (hW.mono hn₀)⟩ h0

theorem count_snoc (pre : List Int) (x h : Int) (hx : x = h) : (pre ++ [x]).count h = pre.count h + 1 := by
  rw [List.count_append, hx]; simp
theorem count_skip (pre : List Int) (x h : Int) (hx : ¬ x = h) : (pre ++ [x]).count h = pre.count h := by
  rw [List.count_append]; simp [hx]
theorem count_named (l : List Int) (h : Int) : (named l).count h = cnt l h := by
  unfold cnt named
  split
  · rename_i h0
    rw [h0]
    exact List.count_eq_zero.2 (fun q => by simp at q)
  · rename_i h0
    rw [List.count_filter (by simpa using h0)]

set_option maxRecDepth 100000 in
set_option maxHeartbeats 2000000 in
theorem count_in (F : Fence) (n : Nat) (hf : F.fn 11) (hg : F.fn 15) (hh : F.fn 16) (hro : F.round = none) (hn : 3 ≤ n) (v : Value) (l : List Int) (hl : l.length ≤ 1000) (h : Int) (w : World) (hs : Sl w (Value.int .i64) v l) :
    CallsIn F n Try.prog 11 #[v, .int .i64 h] w fun e W' => e = .returned (.int .i64 (cnt l h)) ∧ Below w.heap.size w W' := by
  have h1 : 1 ≤ n := by omega
  have hs' := hs
  obtain ⟨A, c, hv, g1, g2, g0', g3⟩ := hs'
  clear g1 g2 g3 g0'
  generalize hlen : l.length = len at hv
  clear hlen
  subst hv
  have HS := Lib.hid hs
  clear hs
  refine callsIn_of_wp_marks Try.func11 rfl hf ?_ hro
  simp only [Try.ntmps11, List.size_toArray, List.length_cons, List.length_nil, Nat.reduceAdd, Nat.reduceSub, Array.replicate_succ, Array.replicate_zero, List.push_toArray, List.append_toArray, List.nil_append, List.cons_append]
  gi_wp2_with (gi_at_call 15; refine (named_in F (n - 1) hg hro _ _ _ _ rfl _).mono ?_; rintro e w' ⟨rfl, rfl⟩)
  have bH := Boxed.new w 3 (.int .i64 h)
  have bC := Boxed.new (w.alloc (.cells #[.int .i64 h] 3)) 3 (.int .i64 0)
  have bN := Boxed.new ((w.alloc (.cells #[.int .i64 h] 3)).alloc (.cells #[.int .i64 0] 3)) 22 (.slice A len c)
  rw [World.size_alloc] at bC
  rw [World.size_alloc, World.size_alloc] at bN
  have hB0 : Below w.heap.size w (((w.alloc (.cells #[.int .i64 h] 3)).alloc (.cells #[.int .i64 0] 3)).alloc (.cells #[.slice A len c] 22)) := (((Below.refl _ w).alloc (Nat.le_refl _) _).alloc (by simp) _).alloc (by simp; omega) _
  refine wpIn_rangeFunc_ownG hro h1 (gf := 16) (lb := #[.pointer (some ⟨w.heap.size + 1 + 1, 0, none⟩)]) rfl hh (enters_of Try.func16 (by kernel_rfl) rfl)
    (named_stops F (n - 1) hh hro (by omega) (w.heap.size + 1 + 1) w.heap.size (.slice A len c) l hl _ w (by simp) (by simp; omega) rfl bN.cell HS.out hB0) belowK_t (belowK_b (by simp; omega)) (Below.refl _ _) (fun _ => rfl)
    (fun pre W => ((W.cell? ⟨w.heap.size + 1, 0, none⟩ = some (.int .i64 (pre.count h)) ∧ W.frozen? ⟨w.heap.size + 1, 0, none⟩ = false) ∧ W.cell? ⟨w.heap.size, 0, none⟩ = some (.int .i64 h)) ∧ Below w.heap.size w W)
    (fun _ _ _ => False)
    (OwnFrom.and (Own.from (fun s A B row hs hg hr => ⟨⟨cell_kept hs.1.1 hg hr, (frozen_kept hs.1.1 hg hr).trans hs.1.2⟩, cell_kept hs.2 hg hr⟩) _) (ownFrom_below (Nat.le_refl _) (by simp; omega)))
    (fun _ _ _ _ _ hs _ _ => hs)
    ⟨⟨⟨by simpa using (bC.alloc _).cell, (bC.alloc _).frozen⟩, ((bH.alloc _).alloc _).cell⟩, hB0⟩
    (fun x => { tmps := #[.slice A len c, .int .i64 h, undef, .pointer (some ⟨w.heap.size, 0, none⟩), .int .i64 0, .pointer (some ⟨w.heap.size + 1, 0, none⟩), .int .i64 x, .slice A len c, .func (.func 16) #[] #[.pointer (some ⟨w.heap.size + 1 + 1, 0, none⟩)], .int .i64 x, undef, undef, undef, undef, undef, undef], defers := [] }) ?assign ?body ?done ?stop
  case assign =>
    intro lp x W K hK
    gi_wp2
    exact hK
  case body =>
    rintro lp pre x W ⟨⟨⟨hc, hfz⟩, hch⟩, hB⟩ hlt
    have hcl : pre.count h ≤ pre.length := List.count_le_length
    by_cases hx : x = h
    · have p1 : (x == h) = true := by simpa using hx
      have E := Lib.hid (count_snoc pre x h hx)
      clear hx
      generalize pre.count h = m at *
      gi_wp2
      exact ⟨(KeepsOthers.setCell _ _ _).from _, (Below.refl _ _).setCell (p := ⟨w.heap.size + 1, 0, none⟩) (by simp) _, ⟨⟨by rw [E.out]; exact World.cell?_setCell_same' _ _ _ (by rw [hc]; rfl), by rw [World.frozen?_setCell]; exact hfz⟩, by rw [World.cell?_setCell_other _ _ _ _ (by simp)]; exact hch⟩, hB.setCell (p := ⟨w.heap.size + 1, 0, none⟩) (by simp) _⟩
    · have p1 : (x == h) = false := by simpa using hx
      have E := Lib.hid (count_skip pre x h hx)
      clear hx
      gi_wp2
      exact ⟨KeepsFrom.refl _ _, Below.refl _ _, ⟨⟨by rw [E.out]; exact hc, hfz⟩, hch⟩, hB⟩
  case done =>
    rintro D ys W hD rfl ⟨⟨⟨hc, hfz⟩, hch⟩, hB⟩ hK
    gi_wp2
    refine ⟨by simp, .inl ⟨_, _, rfl, run_takeDeferred hK, ?_⟩⟩
    exact ⟨_, results_tmp rfl _ _ _, by rw [count_named]; rfl, hB.trans (belowK_b (w := w) (Nat.le_refl _) W D _ _ (by simp at hD; omega) hK rfl rfl)⟩
  case stop =>
    rintro D c pre W _ _ h _
    exact h.elim

theorem count_any (v : Value) (l : List Int) (hl : l.length ≤ 1000) (h : Int) (w : World) (hs : Sl w (Value.int .i64) v l) :
    Calls Try.prog 11 #[v, .int .i64 h] w fun e W' => e = .returned (.int .i64 (cnt l h)) ∧ Below w.heap.size w W' :=
  callsIn_wide.1 (count_in Fence.wide 3 trivial trivial trivial rfl (by omega) v l hl h w hs)

set_option maxRecDepth 100000 in
set_option maxHeartbeats 2000000 in
theorem names_in (F : Fence) (n : Nat) (hf : F.fn 12) (hg : F.fn 15) (hh : F.fn 16) (hro : F.round = none) (hn : 3 ≤ n) (v : Value) (l : List Int) (hl : l.length ≤ 1000) (w : World) (hs : Sl w (Value.int .i64) v l) :
    CallsIn F n Try.prog 12 #[v] w (GivesSl w (Value.int .i64) (named l)) := by
  have h1 : 1 ≤ n := by omega
  obtain ⟨i0, hi, hz0, hz1, hz2⟩ := info_parts info_int
  have hs' := hs
  obtain ⟨A, c, hv, g1, g2, g0', g3⟩ := hs'
  clear g1 g2 g3 g0'
  generalize hlen : l.length = len at hv
  clear hlen
  subst hv
  have HS := Lib.hid hs
  clear hs
  refine callsIn_of_wp_marks Try.func12 rfl hf ?_ hro
  simp only [Try.ntmps12, List.size_toArray, List.length_cons, List.length_nil, Nat.reduceAdd, Nat.reduceSub, Array.replicate_succ, Array.replicate_zero, List.push_toArray, List.append_toArray, List.nil_append, List.cons_append]
  gi_wp2_with (gi_at_call 15; refine (named_in F (n - 1) hg hro _ _ _ _ rfl _).mono ?_; rintro e w' ⟨rfl, rfl⟩)
  have bO := Boxed.new w 22 (.slice none 0 0)
  have bN := Boxed.new (w.alloc (.cells #[.slice none 0 0] 22)) 22 (.slice A len c)
  rw [World.size_alloc] at bN
  have hB0 : Below w.heap.size w ((w.alloc (.cells #[.slice none 0 0] 22)).alloc (.cells #[.slice A len c] 22)) := ((Below.refl _ w).alloc (Nat.le_refl _) _).alloc (by simp) _
  refine wpIn_rangeFunc_ownG hro h1 (gf := 16) (lb := #[.pointer (some ⟨w.heap.size + 1, 0, none⟩)]) rfl hh (enters_of Try.func16 (by kernel_rfl) rfl)
    (named_stops F (n - 1) hh hro (by omega) (w.heap.size + 1) w.heap.size (.slice A len c) l hl _ w (by simp) (by simp; omega) rfl bN.cell HS.out hB0) belowK_t (belowK_b (by simp; omega)) (Below.refl _ _) (fun _ => rfl)
    (fun pre W => (∃ v, Boxed W w.heap.size 22 v ∧ W.ownsRow w.heap.size 3 1 v pre.length (pre.map (Value.int .i64)) ∧ True) ∧ Below w.heap.size w W)
    (fun _ _ _ => False)
    (OwnFrom.and (Own.from (holdsRow_own w.heap.size w.heap.size 22 3 1 (fun pre : List Int => pre.length) (fun pre : List Int => pre.map (Value.int .i64)) (fun (pre : List Int) v => True)) _) (ownFrom_below (Nat.le_refl _) (by simp; omega)))
    (fun _ _ _ _ _ hs _ _ => hs)
    ⟨⟨_, bO.alloc _, World.ownsRow_nil _ _ _ _, trivial⟩, hB0⟩
    (fun x => { tmps := #[.slice A len c, undef, .slice none 0 0, .pointer (some ⟨w.heap.size, 0, none⟩), .int .i64 x, .slice A len c, .func (.func 16) #[] #[.pointer (some ⟨w.heap.size + 1, 0, none⟩)], .int .i64 x, undef, undef, undef, undef, undef], defers := [] }) ?assign ?body ?done ?stop
  case assign =>
    intro lp x W K hK
    gi_wp2
    exact hK
  case body =>
    rintro lp pre x W ⟨⟨v, hv, hrow, _⟩, hB⟩ hlt
    have hc := hv.cell
    gi_wp2_with (gi_at_builtin; refine wpListIn_append_own _ rfl _ _ 22 rfl w.heap.size 3 i0 (.int .i64 0) 1 8 Try.underlying22 hi hz0 hz1 hz2 rfl (by decide) _ _ _ rfl (hrow.alloc _) ⟨W.heap.size, 0, none⟩ 1 1 [.int .i64 x] rfl rfl (cell_one_new _ _ _) (by simp [Value.oneCell']) (by unfold maxLen; omega) (by omega) (by have := hB.size; simp; omega) ?_; intro v' w1 hown' hgrow _; obtain ⟨g', cap', rfl⟩ := ownsRow_succ hown'; obtain ⟨hv1, hv2, hr2, hk2, hb2⟩ := hv.appended (by decide) hrow hB.size (Nat.le_refl _) hown' hgrow; have hc1 := hv1.cell; have hf1 := hv1.frozen)
    exact ⟨hk2.from _, hb2, ⟨_, hv2, by simpa using hr2, trivial⟩, hB.trans hb2⟩
  case done =>
    rintro D ys W hD rfl ⟨⟨v, hv, hrow, _⟩, hB⟩ hK
    have hc := hv.cell
    gi_wp2
    refine ⟨by simp, .inl ⟨_, _, rfl, run_takeDeferred hK, ?_⟩⟩
    exact ⟨_, results_tmp rfl _ _ _, v, rfl, Sl.of_own (ownsRow_putObj hrow _ hK rfl), hB.trans (belowK_b (w := w) (Nat.le_refl _) W D _ _ (by simp at hD; omega) hK rfl rfl)⟩
  case stop =>
    rintro D c pre W _ _ h _
    exact h.elim

theorem names_any (v : Value) (l : List Int) (hl : l.length ≤ 1000) (w : World) (hs : Sl w (Value.int .i64) v l) :
    Calls Try.prog 12 #[v] w (GivesSl w (Value.int .i64) (named l)) :=
  callsIn_wide.1 (names_in Fence.wide 3 trivial trivial trivial rfl (by omega) v l hl w hs)
end Go.Proofs.Ytkfpomkabjdcaab.Vi
