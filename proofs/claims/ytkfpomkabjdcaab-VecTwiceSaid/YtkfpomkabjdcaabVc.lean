/-
  The functions of packages vec and mortmainref05, and mortmainref02.Ints: what each returns for fields that are read, and that nothing that was there is turned.
  Conditions: the premises of each (a list of fields is no longer than 1000).
-/
import Derived.Test.YtkfpomkabjdcaabBs
import Derived.Deep.RegionHeld3
import Derived.Deep.QuietTactic
import Derived.BigQuiet
import Derived.Deep.AppendLies
namespace Go.Proofs.Ytkfpomkabjdcaab.Vc
open Go.RowKit Bs
set_option linter.unusedVariables false

theorem info_int : (Try.prog.info? 3).map (fun i => (i.zero, i.size, i.bytes)) = some (some (.int .i64 0), 1, 8) := by kernel_rfl

/-- A slice of numbers, and an error. -/
def GivesSE (w : World) (l : List Int) (er : Int) (e : Ending) (w' : World) : Prop :=
  ∃ v, e = .returned (.tuple #[v, .int .i64 er]) ∧ Sl w' (Value.int .i64) v l ∧ Below w.heap.size w w'

theorem made_int (n : Nat) : (madeCells (Value.int .i64 0).cells (n * 1)).toList = (List.replicate n (0 : Int)).map (Value.int .i64) := by
  rw [Nat.mul_one, show (Value.int .i64 0).cells = #[Value.int .i64 0] from rfl, toList_madeCells_one, List.map_replicate]

theorem new_no (n : Int) (w : World) (h : n < 0 ∨ 4 < n) : Calls Try.prog 13 #[.int .i64 n] w (GivesSE w [] 1) := by
  rcases h with h | h
  · go_enter Try.func13, Try.ntmps13
    go_wp2
    go_ret2
    exact ⟨_, rfl, Sl.none_, Below.refl _ _⟩
  · have h' : ¬ n < 0 := by omega
    go_enter Try.func13, Try.ntmps13
    go_wp2
    go_ret2
    exact ⟨_, rfl, Sl.none_, Below.refl _ _⟩
theorem new_yes (n : Nat) (w : World) (h : n ≤ 4) : Calls Try.prog 13 #[.int .i64 n] w (GivesSE w (List.replicate n 0) 0) := by
  obtain ⟨i0, hi, hz0, hz1, hz2⟩ := info_parts info_int
  have k1 : ¬ (n : Int) < 0 := by omega
  have k2 : ¬ (4 : Int) < (n : Int) := by omega
  go_enter Try.func13, Try.ntmps13
  go_wp2_with (at_make; refine wpList_make_full _ rfl _ _ _ rfl w.heap.size 3 i0 _ 1 Try.underlying22 hi hz0 hz1 .i64 .i64 _ _ n rfl rfl rfl rfl (by rw [hz2]; omega) (by unfold maxLen; omega) (Nat.le_refl _) ?_; intro w1 hown hgrow)
  go_ret2
  rw [made_int] at hown
  exact ⟨_, rfl, Sl.of_own (base := w.heap.size) (e := 3) (by simpa using hown), (Below.refl _ _).grown hgrow (Nat.le_refl _) (by simp)⟩

/-- Is there a field k? -/
def inB (l : List Int) (k : Int) : Bool := decide (0 ≤ k ∧ k < l.length)
theorem in_yes {l : List Int} {k : Int} (h : inB l k = true) : 0 ≤ k ∧ k < l.length := of_decide_eq_true h
theorem in_no {l : List Int} {k : Int} (h : inB l k = false) : k < 0 ∨ ¬ k < 0 ∧ (l.length : Int) ≤ k := by
  have := of_decide_eq_false h; omega

theorem has_any (A : Option Addr) (c : Nat) (l : List Int) (k : Int) (w : World) :
    Calls Try.prog 14 #[.slice A l.length c, .int .i64 k] w fun e w' => e = .returned (.bool (inB l k)) ∧ w = w' := by
  cases h : inB l k
  · rcases in_no h with h | ⟨h0, h⟩
    · go_enter Try.func14, Try.ntmps14
      go_wp2
      go_ret
      exact ⟨rfl, rfl⟩
    · have d : decide (k < (l.length : Int)) = false := by rw [decide_eq_false_iff_not]; omega
      go_enter Try.func14, Try.ntmps14
      go_wp2
      go_ret
      exact ⟨rfl, rfl⟩
  · obtain ⟨h0, h1⟩ := in_yes h
    have d : decide (k < (l.length : Int)) = true := by rw [decide_eq_true_eq]; omega
    go_enter Try.func14, Try.ntmps14
    go_wp2
    go_ret
    exact ⟨rfl, rfl⟩

/-- What the field k holds (0, if there is none), and the error. -/
def atV (l : List Int) (k : Int) : Int := if inB l k = true then l.getD k.toNat 0 else 0
def atE (l : List Int) (k : Int) : Int := if inB l k = true then 0 else 5

theorem at_any (v : Value) (l : List Int) (k : Int) (w : World) (h : Sl w (Value.int .i64) v l) :
    Calls Try.prog 9 #[v, .int .i64 k] w fun e w' => e = .returned (.tuple #[.int .i64 (atV l k), .int .i64 (atE l k)]) ∧ w = w' := by
  have hm := h.len_le
  unfold maxLen at hm
  cases hk : inB l k
  · have e1 : atV l k = 0 := by unfold atV; rw [if_neg (by simp [hk])]
    have e2 : atE l k = 5 := by unfold atE; rw [if_neg (by simp [hk])]
    rw [e1, e2]
    clear e1 e2
    obtain ⟨A, c, rfl, h1, h2, h0', h3⟩ := h
    clear h1 h2 h3 h0'
    go_enter Try.func9, Try.ntmps9
    go_wp2_with (go_at_call 14; refine (has_any _ _ l _ _).mono ?_; rintro e w' ⟨rfl, rfl⟩)
    go_ret2
    exact ⟨rfl, rfl⟩
  · have e1 : atV l k = l.getD k.toNat 0 := by unfold atV; rw [if_pos hk]
    have e2 : atE l k = 0 := by unfold atE; rw [if_pos hk]
    rw [e1, e2]
    clear e1 e2
    obtain ⟨k0, k1⟩ := in_yes hk
    obtain ⟨n, rfl⟩ := Int.eq_ofNat_of_zero_le k0
    have hn : n < l.length := by omega
    obtain ⟨b, off, c, rfl, hb, hc⟩ := h.at_ hn
    rw [Int.toNat_natCast, List.getD_eq_getElem?_getD, List.getElem?_eq_getElem hn, Option.getD_some]
    generalize l[n] = x at hc
    clear k0
    go_enter Try.func9, Try.ntmps9
    go_wp2_with (go_at_call 14; refine (has_any _ _ l _ _).mono ?_; rintro e w' ⟨rfl, rfl⟩)
    go_ret2
    exact ⟨rfl, rfl⟩

/-- The same numbers? -/
theorem ints_any (v u : Value) (l m : List Int) (w : World) (h : Sl w (Value.int .i64) v l) (g : Sl w (Value.int .i64) u m) :
    Calls Try.prog 10 #[v, u] w fun e w' => e = .returned (.bool (decide (l = m))) ∧ ∃ n, w' = w.drewN n := by
  have hm := h.len_le
  have gm := g.len_le
  unfold maxLen at hm gm
  obtain ⟨A, c, rfl, h1, h2, h0', h3⟩ := h
  obtain ⟨A', c', rfl, g1, g2, g0', g3⟩ := g
  have H3 := Lib.hid h3
  have G3 := Lib.hid g3
  clear h1 h2 h3 h0' g1 g2 g3 g0'
  by_cases hl : l.length = m.length
  · have hln : ((l.length : Int) != (m.length : Int)) = false := by rw [hl]; simp
    have HL := Lib.hid hl
    have hle : l.length ≤ m.length := by omega
    clear hl
    go_enter Try.func10, Try.ntmps10
    go_wp2_with fail
    go_loopw [5] (fun i wr => ∃ k n : Nat, k ≤ l.length ∧ i = .int .i64 k ∧ wr = w.drewN n ∧ Hid (∀ j, j < k → l[j]? = m[j]?)) (fun i _ => l.length - (intOf i).toNat)
    case atStart => exact ⟨0, 0, by omega, rfl, rfl, Lib.hid (fun j hj => absurd hj (by omega))⟩
    case round =>
      obtain ⟨k, n, hk, rfl, rfl, hsame⟩ := hrel
      by_cases hlt : k < l.length
      · have hlt2 : k < m.length := by omega
        obtain ⟨b, off, rfl, hb, hc⟩ := H3.out (by omega)
        obtain ⟨b', off', rfl, hb', hc'⟩ := G3.out (by omega)
        have c1 := hc k (.int .i64 l[k]) (by simp [hlt])
        have c2 := hc' k (.int .i64 m[k]) (by simp [hlt2])
        have ex : l[k]? = some l[k] := List.getElem?_eq_getElem hlt
        have ey : m[k]? = some m[k] := List.getElem?_eq_getElem hlt2
        clear hc hc'
        generalize l[k] = x at c1 ex
        generalize m[k] = y at c2 ey
        have EX := Lib.hid ex
        have EY := Lib.hid ey
        clear ex ey
        by_cases hxy : x = y
        · have hxy1 : (x != y) = false := by rw [hxy]; simp
          have HXY := Lib.hid hxy
          clear hxy
          go_wp2_with fail
          go_quiet (fail)
          go_wp2
          go_roundw
          case rel => exact ⟨k + 1, _, by omega, by go_num, rfl, Lib.hid (fun j hj => by
            rcases Nat.lt_or_ge j k with h | h
            · exact hsame.out j h
            · obtain rfl : j = k := by omega
              rw [EX.out, EY.out, HXY.out])⟩
          case measure => simp [intOf]; omega
        · have hxy1 : (x != y) = true := by simpa using hxy
          have e : decide (l = m) = false := by
            rw [decide_eq_false_iff_not]; rintro rfl
            have := EX.out.symm.trans EY.out
            exact hxy (by simpa using this)
          have E := Lib.hid e
          clear hxy e
          go_wp2_with fail
          go_quiet (fail)
          go_wp2
          go_ret
          exact ⟨by rw [E.out]; rfl, _, World.drewN_drewN _ _ _⟩
      · have e : decide (l = m) = true := by
          rw [decide_eq_true_eq]
          refine List.ext_getElem? fun j => ?_
          rcases Nat.lt_or_ge j k with h | h
          · exact hsame.out j h
          · rw [List.getElem?_eq_none (by omega), List.getElem?_eq_none (by have := HL.out; omega)]
        have E := Lib.hid e
        clear e
        go_wp2
        go_ret
        exact ⟨by rw [E.out]; rfl, _, rfl⟩
  · have hln : ((l.length : Int) != (m.length : Int)) = true := by rw [bne_iff_ne]; omega
    have e : decide (l = m) = false := by rw [decide_eq_false_iff_not]; rintro rfl; exact hl rfl
    rw [e]
    clear e hl
    go_enter Try.func10, Try.ntmps10
    go_wp2
    go_ret
    exact ⟨rfl, 0, rfl⟩

/-- The fields l, with h in the field k, if there is one. -/
def withV (l : List Int) (k h : Int) : List Int := if inB l k = true then l.set k.toNat h else l

theorem with_no (v : Value) (l : List Int) (k h : Int) (w : World) (hs : Sl w (Value.int .i64) v l) (hk : inB l k = false) :
    Calls Try.prog 8 #[v, .int .i64 k, .int .i64 h] w (GivesSE w (withV l k h) (atE l k)) := by
  have e1 : withV l k h = l := by unfold withV; rw [if_neg (by simp [hk])]
  have e2 : atE l k = 5 := by unfold atE; rw [if_neg (by simp [hk])]
  rw [e1, e2]
  have H := Lib.hid hs
  obtain ⟨A, c, rfl, h1, h2, h0', h3⟩ := hs
  clear h1 h2 h3 h0' e1 e2
  go_enter Try.func8, Try.ntmps8
  go_wp2_with (go_at_call 14; refine (has_any _ _ l _ _).mono ?_; rintro e w' ⟨rfl, rfl⟩)
  go_ret2
  exact ⟨_, rfl, H.out, Below.refl _ _⟩

/-- The end of With: the row is the call's own; one number is stored. -/
theorem with_end {w w1 : World} {l : List Int} {g n cap : Nat} {h : Int} (hb : Below w.heap.size w w1) (hg : w.heap.size ≤ g) (hw : w1.ownsRow w.heap.size 3 1 (.slice (some ⟨g, 0, none⟩) l.length cap) l.length (l.map (Value.int .i64))) (hn : n < l.length) :
    GivesSE w (l.set n h) 0 (.returned (.tuple #[.slice (some ⟨g, 0, none⟩) l.length cap, .int .i64 0])) (w1.setCell ⟨g, n, none⟩ (.int .i64 h)) := by
  have hs := (hw.stored n (.int .i64 h)).1
  refine ⟨_, rfl, ?_, hb.setCell (p := ⟨g, n, none⟩) hg _⟩
  have e : (l.map (Value.int .i64)).set n (.int .i64 h) = (l.set n h).map (Value.int .i64) := by rw [List.map_set]
  rw [e] at hs
  have := Sl.of_own (f := Value.int .i64) (l := l.set n h) (base := w.heap.size) (e := 3) (by simpa using hs)
  simpa using this

theorem with_yes (v : Value) (l : List Int) (n : Nat) (h : Int) (w : World) (hs : Sl w (Value.int .i64) v l) (hn : n < l.length) (hl : l.length ≤ 1000) :
    Calls Try.prog 8 #[v, .int .i64 n, .int .i64 h] w (GivesSE w (l.set n h) 0) := by
  obtain ⟨i0, hi, hz0, hz1, hz2⟩ := info_parts info_int
  have hk : inB l n = true := decide_eq_true (by omega)
  have hsz1 : (Try.prog.info? 3).map (·.size) = some 1 := by kernel_rfl
  obtain ⟨A, c, rfl, h1, h2, h0', h3⟩ := hs
  obtain ⟨b, off, rfl, hb, hc⟩ := h3 (by omega)
  have HC := Lib.hid hc
  clear hc h3 h1 h2 h0'
  go_enter Try.func8, Try.ntmps8
  go_wp2_with (first
    | (go_at_call 14; refine (has_any _ _ l _ _).mono ?_; rintro e w' ⟨rfl, rfl⟩)
    | (at_make; refine wpList_make_full _ rfl _ _ _ rfl w.heap.size 3 i0 _ 1 Try.underlying22 hi hz0 hz1 .i64 .i64 _ _ l.length rfl rfl rfl rfl (by rw [hz2]; omega) (by unfold maxLen; omega) (Nat.le_refl _) ?_; intro w1 hown hgrow; have hblk := own_block hown; have hbel := (Below.refl w.heap.size w).grown hgrow (Nat.le_refl _) (by simp); have hcs := HC.out; have hcc := fun (j : Nat) (u : Value) (hu : (l.map (Value.int .i64))[j]? = some u) => (hbel.cell (p := ⟨b, off + j, none⟩) hb).trans (hcs j u hu); have HCC := Lib.hid hcc; clear hcs hcc)
    | (with_reducible refine wpList_copy_splice rfl (.tmp 17) (.tmp 18) _ _ rfl 3 Try.underlying22 hsz1 (some ⟨w.heap.size, 0, none⟩) (some ⟨b, off, none⟩) l.length l.length l.length c rfl rfl w.heap.size 0 _ 3 hblk (l.map (Value.int .i64)) (by simp) (fun _ => ⟨rfl, ⟨b, off, none⟩, rfl, fun j u hu => by rw [Go.WideShapes.add_plain]; exact HCC.out j u hu⟩) (by rw [made_int]; simp) (ints_oneCell _ _) w.heap.size w hbel (Nat.le_refl _) ?_; intro w2 hblk2 hbel2; have hrow := own_of_block (base := w.heap.size) (n := l.length) (by have := hblk2.out; rwa [splice_all _ _ (by rw [made_int]; simp)] at this) (by simp) (by unfold maxLen; omega) (Nat.le_refl _); have hcell2 : w2.cell? ⟨w.heap.size, n, none⟩ = some (.int .i64 l[n]) := (hrow.cellAt n (by omega)).trans (by simp [hn]); have hfro2 := hrow.frozenAt n))
  go_ret2
  exact with_end hbel2 (Nat.le_refl _) hrow hn

/-- The numbers that are not 0; how often h stands in l, 0 of 0. -/
def named (l : List Int) : List Int := l.filter (fun x => x != 0)
def cnt (l : List Int) (h : Int) : Nat := if h = 0 then 0 else l.count h
theorem take_succ_of {l : List Int} {k : Nat} {x : Int} (h : l[k]? = some x) : l.take (k + 1) = l.take k ++ [x] := by
  rw [List.take_add_one, h]; rfl
theorem named_take {l : List Int} {k : Nat} {x : Int} (h : l[k]? = some x) : named (l.take (k + 1)) = named (l.take k) ++ (if x = 0 then [] else [x]) := by
  unfold named
  rw [take_succ_of h, List.filter_append]
  by_cases e : x = 0 <;> simp [e]
theorem cnt_take {l : List Int} {k : Nat} {x : Int} (c : Int) (h : l[k]? = some x) : cnt (l.take (k + 1)) c = cnt (l.take k) c + (if x = c ∧ c ≠ 0 then 1 else 0) := by
  unfold cnt
  by_cases e : c = 0
  · simp [e]
  · rw [if_neg e, if_neg e, take_succ_of h, List.count_append]
    by_cases g : x = c
    · subst g; simp [e]
    · rw [if_neg (fun q => g q.1)]; simp [g]
theorem named_le (l : List Int) (k : Nat) : (named (l.take k)).length ≤ k := Nat.le_trans (List.length_filter_le _ _) (List.length_take_le _ _)
theorem cnt_le (l : List Int) (c : Int) (k : Nat) : cnt (l.take k) c ≤ k := by
  unfold cnt; split
  · omega
  · exact Nat.le_trans List.count_le_length (List.length_take_le _ _)

end Go.Proofs.Ytkfpomkabjdcaab.Vc
