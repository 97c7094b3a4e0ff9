/-
  The functions of package queue over queues of texts.
  Conditions: the premises of each (a queue holds 1000 at most).
-/
import Derived.Test.YtgleeglhdlnobaaQt
namespace Go.Proofs.Ytgleeglhdlnobaa.Qu
open Go.RowKit Bs Qc
set_option linter.unusedVariables false
namespace T
open Qt.T
set_option maxHeartbeats 4000000 in
theorem push_room (v : Value) (l : List ByteArray) (c : Int) (x : ByteArray) (w : World) (h : Sl w Value.string v l) (hf : ¬ c ≤ l.length) (hl : l.length ≤ 1000) :
    Calls Try.prog 24 #[.agg #[v, .int .i64 c], .string x] w (GivesQE w (l ++ [x]) c 0) := by
  obtain ⟨i0, hi, hz0, hz1, hz2⟩ := info_parts info
  have H := Lib.hid h
  have hm := h.len_le
  obtain ⟨A, cp, rfl, q1, q2, q0, q3⟩ := id h
  unfold maxLen at q2
  clear q0 q3
  go_enter Try.func24, Try.ntmps24
  go_wp2_with fail
  have k1 := (Bk.new w #[.slice A l.length cp, .int .i64 c] 49).alloc (.cells #[.slice none 0 0, .int .i64 0] 49)
  have k2 := Bk.new (w.alloc (.cells #[.slice A l.length cp, .int .i64 c] 49)) #[.slice none 0 0, .int .i64 0] 49
  rw [World.size_alloc] at k2
  have b0 : Below w.heap.size w ((w.alloc (.cells #[.slice A l.length cp, .int .i64 c] 49)).alloc (.cells #[.slice none 0 0, .int .i64 0] 49)) := ((Below.refl _ _).alloc (Nat.le_refl _) _).alloc (by simp) _
  have hs := h.below b0
  generalize (w.alloc (.cells #[.slice A l.length cp, .int .i64 c] 49)).alloc (.cells #[.slice none 0 0, .int .i64 0] 49) = W0 at *
  have K1 := Lib.hid k1
  have K2 := Lib.hid k2
  have HS := Lib.hid hs
  have c1 := k1.cell 0
  have c2 := k1.cell 1
  simp at c1 c2
  have s0 : St W0 W0.drew := Below.drew (Below.refl _ _)
  have s1 : St W0 W0.drew ∧ W0.drew.cell? ⟨w.heap.size, 0, none⟩ = some (.slice A l.length cp) ∧ W0.drew.cell? ⟨w.heap.size, 1, none⟩ = some (.int .i64 c) := ⟨s0, c1, c2⟩
  clear k1 k2 h hs
  go_region_held3 (fun W => St W0 W ∧ W.cell? ⟨w.heap.size, 0, none⟩ = some (.slice A l.length cp) ∧ W.cell? ⟨w.heap.size, 1, none⟩ = some (.int .i64 c))
    (first | exact s1 | exact ⟨hst, (Bk.cell (hst.bk K1.out) 0).trans (by simp), (Bk.cell (hst.bk K1.out) 1).trans (by simp)⟩)
    (first | (go_at_call 27; refine (len_any _ l _ _ (St.sl (And.left ‹_›) HS.out)).mono ?_; rintro e w1 ⟨rfl, hb⟩; have hst : St W0 w1 := s0.on hb))
  have kk := hst.bk K2.out
  have B1 := Lib.hid (b0.trans (Below.mono hst b0.size))
  have K11 := Lib.hid (hst.bk K1.out)
  have K21 := Lib.hid kk
  have e1 := (hst.bk K1.out).cell 0
  have e2 := (hst.bk K1.out).cell 1
  have e3 := (hst.bk K1.out).frozen 0
  simp at e1 e2
  have S1 := Lib.hid ((H.out.below B1.out))
  have lt1 := K11.out.lt
  have lt2 := K21.out.lt
  clear kk c1 c2 s1 s0 hb hst b0 HS K1 K2
  rename_i hH
  clear hH
  go_wp2_with fail
  have hcut := Lib.hid (H.out.part (Nat.zero_le l.length) (Nat.le_refl _))
  go_region_law (first
    | (go_simp; go_at_call 27; refine (len_any _ l _ _ (by first | exact S1.out.drew | exact S1.out.drew.alloc _)).mono ?_; rintro e w3 ⟨rfl, hb3⟩; have B13 := join_bel (A := w1.drew) (by first | exact Below.refl _ _ | exact (Below.refl _ _).alloc (Nat.le_refl _) _) hb3; have K13 := Lib.hid (K11.out.drew.below B13); have K23 := Lib.hid (K21.out.drew.below B13); have S3 := Lib.hid (Sl.below (w := w) (by simpa using hcut.out) (B1.out.trans ((Below.drew (Below.refl w1.heap.size w1)).trans B13 |>.mono B1.out.size))); (try (first | (with_reducible have n1 := news_keep hb3) | (with_reducible have n1 := news_keep2 hb3))); (try (have n1 := Lib.hid n1)); have lt3 := K13.out.lt; have g1 := K13.out.cell 0; have g2 := K13.out.cell 1; have g3 := K13.out.frozen 0; simp at g1 g2)
    | (go_simp; go_at_call 36; refine (part_any A l.length cp 0 l.length _ _ _ rfl rfl (Nat.zero_le _) (by omega) (by unfold maxLen; omega)).mono ?_; rintro e wq ⟨rfl, rfl⟩)
    | (refine step_app1 (f := Value.string) rfl (.tmp 16) (.tmp 18) _ rfl 9 i0 _ 16 Try.underlying47 hi hz0 hz1 hz2 rfl (cutA A 0 l.length) l.length l (by rfl) ?_ _ (.string x) (by rfl) ?_ rfl (by omega) (by unfold maxLen; omega) (by omega) ?_; (first | exact S3.out | exact S3.out.alloc _); (first | exact cell_one_new _ _ _ | exact n1.out); intro v' w4 hown hgrow; have BG := (Below.refl _ _).grown hgrow (Nat.le_refl _) (by simp); have B34 := join_bel (A := w3) (by first | exact Below.refl _ _ | exact (Below.refl _ _).alloc (Nat.le_refl _) _) BG; obtain ⟨g, cap', rfl, hgb, hgl⟩ := hown.form (by omega); have K14 := K13.out.below B34; have K24 := K23.out.below B34; have j1 := K14.cell 0; have j2 := K14.cell 1; have j3 := K14.frozen 0; have i1 := K24.cell 0; have i2 := K24.cell 1; have i3 := K24.frozen 0; have i4 := K24.frozen 1; simp at j1 j2 i1 i2))
  all_goals
    have BF := Lib.hid ((B1.out.trans (((Below.drew (Below.refl w1.heap.size w1)).trans B13).mono B1.out.size)).trans (B34.mono (Nat.le_trans B1.out.size B13.size)))
    have OW := Lib.hid (own_up (base := w.heap.size + 1 + 1) hown (by have := B13.size; simp at this ⊢; omega))
    clear hown hgrow hcut S3 S1
    go_wp2
    refine bodyPost_ret (v := .tuple #[.agg #[.slice (some ⟨g, 0, none⟩) (l.length + 1) cap', .int .i64 c], .int .i64 0]) (by simp [results, Try.results24, go_sem, i1, i2]) rfl ⟨_, rfl, ?_, ?_⟩
    · have o1 := ownsRow_setCell_below (ownsRow_setCell_below (ownsRow_setCell_below OW.out (a := ⟨w.heap.size, 0, none⟩) (by simp; omega) (.slice (some ⟨g, 0, none⟩) (l.length + 1) cap')) (a := ⟨w.heap.size + 1, 0, none⟩) (by simp) (.slice (some ⟨g, 0, none⟩) (l.length + 1) cap')) (a := ⟨w.heap.size + 1, 1, none⟩) (by simp) (.int .i64 c)
      exact Sl.of_own (f := Value.string) (l := l ++ [x]) (base := w.heap.size + 1 + 1) (e := 9) (by simpa using o1)
    · exact ((BF.out.setCell (p := ⟨w.heap.size, 0, none⟩) (Nat.le_refl _) _).setCell (p := ⟨w.heap.size + 1, 0, none⟩) (by simp) _).setCell (p := ⟨w.heap.size + 1, 1, none⟩) (by simp) _

/-- A queue that holds l, its capacity c, a number and an error. -/
def GivesQXE (w : World) (l : List ByteArray) (c : Int) (x : ByteArray) (er : Int) (e : Ending) (w' : World) : Prop :=
  ∃ v, e = .returned (.tuple #[.agg #[v, .int .i64 c], .string x, .int .i64 er]) ∧ Sl w Value.string v l ∧ Below w.heap.size w w'

set_option maxHeartbeats 4000000 in
theorem pop_cons (v : Value) (x : ByteArray) (l : List ByteArray) (c : Int) (w : World) (h : Sl w Value.string v (x :: l)) :
    Calls Try.prog 26 #[.agg #[v, .int .i64 c]] w (GivesQXE w l c x 0) := by
  have H := Lib.hid h
  obtain ⟨A, cp, rfl, q1, q2, q0, q3⟩ := id h
  have hpos : 0 < (x :: l).length := by simp
  obtain ⟨b, off, rfl, hlt, hcc⟩ := q3 hpos
  have hxx := hcc 0 (Value.string x) (by simp)
  simp at hxx
  clear q0 q3 q1 q2 hcc
  go_enter Try.func26, Try.ntmps26
  go_wp2_with fail
  have k1 := (Bk.new w #[.slice (some ⟨b, off, none⟩) (x :: l).length cp, .int .i64 c] 49).alloc (.cells #[.slice none 0 0, .int .i64 0] 49)
  have k2 := Bk.new (w.alloc (.cells #[.slice (some ⟨b, off, none⟩) (x :: l).length cp, .int .i64 c] 49)) #[.slice none 0 0, .int .i64 0] 49
  rw [World.size_alloc] at k2
  have b0 : Below w.heap.size w ((w.alloc (.cells #[.slice (some ⟨b, off, none⟩) (x :: l).length cp, .int .i64 c] 49)).alloc (.cells #[.slice none 0 0, .int .i64 0] 49)) := ((Below.refl _ _).alloc (Nat.le_refl _) _).alloc (by simp) _
  have hs := h.below b0
  obtain ⟨n, hn⟩ : ∃ n, (x :: l).length = n := ⟨_, rfl⟩
  have hn0 : n = l.length + 1 := by rw [← hn]; simp
  simp only [List.length_cons] at *
  generalize (w.alloc (.cells #[.slice (some ⟨b, off, none⟩) (l.length + 1) cp, .int .i64 c] 49)).alloc (.cells #[.slice none 0 0, .int .i64 0] 49) = W0 at *
  have K1 := Lib.hid k1
  have K2 := Lib.hid k2
  clear k1 k2 h hn hn0 n
  have hk1 : (1 : Int) ≤ 0 ∧ (1 : Nat) = 0 ∨ (0 : Int) < 1 ∧ (1 : Int) < ((x :: l).length : Nat) ∧ (1 : Int) = ((1 : Nat) : Int) ∨ (((x :: l).length : Nat) : Int) ≤ 1 ∧ (0 : Int) < 1 ∧ 1 = (x :: l).length := by
    simp only [List.length_cons]; omega
  refine (drain_any _ (x :: l) c 1 1 W0 hs hk1).mono ?_
  rintro e w1 ⟨v1, u1, rfl, ss, b1⟩
  obtain ⟨s1, s2⟩ := ss w H.out
  clear ss hk1
  have G := Lib.hid s1
  obtain ⟨A1, cp1, rfl, _, _, _, _⟩ := s1
  obtain ⟨b', off', cp2, rfl, hb, hx⟩ := s2.at_ (k := 0) (by simp)
  simp at hx
  clear hs s2
  have hx1 := (b0.cell (p := ⟨b', off', none⟩) hb).trans hx
  have hx2 := (b1.cell (p := ⟨b', off', none⟩) (Nat.lt_of_lt_of_le hb b0.size)).trans hx1
  have hx2 := Lib.hid hx2
  have K11 := Lib.hid (K1.out.below b1)
  have K21 := Lib.hid (K2.out.below b1)
  have lt1 := K11.out.lt
  have lt2 := K21.out.lt
  have lt3 : b' < w1.heap.size := by omega
  have e1 := K11.out.cell 0
  have e2 := K11.out.cell 1
  have i1 := K21.out.cell 0
  have i2 := K21.out.cell 1
  have i3 := K21.out.frozen 0
  have i4 := K21.out.frozen 1
  have hne : ¬ b' = w.heap.size + 1 := by omega
  have hne2 : ¬ w.heap.size + 1 = b' := by omega
  have hne3 : ¬ w1.heap.size = b' := by omega
  have hne4 : ¬ w1.heap.size = w.heap.size + 1 := by omega
  simp at e1 e2 i1 i2
  have B1 := Lib.hid (b0.trans (b1.mono b0.size))
  clear b1 b0 hxx hx hx1
  have hx3 := hx2.out
  simp only [List.length_take, List.length_cons, List.length_drop] at *
  go_wp2_with fail
  go_region
  all_goals
    go_wp2
    refine bodyPost_ret (v := .tuple #[.agg #[.slice A1 l.length cp1, .int .i64 c], .string x, .int .i64 0]) (by simp [results, Try.results26, go_sem, i1, i2, lt2]) rfl ⟨_, rfl, ?_, ?_⟩
    · simpa using G.out
    · exact Below.drew (((B1.out.setCell (by simp) _).setCell (by simp) _).alloc (by simpa using B1.out.size) _)

end T
end Go.Proofs.Ytgleeglhdlnobaa.Qu
