/-
  The functions of package queue over queues of texts.
  Conditions: the premises of each (a queue holds 1000 at most).
-/
import Derived.Test.YtgleeglhdlnobaaQc
namespace Go.Proofs.Ytgleeglhdlnobaa.Qt
open Go.RowKit Bs Qc
set_option linter.unusedVariables false
namespace T
theorem info : (Try.prog.info? 9).map (fun i => (i.zero, i.size, i.bytes)) = some (some (.string ByteArray.empty), 1, 16) := by kernel_rfl
theorem len_any (v : Value) (l : List ByteArray) (c : Int) (w : World) (h : Sl w Value.string v l) :
    Calls Try.prog 27 #[.agg #[v, .int .i64 c]] w fun e w' => e = .returned (.int .i64 l.length) ∧ Below w.heap.size w w' := by
  obtain ⟨A, cp, rfl, h1, h2, h0, h3⟩ := h
  clear h3 h0
  go_enter Try.func27, Try.ntmps27
  go_wp2
  go_ret
  exact ⟨rfl, (Below.refl _ _).alloc (Nat.le_refl _) _⟩

theorem part_any (A : Option Addr) (n c i j : Nat) (ii jj : Int) (w : World) (hi : ii = i) (hj : jj = j) (hij : i ≤ j) (hjn : j ≤ c) (hc : c ≤ maxLen) :
    Calls Try.prog 36 #[.slice A n c, .int .i64 ii, .int .i64 jj] w fun e w' => e = .returned (.slice (cutA A i j) (j - i) (j - i)) ∧ w = w' := by
  subst hi hj
  unfold maxLen at hc
  by_cases e : j = i
  · subst e
    rw [cutA_eq]
    go_enter Try.func36, Try.ntmps36
    go_wp2
    go_ret
    exact ⟨by simp, rfl⟩
  · rw [cutA_ne A e]
    go_enter Try.func36, Try.ntmps36
    go_wp2
    go_ret
    exact ⟨rfl, rfl⟩

/-- A queue that holds l, its capacity c, and an error. -/
def GivesQE (w : World) (l : List ByteArray) (c er : Int) (e : Ending) (w' : World) : Prop :=
  ∃ v, e = .returned (.tuple #[.agg #[v, .int .i64 c], .int .i64 er]) ∧ Sl w' Value.string v l ∧ Below w.heap.size w w'
/-- A queue whose list is what is left of l0 behind the first k, and these: wherever l0 lies they do. -/
def GivesQL (w : World) (v0 : Value) (l0 : List ByteArray) (k : Nat) (c : Int) (e : Ending) (w' : World) : Prop :=
  ∃ v u, e = .returned (.tuple #[.agg #[v, .int .i64 c], u]) ∧ (∀ W, Sl W Value.string v0 l0 → Sl W Value.string v (l0.drop k) ∧ Sl W Value.string u (l0.take k)) ∧ Below w.heap.size w w'

theorem push_full (v : Value) (l : List ByteArray) (c : Int) (x : ByteArray) (w : World) (h : Sl w Value.string v l) (hf : c ≤ l.length) :
    Calls Try.prog 24 #[.agg #[v, .int .i64 c], .string x] w (GivesQE w l c 4) := by
  have H := Lib.hid h
  obtain ⟨A, cp, rfl, q1, q2, q0, q3⟩ := id h
  clear q1 q2 q0 q3
  go_enter Try.func24, Try.ntmps24
  go_wp2_with fail
  have k1 := (Bk.new w #[.slice A l.length cp, .int .i64 c] 49).alloc (.cells #[.slice none 0 0, .int .i64 0] 49)
  have k2 := Bk.new (w.alloc (.cells #[.slice A l.length cp, .int .i64 c] 49)) #[.slice none 0 0, .int .i64 0] 49
  rw [World.size_alloc] at k2
  have b0 : Below w.heap.size w ((w.alloc (.cells #[.slice A l.length cp, .int .i64 c] 49)).alloc (.cells #[.slice none 0 0, .int .i64 0] 49)) := ((Below.refl _ _).alloc (Nat.le_refl _) _).alloc (by simp) _
  have hs := h.below b0
  generalize (w.alloc (.cells #[.slice A l.length cp, .int .i64 c] 49)).alloc (.cells #[.slice none 0 0, .int .i64 0] 49) = W0 at *
  have K1 := Lib.hid k1
  have K2 := Lib.hid k2
  have HS := Lib.hid hs
  have c1 := k1.cell 0
  have c2 := k1.cell 1
  simp at c1 c2
  have s0 : St W0 W0.drew := Below.drew (Below.refl _ _)
  clear k1 k2 h hs
  have s1 : St W0 W0.drew ∧ W0.drew.cell? ⟨w.heap.size, 0, none⟩ = some (.slice A l.length cp) ∧ W0.drew.cell? ⟨w.heap.size, 1, none⟩ = some (.int .i64 c) := ⟨s0, c1, c2⟩
  go_region_held3 (fun W => St W0 W ∧ W.cell? ⟨w.heap.size, 0, none⟩ = some (.slice A l.length cp) ∧ W.cell? ⟨w.heap.size, 1, none⟩ = some (.int .i64 c))
    (first | exact s1 | exact ⟨hst, (Bk.cell (hst.bk K1.out) 0).trans (by simp), (Bk.cell (hst.bk K1.out) 1).trans (by simp)⟩)
    (first | (go_at_call 27; refine (len_any _ l _ _ (St.sl (And.left ‹_›) HS.out)).mono ?_; rintro e w1 ⟨rfl, hb⟩; have hst : St W0 w1 := s0.on hb))
  have kk := hst.bk K2.out
  have KK := Lib.hid kk
  have d1 := kk.cell 0
  have d2 := kk.cell 1
  have d3 := kk.frozen 0
  have d4 := kk.frozen 1
  have e1 := (hst.bk K1.out).cell 0
  have e2 := (hst.bk K1.out).cell 1
  simp at d1 d2 e1 e2
  clear kk c1 c2 s1
  go_wp2
  refine bodyPost_ret (v := .tuple #[.agg #[.slice A l.length cp, .int .i64 c], .int .i64 4]) (by simp [results, Try.results24, go_sem, d1, d2]) rfl ⟨_, rfl, ?_, ?_⟩
  · exact H.out.below (((b0.trans (Below.mono hst b0.size)).setCell (by simp) _).setCell (by simp) _)
  · exact ((b0.trans (Below.mono hst b0.size)).setCell (by simp) _).setCell (by simp) _

set_option maxHeartbeats 4000000 in
theorem drain_any (v : Value) (l : List ByteArray) (c : Int) (n : Int) (k : Nat) (w : World) (h : Sl w Value.string v l) (hk : n ≤ 0 ∧ k = 0 ∨ 0 < n ∧ n < l.length ∧ n = k ∨ (l.length : Int) ≤ n ∧ 0 < n ∧ k = l.length) :
    Calls Try.prog 25 #[.agg #[v, .int .i64 c], .int .i64 n] w (GivesQL w v l k c) := by
  have H := Lib.hid h
  have hm := h.len_le
  obtain ⟨A, cp, rfl, q1, q2, q0, q3⟩ := id h
  clear q0 q3
  unfold maxLen at q2
  have hkl : k ≤ l.length := by omega
  have HK := Lib.hid hk
  unfold maxLen at hm
  go_enter Try.func25, Try.ntmps25
  go_wp2_with fail
  have k1 := (Bk.new w #[.slice A l.length cp, .int .i64 c] 49).alloc (.cells #[.slice none 0 0, .int .i64 0] 49)
  have k2 := Bk.new (w.alloc (.cells #[.slice A l.length cp, .int .i64 c] 49)) #[.slice none 0 0, .int .i64 0] 49
  rw [World.size_alloc] at k2
  have b0 : Below w.heap.size w ((w.alloc (.cells #[.slice A l.length cp, .int .i64 c] 49)).alloc (.cells #[.slice none 0 0, .int .i64 0] 49)) := ((Below.refl _ _).alloc (Nat.le_refl _) _).alloc (by simp) _
  have hs := h.below b0
  generalize (w.alloc (.cells #[.slice A l.length cp, .int .i64 c] 49)).alloc (.cells #[.slice none 0 0, .int .i64 0] 49) = W0 at *
  have K1 := Lib.hid k1
  have K2 := Lib.hid k2
  clear k1 k2
  refine (len_any _ l _ W0 hs).mono ?_
  rintro e w1 ⟨rfl, hb⟩
  have e1 := (K1.out.below hb).cell 0
  have e2 := (K1.out.below hb).cell 1
  simp at e1 e2
  have K11 := Lib.hid (K1.out.below hb)
  have K21 := Lib.hid (K2.out.below hb)
  have B1 := Lib.hid (b0.trans (hb.mono b0.size))
  have hsz := hb.size
  have hlt := K1.out.lt
  have hlt2 := K2.out.lt
  clear hb b0 hs h
  have hl0 : (0 : Int) ≤ (l.length : Int) := Int.natCast_nonneg _
  have hcut := Lib.hid (H.out.part (Nat.zero_le k) hkl)
  have hcut2 := Lib.hid (H.out.part hkl (Nat.le_refl _))
  obtain ⟨m, E1⟩ : ∃ m : Int, (if (l.length : Int) < n then (l.length : Int) else n) = m := ⟨_, rfl⟩
  have E2 : (if 0 < m then m else 0) = (k : Int) := by rw [← E1]; split <;> split <;> omega
  clear hk
  go_wp2_with fail
  clear E1 E2
  refine (part_any A l.length cp 0 k 0 _ w1 rfl rfl (Nat.zero_le _) (by omega) (by unfold maxLen; omega)).mono ?_
  rintro e w2 ⟨rfl, rfl⟩
  go_wp2_with fail
  have f1 := K11.out.frozen 0
  have s1 := (H.out.below B1.out).drew
  have S1 := Lib.hid s1
  clear s1
  go_region_with (first | (go_at_call 27; refine (len_any _ l _ _ S1.out).mono ?_; rintro e w3 ⟨rfl, hb3⟩; have g1 := (K11.out.drew.below hb3).cell 0; have g2 := (K11.out.drew.below hb3).cell 1; have g3 := (K11.out.drew.below hb3).frozen 0; have i1 := (K21.out.drew.below hb3).cell 0; have i2 := (K21.out.drew.below hb3).cell 1; have i3 := (K21.out.drew.below hb3).frozen 0; have i4 := (K21.out.drew.below hb3).frozen 1; simp at g1 g2 i1 i2) | (go_at_call 36; refine (part_any A l.length cp k l.length _ _ _ rfl rfl hkl (by omega) (by unfold maxLen; omega)).mono ?_; rintro e w4 ⟨rfl, rfl⟩))
  all_goals
    have BF := Lib.hid ((B1.out.trans ((Below.drew (Below.refl w1.heap.size w1)).trans hb3 |>.mono B1.out.size)))
    go_wp2
    refine bodyPost_ret (v := .tuple #[.agg #[.slice (cutA A k l.length) (l.length - k) (l.length - k), .int .i64 c], .slice (cutA A 0 k) k k]) (by simp [results, Try.results25, go_sem, i1, i2]) rfl ⟨_, _, rfl, ?_, ?_⟩
    · intro W hW
      have y1 := hW.part hkl (Nat.le_refl _)
      have y2 := hW.part (Nat.zero_le k) hkl
      rw [List.take_of_length_le (by rw [List.length_drop]; exact Nat.le_refl _)] at y1
      exact ⟨y1, by simpa using y2⟩
    · exact ((BF.out.setCell (p := ⟨w.heap.size, 0, none⟩) (Nat.le_refl _) _).setCell (p := ⟨w.heap.size + 1, 0, none⟩) (by simp) _).setCell (p := ⟨w.heap.size + 1, 1, none⟩) (by simp) _

end T
end Go.Proofs.Ytgleeglhdlnobaa.Qt
