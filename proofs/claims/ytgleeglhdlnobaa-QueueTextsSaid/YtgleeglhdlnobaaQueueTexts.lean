/-
  For every list of texts and every text: a queue of texts does as the document says.
  Conditions: none beyond that the arguments are values of their Go types.
-/
import Derived.Test.YtgleeglhdlnobaaRows
import Derived.Test.YtgleeglhdlnobaaBs
import Derived.Test.YtgleeglhdlnobaaQs
import Derived.Test.YtgleeglhdlnobaaQu
namespace Go.Proofs.Ytgleeglhdlnobaa.queueTexts
open Go.ChangeShapes Go.WideShapes Go.ChangeAt Go.RowKit
open Bs Qc Qc.I Qp.I Ce
set_option linter.unusedVariables false
theorem own : ownKnob Try.prog.godebug = none := by kernel_rfl
theorem laidOut : laidOutB Try.prog = true := by kernel_rfl
theorem walk (v0 : Value) (l0 : List ByteArray) (a1 : ByteArray) (w : World) (s0 : Bs.Sl w Value.string v0 l0) (g0 : ∀ x ∈ l0, x.size ≤ maxLen) (w1 : a1.size ≤ maxLen) :
    Calls Try.prog 5 #[v0, .string a1] w fun e w' => e = .returned (.bool true) ∧ Below w.heap.size w w' := by
  have hlen := s0.len_le
  unfold maxLen at hlen
  have S := Lib.hid s0
  obtain ⟨A, c, hv, q1, q2, q0, q3⟩ := s0
  clear q1 q2 q3 q0
  by_cases h1 : 60 < l0.length
  · have h1' : (60 : Int) < (l0.length : Int) := by omega
    subst hv
    clear S
    go_enter Try.func5, Try.ntmps5
    go_wp2_with fail
    refine (Qs.shown_any _).mono ?_
    rintro e w1 ⟨rfl, b1⟩
    go_wp2_with fail
    go_ret
    exact ⟨rfl, b1⟩
  · have h1' : ¬ (60 : Int) < (l0.length : Int) := by omega
    have hle : l0.length ≤ 1000 := by omega
    subst hv
    go_enter Try.func5, Try.ntmps5
    go_wp2_with fail
    refine (Qs.shown_any w).mono ?_
    rintro e w0 ⟨rfl, b0⟩
    have S0 := Lib.hid (S.out.below b0)
    have BB := Lib.hid b0
    clear b0 S
    have B0 := Lib.hid (BB.out)
    go_wp2_with fail
    have k1 := Lib.hid (Bk.new w0 #[.slice A l0.length c, .int .i64 ((l0.length : Int) + 1)] 49)
    have b1 : Below w0.heap.size w0 (w0.alloc (.cells #[.slice A l0.length c, .int .i64 ((l0.length : Int) + 1)] 49)) := (Below.refl _ _).alloc (Nat.le_refl _) _
    have F2 := Lib.hid (S0.out.below b1)
    clear S0
    have B3 := Lib.hid (B0.out.trans (b1.mono B0.out.size))
    clear B0
    clear b1
    generalize w0.alloc (.cells #[.slice A l0.length c, .int .i64 ((l0.length : Int) + 1)] 49) = w0_1 at *
    refine (Qu.T.push_room (.slice A l0.length c) l0 ((l0.length : Int) + 1) a1 w0_1 F2.out (by omega) hle).mono ?_
    rintro e w0_2 ⟨v1, rfl, s, b⟩
    have F4 := Lib.hid (k1.out.below b)
    clear k1
    have F5 := Lib.hid (F2.out.below b)
    clear F2
    have B6 := Lib.hid (B3.out.trans (b.mono B3.out.size))
    clear B3
    clear b
    have F7 : Hid (Sl w0_2 Value.string v1 (l0 ++ [a1])) := Lib.hid (by first | exact s | simpa using s)
    obtain ⟨A1, c1, hv⟩ : ∃ A c, v1 = .slice A (l0.length + 1) c := by
      obtain ⟨A, c, hv, _⟩ := F7.out
      exact ⟨A, c, by first | exact hv | simpa using hv⟩
    subst hv
    clear s
    have e8_0 : w0_2.cell? ⟨w0.heap.size, 0, none⟩ = some (.slice A l0.length c) := F4.out.cell 0
    have e8_1 : w0_2.cell? ⟨w0.heap.size, 1, none⟩ = some (.int .i64 ((l0.length : Int) + 1)) := F4.out.cell 1
    have lt8 : w0.heap.size < w0_2.heap.size := F4.out.lt
    go_wp2_with fail
    clear e8_0 e8_1 lt8
    have k9 := Lib.hid (Bk.new w0_2 #[.slice A1 (l0.length + 1) c1, .int .i64 ((l0.length : Int) + 1)] 49)
    have b9 : Below w0_2.heap.size w0_2 (w0_2.alloc (.cells #[.slice A1 (l0.length + 1) c1, .int .i64 ((l0.length : Int) + 1)] 49)) := (Below.refl _ _).alloc (Nat.le_refl _) _
    have F10 := Lib.hid (F4.out.below b9)
    clear F4
    have F11 := Lib.hid (F5.out.below b9)
    clear F5
    have F12 := Lib.hid (F7.out.below b9)
    clear F7
    have B13 := Lib.hid (B6.out.trans (b9.mono B6.out.size))
    clear B6
    clear b9
    generalize w0_2.alloc (.cells #[.slice A1 (l0.length + 1) c1, .int .i64 ((l0.length : Int) + 1)] 49) = w0_3 at *
    refine (Qt.T.push_full (.slice A1 (l0.length + 1) c1) (l0 ++ [a1]) ((l0.length : Int) + 1) a1 w0_3 F12.out (by simp)).mono ?_
    rintro e w0_4 ⟨v2, rfl, s, b⟩
    have F14 := Lib.hid (F10.out.below b)
    clear F10
    have F15 := Lib.hid (k9.out.below b)
    clear k9
    have F16 := Lib.hid (F11.out.below b)
    clear F11
    have F17 := Lib.hid (F12.out.below b)
    clear F12
    have B18 := Lib.hid (B13.out.trans (b.mono B13.out.size))
    clear B13
    clear b
    have F19 : Hid (Sl w0_4 Value.string v2 (l0 ++ [a1])) := Lib.hid (by first | exact s | simpa using s)
    obtain ⟨A2, c2, hv⟩ : ∃ A c, v2 = .slice A (l0.length + 1) c := by
      obtain ⟨A, c, hv, _⟩ := F19.out
      exact ⟨A, c, by first | exact hv | simpa using hv⟩
    subst hv
    clear s
    have e20_0 : w0_4.cell? ⟨w0.heap.size, 0, none⟩ = some (.slice A l0.length c) := F14.out.cell 0
    have e20_1 : w0_4.cell? ⟨w0.heap.size, 1, none⟩ = some (.int .i64 ((l0.length : Int) + 1)) := F14.out.cell 1
    have lt20 : w0.heap.size < w0_4.heap.size := F14.out.lt
    have e21_0 : w0_4.cell? ⟨w0_2.heap.size, 0, none⟩ = some (.slice A1 (l0.length + 1) c1) := F15.out.cell 0
    have e21_1 : w0_4.cell? ⟨w0_2.heap.size, 1, none⟩ = some (.int .i64 ((l0.length : Int) + 1)) := F15.out.cell 1
    have lt21 : w0_2.heap.size < w0_4.heap.size := F15.out.lt
    go_wp2_with fail
    clear e20_0 e20_1 lt20 e21_0 e21_1 lt21
    have k22 := Lib.hid (Bk.new w0_4 #[.slice A2 (l0.length + 1) c2, .int .i64 ((l0.length : Int) + 1)] 49)
    have b22 : Below w0_4.heap.size w0_4 (w0_4.alloc (.cells #[.slice A2 (l0.length + 1) c2, .int .i64 ((l0.length : Int) + 1)] 49)) := (Below.refl _ _).alloc (Nat.le_refl _) _
    have F23 := Lib.hid (F14.out.below b22)
    clear F14
    have F24 := Lib.hid (F15.out.below b22)
    clear F15
    have F25 := Lib.hid (F16.out.below b22)
    clear F16
    have F26 := Lib.hid (F17.out.below b22)
    clear F17
    have F27 := Lib.hid (F19.out.below b22)
    clear F19
    have B28 := Lib.hid (B18.out.trans (b22.mono B18.out.size))
    clear B18
    clear b22
    generalize w0_4.alloc (.cells #[.slice A2 (l0.length + 1) c2, .int .i64 ((l0.length : Int) + 1)] 49) = w0_5 at *
    refine (Qt.T.drain_any (.slice A1 (l0.length + 1) c1) (l0 ++ [a1]) ((l0.length : Int) + 1) l0.length l0.length w0_5 F26.out (by rw [List.length_append, List.length_singleton]; omega)).mono ?_
    rintro e w0_6 ⟨v3, u3, rfl, ss, b⟩
    obtain ⟨s, s2⟩ := ss w0_5 F26.out
    clear ss
    have s := s.below b
    have s2 := s2.below b
    have F29 := Lib.hid (F23.out.below b)
    clear F23
    have F30 := Lib.hid (F24.out.below b)
    clear F24
    have F31 := Lib.hid (k22.out.below b)
    clear k22
    have F32 := Lib.hid (F25.out.below b)
    clear F25
    have F33 := Lib.hid (F26.out.below b)
    clear F26
    have F34 := Lib.hid (F27.out.below b)
    clear F27
    have B35 := Lib.hid (B28.out.trans (b.mono B28.out.size))
    clear B28
    clear b
    have F36 : Hid (Sl w0_6 Value.string v3 [a1]) := Lib.hid (by first | exact s | simpa using s)
    obtain ⟨A3, c3, hv⟩ : ∃ A c, v3 = .slice A 1 c := by
      obtain ⟨A, c, hv, _⟩ := F36.out
      exact ⟨A, c, by first | exact hv | simpa using hv⟩
    subst hv
    clear s
    have F37 : Hid (Sl w0_6 Value.string u3 l0) := Lib.hid (by first | exact s2 | simpa using s2)
    obtain ⟨A4, c4, hv⟩ : ∃ A c, u3 = .slice A l0.length c := by
      obtain ⟨A, c, hv, _⟩ := F37.out
      exact ⟨A, c, by first | exact hv | simpa using hv⟩
    subst hv
    clear s2
    have e38_0 : w0_6.cell? ⟨w0.heap.size, 0, none⟩ = some (.slice A l0.length c) := F29.out.cell 0
    have e38_1 : w0_6.cell? ⟨w0.heap.size, 1, none⟩ = some (.int .i64 ((l0.length : Int) + 1)) := F29.out.cell 1
    have lt38 : w0.heap.size < w0_6.heap.size := F29.out.lt
    have e39_0 : w0_6.cell? ⟨w0_2.heap.size, 0, none⟩ = some (.slice A1 (l0.length + 1) c1) := F30.out.cell 0
    have e39_1 : w0_6.cell? ⟨w0_2.heap.size, 1, none⟩ = some (.int .i64 ((l0.length : Int) + 1)) := F30.out.cell 1
    have lt39 : w0_2.heap.size < w0_6.heap.size := F30.out.lt
    have e40_0 : w0_6.cell? ⟨w0_4.heap.size, 0, none⟩ = some (.slice A2 (l0.length + 1) c2) := F31.out.cell 0
    have e40_1 : w0_6.cell? ⟨w0_4.heap.size, 1, none⟩ = some (.int .i64 ((l0.length : Int) + 1)) := F31.out.cell 1
    have lt40 : w0_4.heap.size < w0_6.heap.size := F31.out.lt
    go_wp2_with fail
    clear e38_0 e38_1 lt38 e39_0 e39_1 lt39 e40_0 e40_1 lt40
    have k41 := Lib.hid (Bk.new w0_6 #[.slice A3 1 c3, .int .i64 ((l0.length : Int) + 1)] 49)
    have b41 : Below w0_6.heap.size w0_6 (w0_6.alloc (.cells #[.slice A3 1 c3, .int .i64 ((l0.length : Int) + 1)] 49)) := (Below.refl _ _).alloc (Nat.le_refl _) _
    have F42 := Lib.hid (F29.out.below b41)
    clear F29
    have F43 := Lib.hid (F30.out.below b41)
    clear F30
    have F44 := Lib.hid (F31.out.below b41)
    clear F31
    have F45 := Lib.hid (F32.out.below b41)
    clear F32
    have F46 := Lib.hid (F33.out.below b41)
    clear F33
    have F47 := Lib.hid (F34.out.below b41)
    clear F34
    have F48 := Lib.hid (F36.out.below b41)
    clear F36
    have F49 := Lib.hid (F37.out.below b41)
    clear F37
    have B50 := Lib.hid (B35.out.trans (b41.mono B35.out.size))
    clear B35
    clear b41
    generalize w0_6.alloc (.cells #[.slice A3 1 c3, .int .i64 ((l0.length : Int) + 1)] 49) = w0_7 at *
    refine (Qu.T.pop_cons (.slice A3 1 c3) a1 [] ((l0.length : Int) + 1) w0_7 F48.out).mono ?_
    rintro e w0_8 ⟨v5, rfl, s, b⟩
    have s := s.below b
    have F51 := Lib.hid (F42.out.below b)
    clear F42
    have F52 := Lib.hid (F43.out.below b)
    clear F43
    have F53 := Lib.hid (F44.out.below b)
    clear F44
    have F54 := Lib.hid (k41.out.below b)
    clear k41
    have F55 := Lib.hid (F45.out.below b)
    clear F45
    have F56 := Lib.hid (F46.out.below b)
    clear F46
    have F57 := Lib.hid (F47.out.below b)
    clear F47
    have F58 := Lib.hid (F48.out.below b)
    clear F48
    have F59 := Lib.hid (F49.out.below b)
    clear F49
    have B60 := Lib.hid (B50.out.trans (b.mono B50.out.size))
    clear B50
    clear b
    have F61 : Hid (Sl w0_8 Value.string v5 []) := Lib.hid (by first | exact s | simpa using s)
    obtain ⟨A5, c5, hv⟩ : ∃ A c, v5 = .slice A 0 c := by
      obtain ⟨A, c, hv, _⟩ := F61.out
      exact ⟨A, c, by first | exact hv | simpa using hv⟩
    subst hv
    clear s
    have e62_0 : w0_8.cell? ⟨w0.heap.size, 0, none⟩ = some (.slice A l0.length c) := F51.out.cell 0
    have e62_1 : w0_8.cell? ⟨w0.heap.size, 1, none⟩ = some (.int .i64 ((l0.length : Int) + 1)) := F51.out.cell 1
    have lt62 : w0.heap.size < w0_8.heap.size := F51.out.lt
    have e63_0 : w0_8.cell? ⟨w0_2.heap.size, 0, none⟩ = some (.slice A1 (l0.length + 1) c1) := F52.out.cell 0
    have e63_1 : w0_8.cell? ⟨w0_2.heap.size, 1, none⟩ = some (.int .i64 ((l0.length : Int) + 1)) := F52.out.cell 1
    have lt63 : w0_2.heap.size < w0_8.heap.size := F52.out.lt
    have e64_0 : w0_8.cell? ⟨w0_4.heap.size, 0, none⟩ = some (.slice A2 (l0.length + 1) c2) := F53.out.cell 0
    have e64_1 : w0_8.cell? ⟨w0_4.heap.size, 1, none⟩ = some (.int .i64 ((l0.length : Int) + 1)) := F53.out.cell 1
    have lt64 : w0_4.heap.size < w0_8.heap.size := F53.out.lt
    have e65_0 : w0_8.cell? ⟨w0_6.heap.size, 0, none⟩ = some (.slice A3 1 c3) := F54.out.cell 0
    have e65_1 : w0_8.cell? ⟨w0_6.heap.size, 1, none⟩ = some (.int .i64 ((l0.length : Int) + 1)) := F54.out.cell 1
    have lt65 : w0_6.heap.size < w0_8.heap.size := F54.out.lt
    go_wp2_with fail
    clear e62_0 e62_1 lt62 e63_0 e63_1 lt63 e64_0 e64_1 lt64 e65_0 e65_1 lt65
    have k66 := Lib.hid (Bk.new w0_8 #[.slice A5 0 c5, .int .i64 ((l0.length : Int) + 1)] 49)
    have b66 : Below w0_8.heap.size w0_8 (w0_8.alloc (.cells #[.slice A5 0 c5, .int .i64 ((l0.length : Int) + 1)] 49)) := (Below.refl _ _).alloc (Nat.le_refl _) _
    have F67 := Lib.hid (F51.out.below b66)
    clear F51
    have F68 := Lib.hid (F52.out.below b66)
    clear F52
    have F69 := Lib.hid (F53.out.below b66)
    clear F53
    have F70 := Lib.hid (F54.out.below b66)
    clear F54
    have F71 := Lib.hid (F55.out.below b66)
    clear F55
    have F72 := Lib.hid (F56.out.below b66)
    clear F56
    have F73 := Lib.hid (F57.out.below b66)
    clear F57
    have F74 := Lib.hid (F58.out.below b66)
    clear F58
    have F75 := Lib.hid (F59.out.below b66)
    clear F59
    have F76 := Lib.hid (F61.out.below b66)
    clear F61
    have B77 := Lib.hid (B60.out.trans (b66.mono B60.out.size))
    clear B60
    clear b66
    generalize w0_8.alloc (.cells #[.slice A5 0 c5, .int .i64 ((l0.length : Int) + 1)] 49) = w0_9 at *
    go_loopw [15] (fun i wr => ∃ k n : Nat, k ≤ l0.length ∧ i = .int .i64 k ∧ wr = w0_9.drewN n) (fun i _ => l0.length - (intOf i).toNat)
    case atStart => exact ⟨0, 0, by omega, rfl, rfl⟩
    case round =>
      obtain ⟨k, n, hk, rfl, rfl⟩ := hrel
      by_cases hlt : k < l0.length
      · obtain ⟨bl, ol, cl, hv, hb, p1⟩ := F71.out.at_ (k := k) hlt
        injection hv with hA _ hC
        subst hA hC
        obtain ⟨bm, om, cm, hv, hb', p2⟩ := F75.out.at_ (k := k) hlt
        injection hv with hA _ hC
        subst hA hC
        generalize l0[k] = y at p1 p2
        go_wp2_with fail
        go_quiet (fail)
        go_wp2
        go_roundw
        case rel => exact ⟨k + 1, _, by omega, by go_num, rfl⟩
        case measure => simp [intOf]; omega
      · have b : Below w0_9.heap.size w0_9 (w0_9.drewN n) := ⟨rfl, rfl, rfl, Nat.le_refl _, fun _ _ => rfl⟩
        have F78 := Lib.hid (F67.out.below b)
        clear F67
        have F79 := Lib.hid (F68.out.below b)
        clear F68
        have F80 := Lib.hid (F69.out.below b)
        clear F69
        have F81 := Lib.hid (F70.out.below b)
        clear F70
        have F82 := Lib.hid (k66.out.below b)
        clear k66
        have F83 := Lib.hid (F71.out.below b)
        clear F71
        have F84 := Lib.hid (F72.out.below b)
        clear F72
        have F85 := Lib.hid (F73.out.below b)
        clear F73
        have F86 := Lib.hid (F74.out.below b)
        clear F74
        have F87 := Lib.hid (F75.out.below b)
        clear F75
        have F88 := Lib.hid (F76.out.below b)
        clear F76
        have B89 := Lib.hid (B77.out.trans (b.mono B77.out.size))
        clear B77
        clear b
        have e90_0 : (w0_9.drewN n).cell? ⟨w0.heap.size, 0, none⟩ = some (.slice A l0.length c) := F78.out.cell 0
        have e90_1 : (w0_9.drewN n).cell? ⟨w0.heap.size, 1, none⟩ = some (.int .i64 ((l0.length : Int) + 1)) := F78.out.cell 1
        have lt90 : w0.heap.size < (w0_9.drewN n).heap.size := F78.out.lt
        have e91_0 : (w0_9.drewN n).cell? ⟨w0_2.heap.size, 0, none⟩ = some (.slice A1 (l0.length + 1) c1) := F79.out.cell 0
        have e91_1 : (w0_9.drewN n).cell? ⟨w0_2.heap.size, 1, none⟩ = some (.int .i64 ((l0.length : Int) + 1)) := F79.out.cell 1
        have lt91 : w0_2.heap.size < (w0_9.drewN n).heap.size := F79.out.lt
        have e92_0 : (w0_9.drewN n).cell? ⟨w0_4.heap.size, 0, none⟩ = some (.slice A2 (l0.length + 1) c2) := F80.out.cell 0
        have e92_1 : (w0_9.drewN n).cell? ⟨w0_4.heap.size, 1, none⟩ = some (.int .i64 ((l0.length : Int) + 1)) := F80.out.cell 1
        have lt92 : w0_4.heap.size < (w0_9.drewN n).heap.size := F80.out.lt
        have e93_0 : (w0_9.drewN n).cell? ⟨w0_6.heap.size, 0, none⟩ = some (.slice A3 1 c3) := F81.out.cell 0
        have e93_1 : (w0_9.drewN n).cell? ⟨w0_6.heap.size, 1, none⟩ = some (.int .i64 ((l0.length : Int) + 1)) := F81.out.cell 1
        have lt93 : w0_6.heap.size < (w0_9.drewN n).heap.size := F81.out.lt
        have e94_0 : (w0_9.drewN n).cell? ⟨w0_8.heap.size, 0, none⟩ = some (.slice A5 0 c5) := F82.out.cell 0
        have e94_1 : (w0_9.drewN n).cell? ⟨w0_8.heap.size, 1, none⟩ = some (.int .i64 ((l0.length : Int) + 1)) := F82.out.cell 1
        have lt94 : w0_8.heap.size < (w0_9.drewN n).heap.size := F82.out.lt
        go_wp2_with fail
        clear e90_0 e90_1 lt90 e91_0 e91_1 lt91 e92_0 e92_1 lt92 e93_0 e93_1 lt93 e94_0 e94_1 lt94
        refine (Qt.T.len_any (.slice A2 (l0.length + 1) c2) (l0 ++ [a1]) ((l0.length : Int) + 1) (w0_9.drewN n) F85.out).mono ?_
        rintro e w0_10 ⟨rfl, b⟩
        rw [show (((l0 ++ [a1]).length : Nat) : Int) = (l0.length : Int) + 1 by simp]
        have F95 := Lib.hid (F78.out.below b)
        clear F78
        have F96 := Lib.hid (F79.out.below b)
        clear F79
        have F97 := Lib.hid (F80.out.below b)
        clear F80
        have F98 := Lib.hid (F81.out.below b)
        clear F81
        have F99 := Lib.hid (F82.out.below b)
        clear F82
        have F100 := Lib.hid (F83.out.below b)
        clear F83
        have F101 := Lib.hid (F84.out.below b)
        clear F84
        have F102 := Lib.hid (F85.out.below b)
        clear F85
        have F103 := Lib.hid (F86.out.below b)
        clear F86
        have F104 := Lib.hid (F87.out.below b)
        clear F87
        have F105 := Lib.hid (F88.out.below b)
        clear F88
        have B106 := Lib.hid (B89.out.trans (b.mono B89.out.size))
        clear B89
        clear b
        have e107_0 : w0_10.cell? ⟨w0.heap.size, 0, none⟩ = some (.slice A l0.length c) := F95.out.cell 0
        have e107_1 : w0_10.cell? ⟨w0.heap.size, 1, none⟩ = some (.int .i64 ((l0.length : Int) + 1)) := F95.out.cell 1
        have lt107 : w0.heap.size < w0_10.heap.size := F95.out.lt
        have e108_0 : w0_10.cell? ⟨w0_2.heap.size, 0, none⟩ = some (.slice A1 (l0.length + 1) c1) := F96.out.cell 0
        have e108_1 : w0_10.cell? ⟨w0_2.heap.size, 1, none⟩ = some (.int .i64 ((l0.length : Int) + 1)) := F96.out.cell 1
        have lt108 : w0_2.heap.size < w0_10.heap.size := F96.out.lt
        have e109_0 : w0_10.cell? ⟨w0_4.heap.size, 0, none⟩ = some (.slice A2 (l0.length + 1) c2) := F97.out.cell 0
        have e109_1 : w0_10.cell? ⟨w0_4.heap.size, 1, none⟩ = some (.int .i64 ((l0.length : Int) + 1)) := F97.out.cell 1
        have lt109 : w0_4.heap.size < w0_10.heap.size := F97.out.lt
        have e110_0 : w0_10.cell? ⟨w0_6.heap.size, 0, none⟩ = some (.slice A3 1 c3) := F98.out.cell 0
        have e110_1 : w0_10.cell? ⟨w0_6.heap.size, 1, none⟩ = some (.int .i64 ((l0.length : Int) + 1)) := F98.out.cell 1
        have lt110 : w0_6.heap.size < w0_10.heap.size := F98.out.lt
        have e111_0 : w0_10.cell? ⟨w0_8.heap.size, 0, none⟩ = some (.slice A5 0 c5) := F99.out.cell 0
        have e111_1 : w0_10.cell? ⟨w0_8.heap.size, 1, none⟩ = some (.int .i64 ((l0.length : Int) + 1)) := F99.out.cell 1
        have lt111 : w0_8.heap.size < w0_10.heap.size := F99.out.lt
        go_wp2_with fail
        clear e107_0 e107_1 lt107 e108_0 e108_1 lt108 e109_0 e109_1 lt109 e110_0 e110_1 lt110 e111_0 e111_1 lt111
        refine (Qt.T.len_any (.slice A5 0 c5) [] ((l0.length : Int) + 1) w0_10 F105.out).mono ?_
        rintro e w0_11 ⟨rfl, b⟩
        have F112 := Lib.hid (F95.out.below b)
        clear F95
        have F113 := Lib.hid (F96.out.below b)
        clear F96
        have F114 := Lib.hid (F97.out.below b)
        clear F97
        have F115 := Lib.hid (F98.out.below b)
        clear F98
        have F116 := Lib.hid (F99.out.below b)
        clear F99
        have F117 := Lib.hid (F100.out.below b)
        clear F100
        have F118 := Lib.hid (F101.out.below b)
        clear F101
        have F119 := Lib.hid (F102.out.below b)
        clear F102
        have F120 := Lib.hid (F103.out.below b)
        clear F103
        have F121 := Lib.hid (F104.out.below b)
        clear F104
        have F122 := Lib.hid (F105.out.below b)
        clear F105
        have B123 := Lib.hid (B106.out.trans (b.mono B106.out.size))
        clear B106
        clear b
        have e124_0 : w0_11.cell? ⟨w0.heap.size, 0, none⟩ = some (.slice A l0.length c) := F112.out.cell 0
        have e124_1 : w0_11.cell? ⟨w0.heap.size, 1, none⟩ = some (.int .i64 ((l0.length : Int) + 1)) := F112.out.cell 1
        have lt124 : w0.heap.size < w0_11.heap.size := F112.out.lt
        have e125_0 : w0_11.cell? ⟨w0_2.heap.size, 0, none⟩ = some (.slice A1 (l0.length + 1) c1) := F113.out.cell 0
        have e125_1 : w0_11.cell? ⟨w0_2.heap.size, 1, none⟩ = some (.int .i64 ((l0.length : Int) + 1)) := F113.out.cell 1
        have lt125 : w0_2.heap.size < w0_11.heap.size := F113.out.lt
        have e126_0 : w0_11.cell? ⟨w0_4.heap.size, 0, none⟩ = some (.slice A2 (l0.length + 1) c2) := F114.out.cell 0
        have e126_1 : w0_11.cell? ⟨w0_4.heap.size, 1, none⟩ = some (.int .i64 ((l0.length : Int) + 1)) := F114.out.cell 1
        have lt126 : w0_4.heap.size < w0_11.heap.size := F114.out.lt
        have e127_0 : w0_11.cell? ⟨w0_6.heap.size, 0, none⟩ = some (.slice A3 1 c3) := F115.out.cell 0
        have e127_1 : w0_11.cell? ⟨w0_6.heap.size, 1, none⟩ = some (.int .i64 ((l0.length : Int) + 1)) := F115.out.cell 1
        have lt127 : w0_6.heap.size < w0_11.heap.size := F115.out.lt
        have e128_0 : w0_11.cell? ⟨w0_8.heap.size, 0, none⟩ = some (.slice A5 0 c5) := F116.out.cell 0
        have e128_1 : w0_11.cell? ⟨w0_8.heap.size, 1, none⟩ = some (.int .i64 ((l0.length : Int) + 1)) := F116.out.cell 1
        have lt128 : w0_8.heap.size < w0_11.heap.size := F116.out.lt
        go_wp2_with fail
        clear e124_0 e124_1 lt124 e125_0 e125_1 lt125 e126_0 e126_1 lt126 e127_0 e127_1 lt127 e128_0 e128_1 lt128
        go_ret
        exact ⟨rfl, B123.out⟩

set_option maxRecDepth 100000 in
theorem lifted (os : Os) (started : os.Started) (H : Type) (enc : TypeId × Value → H) :
    ReturnsInHanded {} Try.checked os 5 .any (Rows.queueTextsSpec.pre6 enc Try.prog Try.f5 Rows.queueTextsRow.domain false) (Rows.queueTextsSpec.post enc Try.prog Try.f5 false true false false) := by
  refine returnsInHanded_of_change (C := Try.checked) own started (by kernel_rfl) Try.func5
    (ChangeSpec.witness6 (enc := enc) (C := Try.checked) false ⟨#[], #[.slice none 0 0, .string ByteArray.empty], []⟩ 12 (by kernel_rfl) (by kernel_rfl) (by kernel_rfl) (by kernel_rfl)) ?_
  intro W base args ds gs before hval0 hW hcnd _
  have hval : ∀ (j : Nat) t v, Try.f5.params[j]? = some t → args[j]? = some v → Value.okWide Try.prog W .any base t v := hval0
  have hW' := hW
  obtain ⟨p, q, hA0, hV, rfl, hfz, hnd⟩ := hW
  have hA : DataW.TrodAll enc Try.prog W 0 (fun _ => true) true Try.f5.params.toList args.toList ds p := hA0
  rw [Try.params5] at hA hval
  obtain ⟨v0, vs0, d0, ds0, p0, q0, hargs, rfl, rfl, k0, r0⟩ := trodAll_cons hA
  obtain ⟨v1, vs1, d1, ds1, p1, q1, rfl, rfl, rfl, k1, r1⟩ := trodAll_cons r0
  obtain ⟨rfl, rfl, rfl⟩ := trodAll_nil r1
  obtain rfl : args = #[v0, v1] := by cases args; simp_all
  obtain ⟨rfl, rfl⟩ := trodVars_none hV
  have lt0 : ∀ x ∈ p0, x.block < W.heap.size := by obtain ⟨m, hm⟩ := k0; exact DataW.trod_lt m _ _ _ hm
  have lt1 : ∀ x ∈ p1, x.block < W.heap.size := by obtain ⟨m, hm⟩ := k1; exact DataW.trod_lt m _ _ _ hm
  obtain ⟨l0, s0, g0⟩ := Bs.texts_of_trod Try.underlying47 (by kernel_rfl) Try.underlying9 (hval 0 47 v0 rfl rfl) k0
  obtain ⟨a1, rfl, _, _, w1⟩ := Go.ChangeMaps.open_string Try.underlying9 (hval 1 9 v1 rfl rfl) k1
  clear hA0 hval0
  refine (walk v0 l0 a1 W s0 g0 w1).mono fun e W' ⟨he, bel⟩ => ?_
  subst he
  exact ⟨_, rfl, _, _, _, [], _, [], hW', trodAll_mk1 (shut_bool Try.underlying4 _), (trodAll_cons_mk (Below.trod laidOut (by kernel_rfl) (of_decide_eq_true (by kernel_rfl)) k0 bel lt0) (trodAll_cons_mk (Below.trod laidOut (by kernel_rfl) (of_decide_eq_true (by kernel_rfl)) k1 bel lt1) trodAll_mk0)), rfl, bel.frame _, fun h => by cases h⟩

theorem over : Rows.queueTextsRow.holds Try.pinned (OpenSpec.ofChange Rows.queueTextsSpec) :=
  OpenClaim.holds_of_wide 5 Try.f5 rfl rfl rfl rfl rfl rfl rfl ⟨rfl, rfl, rfl, rfl, rfl⟩ rfl rfl rfl rfl rfl (by kernel_rfl) Try.func5 (by kernel_rfl)
    (of_decide_eq_true (by kernel_rfl)) (by unfold Func.isWrapper; first | (rw [if_pos (by decide +kernel)]; kernel_rfl) | (rw [if_neg (by decide +kernel)]; exact ⟨rfl, rfl⟩))
    (fun os started H enc _ => lifted os started H enc)

theorem proved : Rows.QueueTextsSaid := over
#print axioms proved
end Go.Proofs.Ytgleeglhdlnobaa.queueTexts
