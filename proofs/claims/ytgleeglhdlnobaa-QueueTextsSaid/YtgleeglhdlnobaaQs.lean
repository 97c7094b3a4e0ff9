/-
  What the statements of layer 2 share: shown.
  Conditions: none.
-/
import Derived.Test.YtgleeglhdlnobaaQp
import Derived.Test.YtgleeglhdlnobaaCe
namespace Go.Proofs.Ytgleeglhdlnobaa.Qs
open Go.RowKit Bs Qc Qc.I Qp.I Ce
set_option linter.unusedVariables false
set_option maxHeartbeats 4000000 in
theorem shown_any (w : World) :
    Calls Try.prog 12 #[] w fun e w' => e = .returned (.bool true) ∧ Below w.heap.size w w' := by
  go_enter Try.func12, Try.ntmps12
  have B0 := Lib.hid (Below.refl w.heap.size w)
  go_wp2_with fail
  refine (new_any 2 w).mono ?_
  rintro e w1 ⟨rfl, b⟩
  have B1 := Lib.hid (B0.out.trans (b.mono B0.out.size))
  clear B0
  clear b
  go_wp2_with fail
  have k2 := Lib.hid (Bk.new w1 #[.slice none 0 0, .int .i64 2] 24)
  have b2 : Below w1.heap.size w1 (w1.alloc (.cells #[.slice none 0 0, .int .i64 2] 24)) := (Below.refl _ _).alloc (Nat.le_refl _) _
  have B3 := Lib.hid (B1.out.trans (b2.mono B1.out.size))
  clear B1
  clear b2
  generalize w1.alloc (.cells #[.slice none 0 0, .int .i64 2] 24) = w2 at *
  refine (push_room (.slice none 0 0) [] 2 7 w2 Sl.none_ (by simp) (by simp)).mono ?_
  rintro e w3 ⟨v1, rfl, s, b⟩
  have F4 := Lib.hid (k2.out.below b)
  clear k2
  have B5 := Lib.hid (B3.out.trans (b.mono B3.out.size))
  clear B3
  clear b
  have F6 : Hid (Sl w3 (Value.int .i64) v1 [7]) := Lib.hid s
  obtain ⟨A1, c1, hv, _, _, _, _⟩ := F6.out
  have hv : v1 = .slice A1 1 c1 := hv
  subst hv
  clear s
  have e7_0 : w3.cell? ⟨w1.heap.size, 0, none⟩ = some (.slice none 0 0) := F4.out.cell 0
  have e7_1 : w3.cell? ⟨w1.heap.size, 1, none⟩ = some (.int .i64 2) := F4.out.cell 1
  have lt7 : w1.heap.size < w3.heap.size := F4.out.lt
  go_wp2_with fail
  clear e7_0 e7_1 lt7
  have k8 := Lib.hid (Bk.new w3 #[.slice A1 1 c1, .int .i64 2] 24)
  have b8 : Below w3.heap.size w3 (w3.alloc (.cells #[.slice A1 1 c1, .int .i64 2] 24)) := (Below.refl _ _).alloc (Nat.le_refl _) _
  have F9 := Lib.hid (F4.out.below b8)
  clear F4
  have F10 := Lib.hid (F6.out.below b8)
  clear F6
  have B11 := Lib.hid (B5.out.trans (b8.mono B5.out.size))
  clear B5
  clear b8
  generalize w3.alloc (.cells #[.slice A1 1 c1, .int .i64 2] 24) = w4 at *
  refine (push_room (.slice A1 1 c1) [7] 2 8 w4 F10.out (by simp) (by simp)).mono ?_
  rintro e w5 ⟨v2, rfl, s, b⟩
  have F12 := Lib.hid (F9.out.below b)
  clear F9
  have F13 := Lib.hid (k8.out.below b)
  clear k8
  have F14 := Lib.hid (F10.out.below b)
  clear F10
  have B15 := Lib.hid (B11.out.trans (b.mono B11.out.size))
  clear B11
  clear b
  have F16 : Hid (Sl w5 (Value.int .i64) v2 [7, 8]) := Lib.hid s
  obtain ⟨A2, c2, hv, _, _, _, _⟩ := F16.out
  have hv : v2 = .slice A2 2 c2 := hv
  subst hv
  clear s
  have e17_0 : w5.cell? ⟨w1.heap.size, 0, none⟩ = some (.slice none 0 0) := F12.out.cell 0
  have e17_1 : w5.cell? ⟨w1.heap.size, 1, none⟩ = some (.int .i64 2) := F12.out.cell 1
  have lt17 : w1.heap.size < w5.heap.size := F12.out.lt
  have e18_0 : w5.cell? ⟨w3.heap.size, 0, none⟩ = some (.slice A1 1 c1) := F13.out.cell 0
  have e18_1 : w5.cell? ⟨w3.heap.size, 1, none⟩ = some (.int .i64 2) := F13.out.cell 1
  have lt18 : w3.heap.size < w5.heap.size := F13.out.lt
  go_wp2_with fail
  clear e17_0 e17_1 lt17 e18_0 e18_1 lt18
  have k19 := Lib.hid (Bk.new w5 #[.slice A2 2 c2, .int .i64 2] 24)
  have b19 : Below w5.heap.size w5 (w5.alloc (.cells #[.slice A2 2 c2, .int .i64 2] 24)) := (Below.refl _ _).alloc (Nat.le_refl _) _
  have F20 := Lib.hid (F12.out.below b19)
  clear F12
  have F21 := Lib.hid (F13.out.below b19)
  clear F13
  have F22 := Lib.hid (F14.out.below b19)
  clear F14
  have F23 := Lib.hid (F16.out.below b19)
  clear F16
  have B24 := Lib.hid (B15.out.trans (b19.mono B15.out.size))
  clear B15
  clear b19
  generalize w5.alloc (.cells #[.slice A2 2 c2, .int .i64 2] 24) = w6 at *
  refine (push_full (.slice A2 2 c2) [7, 8] 2 9 w6 F23.out (by simp)).mono ?_
  rintro e w7 ⟨v3, rfl, s, b⟩
  have F25 := Lib.hid (F20.out.below b)
  clear F20
  have F26 := Lib.hid (F21.out.below b)
  clear F21
  have F27 := Lib.hid (k19.out.below b)
  clear k19
  have F28 := Lib.hid (F22.out.below b)
  clear F22
  have F29 := Lib.hid (F23.out.below b)
  clear F23
  have B30 := Lib.hid (B24.out.trans (b.mono B24.out.size))
  clear B24
  clear b
  have F31 : Hid (Sl w7 (Value.int .i64) v3 [7, 8]) := Lib.hid s
  obtain ⟨A3, c3, hv, _, _, _, _⟩ := F31.out
  have hv : v3 = .slice A3 2 c3 := hv
  subst hv
  clear s
  have e32_0 : w7.cell? ⟨w1.heap.size, 0, none⟩ = some (.slice none 0 0) := F25.out.cell 0
  have e32_1 : w7.cell? ⟨w1.heap.size, 1, none⟩ = some (.int .i64 2) := F25.out.cell 1
  have lt32 : w1.heap.size < w7.heap.size := F25.out.lt
  have e33_0 : w7.cell? ⟨w3.heap.size, 0, none⟩ = some (.slice A1 1 c1) := F26.out.cell 0
  have e33_1 : w7.cell? ⟨w3.heap.size, 1, none⟩ = some (.int .i64 2) := F26.out.cell 1
  have lt33 : w3.heap.size < w7.heap.size := F26.out.lt
  have e34_0 : w7.cell? ⟨w5.heap.size, 0, none⟩ = some (.slice A2 2 c2) := F27.out.cell 0
  have e34_1 : w7.cell? ⟨w5.heap.size, 1, none⟩ = some (.int .i64 2) := F27.out.cell 1
  have lt34 : w5.heap.size < w7.heap.size := F27.out.lt
  go_wp2_with fail
  clear e32_0 e32_1 lt32 e33_0 e33_1 lt33 e34_0 e34_1 lt34
  have k35 := Lib.hid (Bk.new w7 #[.slice A3 2 c3, .int .i64 2] 24)
  have b35 : Below w7.heap.size w7 (w7.alloc (.cells #[.slice A3 2 c3, .int .i64 2] 24)) := (Below.refl _ _).alloc (Nat.le_refl _) _
  have F36 := Lib.hid (F25.out.below b35)
  clear F25
  have F37 := Lib.hid (F26.out.below b35)
  clear F26
  have F38 := Lib.hid (F27.out.below b35)
  clear F27
  have F39 := Lib.hid (F28.out.below b35)
  clear F28
  have F40 := Lib.hid (F29.out.below b35)
  clear F29
  have F41 := Lib.hid (F31.out.below b35)
  clear F31
  have B42 := Lib.hid (B30.out.trans (b35.mono B30.out.size))
  clear B30
  clear b35
  generalize w7.alloc (.cells #[.slice A3 2 c3, .int .i64 2] 24) = w8 at *
  refine (pop_cons (.slice A2 2 c2) 7 [8] 2 w8 F40.out).mono ?_
  rintro e w9 ⟨v4, rfl, s, b⟩
  have s := s.below b
  have F43 := Lib.hid (F36.out.below b)
  clear F36
  have F44 := Lib.hid (F37.out.below b)
  clear F37
  have F45 := Lib.hid (F38.out.below b)
  clear F38
  have F46 := Lib.hid (k35.out.below b)
  clear k35
  have F47 := Lib.hid (F39.out.below b)
  clear F39
  have F48 := Lib.hid (F40.out.below b)
  clear F40
  have F49 := Lib.hid (F41.out.below b)
  clear F41
  have B50 := Lib.hid (B42.out.trans (b.mono B42.out.size))
  clear B42
  clear b
  have F51 : Hid (Sl w9 (Value.int .i64) v4 [8]) := Lib.hid s
  obtain ⟨A4, c4, hv, _, _, _, _⟩ := F51.out
  have hv : v4 = .slice A4 1 c4 := hv
  subst hv
  clear s
  have e52_0 : w9.cell? ⟨w1.heap.size, 0, none⟩ = some (.slice none 0 0) := F43.out.cell 0
  have e52_1 : w9.cell? ⟨w1.heap.size, 1, none⟩ = some (.int .i64 2) := F43.out.cell 1
  have lt52 : w1.heap.size < w9.heap.size := F43.out.lt
  have e53_0 : w9.cell? ⟨w3.heap.size, 0, none⟩ = some (.slice A1 1 c1) := F44.out.cell 0
  have e53_1 : w9.cell? ⟨w3.heap.size, 1, none⟩ = some (.int .i64 2) := F44.out.cell 1
  have lt53 : w3.heap.size < w9.heap.size := F44.out.lt
  have e54_0 : w9.cell? ⟨w5.heap.size, 0, none⟩ = some (.slice A2 2 c2) := F45.out.cell 0
  have e54_1 : w9.cell? ⟨w5.heap.size, 1, none⟩ = some (.int .i64 2) := F45.out.cell 1
  have lt54 : w5.heap.size < w9.heap.size := F45.out.lt
  have e55_0 : w9.cell? ⟨w7.heap.size, 0, none⟩ = some (.slice A3 2 c3) := F46.out.cell 0
  have e55_1 : w9.cell? ⟨w7.heap.size, 1, none⟩ = some (.int .i64 2) := F46.out.cell 1
  have lt55 : w7.heap.size < w9.heap.size := F46.out.lt
  go_wp2_with fail
  clear e52_0 e52_1 lt52 e53_0 e53_1 lt53 e54_0 e54_1 lt54 e55_0 e55_1 lt55
  have k56 := Lib.hid (Bk.new w9 #[.slice A4 1 c4, .int .i64 2] 24)
  have b56 : Below w9.heap.size w9 (w9.alloc (.cells #[.slice A4 1 c4, .int .i64 2] 24)) := (Below.refl _ _).alloc (Nat.le_refl _) _
  have F57 := Lib.hid (F43.out.below b56)
  clear F43
  have F58 := Lib.hid (F44.out.below b56)
  clear F44
  have F59 := Lib.hid (F45.out.below b56)
  clear F45
  have F60 := Lib.hid (F46.out.below b56)
  clear F46
  have F61 := Lib.hid (F47.out.below b56)
  clear F47
  have F62 := Lib.hid (F48.out.below b56)
  clear F48
  have F63 := Lib.hid (F49.out.below b56)
  clear F49
  have F64 := Lib.hid (F51.out.below b56)
  clear F51
  have B65 := Lib.hid (B50.out.trans (b56.mono B50.out.size))
  clear B50
  clear b56
  generalize w9.alloc (.cells #[.slice A4 1 c4, .int .i64 2] 24) = w10 at *
  refine (pop_nil (.slice none 0 0) 2 w10 Sl.none_).mono ?_
  rintro e w11 ⟨v5, rfl, s, b⟩
  have s := s.below b
  have F66 := Lib.hid (F57.out.below b)
  clear F57
  have F67 := Lib.hid (F58.out.below b)
  clear F58
  have F68 := Lib.hid (F59.out.below b)
  clear F59
  have F69 := Lib.hid (F60.out.below b)
  clear F60
  have F70 := Lib.hid (k56.out.below b)
  clear k56
  have F71 := Lib.hid (F61.out.below b)
  clear F61
  have F72 := Lib.hid (F62.out.below b)
  clear F62
  have F73 := Lib.hid (F63.out.below b)
  clear F63
  have F74 := Lib.hid (F64.out.below b)
  clear F64
  have B75 := Lib.hid (B65.out.trans (b.mono B65.out.size))
  clear B65
  clear b
  have F76 : Hid (Sl w11 (Value.int .i64) v5 []) := Lib.hid s
  obtain ⟨A5, c5, hv, _, _, _, _⟩ := F76.out
  have hv : v5 = .slice A5 0 c5 := hv
  subst hv
  clear s
  have e77_0 : w11.cell? ⟨w1.heap.size, 0, none⟩ = some (.slice none 0 0) := F66.out.cell 0
  have e77_1 : w11.cell? ⟨w1.heap.size, 1, none⟩ = some (.int .i64 2) := F66.out.cell 1
  have lt77 : w1.heap.size < w11.heap.size := F66.out.lt
  have e78_0 : w11.cell? ⟨w3.heap.size, 0, none⟩ = some (.slice A1 1 c1) := F67.out.cell 0
  have e78_1 : w11.cell? ⟨w3.heap.size, 1, none⟩ = some (.int .i64 2) := F67.out.cell 1
  have lt78 : w3.heap.size < w11.heap.size := F67.out.lt
  have e79_0 : w11.cell? ⟨w5.heap.size, 0, none⟩ = some (.slice A2 2 c2) := F68.out.cell 0
  have e79_1 : w11.cell? ⟨w5.heap.size, 1, none⟩ = some (.int .i64 2) := F68.out.cell 1
  have lt79 : w5.heap.size < w11.heap.size := F68.out.lt
  have e80_0 : w11.cell? ⟨w7.heap.size, 0, none⟩ = some (.slice A3 2 c3) := F69.out.cell 0
  have e80_1 : w11.cell? ⟨w7.heap.size, 1, none⟩ = some (.int .i64 2) := F69.out.cell 1
  have lt80 : w7.heap.size < w11.heap.size := F69.out.lt
  have e81_0 : w11.cell? ⟨w9.heap.size, 0, none⟩ = some (.slice A4 1 c4) := F70.out.cell 0
  have e81_1 : w11.cell? ⟨w9.heap.size, 1, none⟩ = some (.int .i64 2) := F70.out.cell 1
  have lt81 : w9.heap.size < w11.heap.size := F70.out.lt
  go_wp2_with fail
  clear e77_0 e77_1 lt77 e78_0 e78_1 lt78 e79_0 e79_1 lt79 e80_0 e80_1 lt80 e81_0 e81_1 lt81
  have k82 := Lib.hid (Bk.new w11 #[.slice A5 0 c5, .int .i64 2] 24)
  have b82 : Below w11.heap.size w11 (w11.alloc (.cells #[.slice A5 0 c5, .int .i64 2] 24)) := (Below.refl _ _).alloc (Nat.le_refl _) _
  have F83 := Lib.hid (F66.out.below b82)
  clear F66
  have F84 := Lib.hid (F67.out.below b82)
  clear F67
  have F85 := Lib.hid (F68.out.below b82)
  clear F68
  have F86 := Lib.hid (F69.out.below b82)
  clear F69
  have F87 := Lib.hid (F70.out.below b82)
  clear F70
  have F88 := Lib.hid (F71.out.below b82)
  clear F71
  have F89 := Lib.hid (F72.out.below b82)
  clear F72
  have F90 := Lib.hid (F73.out.below b82)
  clear F73
  have F91 := Lib.hid (F74.out.below b82)
  clear F74
  have F92 := Lib.hid (F76.out.below b82)
  clear F76
  have B93 := Lib.hid (B75.out.trans (b82.mono B75.out.size))
  clear B75
  clear b82
  generalize w11.alloc (.cells #[.slice A5 0 c5, .int .i64 2] 24) = w12 at *
  refine (drain_any (.slice A2 2 c2) [7, 8] 2 5 2 w12 F89.out (Or.inr (Or.inr ⟨by simp, by omega, rfl⟩))).mono ?_
  rintro e w13 ⟨v6, u6, rfl, ss, b⟩
  obtain ⟨s, s2⟩ := ss w12 F89.out
  clear ss
  have s := s.below b
  have s2 := s2.below b
  have F94 := Lib.hid (F83.out.below b)
  clear F83
  have F95 := Lib.hid (F84.out.below b)
  clear F84
  have F96 := Lib.hid (F85.out.below b)
  clear F85
  have F97 := Lib.hid (F86.out.below b)
  clear F86
  have F98 := Lib.hid (F87.out.below b)
  clear F87
  have F99 := Lib.hid (k82.out.below b)
  clear k82
  have F100 := Lib.hid (F88.out.below b)
  clear F88
  have F101 := Lib.hid (F89.out.below b)
  clear F89
  have F102 := Lib.hid (F90.out.below b)
  clear F90
  have F103 := Lib.hid (F91.out.below b)
  clear F91
  have F104 := Lib.hid (F92.out.below b)
  clear F92
  have B105 := Lib.hid (B93.out.trans (b.mono B93.out.size))
  clear B93
  clear b
  have F106 : Hid (Sl w13 (Value.int .i64) v6 []) := Lib.hid s
  obtain ⟨A6, c6, hv, _, _, _, _⟩ := F106.out
  have hv : v6 = .slice A6 0 c6 := hv
  subst hv
  clear s
  obtain ⟨bl, ol, cl, hv, hbl, hx⟩ := s2.at_ (k := 1) (by simp)
  have hv : u6 = .slice (some ⟨bl, ol, none⟩) 2 cl := hv
  subst hv
  have hx : w13.cell? ⟨bl, ol + 1, none⟩ = some (.int .i64 8) := hx
  clear s2
  have F107 : Hid (Ce w13 bl (ol + 1) (.int .i64 8)) := Lib.hid ⟨hbl, hx⟩
  clear hx
  have e108_0 : w13.cell? ⟨w1.heap.size, 0, none⟩ = some (.slice none 0 0) := F94.out.cell 0
  have e108_1 : w13.cell? ⟨w1.heap.size, 1, none⟩ = some (.int .i64 2) := F94.out.cell 1
  have lt108 : w1.heap.size < w13.heap.size := F94.out.lt
  have e109_0 : w13.cell? ⟨w3.heap.size, 0, none⟩ = some (.slice A1 1 c1) := F95.out.cell 0
  have e109_1 : w13.cell? ⟨w3.heap.size, 1, none⟩ = some (.int .i64 2) := F95.out.cell 1
  have lt109 : w3.heap.size < w13.heap.size := F95.out.lt
  have e110_0 : w13.cell? ⟨w5.heap.size, 0, none⟩ = some (.slice A2 2 c2) := F96.out.cell 0
  have e110_1 : w13.cell? ⟨w5.heap.size, 1, none⟩ = some (.int .i64 2) := F96.out.cell 1
  have lt110 : w5.heap.size < w13.heap.size := F96.out.lt
  have e111_0 : w13.cell? ⟨w7.heap.size, 0, none⟩ = some (.slice A3 2 c3) := F97.out.cell 0
  have e111_1 : w13.cell? ⟨w7.heap.size, 1, none⟩ = some (.int .i64 2) := F97.out.cell 1
  have lt111 : w7.heap.size < w13.heap.size := F97.out.lt
  have e112_0 : w13.cell? ⟨w9.heap.size, 0, none⟩ = some (.slice A4 1 c4) := F98.out.cell 0
  have e112_1 : w13.cell? ⟨w9.heap.size, 1, none⟩ = some (.int .i64 2) := F98.out.cell 1
  have lt112 : w9.heap.size < w13.heap.size := F98.out.lt
  have e113_0 : w13.cell? ⟨w11.heap.size, 0, none⟩ = some (.slice A5 0 c5) := F99.out.cell 0
  have e113_1 : w13.cell? ⟨w11.heap.size, 1, none⟩ = some (.int .i64 2) := F99.out.cell 1
  have lt113 : w11.heap.size < w13.heap.size := F99.out.lt
  have e114 : w13.cell? ⟨bl, ol + 1, none⟩ = some (.int .i64 8) := F107.out.2
  have lt114 : bl < w13.heap.size := F107.out.1
  go_wp2_with fail
  clear e108_0 e108_1 lt108 e109_0 e109_1 lt109 e110_0 e110_1 lt110 e111_0 e111_1 lt111 e112_0 e112_1 lt112 e113_0 e113_1 lt113 e114 lt114
  have k115 := Lib.hid (Bk.new w13 #[.slice A6 0 c6, .int .i64 2] 24)
  have b115 : Below w13.heap.size w13 (w13.alloc (.cells #[.slice A6 0 c6, .int .i64 2] 24)) := (Below.refl _ _).alloc (Nat.le_refl _) _
  have F116 := Lib.hid (F94.out.below b115)
  clear F94
  have F117 := Lib.hid (F95.out.below b115)
  clear F95
  have F118 := Lib.hid (F96.out.below b115)
  clear F96
  have F119 := Lib.hid (F97.out.below b115)
  clear F97
  have F120 := Lib.hid (F98.out.below b115)
  clear F98
  have F121 := Lib.hid (F99.out.below b115)
  clear F99
  have F122 := Lib.hid (F100.out.below b115)
  clear F100
  have F123 := Lib.hid (F101.out.below b115)
  clear F101
  have F124 := Lib.hid (F102.out.below b115)
  clear F102
  have F125 := Lib.hid (F103.out.below b115)
  clear F103
  have F126 := Lib.hid (F104.out.below b115)
  clear F104
  have F127 := Lib.hid (F106.out.below b115)
  clear F106
  have F128 := Lib.hid (F107.out.below b115)
  clear F107
  have B129 := Lib.hid (B105.out.trans (b115.mono B105.out.size))
  clear B105
  clear b115
  generalize w13.alloc (.cells #[.slice A6 0 c6, .int .i64 2] 24) = w14 at *
  refine (len_any (.slice A4 1 c4) [8] 2 w14 F125.out).mono ?_
  rintro e w15 ⟨rfl, b⟩
  have F130 := Lib.hid (F116.out.below b)
  clear F116
  have F131 := Lib.hid (F117.out.below b)
  clear F117
  have F132 := Lib.hid (F118.out.below b)
  clear F118
  have F133 := Lib.hid (F119.out.below b)
  clear F119
  have F134 := Lib.hid (F120.out.below b)
  clear F120
  have F135 := Lib.hid (F121.out.below b)
  clear F121
  have F136 := Lib.hid (k115.out.below b)
  clear k115
  have F137 := Lib.hid (F122.out.below b)
  clear F122
  have F138 := Lib.hid (F123.out.below b)
  clear F123
  have F139 := Lib.hid (F124.out.below b)
  clear F124
  have F140 := Lib.hid (F125.out.below b)
  clear F125
  have F141 := Lib.hid (F126.out.below b)
  clear F126
  have F142 := Lib.hid (F127.out.below b)
  clear F127
  have F143 := Lib.hid (F128.out.below b)
  clear F128
  have B144 := Lib.hid (B129.out.trans (b.mono B129.out.size))
  clear B129
  clear b
  have e145_0 : w15.cell? ⟨w1.heap.size, 0, none⟩ = some (.slice none 0 0) := F130.out.cell 0
  have e145_1 : w15.cell? ⟨w1.heap.size, 1, none⟩ = some (.int .i64 2) := F130.out.cell 1
  have lt145 : w1.heap.size < w15.heap.size := F130.out.lt
  have e146_0 : w15.cell? ⟨w3.heap.size, 0, none⟩ = some (.slice A1 1 c1) := F131.out.cell 0
  have e146_1 : w15.cell? ⟨w3.heap.size, 1, none⟩ = some (.int .i64 2) := F131.out.cell 1
  have lt146 : w3.heap.size < w15.heap.size := F131.out.lt
  have e147_0 : w15.cell? ⟨w5.heap.size, 0, none⟩ = some (.slice A2 2 c2) := F132.out.cell 0
  have e147_1 : w15.cell? ⟨w5.heap.size, 1, none⟩ = some (.int .i64 2) := F132.out.cell 1
  have lt147 : w5.heap.size < w15.heap.size := F132.out.lt
  have e148_0 : w15.cell? ⟨w7.heap.size, 0, none⟩ = some (.slice A3 2 c3) := F133.out.cell 0
  have e148_1 : w15.cell? ⟨w7.heap.size, 1, none⟩ = some (.int .i64 2) := F133.out.cell 1
  have lt148 : w7.heap.size < w15.heap.size := F133.out.lt
  have e149_0 : w15.cell? ⟨w9.heap.size, 0, none⟩ = some (.slice A4 1 c4) := F134.out.cell 0
  have e149_1 : w15.cell? ⟨w9.heap.size, 1, none⟩ = some (.int .i64 2) := F134.out.cell 1
  have lt149 : w9.heap.size < w15.heap.size := F134.out.lt
  have e150_0 : w15.cell? ⟨w11.heap.size, 0, none⟩ = some (.slice A5 0 c5) := F135.out.cell 0
  have e150_1 : w15.cell? ⟨w11.heap.size, 1, none⟩ = some (.int .i64 2) := F135.out.cell 1
  have lt150 : w11.heap.size < w15.heap.size := F135.out.lt
  have e151_0 : w15.cell? ⟨w13.heap.size, 0, none⟩ = some (.slice A6 0 c6) := F136.out.cell 0
  have e151_1 : w15.cell? ⟨w13.heap.size, 1, none⟩ = some (.int .i64 2) := F136.out.cell 1
  have lt151 : w13.heap.size < w15.heap.size := F136.out.lt
  have e152 : w15.cell? ⟨bl, ol + 1, none⟩ = some (.int .i64 8) := F143.out.2
  have lt152 : bl < w15.heap.size := F143.out.1
  go_wp2_with fail
  clear e145_0 e145_1 lt145 e146_0 e146_1 lt146 e147_0 e147_1 lt147 e148_0 e148_1 lt148 e149_0 e149_1 lt149 e150_0 e150_1 lt150 e151_0 e151_1 lt151 e152 lt152
  refine (len_any (.slice A6 0 c6) [] 2 w15 F142.out).mono ?_
  rintro e w16 ⟨rfl, b⟩
  have F153 := Lib.hid (F130.out.below b)
  clear F130
  have F154 := Lib.hid (F131.out.below b)
  clear F131
  have F155 := Lib.hid (F132.out.below b)
  clear F132
  have F156 := Lib.hid (F133.out.below b)
  clear F133
  have F157 := Lib.hid (F134.out.below b)
  clear F134
  have F158 := Lib.hid (F135.out.below b)
  clear F135
  have F159 := Lib.hid (F136.out.below b)
  clear F136
  have F160 := Lib.hid (F137.out.below b)
  clear F137
  have F161 := Lib.hid (F138.out.below b)
  clear F138
  have F162 := Lib.hid (F139.out.below b)
  clear F139
  have F163 := Lib.hid (F140.out.below b)
  clear F140
  have F164 := Lib.hid (F141.out.below b)
  clear F141
  have F165 := Lib.hid (F142.out.below b)
  clear F142
  have F166 := Lib.hid (F143.out.below b)
  clear F143
  have B167 := Lib.hid (B144.out.trans (b.mono B144.out.size))
  clear B144
  clear b
  have e168_0 : w16.cell? ⟨w1.heap.size, 0, none⟩ = some (.slice none 0 0) := F153.out.cell 0
  have e168_1 : w16.cell? ⟨w1.heap.size, 1, none⟩ = some (.int .i64 2) := F153.out.cell 1
  have lt168 : w1.heap.size < w16.heap.size := F153.out.lt
  have e169_0 : w16.cell? ⟨w3.heap.size, 0, none⟩ = some (.slice A1 1 c1) := F154.out.cell 0
  have e169_1 : w16.cell? ⟨w3.heap.size, 1, none⟩ = some (.int .i64 2) := F154.out.cell 1
  have lt169 : w3.heap.size < w16.heap.size := F154.out.lt
  have e170_0 : w16.cell? ⟨w5.heap.size, 0, none⟩ = some (.slice A2 2 c2) := F155.out.cell 0
  have e170_1 : w16.cell? ⟨w5.heap.size, 1, none⟩ = some (.int .i64 2) := F155.out.cell 1
  have lt170 : w5.heap.size < w16.heap.size := F155.out.lt
  have e171_0 : w16.cell? ⟨w7.heap.size, 0, none⟩ = some (.slice A3 2 c3) := F156.out.cell 0
  have e171_1 : w16.cell? ⟨w7.heap.size, 1, none⟩ = some (.int .i64 2) := F156.out.cell 1
  have lt171 : w7.heap.size < w16.heap.size := F156.out.lt
  have e172_0 : w16.cell? ⟨w9.heap.size, 0, none⟩ = some (.slice A4 1 c4) := F157.out.cell 0
  have e172_1 : w16.cell? ⟨w9.heap.size, 1, none⟩ = some (.int .i64 2) := F157.out.cell 1
  have lt172 : w9.heap.size < w16.heap.size := F157.out.lt
  have e173_0 : w16.cell? ⟨w11.heap.size, 0, none⟩ = some (.slice A5 0 c5) := F158.out.cell 0
  have e173_1 : w16.cell? ⟨w11.heap.size, 1, none⟩ = some (.int .i64 2) := F158.out.cell 1
  have lt173 : w11.heap.size < w16.heap.size := F158.out.lt
  have e174_0 : w16.cell? ⟨w13.heap.size, 0, none⟩ = some (.slice A6 0 c6) := F159.out.cell 0
  have e174_1 : w16.cell? ⟨w13.heap.size, 1, none⟩ = some (.int .i64 2) := F159.out.cell 1
  have lt174 : w13.heap.size < w16.heap.size := F159.out.lt
  have e175 : w16.cell? ⟨bl, ol + 1, none⟩ = some (.int .i64 8) := F166.out.2
  have lt175 : bl < w16.heap.size := F166.out.1
  go_wp2_with fail
  clear e168_0 e168_1 lt168 e169_0 e169_1 lt169 e170_0 e170_1 lt170 e171_0 e171_1 lt171 e172_0 e172_1 lt172 e173_0 e173_1 lt173 e174_0 e174_1 lt174 e175 lt175
  refine (len_any (.slice A2 2 c2) [7, 8] 2 w16 F161.out).mono ?_
  rintro e w17 ⟨rfl, b⟩
  have F176 := Lib.hid (F153.out.below b)
  clear F153
  have F177 := Lib.hid (F154.out.below b)
  clear F154
  have F178 := Lib.hid (F155.out.below b)
  clear F155
  have F179 := Lib.hid (F156.out.below b)
  clear F156
  have F180 := Lib.hid (F157.out.below b)
  clear F157
  have F181 := Lib.hid (F158.out.below b)
  clear F158
  have F182 := Lib.hid (F159.out.below b)
  clear F159
  have F183 := Lib.hid (F160.out.below b)
  clear F160
  have F184 := Lib.hid (F161.out.below b)
  clear F161
  have F185 := Lib.hid (F162.out.below b)
  clear F162
  have F186 := Lib.hid (F163.out.below b)
  clear F163
  have F187 := Lib.hid (F164.out.below b)
  clear F164
  have F188 := Lib.hid (F165.out.below b)
  clear F165
  have F189 := Lib.hid (F166.out.below b)
  clear F166
  have B190 := Lib.hid (B167.out.trans (b.mono B167.out.size))
  clear B167
  clear b
  have e191_0 : w17.cell? ⟨w1.heap.size, 0, none⟩ = some (.slice none 0 0) := F176.out.cell 0
  have e191_1 : w17.cell? ⟨w1.heap.size, 1, none⟩ = some (.int .i64 2) := F176.out.cell 1
  have lt191 : w1.heap.size < w17.heap.size := F176.out.lt
  have e192_0 : w17.cell? ⟨w3.heap.size, 0, none⟩ = some (.slice A1 1 c1) := F177.out.cell 0
  have e192_1 : w17.cell? ⟨w3.heap.size, 1, none⟩ = some (.int .i64 2) := F177.out.cell 1
  have lt192 : w3.heap.size < w17.heap.size := F177.out.lt
  have e193_0 : w17.cell? ⟨w5.heap.size, 0, none⟩ = some (.slice A2 2 c2) := F178.out.cell 0
  have e193_1 : w17.cell? ⟨w5.heap.size, 1, none⟩ = some (.int .i64 2) := F178.out.cell 1
  have lt193 : w5.heap.size < w17.heap.size := F178.out.lt
  have e194_0 : w17.cell? ⟨w7.heap.size, 0, none⟩ = some (.slice A3 2 c3) := F179.out.cell 0
  have e194_1 : w17.cell? ⟨w7.heap.size, 1, none⟩ = some (.int .i64 2) := F179.out.cell 1
  have lt194 : w7.heap.size < w17.heap.size := F179.out.lt
  have e195_0 : w17.cell? ⟨w9.heap.size, 0, none⟩ = some (.slice A4 1 c4) := F180.out.cell 0
  have e195_1 : w17.cell? ⟨w9.heap.size, 1, none⟩ = some (.int .i64 2) := F180.out.cell 1
  have lt195 : w9.heap.size < w17.heap.size := F180.out.lt
  have e196_0 : w17.cell? ⟨w11.heap.size, 0, none⟩ = some (.slice A5 0 c5) := F181.out.cell 0
  have e196_1 : w17.cell? ⟨w11.heap.size, 1, none⟩ = some (.int .i64 2) := F181.out.cell 1
  have lt196 : w11.heap.size < w17.heap.size := F181.out.lt
  have e197_0 : w17.cell? ⟨w13.heap.size, 0, none⟩ = some (.slice A6 0 c6) := F182.out.cell 0
  have e197_1 : w17.cell? ⟨w13.heap.size, 1, none⟩ = some (.int .i64 2) := F182.out.cell 1
  have lt197 : w13.heap.size < w17.heap.size := F182.out.lt
  have e198 : w17.cell? ⟨bl, ol + 1, none⟩ = some (.int .i64 8) := F189.out.2
  have lt198 : bl < w17.heap.size := F189.out.1
  go_wp2_with fail
  clear e191_0 e191_1 lt191 e192_0 e192_1 lt192 e193_0 e193_1 lt193 e194_0 e194_1 lt194 e195_0 e195_1 lt195 e196_0 e196_1 lt196 e197_0 e197_1 lt197 e198 lt198
  go_ret
  exact ⟨rfl, B190.out⟩
end Go.Proofs.Ytgleeglhdlnobaa.Qs
