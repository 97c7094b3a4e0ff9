/-
  The laws of the queue: what each returns.
  Conditions: the premises of each.
-/
import Derived.Test.YtgleeglhdlnobaaA2
namespace Go.Proofs.Ytgleeglhdlnobaa.C2b
open Go Go.Pw Go.Proofs
set_option linter.unusedVariables false
theorem drain_eq (t : Bool) (L D T : List PV) (hL : ∀ e ∈ L, e.cells.length = 1) (c n : Int) (k : Nat) (hk : (k : Int) = max 0 (min n L.length)) (hD : L.drop k = D) (hT : L.take k = T) : PCalls Try.prog 18 [.agg [.lst t L, .int .i64 c], .int .i64 n] (.tup [.agg [.lst true D, .int .i64 c], .lst true T]) := by
  subst hD; subst hT; exact C2.drain_ok t L hL c n k hk
theorem push_both (t : Bool) (L : List PV) (hI : Ints L) (c x : Int) (hl : L.length ≤ 100) : ∃ t1 t2 M e, PCalls Try.prog 13 [.agg [.lst t L, .int .i64 c], .int .i64 x] (.tup [.agg [.lst t1 M, .int .i64 c], .int .i64 e]) ∧
    PCalls Try.prog 14 [.agg [.lst t L, .int .i64 c], .int .i64 x] (.tup [.agg [.lst t2 M, .int .i64 c], .int .i64 e]) ∧ Ints M ∧ M.length ≤ 1000000 := by
  rcases Int.lt_or_le (L.length : Int) c with h | h
  · refine ⟨_, _, _, _, C2.push_ok t L _ hI.len c x rfl h (by omega), C2.rpush_ok t L _ hI.len c x rfl h (by omega), fun e he => ?_, by simp; omega⟩
    rcases List.mem_append.1 he with he | he
    · exact hI e he
    · cases List.mem_singleton.1 he
      exact ⟨x, rfl⟩
  · exact ⟨_, _, _, _, C2.push_full t L _ rfl c x h, C2.rpush_full t L _ rfl c x h, hI, by omega⟩
theorem pop_both (t : Bool) (L : List PV) (hI : Ints L) (c : Int) (hl : L.length ≤ 100) : ∃ t1 t2 M y e, PCalls Try.prog 16 [.agg [.lst t L, .int .i64 c]] (.tup [.agg [.lst t1 M, .int .i64 c], .int .i64 y, .int .i64 e]) ∧
    PCalls Try.prog 17 [.agg [.lst t L, .int .i64 c]] (.tup [.agg [.lst t2 M, .int .i64 c], .int .i64 y, .int .i64 e]) ∧ Ints M ∧ M.length ≤ 1000000 := by
  cases L with
  | nil => exact ⟨_, _, _, _, _, C2.pop_nil t [] rfl c, C2.rpop_nil t [] rfl c, hI, by simp⟩
  | cons y M =>
    obtain ⟨v, rfl⟩ := hI y (List.mem_cons_self ..)
    have hM : Ints M := fun e he => hI e (List.mem_cons_of_mem _ he)
    simp only [List.length_cons] at hl
    exact ⟨_, _, _, _, _, C2.pop_ok t v c _ M rfl hM.len, C2.rpop_ok t v c _ M rfl hM.len, hM, by omega⟩
theorem drain_both (t : Bool) (L : List PV) (hI : Ints L) (c n : Int) (hl : L.length ≤ 100) : ∃ t1 t2 t3 t4 M K, PCalls Try.prog 18 [.agg [.lst t L, .int .i64 c], .int .i64 n] (.tup [.agg [.lst t1 M, .int .i64 c], .lst t3 K]) ∧
    PCalls Try.prog 19 [.agg [.lst t L, .int .i64 c], .int .i64 n] (.tup [.agg [.lst t2 M, .int .i64 c], .lst t4 K]) ∧ Ints M ∧ Ints K ∧ M.length ≤ 1000000 ∧ K.length ≤ 1000000 := by
  obtain ⟨k, hk⟩ : ∃ k : Nat, (k : Int) = max 0 (min n L.length) := ⟨(max 0 (min n L.length)).toNat, by omega⟩
  have h1 : Ints (L.drop k) := fun e he => hI e (List.mem_of_mem_drop he)
  have h2 : Ints (L.take k) := fun e he => hI e (List.mem_of_mem_take he)
  have h3 : (L.drop k).length ≤ 1000000 := by simp; omega
  have h4 : (L.take k).length ≤ 1000000 := by simp; omega
  rcases Int.lt_or_le n 0 with h | h
  · exact ⟨_, _, _, _, _, _, C2.drain_ok t L hI.len c n k hk, C2.rdrain_lo t L hI.len c n k hk h, h1, h2, h3, h4⟩
  rcases Int.lt_or_le (L.length : Int) n with h' | h'
  · exact ⟨_, _, _, _, _, _, C2.drain_ok t L hI.len c n k hk, C2.rdrain_hi t L hI.len c n k hk h', h1, h2, h3, h4⟩
  · exact ⟨_, _, _, _, _, _, C2.drain_ok t L hI.len c n k hk, C2.rdrain_mid t L hI.len c n k hk h h', h1, h2, h3, h4⟩
namespace Ty
theorem a3 : tagg Try.prog 3 = some false := by kernel_rfl
theorem a22 : tagg Try.prog 22 = some false := by kernel_rfl
theorem a24 : tagg Try.prog 24 = some true := by kernel_rfl
theorem a29 : tagg Try.prog 29 = some true := by kernel_rfl
theorem b3 : tbytes Try.prog 3 = some 8 := by kernel_rfl
theorem e22 : telem Try.prog 22 = some 3 := by kernel_rfl
theorem f24_0 : foff Try.prog 24 0 = some (0, 22) := by kernel_rfl
theorem i3 : tint Try.prog 3 = some .i64 := by kernel_rfl
theorem s3 : tsize Try.prog 3 = some 1 := by kernel_rfl
theorem s24 : tsize Try.prog 24 = some 2 := by kernel_rfl
theorem s29 : tsize Try.prog 29 = some 2 := by kernel_rfl
theorem u5 : Try.prog.underlying 5 = some (.int .u8) := by kernel_rfl
theorem z3 : tzero Try.prog 3 = some ((.int .i64 0)) := by kernel_rfl
theorem z24 : tzero Try.prog 24 = some ((.agg #[(.slice none 0 0), (.int .i64 0)])) := by kernel_rfl
theorem z29 : tzero Try.prog 29 = some ((.agg #[(.slice none 0 0), (.int .i64 0)])) := by kernel_rfl
theorem mix : Try.prog.follows .mixedOrders = true := by kernel_rfl
end Ty
set_option maxRecDepth 100000 in
set_option maxHeartbeats 4000000 in
theorem acts_big (t : Bool) (L : List PV) (c x n : Int) (hl : 100 < L.length) : PCalls Try.prog 3 [.agg [.lst t L, .int .i64 c], .int .i64 x, .int .i64 n] (.bool true) := by
  refine pc_intro (N := 113) Try.func3 rfl rfl (Nat.le_of_ble_eq_true rfl) fun w0 imm0 => ?_
  refine pw_seq ?_
  refine pw_reg (by kernel_rfl) ?_
  refine x1 rfl (o_box (z := 2) (by conv => lhs; whnf) rfl rfl rfl (by conv => lhs; whnf)) rfl (fun q => nomatch q) (fun q => nomatch q) ?_
  refine x0 rfl (o_assign (by conv => lhs; whnf)) (fun q => nomatch q) ?_
  refine x_nil ?_
  refine pw_seq ?_
  refine pw_seq ?_
  refine pw_reg (by kernel_rfl) ?_
  first | (refine x0 rfl (o_fieldAddrP (by rfl) Ty.f24_0 (by conv => lhs; whnf)) (fun q => nomatch q) ?_) | (refine x0 rfl (o_fieldAddrR (by rfl) Ty.f24_0 (by conv => lhs; whnf)) (fun q => nomatch q) ?_)
  first | (refine x0 rfl (o_loadS (by rfl) (by conv => lhs; whnf) rfl Ty.a22 (by conv => lhs; whnf)) (fun q => nomatch q) ?_) | (refine x0 rfl (o_loadRS (by rfl) Ty.a22 (by conv => lhs; whnf)) (fun q => nomatch q) ?_)
  first | (refine x0 rfl (o_lenL (by rfl) Ty.e22 rfl) (fun q => nomatch q) ?_) | (refine x0 rfl (o_lenR (by rfl) (by conv => lhs; whnf) Ty.e22 rfl) (fun q => nomatch q) ?_)
  first | (refine x0 rfl (o_cmp (by rfl) (by rfl) (c_gtT (by omega))) (fun q => nomatch q) ?_) | (refine x0 rfl (o_cmp (by rfl) (by rfl) (c_gtF (by omega))) (fun q => nomatch q) ?_) | (refine x0 rfl (o_cmp (by rfl) (by rfl) (c_gtT (by first | rfl | decide))) (fun q => nomatch q) ?_) | (refine x0 rfl (o_cmp (by rfl) (by rfl) (c_gtF (by first | decide | (simp; done) | (simp; omega)))) (fun q => nomatch q) ?_)
  refine x0 rfl (o_move (by conv => lhs; whnf)) (fun q => nomatch q) ?_
  refine x_skip rfl ?_
  first | (refine x0 rfl (o_not (by rfl) (by conv => lhs; whnf)) (fun q => nomatch q) ?_) | (refine x_skip rfl ?_)
  first | (refine x0 rfl (o_pickT (by rfl) (by conv => lhs; whnf)) (fun q => nomatch q) ?_) | (refine x0 rfl (o_pickF (by rfl) (by conv => lhs; whnf)) (fun q => nomatch q) ?_)
  refine x_nil ?_
  refine pw_cond true (by rfl) (fun _ => ?_) (fun q => nomatch q)
  refine pw_seq ?_
  refine pw_reg (by kernel_rfl) ?_
  refine x0 rfl (o_call  rfl Try.func12 rfl (by decide) rfl rfl rfl (C2.shown_ok) rfl) (fun q => nomatch q) ?_
  refine x0 rfl (o_assign (by conv => lhs; whnf)) (fun q => nomatch q) ?_
  refine x_nil ?_
  refine pw_ret ?_
  exact ⟨[_], ⟨rfl, trivial⟩, rfl, by (first | exact .inl rfl | exact .inr rfl)⟩

set_option maxRecDepth 100000 in
set_option maxHeartbeats 4000000 in
theorem acts_ok (t : Bool) (L : List PV) (c x n : Int) (hl : L.length ≤ 100) {t1 t2 t3 t4 t5 t6 t7 t8 : Bool} {M1 M2 M3 M4 : List PV} {e1 y e2 : Int} (i1 : Ints M1) (i2 : Ints M2) (i3 : Ints M3) (i4 : Ints M4) (b1 : M1.length ≤ 1000000) (b2 : M2.length ≤ 1000000) (b3 : M3.length ≤ 1000000) (b4 : M4.length ≤ 1000000)
    (h1 : PCalls Try.prog 13 [.agg [.lst t L, .int .i64 c], .int .i64 x] (.tup [.agg [.lst t1 M1, .int .i64 c], .int .i64 e1])) (h2 : PCalls Try.prog 14 [.agg [.lst t L, .int .i64 c], .int .i64 x] (.tup [.agg [.lst t2 M1, .int .i64 c], .int .i64 e1]))
    (h3 : PCalls Try.prog 16 [.agg [.lst t L, .int .i64 c]] (.tup [.agg [.lst t3 M2, .int .i64 c], .int .i64 y, .int .i64 e2])) (h4 : PCalls Try.prog 17 [.agg [.lst t L, .int .i64 c]] (.tup [.agg [.lst t4 M2, .int .i64 c], .int .i64 y, .int .i64 e2]))
    (h5 : PCalls Try.prog 18 [.agg [.lst t L, .int .i64 c], .int .i64 n] (.tup [.agg [.lst t5 M3, .int .i64 c], .lst t7 M4])) (h6 : PCalls Try.prog 19 [.agg [.lst t L, .int .i64 c], .int .i64 n] (.tup [.agg [.lst t6 M3, .int .i64 c], .lst t8 M4])) : PCalls Try.prog 3 [.agg [.lst t L, .int .i64 c], .int .i64 x, .int .i64 n] (.bool true) := by
  refine pc_intro (N := 113) Try.func3 rfl rfl (Nat.le_of_ble_eq_true rfl) fun w0 imm0 => ?_
  refine pw_seq ?_
  refine pw_reg (by kernel_rfl) ?_
  refine x1 rfl (o_box (z := 2) (by conv => lhs; whnf) rfl rfl rfl (by conv => lhs; whnf)) rfl (fun q => nomatch q) (fun q => nomatch q) ?_
  refine x0 rfl (o_assign (by conv => lhs; whnf)) (fun q => nomatch q) ?_
  refine x_nil ?_
  refine pw_seq ?_
  refine pw_seq ?_
  refine pw_reg (by kernel_rfl) ?_
  first | (refine x0 rfl (o_fieldAddrP (by rfl) Ty.f24_0 (by conv => lhs; whnf)) (fun q => nomatch q) ?_) | (refine x0 rfl (o_fieldAddrR (by rfl) Ty.f24_0 (by conv => lhs; whnf)) (fun q => nomatch q) ?_)
  first | (refine x0 rfl (o_loadS (by rfl) (by conv => lhs; whnf) rfl Ty.a22 (by conv => lhs; whnf)) (fun q => nomatch q) ?_) | (refine x0 rfl (o_loadRS (by rfl) Ty.a22 (by conv => lhs; whnf)) (fun q => nomatch q) ?_)
  first | (refine x0 rfl (o_lenL (by rfl) Ty.e22 rfl) (fun q => nomatch q) ?_) | (refine x0 rfl (o_lenR (by rfl) (by conv => lhs; whnf) Ty.e22 rfl) (fun q => nomatch q) ?_)
  first | (refine x0 rfl (o_cmp (by rfl) (by rfl) (c_gtT (by omega))) (fun q => nomatch q) ?_) | (refine x0 rfl (o_cmp (by rfl) (by rfl) (c_gtF (by omega))) (fun q => nomatch q) ?_) | (refine x0 rfl (o_cmp (by rfl) (by rfl) (c_gtT (by first | rfl | decide))) (fun q => nomatch q) ?_) | (refine x0 rfl (o_cmp (by rfl) (by rfl) (c_gtF (by first | decide | (simp; done) | (simp; omega)))) (fun q => nomatch q) ?_)
  refine x0 rfl (o_move (by conv => lhs; whnf)) (fun q => nomatch q) ?_
  refine x0 rfl (o_call  rfl Try.func12 rfl (by decide) rfl rfl rfl (C2.shown_ok) rfl) (fun q => nomatch q) ?_
  first | (refine x0 rfl (o_not (by rfl) (by conv => lhs; whnf)) (fun q => nomatch q) ?_) | (refine x_skip rfl ?_)
  first | (refine x0 rfl (o_pickT (by rfl) (by conv => lhs; whnf)) (fun q => nomatch q) ?_) | (refine x0 rfl (o_pickF (by rfl) (by conv => lhs; whnf)) (fun q => nomatch q) ?_)
  refine x_nil ?_
  refine pw_cond false (by rfl) (fun q => nomatch q) (fun _ => ?_)
  refine pw_skip ?_
  refine pw_seq ?_
  refine pw_reg (by kernel_rfl) ?_
  first | (refine x0 rfl (o_loadA (by rfl) (by conv => lhs; whnf) rfl Ty.a24 Ty.s24 (Nat.le_of_ble_eq_true rfl) (by conv => lhs; whnf)) (fun q => nomatch q) ?_) | (refine x0 rfl (o_loadRA (by rfl) Ty.a24 Ty.s24 (Nat.le_of_ble_eq_true rfl) (by conv => lhs; whnf)) (fun q => nomatch q) ?_)
  refine x0 rfl (o_move (by conv => lhs; whnf)) (fun q => nomatch q) ?_
  refine x_cal rfl (o_callF (ls := [])  rfl Try.func13 rfl (by decide) rfl rfl rfl (h1) rfl) (fun q => nomatch q) ?_
  refine x0 rfl (o_move (by conv => lhs; whnf)) (fun q => nomatch q) ?_
  refine x0 rfl (o_extract (by conv => lhs; whnf) (by conv => lhs; whnf)) (fun q => nomatch q) ?_
  refine x0 rfl (o_extract (by conv => lhs; whnf) (by conv => lhs; whnf)) (fun q => nomatch q) ?_
  refine x1 rfl (o_alloc (z := 2) rfl Ty.z24 (by conv => lhs; whnf) rfl rfl) rfl (fun q => nomatch q) (fun q => nomatch q) ?_
  refine x_sto rfl (o_store (by conv => lhs; whnf) (by conv => lhs; whnf) (by conv => lhs; whnf) rfl Ty.s24 (Nat.le_of_ble_eq_true rfl) rfl) (by conv => lhs; whnf) rfl (Nat.zero_le _) (Nat.le_of_ble_eq_true rfl) rfl (by conv => lhs; whnf) (by conv => lhs; whnf) (by conv => lhs; whnf) (fun q => nomatch q) (fun q => nomatch q) ?_
  refine x0 rfl (o_assign (by conv => lhs; whnf)) (fun q => nomatch q) ?_
  refine x_nil ?_
  refine pw_seq ?_
  refine pw_reg (by kernel_rfl) ?_
  first | (refine x0 rfl (o_loadA (by rfl) (by conv => lhs; whnf) rfl Ty.a24 Ty.s24 (Nat.le_of_ble_eq_true rfl) (by conv => lhs; whnf)) (fun q => nomatch q) ?_) | (refine x0 rfl (o_loadRA (by rfl) Ty.a24 Ty.s24 (Nat.le_of_ble_eq_true rfl) (by conv => lhs; whnf)) (fun q => nomatch q) ?_)
  refine x_cal rfl (o_callF (ls := [])  rfl Try.func15 rfl (by decide) rfl rfl rfl (C2.its_ok t L c) rfl) (fun q => nomatch q) ?_
  refine x0 rfl (o_move (by conv => lhs; whnf)) (fun q => nomatch q) ?_
  refine x_cal rfl (o_callF (ls := [])  rfl Try.func14 rfl (by decide) rfl rfl rfl (h2) rfl) (fun q => nomatch q) ?_
  refine x0 rfl (o_move (by conv => lhs; whnf)) (fun q => nomatch q) ?_
  refine x0 rfl (o_extract (by conv => lhs; whnf) (by conv => lhs; whnf)) (fun q => nomatch q) ?_
  refine x0 rfl (o_extract (by conv => lhs; whnf) (by conv => lhs; whnf)) (fun q => nomatch q) ?_
  refine x1 rfl (o_alloc (z := 2) rfl Ty.z29 (by conv => lhs; whnf) rfl rfl) rfl (fun q => nomatch q) (fun q => nomatch q) ?_
  refine x_sto rfl (o_store (by conv => lhs; whnf) (by conv => lhs; whnf) (by conv => lhs; whnf) rfl Ty.s29 (Nat.le_of_ble_eq_true rfl) rfl) (by conv => lhs; whnf) rfl (Nat.zero_le _) (Nat.le_of_ble_eq_true rfl) rfl (by conv => lhs; whnf) (by conv => lhs; whnf) (by conv => lhs; whnf) (fun q => nomatch q) (fun q => nomatch q) ?_
  refine x0 rfl (o_assign (by conv => lhs; whnf)) (fun q => nomatch q) ?_
  refine x_nil ?_
  refine pw_seq ?_
  refine pw_reg (by kernel_rfl) ?_
  first | (refine x0 rfl (o_loadA (by rfl) (by conv => lhs; whnf) rfl Ty.a24 Ty.s24 (Nat.le_of_ble_eq_true rfl) (by conv => lhs; whnf)) (fun q => nomatch q) ?_) | (refine x0 rfl (o_loadRA (by rfl) Ty.a24 Ty.s24 (Nat.le_of_ble_eq_true rfl) (by conv => lhs; whnf)) (fun q => nomatch q) ?_)
  refine x_cal rfl (o_callF (ls := [])  rfl Try.func16 rfl (by decide) rfl rfl rfl (h3) rfl) (fun q => nomatch q) ?_
  refine x0 rfl (o_move (by conv => lhs; whnf)) (fun q => nomatch q) ?_
  refine x0 rfl (o_extract (by conv => lhs; whnf) (by conv => lhs; whnf)) (fun q => nomatch q) ?_
  refine x0 rfl (o_extract (by conv => lhs; whnf) (by conv => lhs; whnf)) (fun q => nomatch q) ?_
  refine x0 rfl (o_extract (by conv => lhs; whnf) (by conv => lhs; whnf)) (fun q => nomatch q) ?_
  refine x1 rfl (o_alloc (z := 2) rfl Ty.z24 (by conv => lhs; whnf) rfl rfl) rfl (fun q => nomatch q) (fun q => nomatch q) ?_
  refine x_sto rfl (o_store (by conv => lhs; whnf) (by conv => lhs; whnf) (by conv => lhs; whnf) rfl Ty.s24 (Nat.le_of_ble_eq_true rfl) rfl) (by conv => lhs; whnf) rfl (Nat.zero_le _) (Nat.le_of_ble_eq_true rfl) rfl (by conv => lhs; whnf) (by conv => lhs; whnf) (by conv => lhs; whnf) (fun q => nomatch q) (fun q => nomatch q) ?_
  refine x0 rfl (o_assign (by conv => lhs; whnf)) (fun q => nomatch q) ?_
  refine x0 rfl (o_assign (by conv => lhs; whnf)) (fun q => nomatch q) ?_
  refine x_nil ?_
  refine pw_seq ?_
  refine pw_reg (by kernel_rfl) ?_
  first | (refine x0 rfl (o_loadA (by rfl) (by conv => lhs; whnf) rfl Ty.a24 Ty.s24 (Nat.le_of_ble_eq_true rfl) (by conv => lhs; whnf)) (fun q => nomatch q) ?_) | (refine x0 rfl (o_loadRA (by rfl) Ty.a24 Ty.s24 (Nat.le_of_ble_eq_true rfl) (by conv => lhs; whnf)) (fun q => nomatch q) ?_)
  refine x_cal rfl (o_callF (ls := [])  rfl Try.func15 rfl (by decide) rfl rfl rfl (C2.its_ok t L c) rfl) (fun q => nomatch q) ?_
  refine x_cal rfl (o_callF (ls := [])  rfl Try.func17 rfl (by decide) rfl rfl rfl (h4) rfl) (fun q => nomatch q) ?_
  refine x0 rfl (o_move (by conv => lhs; whnf)) (fun q => nomatch q) ?_
  refine x0 rfl (o_extract (by conv => lhs; whnf) (by conv => lhs; whnf)) (fun q => nomatch q) ?_
  refine x0 rfl (o_extract (by conv => lhs; whnf) (by conv => lhs; whnf)) (fun q => nomatch q) ?_
  refine x0 rfl (o_extract (by conv => lhs; whnf) (by conv => lhs; whnf)) (fun q => nomatch q) ?_
  refine x1 rfl (o_alloc (z := 2) rfl Ty.z29 (by conv => lhs; whnf) rfl rfl) rfl (fun q => nomatch q) (fun q => nomatch q) ?_
  refine x_sto rfl (o_store (by conv => lhs; whnf) (by conv => lhs; whnf) (by conv => lhs; whnf) rfl Ty.s29 (Nat.le_of_ble_eq_true rfl) rfl) (by conv => lhs; whnf) rfl (Nat.zero_le _) (Nat.le_of_ble_eq_true rfl) rfl (by conv => lhs; whnf) (by conv => lhs; whnf) (by conv => lhs; whnf) (fun q => nomatch q) (fun q => nomatch q) ?_
  refine x0 rfl (o_assign (by conv => lhs; whnf)) (fun q => nomatch q) ?_
  refine x0 rfl (o_assign (by conv => lhs; whnf)) (fun q => nomatch q) ?_
  refine x_nil ?_
  refine pw_seq ?_
  refine pw_reg (by kernel_rfl) ?_
  first | (refine x0 rfl (o_loadA (by rfl) (by conv => lhs; whnf) rfl Ty.a24 Ty.s24 (Nat.le_of_ble_eq_true rfl) (by conv => lhs; whnf)) (fun q => nomatch q) ?_) | (refine x0 rfl (o_loadRA (by rfl) Ty.a24 Ty.s24 (Nat.le_of_ble_eq_true rfl) (by conv => lhs; whnf)) (fun q => nomatch q) ?_)
  refine x0 rfl (o_move (by conv => lhs; whnf)) (fun q => nomatch q) ?_
  refine x_cal rfl (o_callF (ls := [])  rfl Try.func18 rfl (by decide) rfl rfl rfl (h5) rfl) (fun q => nomatch q) ?_
  refine x0 rfl (o_move (by conv => lhs; whnf)) (fun q => nomatch q) ?_
  refine x0 rfl (o_extract (by conv => lhs; whnf) (by conv => lhs; whnf)) (fun q => nomatch q) ?_
  refine x0 rfl (o_extract (by conv => lhs; whnf) (by conv => lhs; whnf)) (fun q => nomatch q) ?_
  refine x1 rfl (o_alloc (z := 2) rfl Ty.z24 (by conv => lhs; whnf) rfl rfl) rfl (fun q => nomatch q) (fun q => nomatch q) ?_
  refine x_sto rfl (o_store (by conv => lhs; whnf) (by conv => lhs; whnf) (by conv => lhs; whnf) rfl Ty.s24 (Nat.le_of_ble_eq_true rfl) rfl) (by conv => lhs; whnf) rfl (Nat.zero_le _) (Nat.le_of_ble_eq_true rfl) rfl (by conv => lhs; whnf) (by conv => lhs; whnf) (by conv => lhs; whnf) (fun q => nomatch q) (fun q => nomatch q) ?_
  refine x0 rfl (o_assign (by conv => lhs; whnf)) (fun q => nomatch q) ?_
  refine x_nil ?_
  refine pw_seq ?_
  refine pw_reg (by kernel_rfl) ?_
  first | (refine x0 rfl (o_loadA (by rfl) (by conv => lhs; whnf) rfl Ty.a24 Ty.s24 (Nat.le_of_ble_eq_true rfl) (by conv => lhs; whnf)) (fun q => nomatch q) ?_) | (refine x0 rfl (o_loadRA (by rfl) Ty.a24 Ty.s24 (Nat.le_of_ble_eq_true rfl) (by conv => lhs; whnf)) (fun q => nomatch q) ?_)
  refine x_cal rfl (o_callF (ls := [])  rfl Try.func15 rfl (by decide) rfl rfl rfl (C2.its_ok t L c) rfl) (fun q => nomatch q) ?_
  refine x0 rfl (o_move (by conv => lhs; whnf)) (fun q => nomatch q) ?_
  refine x_cal rfl (o_callF (ls := [])  rfl Try.func19 rfl (by decide) rfl rfl rfl (h6) rfl) (fun q => nomatch q) ?_
  refine x0 rfl (o_move (by conv => lhs; whnf)) (fun q => nomatch q) ?_
  refine x0 rfl (o_extract (by conv => lhs; whnf) (by conv => lhs; whnf)) (fun q => nomatch q) ?_
  refine x0 rfl (o_extract (by conv => lhs; whnf) (by conv => lhs; whnf)) (fun q => nomatch q) ?_
  refine x1 rfl (o_alloc (z := 2) rfl Ty.z29 (by conv => lhs; whnf) rfl rfl) rfl (fun q => nomatch q) (fun q => nomatch q) ?_
  refine x_sto rfl (o_store (by conv => lhs; whnf) (by conv => lhs; whnf) (by conv => lhs; whnf) rfl Ty.s29 (Nat.le_of_ble_eq_true rfl) rfl) (by conv => lhs; whnf) rfl (Nat.zero_le _) (Nat.le_of_ble_eq_true rfl) rfl (by conv => lhs; whnf) (by conv => lhs; whnf) (by conv => lhs; whnf) (fun q => nomatch q) (fun q => nomatch q) ?_
  refine x0 rfl (o_assign (by conv => lhs; whnf)) (fun q => nomatch q) ?_
  refine x_nil ?_
  refine pw_seq ?_
  refine pw_drw [] Ty.mix (by kernel_rfl) (by kernel_rfl) ?_
  first | (refine x0 rfl (o_loadA (by rfl) (by conv => lhs; whnf) rfl Ty.a24 Ty.s24 (Nat.le_of_ble_eq_true rfl) (by conv => lhs; whnf)) (fun _ => rfl) ?_) | (refine x0 rfl (o_loadRA (by rfl) Ty.a24 Ty.s24 (Nat.le_of_ble_eq_true rfl) (by conv => lhs; whnf)) (fun _ => rfl) ?_)
  refine x_cal rfl (o_callF (ls := [])  rfl Try.func15 rfl (by decide) rfl rfl rfl (C2.its_ok t1 M1 c) rfl) (fun _ => .inr (.inl rfl)) ?_
  first | (refine x0 rfl (o_loadA (by rfl) (by conv => lhs; whnf) rfl Ty.a29 Ty.s29 (Nat.le_of_ble_eq_true rfl) (by conv => lhs; whnf)) (fun _ => rfl) ?_) | (refine x0 rfl (o_loadRA (by rfl) Ty.a29 Ty.s29 (Nat.le_of_ble_eq_true rfl) (by conv => lhs; whnf)) (fun _ => rfl) ?_)
  refine x0 rfl (o_call  rfl Try.func20 rfl (by decide) rfl rfl rfl (C2.same_ok t1 t2 M1 i1 b1 c) rfl) (fun _ => .inl rfl) ?_
  refine x7 rfl (fun _ hN => o_move (by conv => lhs; whnf)) rfl ?_
  first | (refine x7 rfl (fun _ hN => o_move (by conv => lhs; whnf)) rfl ?_) | (refine x_skip rfl ?_)
  first | (refine x7 rfl (fun _ hN => o_move (by conv => lhs; whnf)) rfl ?_) | (refine x_skip rfl ?_)
  refine x7 rfl (fun _ hN => o_cmp (by rfl) (by rfl) (c_eqT rfl)) rfl ?_
  first | (refine x7 rfl (fun _ hN => o_pickT (by rfl) (by conv => lhs; whnf)) rfl ?_) | (refine x7 rfl (fun _ hN => o_pickF (by rfl) (by conv => lhs; whnf)) rfl ?_)
  refine x7 rfl (fun _ hN => o_move (by conv => lhs; whnf)) rfl ?_
  first | (refine x0 rfl (o_loadA (by rfl) (by conv => lhs; whnf) rfl Ty.a24 Ty.s24 (Nat.le_of_ble_eq_true rfl) (by conv => lhs; whnf)) (fun _ => rfl) ?_) | (refine x0 rfl (o_loadRA (by rfl) Ty.a24 Ty.s24 (Nat.le_of_ble_eq_true rfl) (by conv => lhs; whnf)) (fun _ => rfl) ?_) | (refine x_skip rfl ?_)
  refine x_cal rfl (o_callF (ls := [])  rfl Try.func15 rfl (by decide) rfl rfl rfl (C2.its_ok t3 M2 c) rfl) (fun _ => .inr (.inl rfl)) ?_
  first | (refine x0 rfl (o_loadA (by rfl) (by conv => lhs; whnf) rfl Ty.a29 Ty.s29 (Nat.le_of_ble_eq_true rfl) (by conv => lhs; whnf)) (fun _ => rfl) ?_) | (refine x0 rfl (o_loadRA (by rfl) Ty.a29 Ty.s29 (Nat.le_of_ble_eq_true rfl) (by conv => lhs; whnf)) (fun _ => rfl) ?_) | (refine x_skip rfl ?_)
  refine x0 rfl (o_call  rfl Try.func20 rfl (by decide) rfl rfl rfl (C2.same_ok t3 t4 M2 i2 b2 c) rfl) (fun _ => .inl rfl) ?_
  first | (refine x7 rfl (fun _ hN => o_pickT (by rfl) (by conv => lhs; whnf)) rfl ?_) | (refine x7 rfl (fun _ hN => o_pickF (by rfl) (by conv => lhs; whnf)) rfl ?_)
  refine x7 rfl (fun _ hN => o_move (by conv => lhs; whnf)) rfl ?_
  first | (refine x7 rfl (fun _ hN => o_move (by conv => lhs; whnf)) rfl ?_) | (refine x_skip rfl ?_)
  first | (refine x7 rfl (fun _ hN => o_move (by conv => lhs; whnf)) rfl ?_) | (refine x_skip rfl ?_)
  refine x7 rfl (fun _ hN => o_cmp (by rfl) (by rfl) (c_eqT rfl)) rfl ?_
  first | (refine x7 rfl (fun _ hN => o_pickT (by rfl) (by conv => lhs; whnf)) rfl ?_) | (refine x7 rfl (fun _ hN => o_pickF (by rfl) (by conv => lhs; whnf)) rfl ?_)
  refine x7 rfl (fun _ hN => o_move (by conv => lhs; whnf)) rfl ?_
  first | (refine x7 rfl (fun _ hN => o_move (by conv => lhs; whnf)) rfl ?_) | (refine x_skip rfl ?_)
  first | (refine x7 rfl (fun _ hN => o_move (by conv => lhs; whnf)) rfl ?_) | (refine x_skip rfl ?_)
  refine x7 rfl (fun _ hN => o_cmp (by rfl) (by rfl) (c_eqT rfl)) rfl ?_
  first | (refine x7 rfl (fun _ hN => o_pickT (by rfl) (by conv => lhs; whnf)) rfl ?_) | (refine x7 rfl (fun _ hN => o_pickF (by rfl) (by conv => lhs; whnf)) rfl ?_)
  refine x7 rfl (fun _ hN => o_move (by conv => lhs; whnf)) rfl ?_
  first | (refine x0 rfl (o_loadA (by rfl) (by conv => lhs; whnf) rfl Ty.a24 Ty.s24 (Nat.le_of_ble_eq_true rfl) (by conv => lhs; whnf)) (fun _ => rfl) ?_) | (refine x0 rfl (o_loadRA (by rfl) Ty.a24 Ty.s24 (Nat.le_of_ble_eq_true rfl) (by conv => lhs; whnf)) (fun _ => rfl) ?_) | (refine x_skip rfl ?_)
  refine x_cal rfl (o_callF (ls := [])  rfl Try.func15 rfl (by decide) rfl rfl rfl (C2.its_ok t5 M3 c) rfl) (fun _ => .inr (.inl rfl)) ?_
  first | (refine x0 rfl (o_loadA (by rfl) (by conv => lhs; whnf) rfl Ty.a29 Ty.s29 (Nat.le_of_ble_eq_true rfl) (by conv => lhs; whnf)) (fun _ => rfl) ?_) | (refine x0 rfl (o_loadRA (by rfl) Ty.a29 Ty.s29 (Nat.le_of_ble_eq_true rfl) (by conv => lhs; whnf)) (fun _ => rfl) ?_) | (refine x_skip rfl ?_)
  refine x0 rfl (o_call  rfl Try.func20 rfl (by decide) rfl rfl rfl (C2.same_ok t5 t6 M3 i3 b3 c) rfl) (fun _ => .inl rfl) ?_
  first | (refine x7 rfl (fun _ hN => o_pickT (by rfl) (by conv => lhs; whnf)) rfl ?_) | (refine x7 rfl (fun _ hN => o_pickF (by rfl) (by conv => lhs; whnf)) rfl ?_)
  refine x7 rfl (fun _ hN => o_move (by conv => lhs; whnf)) rfl ?_
  first | (refine x7 rfl (fun _ hN => o_move (by conv => lhs; whnf)) rfl ?_) | (refine x_skip rfl ?_)
  first | (refine x7 rfl (fun _ hN => o_move (by conv => lhs; whnf)) rfl ?_) | (refine x_skip rfl ?_)
  refine x0 rfl (o_call  rfl Try.func21 rfl (by decide) rfl rfl rfl (C2.ints_ok t7 t8 M4 i4 b4) rfl) (fun _ => .inl rfl) ?_
  first | (refine x7 rfl (fun _ hN => o_pickT (by rfl) (by conv => lhs; whnf)) rfl ?_) | (refine x7 rfl (fun _ hN => o_pickF (by rfl) (by conv => lhs; whnf)) rfl ?_)
  refine x7 rfl (fun _ hN => o_move (by conv => lhs; whnf)) rfl ?_
  first | (refine x0 rfl (o_loadA (by rfl) (by conv => lhs; whnf) rfl Ty.a24 Ty.s24 (Nat.le_of_ble_eq_true rfl) (by conv => lhs; whnf)) (fun _ => rfl) ?_) | (refine x0 rfl (o_loadRA (by rfl) Ty.a24 Ty.s24 (Nat.le_of_ble_eq_true rfl) (by conv => lhs; whnf)) (fun _ => rfl) ?_) | (refine x_skip rfl ?_)
  refine x0 rfl (o_call  rfl Try.func22 rfl (by decide) rfl rfl rfl (C2.len_ok t L c) rfl) (fun _ => .inl rfl) ?_
  first | (refine x7 rfl (fun _ hN => o_fieldAddrP (by rfl) Ty.f24_0 (by conv => lhs; whnf)) rfl ?_) | (refine x7 rfl (fun _ hN => o_fieldAddrR (by rfl) Ty.f24_0 (by conv => lhs; whnf)) rfl ?_) | (refine x_skip rfl ?_)
  first | (refine x0 rfl (o_loadS (by rfl) (by conv => lhs; whnf) rfl Ty.a22 (by conv => lhs; whnf)) (fun _ => rfl) ?_) | (refine x0 rfl (o_loadRS (by rfl) Ty.a22 (by conv => lhs; whnf)) (fun _ => rfl) ?_) | (refine x_skip rfl ?_)
  first | (refine x0 rfl (o_lenL (by rfl) Ty.e22 rfl) (fun _ => rfl) ?_) | (refine x0 rfl (o_lenR (by rfl) (by conv => lhs; whnf) Ty.e22 rfl) (fun _ => rfl) ?_) | (refine x_skip rfl ?_)
  refine x7 rfl (fun _ hN => o_cmp (by rfl) (by rfl) (c_eqT rfl)) rfl ?_
  first | (refine x7 rfl (fun _ hN => o_pickT (by rfl) (by conv => lhs; whnf)) rfl ?_) | (refine x7 rfl (fun _ hN => o_pickF (by rfl) (by conv => lhs; whnf)) rfl ?_)
  refine x7 rfl (fun _ hN => o_assign (by conv => lhs; whnf)) rfl ?_
  refine x_nil ?_
  refine pw_ret ?_
  exact ⟨[_], ⟨rfl, trivial⟩, rfl, by (first | exact .inl rfl | exact .inr rfl)⟩

set_option maxRecDepth 100000 in
set_option maxHeartbeats 4000000 in
theorem own_big (t : Bool) (L : List PV) (c x y : Int) (hl : 60 < L.length) : PCalls Try.prog 6 [.agg [.lst t L, .int .i64 c], .int .i64 x, .int .i64 y] (.bool true) := by
  refine pc_intro (N := 101) Try.func6 rfl rfl (Nat.le_of_ble_eq_true rfl) fun w0 imm0 => ?_
  refine pw_seq ?_
  refine pw_reg (by kernel_rfl) ?_
  refine x1 rfl (o_box (z := 2) (by conv => lhs; whnf) rfl rfl rfl (by conv => lhs; whnf)) rfl (fun q => nomatch q) (fun q => nomatch q) ?_
  refine x0 rfl (o_assign (by conv => lhs; whnf)) (fun q => nomatch q) ?_
  refine x_nil ?_
  refine pw_seq ?_
  refine pw_seq ?_
  refine pw_reg (by kernel_rfl) ?_
  first | (refine x0 rfl (o_fieldAddrP (by rfl) Ty.f24_0 (by conv => lhs; whnf)) (fun q => nomatch q) ?_) | (refine x0 rfl (o_fieldAddrR (by rfl) Ty.f24_0 (by conv => lhs; whnf)) (fun q => nomatch q) ?_)
  first | (refine x0 rfl (o_loadS (by rfl) (by conv => lhs; whnf) rfl Ty.a22 (by conv => lhs; whnf)) (fun q => nomatch q) ?_) | (refine x0 rfl (o_loadRS (by rfl) Ty.a22 (by conv => lhs; whnf)) (fun q => nomatch q) ?_)
  first | (refine x0 rfl (o_lenL (by rfl) Ty.e22 rfl) (fun q => nomatch q) ?_) | (refine x0 rfl (o_lenR (by rfl) (by conv => lhs; whnf) Ty.e22 rfl) (fun q => nomatch q) ?_)
  first | (refine x0 rfl (o_cmp (by rfl) (by rfl) (c_gtT (by omega))) (fun q => nomatch q) ?_) | (refine x0 rfl (o_cmp (by rfl) (by rfl) (c_gtF (by omega))) (fun q => nomatch q) ?_) | (refine x0 rfl (o_cmp (by rfl) (by rfl) (c_gtT (by first | rfl | decide))) (fun q => nomatch q) ?_) | (refine x0 rfl (o_cmp (by rfl) (by rfl) (c_gtF (by first | decide | (simp; done) | (simp; omega)))) (fun q => nomatch q) ?_)
  refine x0 rfl (o_move (by conv => lhs; whnf)) (fun q => nomatch q) ?_
  refine x_skip rfl ?_
  first | (refine x0 rfl (o_not (by rfl) (by conv => lhs; whnf)) (fun q => nomatch q) ?_) | (refine x_skip rfl ?_)
  first | (refine x0 rfl (o_pickT (by rfl) (by conv => lhs; whnf)) (fun q => nomatch q) ?_) | (refine x0 rfl (o_pickF (by rfl) (by conv => lhs; whnf)) (fun q => nomatch q) ?_)
  refine x_nil ?_
  refine pw_cond true (by rfl) (fun _ => ?_) (fun q => nomatch q)
  refine pw_seq ?_
  refine pw_reg (by kernel_rfl) ?_
  refine x0 rfl (o_call  rfl Try.func12 rfl (by decide) rfl rfl rfl (C2.shown_ok) rfl) (fun q => nomatch q) ?_
  refine x0 rfl (o_assign (by conv => lhs; whnf)) (fun q => nomatch q) ?_
  refine x_nil ?_
  refine pw_ret ?_
  exact ⟨[_], ⟨rfl, trivial⟩, rfl, by (first | exact .inl rfl | exact .inr rfl)⟩

set_option maxRecDepth 100000 in
set_option maxHeartbeats 4000000 in
theorem own_full (t : Bool) (L : List PV) (c x y : Int) (hl : L.length ≤ 60) (hc : c ≤ L.length) : PCalls Try.prog 6 [.agg [.lst t L, .int .i64 c], .int .i64 x, .int .i64 y] (.bool true) := by
  refine pc_intro (N := 101) Try.func6 rfl rfl (Nat.le_of_ble_eq_true rfl) fun w0 imm0 => ?_
  refine pw_seq ?_
  refine pw_reg (by kernel_rfl) ?_
  refine x1 rfl (o_box (z := 2) (by conv => lhs; whnf) rfl rfl rfl (by conv => lhs; whnf)) rfl (fun q => nomatch q) (fun q => nomatch q) ?_
  refine x0 rfl (o_assign (by conv => lhs; whnf)) (fun q => nomatch q) ?_
  refine x_nil ?_
  refine pw_seq ?_
  refine pw_seq ?_
  refine pw_reg (by kernel_rfl) ?_
  first | (refine x0 rfl (o_fieldAddrP (by rfl) Ty.f24_0 (by conv => lhs; whnf)) (fun q => nomatch q) ?_) | (refine x0 rfl (o_fieldAddrR (by rfl) Ty.f24_0 (by conv => lhs; whnf)) (fun q => nomatch q) ?_)
  first | (refine x0 rfl (o_loadS (by rfl) (by conv => lhs; whnf) rfl Ty.a22 (by conv => lhs; whnf)) (fun q => nomatch q) ?_) | (refine x0 rfl (o_loadRS (by rfl) Ty.a22 (by conv => lhs; whnf)) (fun q => nomatch q) ?_)
  first | (refine x0 rfl (o_lenL (by rfl) Ty.e22 rfl) (fun q => nomatch q) ?_) | (refine x0 rfl (o_lenR (by rfl) (by conv => lhs; whnf) Ty.e22 rfl) (fun q => nomatch q) ?_)
  first | (refine x0 rfl (o_cmp (by rfl) (by rfl) (c_gtT (by omega))) (fun q => nomatch q) ?_) | (refine x0 rfl (o_cmp (by rfl) (by rfl) (c_gtF (by omega))) (fun q => nomatch q) ?_) | (refine x0 rfl (o_cmp (by rfl) (by rfl) (c_gtT (by first | rfl | decide))) (fun q => nomatch q) ?_) | (refine x0 rfl (o_cmp (by rfl) (by rfl) (c_gtF (by first | decide | (simp; done) | (simp; omega)))) (fun q => nomatch q) ?_)
  refine x0 rfl (o_move (by conv => lhs; whnf)) (fun q => nomatch q) ?_
  refine x0 rfl (o_call  rfl Try.func12 rfl (by decide) rfl rfl rfl (C2.shown_ok) rfl) (fun q => nomatch q) ?_
  first | (refine x0 rfl (o_not (by rfl) (by conv => lhs; whnf)) (fun q => nomatch q) ?_) | (refine x_skip rfl ?_)
  first | (refine x0 rfl (o_pickT (by rfl) (by conv => lhs; whnf)) (fun q => nomatch q) ?_) | (refine x0 rfl (o_pickF (by rfl) (by conv => lhs; whnf)) (fun q => nomatch q) ?_)
  refine x_nil ?_
  refine pw_cond false (by rfl) (fun q => nomatch q) (fun _ => ?_)
  refine pw_skip ?_
  refine pw_seq ?_
  refine pw_reg (by kernel_rfl) ?_
  first | (refine x0 rfl (o_loadA (by rfl) (by conv => lhs; whnf) rfl Ty.a24 Ty.s24 (Nat.le_of_ble_eq_true rfl) (by conv => lhs; whnf)) (fun q => nomatch q) ?_) | (refine x0 rfl (o_loadRA (by rfl) Ty.a24 Ty.s24 (Nat.le_of_ble_eq_true rfl) (by conv => lhs; whnf)) (fun q => nomatch q) ?_)
  refine x0 rfl (o_move (by conv => lhs; whnf)) (fun q => nomatch q) ?_
  refine x_cal rfl (o_callF (ls := [])  rfl Try.func13 rfl (by decide) rfl rfl rfl (C2.push_full t L L rfl c x hc) rfl) (fun q => nomatch q) ?_
  refine x0 rfl (o_move (by conv => lhs; whnf)) (fun q => nomatch q) ?_
  refine x0 rfl (o_extract (by conv => lhs; whnf) (by conv => lhs; whnf)) (fun q => nomatch q) ?_
  refine x0 rfl (o_extract (by conv => lhs; whnf) (by conv => lhs; whnf)) (fun q => nomatch q) ?_
  refine x1 rfl (o_alloc (z := 2) rfl Ty.z24 (by conv => lhs; whnf) rfl rfl) rfl (fun q => nomatch q) (fun q => nomatch q) ?_
  refine x_sto rfl (o_store (by conv => lhs; whnf) (by conv => lhs; whnf) (by conv => lhs; whnf) rfl Ty.s24 (Nat.le_of_ble_eq_true rfl) rfl) (by conv => lhs; whnf) rfl (Nat.zero_le _) (Nat.le_of_ble_eq_true rfl) rfl (by conv => lhs; whnf) (by conv => lhs; whnf) (by conv => lhs; whnf) (fun q => nomatch q) (fun q => nomatch q) ?_
  refine x0 rfl (o_assign (by conv => lhs; whnf)) (fun q => nomatch q) ?_
  refine x_nil ?_
  refine pw_seq ?_
  refine pw_reg (by kernel_rfl) ?_
  first | (refine x0 rfl (o_loadA (by rfl) (by conv => lhs; whnf) rfl Ty.a24 Ty.s24 (Nat.le_of_ble_eq_true rfl) (by conv => lhs; whnf)) (fun q => nomatch q) ?_) | (refine x0 rfl (o_loadRA (by rfl) Ty.a24 Ty.s24 (Nat.le_of_ble_eq_true rfl) (by conv => lhs; whnf)) (fun q => nomatch q) ?_)
  refine x0 rfl (o_move (by conv => lhs; whnf)) (fun q => nomatch q) ?_
  refine x_cal rfl (o_callF (ls := [])  rfl Try.func13 rfl (by decide) rfl rfl rfl (C2.push_full t L L rfl c y hc) rfl) (fun q => nomatch q) ?_
  refine x0 rfl (o_move (by conv => lhs; whnf)) (fun q => nomatch q) ?_
  refine x0 rfl (o_extract (by conv => lhs; whnf) (by conv => lhs; whnf)) (fun q => nomatch q) ?_
  refine x0 rfl (o_extract (by conv => lhs; whnf) (by conv => lhs; whnf)) (fun q => nomatch q) ?_
  refine x1 rfl (o_alloc (z := 2) rfl Ty.z24 (by conv => lhs; whnf) rfl rfl) rfl (fun q => nomatch q) (fun q => nomatch q) ?_
  refine x_sto rfl (o_store (by conv => lhs; whnf) (by conv => lhs; whnf) (by conv => lhs; whnf) rfl Ty.s24 (Nat.le_of_ble_eq_true rfl) rfl) (by conv => lhs; whnf) rfl (Nat.zero_le _) (Nat.le_of_ble_eq_true rfl) rfl (by conv => lhs; whnf) (by conv => lhs; whnf) (by conv => lhs; whnf) (fun q => nomatch q) (fun q => nomatch q) ?_
  refine x0 rfl (o_assign (by conv => lhs; whnf)) (fun q => nomatch q) ?_
  refine x_nil ?_
  refine pw_seq ?_
  refine pw_reg (by kernel_rfl) ?_
  first | (refine x0 rfl (o_fieldAddrP (by rfl) Ty.f24_0 (by conv => lhs; whnf)) (fun q => nomatch q) ?_) | (refine x0 rfl (o_fieldAddrR (by rfl) Ty.f24_0 (by conv => lhs; whnf)) (fun q => nomatch q) ?_)
  first | (refine x0 rfl (o_loadS (by rfl) (by conv => lhs; whnf) rfl Ty.a22 (by conv => lhs; whnf)) (fun q => nomatch q) ?_) | (refine x0 rfl (o_loadRS (by rfl) Ty.a22 (by conv => lhs; whnf)) (fun q => nomatch q) ?_)
  first | (refine x0 rfl (o_lenL (by rfl) Ty.e22 rfl) (fun q => nomatch q) ?_) | (refine x0 rfl (o_lenR (by rfl) (by conv => lhs; whnf) Ty.e22 rfl) (fun q => nomatch q) ?_)
  refine x0 rfl (o_assign (by conv => lhs; whnf)) (fun q => nomatch q) ?_
  refine x_nil ?_
  refine pw_seq ?_
  refine pw_seq ?_
  refine pw_reg (by kernel_rfl) ?_
  refine x0 rfl (o_move (by conv => lhs; whnf)) (fun q => nomatch q) ?_
  first | (refine x0 rfl (o_cmp (by rfl) (by rfl) (c_neT (by omega))) (fun q => nomatch q) ?_) | (refine x0 rfl (o_cmp (by rfl) (by rfl) (c_neF (by omega))) (fun q => nomatch q) ?_) | (refine x0 rfl (o_cmp (by rfl) (by rfl) (c_neT (by first | rfl | decide))) (fun q => nomatch q) ?_) | (refine x0 rfl (o_cmp (by rfl) (by rfl) (c_neF (by first | decide | (simp; done) | (simp; omega)))) (fun q => nomatch q) ?_)
  refine x_nil ?_
  refine pw_cond true (by rfl) (fun _ => ?_) (fun q => nomatch q)
  refine pw_seq ?_
  refine pw_reg (by kernel_rfl) ?_
  refine x0 rfl (o_move (by conv => lhs; whnf)) (fun q => nomatch q) ?_
  refine x0 rfl (o_move (by conv => lhs; whnf)) (fun q => nomatch q) ?_
  first | (refine x0 rfl (o_cmp (by rfl) (by rfl) (c_eqT (by omega))) (fun q => nomatch q) ?_) | (refine x0 rfl (o_cmp (by rfl) (by rfl) (c_eqF (by omega))) (fun q => nomatch q) ?_) | (refine x0 rfl (o_cmp (by rfl) (by rfl) (c_eqT (by first | rfl | decide))) (fun q => nomatch q) ?_) | (refine x0 rfl (o_cmp (by rfl) (by rfl) (c_eqF (by first | decide | (simp; done) | (simp; omega)))) (fun q => nomatch q) ?_)
  refine x0 rfl (o_move (by conv => lhs; whnf)) (fun q => nomatch q) ?_
  first | (refine x0 rfl (o_loadA (by rfl) (by conv => lhs; whnf) rfl Ty.a24 Ty.s24 (Nat.le_of_ble_eq_true rfl) (by conv => lhs; whnf)) (fun q => nomatch q) ?_) | (refine x0 rfl (o_loadRA (by rfl) Ty.a24 Ty.s24 (Nat.le_of_ble_eq_true rfl) (by conv => lhs; whnf)) (fun q => nomatch q) ?_) | (refine x_skip rfl ?_)
  refine x0 rfl (o_call  rfl Try.func22 rfl (by decide) rfl rfl rfl (C2.len_ok t L c) rfl) (fun q => nomatch q) ?_
  first | (refine x0 rfl (o_move (by conv => lhs; whnf)) (fun q => nomatch q) ?_) | (refine x_skip rfl ?_)
  refine x0 rfl (o_cmp (by rfl) (by rfl) (c_eqT rfl)) (fun q => nomatch q) ?_
  first | (refine x0 rfl (o_pickT (by rfl) (by conv => lhs; whnf)) (fun q => nomatch q) ?_) | (refine x0 rfl (o_pickF (by rfl) (by conv => lhs; whnf)) (fun q => nomatch q) ?_)
  refine x0 rfl (o_assign (by conv => lhs; whnf)) (fun q => nomatch q) ?_
  refine x_nil ?_
  refine pw_ret ?_
  exact ⟨[_], ⟨rfl, trivial⟩, rfl, by (first | exact .inl rfl | exact .inr rfl)⟩

set_option maxRecDepth 100000 in
set_option maxHeartbeats 4000000 in
theorem own_ok (t : Bool) (L M1 M2 : List PV) (c x y : Int) (hI : Ints L) (hl : L.length ≤ 60) (hc : L.length < c) (m1 : L ++ [.int .i64 x] = M1) (m2 : L ++ [.int .i64 y] = M2) (i1 : Ints M1) (i2 : Ints M2) (n1 : M1.length = L.length + 1) (n2 : M2.length = L.length + 1) : PCalls Try.prog 6 [.agg [.lst t L, .int .i64 c], .int .i64 x, .int .i64 y] (.bool true) := by
  refine pc_intro (N := 101) Try.func6 rfl rfl (Nat.le_of_ble_eq_true rfl) fun w0 imm0 => ?_
  refine pw_seq ?_
  refine pw_reg (by kernel_rfl) ?_
  refine x1 rfl (o_box (z := 2) (by conv => lhs; whnf) rfl rfl rfl (by conv => lhs; whnf)) rfl (fun q => nomatch q) (fun q => nomatch q) ?_
  refine x0 rfl (o_assign (by conv => lhs; whnf)) (fun q => nomatch q) ?_
  refine x_nil ?_
  refine pw_seq ?_
  refine pw_seq ?_
  refine pw_reg (by kernel_rfl) ?_
  first | (refine x0 rfl (o_fieldAddrP (by rfl) Ty.f24_0 (by conv => lhs; whnf)) (fun q => nomatch q) ?_) | (refine x0 rfl (o_fieldAddrR (by rfl) Ty.f24_0 (by conv => lhs; whnf)) (fun q => nomatch q) ?_)
  first | (refine x0 rfl (o_loadS (by rfl) (by conv => lhs; whnf) rfl Ty.a22 (by conv => lhs; whnf)) (fun q => nomatch q) ?_) | (refine x0 rfl (o_loadRS (by rfl) Ty.a22 (by conv => lhs; whnf)) (fun q => nomatch q) ?_)
  first | (refine x0 rfl (o_lenL (by rfl) Ty.e22 rfl) (fun q => nomatch q) ?_) | (refine x0 rfl (o_lenR (by rfl) (by conv => lhs; whnf) Ty.e22 rfl) (fun q => nomatch q) ?_)
  first | (refine x0 rfl (o_cmp (by rfl) (by rfl) (c_gtT (by omega))) (fun q => nomatch q) ?_) | (refine x0 rfl (o_cmp (by rfl) (by rfl) (c_gtF (by omega))) (fun q => nomatch q) ?_) | (refine x0 rfl (o_cmp (by rfl) (by rfl) (c_gtT (by first | rfl | decide))) (fun q => nomatch q) ?_) | (refine x0 rfl (o_cmp (by rfl) (by rfl) (c_gtF (by first | decide | (simp; done) | (simp; omega)))) (fun q => nomatch q) ?_)
  refine x0 rfl (o_move (by conv => lhs; whnf)) (fun q => nomatch q) ?_
  refine x0 rfl (o_call  rfl Try.func12 rfl (by decide) rfl rfl rfl (C2.shown_ok) rfl) (fun q => nomatch q) ?_
  first | (refine x0 rfl (o_not (by rfl) (by conv => lhs; whnf)) (fun q => nomatch q) ?_) | (refine x_skip rfl ?_)
  first | (refine x0 rfl (o_pickT (by rfl) (by conv => lhs; whnf)) (fun q => nomatch q) ?_) | (refine x0 rfl (o_pickF (by rfl) (by conv => lhs; whnf)) (fun q => nomatch q) ?_)
  refine x_nil ?_
  refine pw_cond false (by rfl) (fun q => nomatch q) (fun _ => ?_)
  refine pw_skip ?_
  refine pw_seq ?_
  refine pw_reg (by kernel_rfl) ?_
  first | (refine x0 rfl (o_loadA (by rfl) (by conv => lhs; whnf) rfl Ty.a24 Ty.s24 (Nat.le_of_ble_eq_true rfl) (by conv => lhs; whnf)) (fun q => nomatch q) ?_) | (refine x0 rfl (o_loadRA (by rfl) Ty.a24 Ty.s24 (Nat.le_of_ble_eq_true rfl) (by conv => lhs; whnf)) (fun q => nomatch q) ?_)
  refine x0 rfl (o_move (by conv => lhs; whnf)) (fun q => nomatch q) ?_
  refine x_cal rfl (o_callF (ls := [])  rfl Try.func13 rfl (by decide) rfl rfl rfl (C2.push_ok t L M1 hI.len c x m1 hc (by omega)) rfl) (fun q => nomatch q) ?_
  refine x0 rfl (o_move (by conv => lhs; whnf)) (fun q => nomatch q) ?_
  refine x0 rfl (o_extract (by conv => lhs; whnf) (by conv => lhs; whnf)) (fun q => nomatch q) ?_
  refine x0 rfl (o_extract (by conv => lhs; whnf) (by conv => lhs; whnf)) (fun q => nomatch q) ?_
  refine x1 rfl (o_alloc (z := 2) rfl Ty.z24 (by conv => lhs; whnf) rfl rfl) rfl (fun q => nomatch q) (fun q => nomatch q) ?_
  refine x_sto rfl (o_store (by conv => lhs; whnf) (by conv => lhs; whnf) (by conv => lhs; whnf) rfl Ty.s24 (Nat.le_of_ble_eq_true rfl) rfl) (by conv => lhs; whnf) rfl (Nat.zero_le _) (Nat.le_of_ble_eq_true rfl) rfl (by conv => lhs; whnf) (by conv => lhs; whnf) (by conv => lhs; whnf) (fun q => nomatch q) (fun q => nomatch q) ?_
  refine x0 rfl (o_assign (by conv => lhs; whnf)) (fun q => nomatch q) ?_
  refine x_nil ?_
  refine pw_seq ?_
  refine pw_reg (by kernel_rfl) ?_
  first | (refine x0 rfl (o_loadA (by rfl) (by conv => lhs; whnf) rfl Ty.a24 Ty.s24 (Nat.le_of_ble_eq_true rfl) (by conv => lhs; whnf)) (fun q => nomatch q) ?_) | (refine x0 rfl (o_loadRA (by rfl) Ty.a24 Ty.s24 (Nat.le_of_ble_eq_true rfl) (by conv => lhs; whnf)) (fun q => nomatch q) ?_)
  refine x0 rfl (o_move (by conv => lhs; whnf)) (fun q => nomatch q) ?_
  refine x_cal rfl (o_callF (ls := [])  rfl Try.func13 rfl (by decide) rfl rfl rfl (C2.push_ok t L M2 hI.len c y m2 hc (by omega)) rfl) (fun q => nomatch q) ?_
  refine x0 rfl (o_move (by conv => lhs; whnf)) (fun q => nomatch q) ?_
  refine x0 rfl (o_extract (by conv => lhs; whnf) (by conv => lhs; whnf)) (fun q => nomatch q) ?_
  refine x0 rfl (o_extract (by conv => lhs; whnf) (by conv => lhs; whnf)) (fun q => nomatch q) ?_
  refine x1 rfl (o_alloc (z := 2) rfl Ty.z24 (by conv => lhs; whnf) rfl rfl) rfl (fun q => nomatch q) (fun q => nomatch q) ?_
  refine x_sto rfl (o_store (by conv => lhs; whnf) (by conv => lhs; whnf) (by conv => lhs; whnf) rfl Ty.s24 (Nat.le_of_ble_eq_true rfl) rfl) (by conv => lhs; whnf) rfl (Nat.zero_le _) (Nat.le_of_ble_eq_true rfl) rfl (by conv => lhs; whnf) (by conv => lhs; whnf) (by conv => lhs; whnf) (fun q => nomatch q) (fun q => nomatch q) ?_
  refine x0 rfl (o_assign (by conv => lhs; whnf)) (fun q => nomatch q) ?_
  refine x_nil ?_
  refine pw_seq ?_
  refine pw_reg (by kernel_rfl) ?_
  first | (refine x0 rfl (o_fieldAddrP (by rfl) Ty.f24_0 (by conv => lhs; whnf)) (fun q => nomatch q) ?_) | (refine x0 rfl (o_fieldAddrR (by rfl) Ty.f24_0 (by conv => lhs; whnf)) (fun q => nomatch q) ?_)
  first | (refine x0 rfl (o_loadS (by rfl) (by conv => lhs; whnf) rfl Ty.a22 (by conv => lhs; whnf)) (fun q => nomatch q) ?_) | (refine x0 rfl (o_loadRS (by rfl) Ty.a22 (by conv => lhs; whnf)) (fun q => nomatch q) ?_)
  first | (refine x0 rfl (o_lenL (by rfl) Ty.e22 rfl) (fun q => nomatch q) ?_) | (refine x0 rfl (o_lenR (by rfl) (by conv => lhs; whnf) Ty.e22 rfl) (fun q => nomatch q) ?_)
  refine x0 rfl (o_assign (by conv => lhs; whnf)) (fun q => nomatch q) ?_
  refine x_nil ?_
  refine pw_seq ?_
  refine pw_seq ?_
  refine pw_reg (by kernel_rfl) ?_
  refine x0 rfl (o_move (by conv => lhs; whnf)) (fun q => nomatch q) ?_
  first | (refine x0 rfl (o_cmp (by rfl) (by rfl) (c_neT (by omega))) (fun q => nomatch q) ?_) | (refine x0 rfl (o_cmp (by rfl) (by rfl) (c_neF (by omega))) (fun q => nomatch q) ?_) | (refine x0 rfl (o_cmp (by rfl) (by rfl) (c_neT (by first | rfl | decide))) (fun q => nomatch q) ?_) | (refine x0 rfl (o_cmp (by rfl) (by rfl) (c_neF (by first | decide | (simp; done) | (simp; omega)))) (fun q => nomatch q) ?_)
  refine x_nil ?_
  refine pw_cond false (by rfl) (fun q => nomatch q) (fun _ => ?_)
  refine pw_skip ?_
  refine pw_seq ?_
  refine pw_drw [] Ty.mix (by kernel_rfl) (by kernel_rfl) ?_
  refine x7 rfl (fun _ hN => o_move (by conv => lhs; whnf)) rfl ?_
  first | (refine x7 rfl (fun _ hN => o_cmp (by rfl) (by rfl) (c_eqT (by omega))) rfl ?_) | (refine x7 rfl (fun _ hN => o_cmp (by rfl) (by rfl) (c_eqF (by omega))) rfl ?_) | (refine x7 rfl (fun _ hN => o_cmp (by rfl) (by rfl) (c_eqT (by first | rfl | decide))) rfl ?_) | (refine x7 rfl (fun _ hN => o_cmp (by rfl) (by rfl) (c_eqF (by first | decide | (simp; done) | (simp; omega)))) rfl ?_)
  refine x7 rfl (fun _ hN => o_move (by conv => lhs; whnf)) rfl ?_
  first | (refine x7 rfl (fun _ hN => o_fieldAddrP (by rfl) Ty.f24_0 (by conv => lhs; whnf)) rfl ?_) | (refine x7 rfl (fun _ hN => o_fieldAddrR (by rfl) Ty.f24_0 (by conv => lhs; whnf)) rfl ?_) | (refine x_skip rfl ?_)
  first | (refine x0 rfl (o_loadS (by rfl) (by conv => lhs; whnf) rfl Ty.a22 (by conv => lhs; whnf)) (fun _ => rfl) ?_) | (refine x0 rfl (o_loadRS (by rfl) Ty.a22 (by conv => lhs; whnf)) (fun _ => rfl) ?_) | (refine x_skip rfl ?_)
  first | (refine x0 rfl (o_lenL (by rfl) Ty.e22 rfl) (fun _ => rfl) ?_) | (refine x0 rfl (o_lenR (by rfl) (by conv => lhs; whnf) Ty.e22 rfl) (fun _ => rfl) ?_) | (refine x_skip rfl ?_)
  first | (refine x7 rfl (fun _ hN => o_move (by conv => lhs; whnf)) rfl ?_) | (refine x_skip rfl ?_)
  first | (refine x7 rfl (fun _ hN => o_ari (by rfl) (by rfl) (ari_add (by rfl) (by omega) (by omega))) rfl ?_) | (refine x_skip rfl ?_)
  first | (refine x7 rfl (fun _ hN => o_cmp (by rfl) (by rfl) (c_eqT (by omega))) rfl ?_) | (refine x7 rfl (fun _ hN => o_cmp (by rfl) (by rfl) (c_eqF (by omega))) rfl ?_) | (refine x7 rfl (fun _ hN => o_cmp (by rfl) (by rfl) (c_eqT (by first | rfl | decide))) rfl ?_) | (refine x7 rfl (fun _ hN => o_cmp (by rfl) (by rfl) (c_eqF (by first | decide | (simp; done) | (simp; omega)))) rfl ?_) | (refine x_skip rfl ?_)
  first | (refine x7 rfl (fun _ hN => o_pickT (by rfl) (by conv => lhs; whnf)) rfl ?_) | (refine x7 rfl (fun _ hN => o_pickF (by rfl) (by conv => lhs; whnf)) rfl ?_)
  refine x7 rfl (fun _ hN => o_move (by conv => lhs; whnf)) rfl ?_
  first | (refine x7 rfl (fun _ hN => o_fieldAddrP (by rfl) Ty.f24_0 (by conv => lhs; whnf)) rfl ?_) | (refine x7 rfl (fun _ hN => o_fieldAddrR (by rfl) Ty.f24_0 (by conv => lhs; whnf)) rfl ?_) | (refine x_skip rfl ?_)
  first | (refine x0 rfl (o_loadS (by rfl) (by conv => lhs; whnf) rfl Ty.a22 (by conv => lhs; whnf)) (fun _ => rfl) ?_) | (refine x0 rfl (o_loadRS (by rfl) Ty.a22 (by conv => lhs; whnf)) (fun _ => rfl) ?_) | (refine x_skip rfl ?_)
  first | (refine x0 rfl (o_lenL (by rfl) Ty.e22 rfl) (fun _ => rfl) ?_) | (refine x0 rfl (o_lenR (by rfl) (by conv => lhs; whnf) Ty.e22 rfl) (fun _ => rfl) ?_) | (refine x_skip rfl ?_)
  first | (refine x7 rfl (fun _ hN => o_move (by conv => lhs; whnf)) rfl ?_) | (refine x_skip rfl ?_)
  first | (refine x7 rfl (fun _ hN => o_ari (by rfl) (by rfl) (ari_add (by rfl) (by omega) (by omega))) rfl ?_) | (refine x_skip rfl ?_)
  first | (refine x7 rfl (fun _ hN => o_cmp (by rfl) (by rfl) (c_eqT (by omega))) rfl ?_) | (refine x7 rfl (fun _ hN => o_cmp (by rfl) (by rfl) (c_eqF (by omega))) rfl ?_) | (refine x7 rfl (fun _ hN => o_cmp (by rfl) (by rfl) (c_eqT (by first | rfl | decide))) rfl ?_) | (refine x7 rfl (fun _ hN => o_cmp (by rfl) (by rfl) (c_eqF (by first | decide | (simp; done) | (simp; omega)))) rfl ?_) | (refine x_skip rfl ?_)
  first | (refine x7 rfl (fun _ hN => o_pickT (by rfl) (by conv => lhs; whnf)) rfl ?_) | (refine x7 rfl (fun _ hN => o_pickF (by rfl) (by conv => lhs; whnf)) rfl ?_)
  refine x7 rfl (fun _ hN => o_move (by conv => lhs; whnf)) rfl ?_
  first | (refine x7 rfl (fun _ hN => o_fieldAddrP (by rfl) Ty.f24_0 (by conv => lhs; whnf)) rfl ?_) | (refine x7 rfl (fun _ hN => o_fieldAddrR (by rfl) Ty.f24_0 (by conv => lhs; whnf)) rfl ?_) | (refine x_skip rfl ?_)
  first | (refine x0 rfl (o_loadS (by rfl) (by conv => lhs; whnf) rfl Ty.a22 (by conv => lhs; whnf)) (fun _ => rfl) ?_) | (refine x0 rfl (o_loadRS (by rfl) Ty.a22 (by conv => lhs; whnf)) (fun _ => rfl) ?_) | (refine x_skip rfl ?_)
  first | (refine x7 rfl (fun _ hN => o_move (by conv => lhs; whnf)) rfl ?_) | (refine x_skip rfl ?_)
  first | (refine x0 rfl (o_idxL (m := L.length) (by rfl) (by rfl) (by rfl) (show M1[L.length]? = some (PV.int .i64 x) by rw [← m1]; simp) Ty.e22 Ty.s3 (by rfl) (by conv => lhs; whnf)) (fun _ => rfl) ?_) | (refine x0 rfl (o_idxR (m := L.length) (by rfl) (by conv => lhs; whnf) (by rfl) (by rfl) (show M1[L.length]? = some (PV.int .i64 x) by rw [← m1]; simp) Ty.e22 Ty.s3 rfl) (fun _ => rfl) ?_)
  first | (refine x0 rfl (o_loadS (by rfl) (by conv => lhs; whnf) rfl Ty.a3 (by conv => lhs; whnf)) (fun _ => rfl) ?_) | (refine x0 rfl (o_loadRS (by rfl) Ty.a3 (by conv => lhs; whnf)) (fun _ => rfl) ?_) | (refine x_skip rfl ?_)
  first | (refine x7 rfl (fun _ hN => o_move (by conv => lhs; whnf)) rfl ?_) | (refine x_skip rfl ?_)
  refine x7 rfl (fun _ hN => o_cmp (by rfl) (by rfl) (c_eqT rfl)) rfl ?_
  first | (refine x7 rfl (fun _ hN => o_pickT (by rfl) (by conv => lhs; whnf)) rfl ?_) | (refine x7 rfl (fun _ hN => o_pickF (by rfl) (by conv => lhs; whnf)) rfl ?_)
  refine x7 rfl (fun _ hN => o_move (by conv => lhs; whnf)) rfl ?_
  first | (refine x7 rfl (fun _ hN => o_fieldAddrP (by rfl) Ty.f24_0 (by conv => lhs; whnf)) rfl ?_) | (refine x7 rfl (fun _ hN => o_fieldAddrR (by rfl) Ty.f24_0 (by conv => lhs; whnf)) rfl ?_) | (refine x_skip rfl ?_)
  first | (refine x0 rfl (o_loadS (by rfl) (by conv => lhs; whnf) rfl Ty.a22 (by conv => lhs; whnf)) (fun _ => rfl) ?_) | (refine x0 rfl (o_loadRS (by rfl) Ty.a22 (by conv => lhs; whnf)) (fun _ => rfl) ?_) | (refine x_skip rfl ?_)
  first | (refine x7 rfl (fun _ hN => o_move (by conv => lhs; whnf)) rfl ?_) | (refine x_skip rfl ?_)
  first | (refine x0 rfl (o_idxL (m := L.length) (by rfl) (by rfl) (by rfl) (show M2[L.length]? = some (PV.int .i64 y) by rw [← m2]; simp) Ty.e22 Ty.s3 (by rfl) (by conv => lhs; whnf)) (fun _ => rfl) ?_) | (refine x0 rfl (o_idxR (m := L.length) (by rfl) (by conv => lhs; whnf) (by rfl) (by rfl) (show M2[L.length]? = some (PV.int .i64 y) by rw [← m2]; simp) Ty.e22 Ty.s3 rfl) (fun _ => rfl) ?_)
  first | (refine x0 rfl (o_loadS (by rfl) (by conv => lhs; whnf) rfl Ty.a3 (by conv => lhs; whnf)) (fun _ => rfl) ?_) | (refine x0 rfl (o_loadRS (by rfl) Ty.a3 (by conv => lhs; whnf)) (fun _ => rfl) ?_) | (refine x_skip rfl ?_)
  first | (refine x7 rfl (fun _ hN => o_move (by conv => lhs; whnf)) rfl ?_) | (refine x_skip rfl ?_)
  refine x7 rfl (fun _ hN => o_cmp (by rfl) (by rfl) (c_eqT rfl)) rfl ?_
  first | (refine x7 rfl (fun _ hN => o_pickT (by rfl) (by conv => lhs; whnf)) rfl ?_) | (refine x7 rfl (fun _ hN => o_pickF (by rfl) (by conv => lhs; whnf)) rfl ?_)
  refine x7 rfl (fun _ hN => o_move (by conv => lhs; whnf)) rfl ?_
  first | (refine x7 rfl (fun _ hN => o_fieldAddrP (by rfl) Ty.f24_0 (by conv => lhs; whnf)) rfl ?_) | (refine x7 rfl (fun _ hN => o_fieldAddrR (by rfl) Ty.f24_0 (by conv => lhs; whnf)) rfl ?_) | (refine x_skip rfl ?_)
  first | (refine x0 rfl (o_loadS (by rfl) (by conv => lhs; whnf) rfl Ty.a22 (by conv => lhs; whnf)) (fun _ => rfl) ?_) | (refine x0 rfl (o_loadRS (by rfl) Ty.a22 (by conv => lhs; whnf)) (fun _ => rfl) ?_) | (refine x_skip rfl ?_)
  first | (refine x7 rfl (fun _ hN => o_move (by conv => lhs; whnf)) rfl ?_) | (refine x_skip rfl ?_)
  refine x0 rfl (o_slice (t' := (false && decide (L.length = M1.length))) (ys := L) (i := 0) (j := L.length) (k := M1.length) (by conv => lhs; whnf) Ty.e22 Ty.s3 i1.len rfl ⟨_, rfl⟩ rfl (by first | (intro _; rfl) | (intro q; cases q)) (by first | omega | (simp only [List.length_cons]; omega)) (by first | omega | (simp only [List.length_cons]; omega)) (by first | omega | (simp only [List.length_cons]; omega)) (by simp) (by rw [← m1]; simp)) (fun _ => rfl) ?_
  first | (refine x7 rfl (fun _ hN => o_fieldAddrP (by rfl) Ty.f24_0 (by conv => lhs; whnf)) rfl ?_) | (refine x7 rfl (fun _ hN => o_fieldAddrR (by rfl) Ty.f24_0 (by conv => lhs; whnf)) rfl ?_) | (refine x_skip rfl ?_)
  first | (refine x0 rfl (o_loadS (by rfl) (by conv => lhs; whnf) rfl Ty.a22 (by conv => lhs; whnf)) (fun _ => rfl) ?_) | (refine x0 rfl (o_loadRS (by rfl) Ty.a22 (by conv => lhs; whnf)) (fun _ => rfl) ?_) | (refine x_skip rfl ?_)
  refine x0 rfl (o_call  rfl Try.func21 rfl (by decide) rfl rfl rfl (C2.ints_ok (false && decide (L.length = M1.length)) t L hI (by omega)) rfl) (fun _ => .inl rfl) ?_
  first | (refine x7 rfl (fun _ hN => o_pickT (by rfl) (by conv => lhs; whnf)) rfl ?_) | (refine x7 rfl (fun _ hN => o_pickF (by rfl) (by conv => lhs; whnf)) rfl ?_)
  refine x7 rfl (fun _ hN => o_move (by conv => lhs; whnf)) rfl ?_
  first | (refine x7 rfl (fun _ hN => o_fieldAddrP (by rfl) Ty.f24_0 (by conv => lhs; whnf)) rfl ?_) | (refine x7 rfl (fun _ hN => o_fieldAddrR (by rfl) Ty.f24_0 (by conv => lhs; whnf)) rfl ?_) | (refine x_skip rfl ?_)
  first | (refine x0 rfl (o_loadS (by rfl) (by conv => lhs; whnf) rfl Ty.a22 (by conv => lhs; whnf)) (fun _ => rfl) ?_) | (refine x0 rfl (o_loadRS (by rfl) Ty.a22 (by conv => lhs; whnf)) (fun _ => rfl) ?_) | (refine x_skip rfl ?_)
  first | (refine x7 rfl (fun _ hN => o_move (by conv => lhs; whnf)) rfl ?_) | (refine x_skip rfl ?_)
  refine x0 rfl (o_slice (t' := (false && decide (L.length = M2.length))) (ys := L) (i := 0) (j := L.length) (k := M2.length) (by conv => lhs; whnf) Ty.e22 Ty.s3 i2.len rfl ⟨_, rfl⟩ rfl (by first | (intro _; rfl) | (intro q; cases q)) (by first | omega | (simp only [List.length_cons]; omega)) (by first | omega | (simp only [List.length_cons]; omega)) (by first | omega | (simp only [List.length_cons]; omega)) (by simp) (by rw [← m2]; simp)) (fun _ => rfl) ?_
  first | (refine x7 rfl (fun _ hN => o_fieldAddrP (by rfl) Ty.f24_0 (by conv => lhs; whnf)) rfl ?_) | (refine x7 rfl (fun _ hN => o_fieldAddrR (by rfl) Ty.f24_0 (by conv => lhs; whnf)) rfl ?_) | (refine x_skip rfl ?_)
  first | (refine x0 rfl (o_loadS (by rfl) (by conv => lhs; whnf) rfl Ty.a22 (by conv => lhs; whnf)) (fun _ => rfl) ?_) | (refine x0 rfl (o_loadRS (by rfl) Ty.a22 (by conv => lhs; whnf)) (fun _ => rfl) ?_) | (refine x_skip rfl ?_)
  refine x0 rfl (o_call  rfl Try.func21 rfl (by decide) rfl rfl rfl (C2.ints_ok (false && decide (L.length = M2.length)) t L hI (by omega)) rfl) (fun _ => .inl rfl) ?_
  first | (refine x7 rfl (fun _ hN => o_pickT (by rfl) (by conv => lhs; whnf)) rfl ?_) | (refine x7 rfl (fun _ hN => o_pickF (by rfl) (by conv => lhs; whnf)) rfl ?_)
  refine x7 rfl (fun _ hN => o_assign (by conv => lhs; whnf)) rfl ?_
  refine x_nil ?_
  refine pw_ret ?_
  exact ⟨[_], ⟨rfl, trivial⟩, rfl, by (first | exact .inl rfl | exact .inr rfl)⟩

set_option maxRecDepth 100000 in
set_option maxHeartbeats 4000000 in
theorem parts_big (t : Bool) (L : List PV) (c n m : Int) (hl : 100 < L.length) : PCalls Try.prog 7 [.agg [.lst t L, .int .i64 c], .int .u8 n, .int .u8 m] (.bool true) := by
  refine pc_intro (N := 60) Try.func7 rfl rfl (Nat.le_of_ble_eq_true rfl) fun w0 imm0 => ?_
  refine pw_seq ?_
  refine pw_reg (by kernel_rfl) ?_
  refine x1 rfl (o_box (z := 2) (by conv => lhs; whnf) rfl rfl rfl (by conv => lhs; whnf)) rfl (fun q => nomatch q) (fun q => nomatch q) ?_
  refine x0 rfl (o_assign (by conv => lhs; whnf)) (fun q => nomatch q) ?_
  refine x_nil ?_
  refine pw_seq ?_
  refine pw_seq ?_
  refine pw_reg (by kernel_rfl) ?_
  first | (refine x0 rfl (o_fieldAddrP (by rfl) Ty.f24_0 (by conv => lhs; whnf)) (fun q => nomatch q) ?_) | (refine x0 rfl (o_fieldAddrR (by rfl) Ty.f24_0 (by conv => lhs; whnf)) (fun q => nomatch q) ?_)
  first | (refine x0 rfl (o_loadS (by rfl) (by conv => lhs; whnf) rfl Ty.a22 (by conv => lhs; whnf)) (fun q => nomatch q) ?_) | (refine x0 rfl (o_loadRS (by rfl) Ty.a22 (by conv => lhs; whnf)) (fun q => nomatch q) ?_)
  first | (refine x0 rfl (o_lenL (by rfl) Ty.e22 rfl) (fun q => nomatch q) ?_) | (refine x0 rfl (o_lenR (by rfl) (by conv => lhs; whnf) Ty.e22 rfl) (fun q => nomatch q) ?_)
  first | (refine x0 rfl (o_cmp (by rfl) (by rfl) (c_gtT (by omega))) (fun q => nomatch q) ?_) | (refine x0 rfl (o_cmp (by rfl) (by rfl) (c_gtF (by omega))) (fun q => nomatch q) ?_) | (refine x0 rfl (o_cmp (by rfl) (by rfl) (c_gtT (by first | rfl | decide))) (fun q => nomatch q) ?_) | (refine x0 rfl (o_cmp (by rfl) (by rfl) (c_gtF (by first | decide | (simp; done) | (simp; omega)))) (fun q => nomatch q) ?_)
  refine x0 rfl (o_move (by conv => lhs; whnf)) (fun q => nomatch q) ?_
  refine x_skip rfl ?_
  first | (refine x0 rfl (o_not (by rfl) (by conv => lhs; whnf)) (fun q => nomatch q) ?_) | (refine x_skip rfl ?_)
  first | (refine x0 rfl (o_pickT (by rfl) (by conv => lhs; whnf)) (fun q => nomatch q) ?_) | (refine x0 rfl (o_pickF (by rfl) (by conv => lhs; whnf)) (fun q => nomatch q) ?_)
  refine x_nil ?_
  refine pw_cond true (by rfl) (fun _ => ?_) (fun q => nomatch q)
  refine pw_seq ?_
  refine pw_reg (by kernel_rfl) ?_
  refine x0 rfl (o_call  rfl Try.func12 rfl (by decide) rfl rfl rfl (C2.shown_ok) rfl) (fun q => nomatch q) ?_
  refine x0 rfl (o_assign (by conv => lhs; whnf)) (fun q => nomatch q) ?_
  refine x_nil ?_
  refine pw_ret ?_
  exact ⟨[_], ⟨rfl, trivial⟩, rfl, by (first | exact .inl rfl | exact .inr rfl)⟩

set_option maxRecDepth 100000 in
set_option maxHeartbeats 4000000 in
theorem parts_ok (t : Bool) (L D1 T1 D2 T2 T3 : List PV) (c n m : Int) (hl : L.length ≤ 100) (n0 : 0 ≤ n) (n1 : n < 256) (m0 : 0 ≤ m) (m1 : m < 256) (j1 : Ints D1) (j2 : Ints T1) (j3 : Ints D2) (j4 : Ints T2) (hT : T1 ++ T2 = T3) (l1 : T1.length ≤ 100) (l2 : T2.length ≤ 100) (l3 : D2.length ≤ 100) (j5 : Ints T3)
    (h1 : PCalls Try.prog 18 [.agg [.lst t L, .int .i64 c], .int .i64 n] (.tup [.agg [.lst true D1, .int .i64 c], .lst true T1])) (h2 : PCalls Try.prog 18 [.agg [.lst true D1, .int .i64 c], .int .i64 m] (.tup [.agg [.lst true D2, .int .i64 c], .lst true T2]))
    (h3 : PCalls Try.prog 18 [.agg [.lst t L, .int .i64 c], .int .i64 (n + m)] (.tup [.agg [.lst true D2, .int .i64 c], .lst true T3])) : PCalls Try.prog 7 [.agg [.lst t L, .int .i64 c], .int .u8 n, .int .u8 m] (.bool true) := by
  refine pc_intro (N := 60) Try.func7 rfl rfl (Nat.le_of_ble_eq_true rfl) fun w0 imm0 => ?_
  refine pw_seq ?_
  refine pw_reg (by kernel_rfl) ?_
  refine x1 rfl (o_box (z := 2) (by conv => lhs; whnf) rfl rfl rfl (by conv => lhs; whnf)) rfl (fun q => nomatch q) (fun q => nomatch q) ?_
  refine x0 rfl (o_assign (by conv => lhs; whnf)) (fun q => nomatch q) ?_
  refine x_nil ?_
  refine pw_seq ?_
  refine pw_seq ?_
  refine pw_reg (by kernel_rfl) ?_
  first | (refine x0 rfl (o_fieldAddrP (by rfl) Ty.f24_0 (by conv => lhs; whnf)) (fun q => nomatch q) ?_) | (refine x0 rfl (o_fieldAddrR (by rfl) Ty.f24_0 (by conv => lhs; whnf)) (fun q => nomatch q) ?_)
  first | (refine x0 rfl (o_loadS (by rfl) (by conv => lhs; whnf) rfl Ty.a22 (by conv => lhs; whnf)) (fun q => nomatch q) ?_) | (refine x0 rfl (o_loadRS (by rfl) Ty.a22 (by conv => lhs; whnf)) (fun q => nomatch q) ?_)
  first | (refine x0 rfl (o_lenL (by rfl) Ty.e22 rfl) (fun q => nomatch q) ?_) | (refine x0 rfl (o_lenR (by rfl) (by conv => lhs; whnf) Ty.e22 rfl) (fun q => nomatch q) ?_)
  first | (refine x0 rfl (o_cmp (by rfl) (by rfl) (c_gtT (by omega))) (fun q => nomatch q) ?_) | (refine x0 rfl (o_cmp (by rfl) (by rfl) (c_gtF (by omega))) (fun q => nomatch q) ?_) | (refine x0 rfl (o_cmp (by rfl) (by rfl) (c_gtT (by first | rfl | decide))) (fun q => nomatch q) ?_) | (refine x0 rfl (o_cmp (by rfl) (by rfl) (c_gtF (by first | decide | (simp; done) | (simp; omega)))) (fun q => nomatch q) ?_)
  refine x0 rfl (o_move (by conv => lhs; whnf)) (fun q => nomatch q) ?_
  refine x0 rfl (o_call  rfl Try.func12 rfl (by decide) rfl rfl rfl (C2.shown_ok) rfl) (fun q => nomatch q) ?_
  first | (refine x0 rfl (o_not (by rfl) (by conv => lhs; whnf)) (fun q => nomatch q) ?_) | (refine x_skip rfl ?_)
  first | (refine x0 rfl (o_pickT (by rfl) (by conv => lhs; whnf)) (fun q => nomatch q) ?_) | (refine x0 rfl (o_pickF (by rfl) (by conv => lhs; whnf)) (fun q => nomatch q) ?_)
  refine x_nil ?_
  refine pw_cond false (by rfl) (fun q => nomatch q) (fun _ => ?_)
  refine pw_skip ?_
  refine pw_seq ?_
  refine pw_reg (by kernel_rfl) ?_
  first | (refine x0 rfl (o_loadA (by rfl) (by conv => lhs; whnf) rfl Ty.a24 Ty.s24 (Nat.le_of_ble_eq_true rfl) (by conv => lhs; whnf)) (fun q => nomatch q) ?_) | (refine x0 rfl (o_loadRA (by rfl) Ty.a24 Ty.s24 (Nat.le_of_ble_eq_true rfl) (by conv => lhs; whnf)) (fun q => nomatch q) ?_)
  refine x0 rfl (o_move (by conv => lhs; whnf)) (fun q => nomatch q) ?_
  refine x0 rfl (o_conv (by conv => lhs; whnf) Ty.u5 Ty.i3 (wrap_in (by omega) (by omega))) (fun q => nomatch q) ?_
  refine x_cal rfl (o_callF (ls := [])  rfl Try.func18 rfl (by decide) rfl rfl rfl (h1) rfl) (fun q => nomatch q) ?_
  refine x0 rfl (o_move (by conv => lhs; whnf)) (fun q => nomatch q) ?_
  refine x0 rfl (o_extract (by conv => lhs; whnf) (by conv => lhs; whnf)) (fun q => nomatch q) ?_
  refine x0 rfl (o_extract (by conv => lhs; whnf) (by conv => lhs; whnf)) (fun q => nomatch q) ?_
  refine x1 rfl (o_alloc (z := 2) rfl Ty.z24 (by conv => lhs; whnf) rfl rfl) rfl (fun q => nomatch q) (fun q => nomatch q) ?_
  refine x_sto rfl (o_store (by conv => lhs; whnf) (by conv => lhs; whnf) (by conv => lhs; whnf) rfl Ty.s24 (Nat.le_of_ble_eq_true rfl) rfl) (by conv => lhs; whnf) rfl (Nat.zero_le _) (Nat.le_of_ble_eq_true rfl) rfl (by conv => lhs; whnf) (by conv => lhs; whnf) (by conv => lhs; whnf) (fun q => nomatch q) (fun q => nomatch q) ?_
  refine x0 rfl (o_assign (by conv => lhs; whnf)) (fun q => nomatch q) ?_
  refine x_nil ?_
  refine pw_seq ?_
  refine pw_reg (by kernel_rfl) ?_
  first | (refine x0 rfl (o_loadA (by rfl) (by conv => lhs; whnf) rfl Ty.a24 Ty.s24 (Nat.le_of_ble_eq_true rfl) (by conv => lhs; whnf)) (fun q => nomatch q) ?_) | (refine x0 rfl (o_loadRA (by rfl) Ty.a24 Ty.s24 (Nat.le_of_ble_eq_true rfl) (by conv => lhs; whnf)) (fun q => nomatch q) ?_)
  refine x0 rfl (o_move (by conv => lhs; whnf)) (fun q => nomatch q) ?_
  refine x0 rfl (o_conv (by conv => lhs; whnf) Ty.u5 Ty.i3 (wrap_in (by omega) (by omega))) (fun q => nomatch q) ?_
  refine x_cal rfl (o_callF (ls := [])  rfl Try.func18 rfl (by decide) rfl rfl rfl (h2) rfl) (fun q => nomatch q) ?_
  refine x0 rfl (o_move (by conv => lhs; whnf)) (fun q => nomatch q) ?_
  refine x0 rfl (o_extract (by conv => lhs; whnf) (by conv => lhs; whnf)) (fun q => nomatch q) ?_
  refine x0 rfl (o_extract (by conv => lhs; whnf) (by conv => lhs; whnf)) (fun q => nomatch q) ?_
  refine x1 rfl (o_alloc (z := 2) rfl Ty.z24 (by conv => lhs; whnf) rfl rfl) rfl (fun q => nomatch q) (fun q => nomatch q) ?_
  refine x_sto rfl (o_store (by conv => lhs; whnf) (by conv => lhs; whnf) (by conv => lhs; whnf) rfl Ty.s24 (Nat.le_of_ble_eq_true rfl) rfl) (by conv => lhs; whnf) rfl (Nat.zero_le _) (Nat.le_of_ble_eq_true rfl) rfl (by conv => lhs; whnf) (by conv => lhs; whnf) (by conv => lhs; whnf) (fun q => nomatch q) (fun q => nomatch q) ?_
  refine x0 rfl (o_assign (by conv => lhs; whnf)) (fun q => nomatch q) ?_
  refine x_nil ?_
  refine pw_seq ?_
  refine pw_reg (by kernel_rfl) ?_
  first | (refine x0 rfl (o_loadA (by rfl) (by conv => lhs; whnf) rfl Ty.a24 Ty.s24 (Nat.le_of_ble_eq_true rfl) (by conv => lhs; whnf)) (fun q => nomatch q) ?_) | (refine x0 rfl (o_loadRA (by rfl) Ty.a24 Ty.s24 (Nat.le_of_ble_eq_true rfl) (by conv => lhs; whnf)) (fun q => nomatch q) ?_)
  refine x0 rfl (o_move (by conv => lhs; whnf)) (fun q => nomatch q) ?_
  refine x0 rfl (o_conv (by conv => lhs; whnf) Ty.u5 Ty.i3 (wrap_in (by omega) (by omega))) (fun q => nomatch q) ?_
  refine x0 rfl (o_move (by conv => lhs; whnf)) (fun q => nomatch q) ?_
  refine x0 rfl (o_conv (by conv => lhs; whnf) Ty.u5 Ty.i3 (wrap_in (by omega) (by omega))) (fun q => nomatch q) ?_
  refine x0 rfl (o_ari (by rfl) (by rfl) (ari_add (by rfl) (by omega) (by omega))) (fun q => nomatch q) ?_
  refine x_cal rfl (o_callF (ls := [])  rfl Try.func18 rfl (by decide) rfl rfl rfl (h3) rfl) (fun q => nomatch q) ?_
  refine x0 rfl (o_move (by conv => lhs; whnf)) (fun q => nomatch q) ?_
  refine x0 rfl (o_extract (by conv => lhs; whnf) (by conv => lhs; whnf)) (fun q => nomatch q) ?_
  refine x0 rfl (o_extract (by conv => lhs; whnf) (by conv => lhs; whnf)) (fun q => nomatch q) ?_
  refine x1 rfl (o_alloc (z := 2) rfl Ty.z24 (by conv => lhs; whnf) rfl rfl) rfl (fun q => nomatch q) (fun q => nomatch q) ?_
  refine x_sto rfl (o_store (by conv => lhs; whnf) (by conv => lhs; whnf) (by conv => lhs; whnf) rfl Ty.s24 (Nat.le_of_ble_eq_true rfl) rfl) (by conv => lhs; whnf) rfl (Nat.zero_le _) (Nat.le_of_ble_eq_true rfl) rfl (by conv => lhs; whnf) (by conv => lhs; whnf) (by conv => lhs; whnf) (fun q => nomatch q) (fun q => nomatch q) ?_
  refine x0 rfl (o_assign (by conv => lhs; whnf)) (fun q => nomatch q) ?_
  refine x_nil ?_
  refine pw_seq ?_
  refine pw_drw [] Ty.mix (by kernel_rfl) (by kernel_rfl) ?_
  first | (refine x0 rfl (o_loadA (by rfl) (by conv => lhs; whnf) rfl Ty.a24 Ty.s24 (Nat.le_of_ble_eq_true rfl) (by conv => lhs; whnf)) (fun _ => rfl) ?_) | (refine x0 rfl (o_loadRA (by rfl) Ty.a24 Ty.s24 (Nat.le_of_ble_eq_true rfl) (by conv => lhs; whnf)) (fun _ => rfl) ?_)
  refine x_cal rfl (o_callF (ls := [])  rfl Try.func15 rfl (by decide) rfl rfl rfl (C2.its_ok true D2 c) rfl) (fun _ => .inr (.inl rfl)) ?_
  first | (refine x0 rfl (o_loadA (by rfl) (by conv => lhs; whnf) rfl Ty.a24 Ty.s24 (Nat.le_of_ble_eq_true rfl) (by conv => lhs; whnf)) (fun _ => rfl) ?_) | (refine x0 rfl (o_loadRA (by rfl) Ty.a24 Ty.s24 (Nat.le_of_ble_eq_true rfl) (by conv => lhs; whnf)) (fun _ => rfl) ?_)
  refine x_cal rfl (o_callF (ls := [])  rfl Try.func15 rfl (by decide) rfl rfl rfl (C2.its_ok true D2 c) rfl) (fun _ => .inr (.inl rfl)) ?_
  refine x0 rfl (o_call  rfl Try.func20 rfl (by decide) rfl rfl rfl (C2.same_ok true true D2 j3 (by omega) c) rfl) (fun _ => .inl rfl) ?_
  refine x7 rfl (fun _ hN => o_move (by conv => lhs; whnf)) rfl ?_
  first | (refine x0 rfl (o_nslice rfl Ty.e22 Ty.s3) (fun _ => .inl rfl) ?_) | (refine x_skip rfl ?_)
  first | (refine x7 rfl (fun _ hN => o_move (by conv => lhs; whnf)) rfl ?_) | (refine x_skip rfl ?_)
  refine x1 rfl (o_appT (zs := T1) rfl (by conv => lhs; whnf) (by first | exact .inl ⟨_, rfl, rfl⟩ | exact .inr ⟨_, _, rfl, rfl, rfl, rfl⟩) Ty.e22 Ty.s3 Ty.b3 Ty.z3 rfl (fun e he => j2.len e (by simpa using he)) (by simp; omega) (by simp; omega) (by simp) rfl) rfl (fun _ => by rfl) (fun _ => .inl ⟨_, _, rfl⟩) ?_
  first | (refine x7 rfl (fun _ hN => o_move (by conv => lhs; whnf)) rfl ?_) | (refine x_skip rfl ?_)
  refine x_app rfl (o_appR rfl (by conv => lhs; whnf) (by conv => lhs; whnf) (by first | exact .inl ⟨_, rfl, rfl⟩ | exact .inr ⟨_, _, rfl, rfl, rfl, rfl⟩) Ty.e22 Ty.s3 Ty.b3 Ty.z3 rfl (fun e he => (List.mem_append.1 he).elim (j2.len e) (j4.len e)) rfl (by dsimp only; omega) (by dsimp only; omega) hT rfl (by conv => lhs; whnf)) rfl (by conv => lhs; whnf) rfl (fun _ => by rfl) (fun _ => .inr ⟨_, _, _, rfl⟩) ?_
  first | (refine x7 rfl (fun _ hN => o_move (by conv => lhs; whnf)) rfl ?_) | (refine x_skip rfl ?_)
  refine x0 rfl (o_call  rfl Try.func21 rfl (by decide) rfl rfl rfl (C2.ints_ok false true T3 j5 (by rw [← hT]; simp; omega)) rfl) (fun _ => .inl rfl) ?_
  first | (refine x7 rfl (fun _ hN => o_pickT (by rfl) (by conv => lhs; whnf)) rfl ?_) | (refine x7 rfl (fun _ hN => o_pickF (by rfl) (by conv => lhs; whnf)) rfl ?_)
  refine x7 rfl (fun _ hN => o_assign (by conv => lhs; whnf)) rfl ?_
  refine x_nil ?_
  refine pw_ret ?_
  exact ⟨[_], ⟨rfl, trivial⟩, rfl, by (first | exact .inl rfl | exact .inr rfl)⟩

end Go.Proofs.Ytgleeglhdlnobaa.C2b
