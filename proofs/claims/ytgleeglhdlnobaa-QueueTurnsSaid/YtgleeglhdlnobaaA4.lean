/-
  A law of the queue: what it returns.
  Conditions: the premises of each.
-/
import Derived.Test.YtgleeglhdlnobaaA2
import Derived.Test.YtgleeglhdlnobaaPw20
namespace Go.Proofs.Ytgleeglhdlnobaa.C2c
open Go Go.Pw Go.Proofs
set_option linter.unusedVariables false
theorem turn_cases {Q : List PV} (hQ : Ints Q) (v : Int) (n : Nat) : (v.tmod 2 = 0 ∧ Q.length < n) ∨ (v.tmod 2 = 0 ∧ n ≤ Q.length) ∨ (v.tmod 2 ≠ 0 ∧ Q = []) ∨ ∃ x M, v.tmod 2 ≠ 0 ∧ Q = .int .i64 x :: M := by
  by_cases hp : v.tmod 2 = 0
  · rcases Nat.lt_or_ge Q.length n with h | h
    · exact .inl ⟨hp, h⟩
    · exact .inr (.inl ⟨hp, h⟩)
  · cases Q with
    | nil => exact .inr (.inr (.inl ⟨hp, rfl⟩))
    | cons y M =>
      obtain ⟨x, rfl⟩ := hQ y (List.mem_cons_self ..)
      exact .inr (.inr (.inr ⟨x, M, hp, rfl⟩))
namespace Ty
theorem a3 : tagg Try.prog 3 = some false := by kernel_rfl
theorem a24 : tagg Try.prog 24 = some true := by kernel_rfl
theorem b3 : tbytes Try.prog 3 = some 8 := by kernel_rfl
theorem e22 : telem Try.prog 22 = some 3 := by kernel_rfl
theorem i3 : tint Try.prog 3 = some .i64 := by kernel_rfl
theorem s3 : tsize Try.prog 3 = some 1 := by kernel_rfl
theorem s24 : tsize Try.prog 24 = some 2 := by kernel_rfl
theorem u4 : Try.prog.underlying 4 = some (.bool) := by kernel_rfl
theorem u5 : Try.prog.underlying 5 = some (.int .u8) := by kernel_rfl
theorem z3 : tzero Try.prog 3 = some ((.int .i64 0)) := by kernel_rfl
theorem z24 : tzero Try.prog 24 = some ((.agg #[(.slice none 0 0), (.int .i64 0)])) := by kernel_rfl
theorem mix : Try.prog.follows .mixedOrders = true := by kernel_rfl
end Ty
set_option maxRecDepth 100000 in
set_option maxHeartbeats 4000000 in
theorem turns_big (c : Int) (h0 : 0 ≤ c) (h1 : c < 256) (t : Bool) (L : List PV) (hL : 100 < L.length) : PCalls Try.prog 8 [.int .u8 c, .lst t L] (.bool true) := by
  refine pc_intro (N := 92) Try.func8 rfl rfl (Nat.le_of_ble_eq_true rfl) fun w0 imm0 => ?_
  refine pw_seq ?_
  refine pw_reg (by kernel_rfl) ?_
  refine x0 rfl (o_assign (by conv => lhs; whnf)) (fun q => nomatch q) ?_
  refine x_nil ?_
  refine pw_seq ?_
  refine pw_reg (by kernel_rfl) ?_
  refine x0 rfl (o_move (by conv => lhs; whnf)) (fun q => nomatch q) ?_
  refine x0 rfl (o_conv (by conv => lhs; whnf) Ty.u5 Ty.i3 (wrap_in (by omega) (by omega))) (fun q => nomatch q) ?_
  refine x0 rfl (o_ari (by rfl) (by rfl) (C2.ari_rem (r := c % 10) (by omega) (by omega) (Int.tmod_eq_emod_of_nonneg h0) (by omega) (by omega))) (fun q => nomatch q) ?_
  refine x0 rfl (o_assign (by conv => lhs; whnf)) (fun q => nomatch q) ?_
  refine x_nil ?_
  refine pw_seq ?_
  refine pw_seq ?_
  refine pw_reg (by kernel_rfl) ?_
  refine x0 rfl (o_move (by conv => lhs; whnf)) (fun q => nomatch q) ?_
  first | (refine x0 rfl (o_lenL (by rfl) Ty.e22 rfl) (fun q => nomatch q) ?_) | (refine x0 rfl (o_lenR (by rfl) (by conv => lhs; whnf) Ty.e22 rfl) (fun q => nomatch q) ?_)
  first | (refine x0 rfl (o_cmp (by rfl) (by rfl) (c_gtT (by omega))) (fun q => nomatch q) ?_) | (refine x0 rfl (o_cmp (by rfl) (by rfl) (c_gtF (by omega))) (fun q => nomatch q) ?_) | (refine x0 rfl (o_cmp (by rfl) (by rfl) (c_gtT (by first | rfl | decide))) (fun q => nomatch q) ?_) | (refine x0 rfl (o_cmp (by rfl) (by rfl) (c_gtF (by first | decide | (simp; done) | (simp; omega)))) (fun q => nomatch q) ?_)
  refine x0 rfl (o_move (by conv => lhs; whnf)) (fun q => nomatch q) ?_
  refine x_skip rfl ?_
  first | (refine x0 rfl (o_not (by rfl) (by conv => lhs; whnf)) (fun q => nomatch q) ?_) | (refine x_skip rfl ?_)
  first | (refine x0 rfl (o_pickT (by rfl) (by conv => lhs; whnf)) (fun q => nomatch q) ?_) | (refine x0 rfl (o_pickF (by rfl) (by conv => lhs; whnf)) (fun q => nomatch q) ?_)
  refine x_nil ?_
  refine pw_cond true (by rfl) (fun _ => ?_) (fun q => nomatch q)
  refine pw_seq ?_
  refine pw_reg (by kernel_rfl) ?_
  refine x0 rfl (o_call  rfl Try.func12 rfl (by decide) rfl rfl rfl (C2.shown_ok) rfl) (fun q => nomatch q) ?_
  refine x0 rfl (o_assign (by conv => lhs; whnf)) (fun q => nomatch q) ?_
  refine x_nil ?_
  refine pw_ret ?_
  exact ⟨[_], ⟨rfl, trivial⟩, rfl, by (first | exact .inl rfl | exact .inr rfl)⟩

set_option maxRecDepth 100000 in
set_option maxHeartbeats 4000000 in
theorem turns_ok (c : Int) (n : Nat) (hn : (n : Int) = c % 10) (h0 : 0 ≤ c) (h1 : c < 256) (t : Bool) (L : List PV) (hI : Ints L) (hL : L.length ≤ 100) : PCalls Try.prog 8 [.int .u8 c, .lst t L] (.bool true) := by
  refine pc_intro (N := 92) Try.func8 rfl rfl (Nat.le_of_ble_eq_true rfl) fun w0 imm0 => ?_
  refine pw_seq ?_
  refine pw_reg (by kernel_rfl) ?_
  refine x0 rfl (o_assign (by conv => lhs; whnf)) (fun q => nomatch q) ?_
  refine x_nil ?_
  refine pw_seq ?_
  refine pw_reg (by kernel_rfl) ?_
  refine x0 rfl (o_move (by conv => lhs; whnf)) (fun q => nomatch q) ?_
  refine x0 rfl (o_conv (by conv => lhs; whnf) Ty.u5 Ty.i3 (wrap_in (by omega) (by omega))) (fun q => nomatch q) ?_
  refine x0 rfl (o_ari (by rfl) (by rfl) (C2.ari_rem (r := (n : Int)) (by omega) (by omega) (by rw [Int.tmod_eq_emod_of_nonneg h0]; omega) (by omega) (by omega))) (fun q => nomatch q) ?_
  refine x0 rfl (o_assign (by conv => lhs; whnf)) (fun q => nomatch q) ?_
  refine x_nil ?_
  refine pw_seq ?_
  refine pw_seq ?_
  refine pw_reg (by kernel_rfl) ?_
  refine x0 rfl (o_move (by conv => lhs; whnf)) (fun q => nomatch q) ?_
  first | (refine x0 rfl (o_lenL (by rfl) Ty.e22 rfl) (fun q => nomatch q) ?_) | (refine x0 rfl (o_lenR (by rfl) (by conv => lhs; whnf) Ty.e22 rfl) (fun q => nomatch q) ?_)
  first | (refine x0 rfl (o_cmp (by rfl) (by rfl) (c_gtT (by omega))) (fun q => nomatch q) ?_) | (refine x0 rfl (o_cmp (by rfl) (by rfl) (c_gtF (by omega))) (fun q => nomatch q) ?_) | (refine x0 rfl (o_cmp (by rfl) (by rfl) (c_gtT (by first | rfl | decide))) (fun q => nomatch q) ?_) | (refine x0 rfl (o_cmp (by rfl) (by rfl) (c_gtF (by first | decide | (simp; done) | (simp; omega)))) (fun q => nomatch q) ?_)
  refine x0 rfl (o_move (by conv => lhs; whnf)) (fun q => nomatch q) ?_
  refine x0 rfl (o_call  rfl Try.func12 rfl (by decide) rfl rfl rfl (C2.shown_ok) rfl) (fun q => nomatch q) ?_
  first | (refine x0 rfl (o_not (by rfl) (by conv => lhs; whnf)) (fun q => nomatch q) ?_) | (refine x_skip rfl ?_)
  first | (refine x0 rfl (o_pickT (by rfl) (by conv => lhs; whnf)) (fun q => nomatch q) ?_) | (refine x0 rfl (o_pickF (by rfl) (by conv => lhs; whnf)) (fun q => nomatch q) ?_)
  refine x_nil ?_
  refine pw_cond false (by rfl) (fun q => nomatch q) (fun _ => ?_)
  refine pw_skip ?_
  refine pw_seq ?_
  refine pw_reg (by kernel_rfl) ?_
  refine x0 rfl (o_move (by conv => lhs; whnf)) (fun q => nomatch q) ?_
  refine x_cal rfl (o_callF (ls := [])  rfl Try.func23 rfl (by decide) rfl rfl rfl (C2.new_ok n) rfl) (fun q => nomatch q) ?_
  refine x1 rfl (o_alloc (z := 2) rfl Ty.z24 (by conv => lhs; whnf) rfl rfl) rfl (fun q => nomatch q) (fun q => nomatch q) ?_
  refine x_sto rfl (o_store (by conv => lhs; whnf) (by conv => lhs; whnf) (by conv => lhs; whnf) rfl Ty.s24 (Nat.le_of_ble_eq_true rfl) rfl) (by conv => lhs; whnf) rfl (Nat.zero_le _) (Nat.le_of_ble_eq_true rfl) rfl (by conv => lhs; whnf) (by conv => lhs; whnf) (by conv => lhs; whnf) (fun q => nomatch q) (fun q => nomatch q) ?_
  refine x_nil ?_
  refine pw_seq ?_
  refine pw_reg (by kernel_rfl) ?_
  refine x0 rfl (o_nslice rfl Ty.e22 Ty.s3) (fun q => nomatch q) ?_
  refine x0 rfl (o_assign (by conv => lhs; whnf)) (fun q => nomatch q) ?_
  refine x_nil ?_
  refine pw_seq ?_
  refine pw_seq ?_
  refine pw_reg (by kernel_rfl) ?_
  refine x0 rfl (o_assign (by conv => lhs; whnf)) (fun q => nomatch q) ?_
  refine x_nil ?_
  refine pw_block ?_
  refine pw_loopW (fun m s => ∃ k : Nat, ∃ tt : Bool, ∃ Q : List PV, ∃ lo : Nat, m = L.length - k ∧ (k ≤ L.length) ∧ (Ints Q) ∧ (Q.length ≤ k) ∧ s = St.of [(1, .lst t L), (5, .int .i64 n), (6, .ptr 6 0 0), (7, .sl 107), (8, .int .i64 k)] [(6, ⟨[.agg [.lst tt Q, .int .i64 n]], 0, false, 2, true⟩), (107, ⟨Q, lo, true, 1, true⟩)]) (m := L.length - (0)) (Wk.trans (wk_nil (t := 7) (l := 107) (z := 1) rfl rfl) (wk_st [(1, .lst t L), (5, .int .i64 n), (6, .ptr 6 0 0), (7, .sl 107), (8, .int .i64 (0))] [(6, ⟨[.agg [.lst (true) ([]), .int .i64 n]], 0, false, 2, true⟩), (107, ⟨([]), (0), true, 1, true⟩)] ⟨rfl, rfl, rfl, rfl, rfl, rfl, rfl, rfl, rfl, rfl, rfl, rfl, rfl, rfl, rfl, trivial⟩ ⟨rowLe_same rfl rfl rfl (fun q => q) rfl rfl rfl, rowLe_same rfl rfl rfl (fun q => q) rfl rfl rfl, trivial⟩)) ⟨0, true, [], 0, rfl, (Nat.zero_le _), ((fun e he => nomatch he)), (Nat.le_refl _), rfl⟩ ?_
  · rintro _ _ ⟨k, tt, Q, lo, rfl, hk, hQ, hlen, rfl⟩
    rcases Nat.lt_or_ge k L.length with hk2 | hk2
    · obtain ⟨v, hv⟩ := hI.get hk2
      rcases turn_cases hQ v n with ⟨hp, hr⟩ | ⟨hp, hr⟩ | ⟨hp, rfl⟩ | ⟨x, M, hp, rfl⟩
      · skip
        refine pw_seq ?_
        refine pw_seq ?_
        refine pw_reg (by kernel_rfl) ?_
        refine x0 rfl (o_move (by conv => lhs; whnf)) (fun q => nomatch q) ?_
        refine x0 rfl (o_move (by conv => lhs; whnf)) (fun q => nomatch q) ?_
        first | (refine x0 rfl (o_lenL (by rfl) Ty.e22 rfl) (fun q => nomatch q) ?_) | (refine x0 rfl (o_lenR (by rfl) (by conv => lhs; whnf) Ty.e22 rfl) (fun q => nomatch q) ?_)
        first | (refine x0 rfl (o_cmp (by rfl) (by rfl) (c_ltT (by omega))) (fun q => nomatch q) ?_) | (refine x0 rfl (o_cmp (by rfl) (by rfl) (c_ltF (by omega))) (fun q => nomatch q) ?_) | (refine x0 rfl (o_cmp (by rfl) (by rfl) (c_ltT (by first | rfl | decide))) (fun q => nomatch q) ?_) | (refine x0 rfl (o_cmp (by rfl) (by rfl) (c_ltF (by first | decide | (simp; done) | (simp; omega)))) (fun q => nomatch q) ?_)
        refine x_nil ?_
        refine pw_cond true (by rfl) (fun _ => ?_) (fun q => nomatch q)
        refine pw_skip ?_
        refine pw_seq ?_
        refine pw_block ?_
        refine pw_seq ?_
        refine pw_seq ?_
        refine pw_reg (by kernel_rfl) ?_
        refine x0 rfl (o_move (by conv => lhs; whnf)) (fun q => nomatch q) ?_
        refine x0 rfl (o_move (by conv => lhs; whnf)) (fun q => nomatch q) ?_
        first | (refine x0 rfl (o_idxL (m := k) (by rfl) (by rfl) (by rfl) hv Ty.e22 Ty.s3 (by rfl) (by conv => lhs; whnf)) (fun q => nomatch q) ?_) | (refine x0 rfl (o_idxR (m := k) (by rfl) (by conv => lhs; whnf) (by rfl) (by rfl) hv Ty.e22 Ty.s3 rfl) (fun q => nomatch q) ?_)
        first | (refine x0 rfl (o_loadS (by rfl) (by conv => lhs; whnf) rfl Ty.a3 (by conv => lhs; whnf)) (fun q => nomatch q) ?_) | (refine x0 rfl (o_loadRS (by rfl) Ty.a3 (by conv => lhs; whnf)) (fun q => nomatch q) ?_)
        refine x0 rfl (o_ari (by rfl) (by rfl) (show ariI .i64 .rem v 2 = some (v.tmod 2) from rfl)) (fun q => nomatch q) ?_
        refine x0 rfl (o_cmp (by rfl) (by rfl) (c_eqT hp)) (fun q => nomatch q) ?_
        refine x_nil ?_
        refine pw_cond true (by rfl) (fun _ => ?_) (fun q => nomatch q)
        refine pw_seq ?_
        refine pw_drw [] Ty.mix (by kernel_rfl) (by kernel_rfl) ?_
        first | (refine x0 rfl (o_loadA (by rfl) (by conv => lhs; whnf) rfl Ty.a24 Ty.s24 (Nat.le_of_ble_eq_true rfl) (by conv => lhs; whnf)) (fun _ => rfl) ?_) | (refine x0 rfl (o_loadRA (by rfl) Ty.a24 Ty.s24 (Nat.le_of_ble_eq_true rfl) (by conv => lhs; whnf)) (fun _ => rfl) ?_)
        refine x7 rfl (fun _ hN => o_move (by conv => lhs; whnf)) rfl ?_
        refine x7 rfl (fun _ hN => o_move (by conv => lhs; whnf)) rfl ?_
        first | (refine x0 rfl (o_idxL (m := k) (by rfl) (by rfl) (by rfl) hv Ty.e22 Ty.s3 (by rfl) (by conv => lhs; whnf)) (fun _ => rfl) ?_) | (refine x0 rfl (o_idxR (m := k) (by rfl) (by conv => lhs; whnf) (by rfl) (by rfl) hv Ty.e22 Ty.s3 rfl) (fun _ => rfl) ?_)
        first | (refine x0 rfl (o_loadS (by rfl) (by conv => lhs; whnf) rfl Ty.a3 (by conv => lhs; whnf)) (fun _ => rfl) ?_) | (refine x0 rfl (o_loadRS (by rfl) Ty.a3 (by conv => lhs; whnf)) (fun _ => rfl) ?_)
        refine x_cal rfl (o_callF (ls := [])  rfl Try.func13 rfl (by decide) rfl rfl rfl (C2.push_ok tt Q (Q ++ [PV.int .i64 v]) hQ.len n v rfl (by omega) (by omega)) rfl) (fun _ => .inr (.inl rfl)) ?_
        refine x7 rfl (fun _ hN => o_move (by conv => lhs; whnf)) rfl ?_
        refine x7 rfl (fun _ hN => o_extract (by conv => lhs; whnf) (by conv => lhs; whnf)) rfl ?_
        refine x7 rfl (fun _ hN => o_extract (by conv => lhs; whnf) (by conv => lhs; whnf)) rfl ?_
        refine x1 rfl (o_alloc (z := 2) rfl Ty.z24 (by conv => lhs; whnf) rfl rfl) rfl (fun _ => by rfl) (fun _ => .inr ⟨_, _, rfl⟩) ?_
        refine x_sto rfl (o_store (by conv => lhs; whnf) (by conv => lhs; whnf) (by conv => lhs; whnf) rfl Ty.s24 (Nat.le_of_ble_eq_true rfl) rfl) (by conv => lhs; whnf) rfl (Nat.zero_le _) (Nat.le_of_ble_eq_true rfl) rfl (by conv => lhs; whnf) (by conv => lhs; whnf) (by conv => lhs; whnf) (fun _ => by rfl) (fun _ => trivial) ?_
        refine x7 rfl (fun _ hN => o_assign (by conv => lhs; whnf)) rfl ?_
        refine x_nil ?_
        refine pw_seq ?_
        refine pw_seq ?_
        refine pw_reg (by kernel_rfl) ?_
        refine x0 rfl (o_move (by conv => lhs; whnf)) (fun q => nomatch q) ?_
        first | (refine x0 rfl (o_cmp (by rfl) (by rfl) (c_eqT (by omega))) (fun q => nomatch q) ?_) | (refine x0 rfl (o_cmp (by rfl) (by rfl) (c_eqF (by omega))) (fun q => nomatch q) ?_) | (refine x0 rfl (o_cmp (by rfl) (by rfl) (c_eqT (by first | rfl | decide))) (fun q => nomatch q) ?_) | (refine x0 rfl (o_cmp (by rfl) (by rfl) (c_eqF (by first | decide | (simp; done) | (simp; omega)))) (fun q => nomatch q) ?_)
        refine x_nil ?_
        refine pw_cond true (by rfl) (fun _ => ?_) (fun q => nomatch q)
        refine pw_reg (by kernel_rfl) ?_
        refine x0 rfl (o_move (by conv => lhs; whnf)) (fun q => nomatch q) ?_
        refine x0 rfl (o_move (by conv => lhs; whnf)) (fun q => nomatch q) ?_
        refine x0 rfl (o_move (by conv => lhs; whnf)) (fun q => nomatch q) ?_
        first | (refine x0 rfl (o_idxL (m := k) (by rfl) (by rfl) (by rfl) hv Ty.e22 Ty.s3 (by rfl) (by conv => lhs; whnf)) (fun q => nomatch q) ?_) | (refine x0 rfl (o_idxR (m := k) (by rfl) (by conv => lhs; whnf) (by rfl) (by rfl) hv Ty.e22 Ty.s3 rfl) (fun q => nomatch q) ?_)
        first | (refine x0 rfl (o_loadS (by rfl) (by conv => lhs; whnf) rfl Ty.a3 (by conv => lhs; whnf)) (fun q => nomatch q) ?_) | (refine x0 rfl (o_loadRS (by rfl) Ty.a3 (by conv => lhs; whnf)) (fun q => nomatch q) ?_)
        refine x1 rfl (o_bslice (els := [PV.int .i64 v]) (cl := true) rfl (by first | rfl | (conv => lhs; simp only [List.toList_toArray, List.map_cons, List.map_nil])) Ty.e22 Ty.s3 Ty.z3 rfl rfl (Nat.le_of_ble_eq_true rfl) rfl (fun _ => rfl)) rfl (fun q => nomatch q) (fun q => nomatch q) ?_
        refine x_app rfl (o_appR rfl (by conv => lhs; whnf) (by conv => lhs; whnf) (by first | exact .inl ⟨_, rfl, rfl⟩ | exact .inr ⟨_, _, rfl, rfl, rfl, rfl⟩) Ty.e22 Ty.s3 Ty.b3 Ty.z3 rfl (fun e he => (List.mem_append.1 he).elim (hQ.len e) (fun q => by cases List.mem_singleton.1 q; rfl)) rfl (by simp; omega) (by simp; omega) rfl rfl (by conv => lhs; whnf)) rfl (by conv => lhs; whnf) rfl (fun q => nomatch q) (fun q => nomatch q) ?_
        refine x0 rfl (o_assign (by conv => lhs; whnf)) (fun q => nomatch q) ?_
        refine x_nil ?_
        refine pw_reg (by kernel_rfl) ?_
        first | (refine x0 rfl (o_loadA (by rfl) (by conv => lhs; whnf) rfl Ty.a24 Ty.s24 (Nat.le_of_ble_eq_true rfl) (by conv => lhs; whnf)) (fun q => nomatch q) ?_) | (refine x0 rfl (o_loadRA (by rfl) Ty.a24 Ty.s24 (Nat.le_of_ble_eq_true rfl) (by conv => lhs; whnf)) (fun q => nomatch q) ?_)
        refine x_sto rfl (o_store (by conv => lhs; whnf) (by conv => lhs; whnf) (by conv => lhs; whnf) rfl Ty.s24 (Nat.le_of_ble_eq_true rfl) rfl) (by conv => lhs; whnf) rfl (Nat.zero_le _) (Nat.le_of_ble_eq_true rfl) rfl (by conv => lhs; whnf) (by conv => lhs; whnf) (by conv => lhs; whnf) (fun q => nomatch q) (fun q => nomatch q) ?_
        refine x_nil ?_
        refine pw_seq ?_
        refine pw_reg (by kernel_rfl) ?_
        first | (refine x0 rfl (o_loadA (by rfl) (by conv => lhs; whnf) rfl Ty.a24 Ty.s24 (Nat.le_of_ble_eq_true rfl) (by conv => lhs; whnf)) (fun q => nomatch q) ?_) | (refine x0 rfl (o_loadRA (by rfl) Ty.a24 Ty.s24 (Nat.le_of_ble_eq_true rfl) (by conv => lhs; whnf)) (fun q => nomatch q) ?_)
        refine x0 rfl (o_call  rfl Try.func22 rfl (by decide) rfl rfl rfl (C2.len_ok false (Q ++ [PV.int .i64 v]) n) rfl) (fun q => nomatch q) ?_
        refine x0 rfl (o_move (by conv => lhs; whnf)) (fun q => nomatch q) ?_
        first | (refine x0 rfl (o_lenL (by rfl) Ty.e22 rfl) (fun q => nomatch q) ?_) | (refine x0 rfl (o_lenR (by rfl) (by conv => lhs; whnf) Ty.e22 rfl) (fun q => nomatch q) ?_)
        refine x0 rfl (o_cmp (by rfl) (by rfl) (c_neF rfl)) (fun q => nomatch q) ?_
        refine x_nil ?_
        refine pw_cond false (by rfl) (fun q => nomatch q) (fun _ => ?_)
        refine pw_skip ?_
        refine pw_reg (by kernel_rfl) ?_
        refine x0 rfl (o_move (by conv => lhs; whnf)) (fun q => nomatch q) ?_
        refine x0 rfl (o_ari (by rfl) (by rfl) (ari_add (by rfl) (by omega) (by omega))) (fun q => nomatch q) ?_
        refine x0 rfl (o_assign (by conv => lhs; whnf)) (fun q => nomatch q) ?_
        refine x_nil ?_
        exact ⟨_, _, (by omega), wk_stP (fun l => if l = 107 then 57 else l) [(1, .lst t L), (5, .int .i64 n), (6, .ptr 6 0 0), (7, .sl 107), (8, .int .i64 (k + 1))] [(6, ⟨[.agg [.lst (false) (Q ++ [PV.int .i64 v]), .int .i64 n]], 0, false, 2, true⟩), (107, ⟨(Q ++ [PV.int .i64 v]), (Q.length), true, 1, true⟩)] ⟨rfl, rfl, rfl, rfl, rfl, rfl, rfl, rfl, rfl, rfl, rfl, rfl, rfl, rfl, rfl, trivial⟩ ⟨rowLe_ren rfl rfl rfl (fun q => q) rfl rfl rfl, rowLe_ren rfl rfl rfl (fun q => q) rfl rfl rfl, trivial⟩ rfl, k + 1, false, Q ++ [PV.int .i64 v], Q.length, rfl, (by omega), (hQ.snoc v), ((by simp; omega)), rfl⟩
      · skip
        refine pw_seq ?_
        refine pw_seq ?_
        refine pw_reg (by kernel_rfl) ?_
        refine x0 rfl (o_move (by conv => lhs; whnf)) (fun q => nomatch q) ?_
        refine x0 rfl (o_move (by conv => lhs; whnf)) (fun q => nomatch q) ?_
        first | (refine x0 rfl (o_lenL (by rfl) Ty.e22 rfl) (fun q => nomatch q) ?_) | (refine x0 rfl (o_lenR (by rfl) (by conv => lhs; whnf) Ty.e22 rfl) (fun q => nomatch q) ?_)
        first | (refine x0 rfl (o_cmp (by rfl) (by rfl) (c_ltT (by omega))) (fun q => nomatch q) ?_) | (refine x0 rfl (o_cmp (by rfl) (by rfl) (c_ltF (by omega))) (fun q => nomatch q) ?_) | (refine x0 rfl (o_cmp (by rfl) (by rfl) (c_ltT (by first | rfl | decide))) (fun q => nomatch q) ?_) | (refine x0 rfl (o_cmp (by rfl) (by rfl) (c_ltF (by first | decide | (simp; done) | (simp; omega)))) (fun q => nomatch q) ?_)
        refine x_nil ?_
        refine pw_cond true (by rfl) (fun _ => ?_) (fun q => nomatch q)
        refine pw_skip ?_
        refine pw_seq ?_
        refine pw_block ?_
        refine pw_seq ?_
        refine pw_seq ?_
        refine pw_reg (by kernel_rfl) ?_
        refine x0 rfl (o_move (by conv => lhs; whnf)) (fun q => nomatch q) ?_
        refine x0 rfl (o_move (by conv => lhs; whnf)) (fun q => nomatch q) ?_
        first | (refine x0 rfl (o_idxL (m := k) (by rfl) (by rfl) (by rfl) hv Ty.e22 Ty.s3 (by rfl) (by conv => lhs; whnf)) (fun q => nomatch q) ?_) | (refine x0 rfl (o_idxR (m := k) (by rfl) (by conv => lhs; whnf) (by rfl) (by rfl) hv Ty.e22 Ty.s3 rfl) (fun q => nomatch q) ?_)
        first | (refine x0 rfl (o_loadS (by rfl) (by conv => lhs; whnf) rfl Ty.a3 (by conv => lhs; whnf)) (fun q => nomatch q) ?_) | (refine x0 rfl (o_loadRS (by rfl) Ty.a3 (by conv => lhs; whnf)) (fun q => nomatch q) ?_)
        refine x0 rfl (o_ari (by rfl) (by rfl) (show ariI .i64 .rem v 2 = some (v.tmod 2) from rfl)) (fun q => nomatch q) ?_
        refine x0 rfl (o_cmp (by rfl) (by rfl) (c_eqT hp)) (fun q => nomatch q) ?_
        refine x_nil ?_
        refine pw_cond true (by rfl) (fun _ => ?_) (fun q => nomatch q)
        refine pw_seq ?_
        refine pw_drw [] Ty.mix (by kernel_rfl) (by kernel_rfl) ?_
        first | (refine x0 rfl (o_loadA (by rfl) (by conv => lhs; whnf) rfl Ty.a24 Ty.s24 (Nat.le_of_ble_eq_true rfl) (by conv => lhs; whnf)) (fun _ => rfl) ?_) | (refine x0 rfl (o_loadRA (by rfl) Ty.a24 Ty.s24 (Nat.le_of_ble_eq_true rfl) (by conv => lhs; whnf)) (fun _ => rfl) ?_)
        refine x7 rfl (fun _ hN => o_move (by conv => lhs; whnf)) rfl ?_
        refine x7 rfl (fun _ hN => o_move (by conv => lhs; whnf)) rfl ?_
        first | (refine x0 rfl (o_idxL (m := k) (by rfl) (by rfl) (by rfl) hv Ty.e22 Ty.s3 (by rfl) (by conv => lhs; whnf)) (fun _ => rfl) ?_) | (refine x0 rfl (o_idxR (m := k) (by rfl) (by conv => lhs; whnf) (by rfl) (by rfl) hv Ty.e22 Ty.s3 rfl) (fun _ => rfl) ?_)
        first | (refine x0 rfl (o_loadS (by rfl) (by conv => lhs; whnf) rfl Ty.a3 (by conv => lhs; whnf)) (fun _ => rfl) ?_) | (refine x0 rfl (o_loadRS (by rfl) Ty.a3 (by conv => lhs; whnf)) (fun _ => rfl) ?_)
        refine x_cal rfl (o_callF (ls := [])  rfl Try.func13 rfl (by decide) rfl rfl rfl (C2.push_full tt Q Q rfl n v (by omega)) rfl) (fun _ => .inr (.inl rfl)) ?_
        refine x7 rfl (fun _ hN => o_move (by conv => lhs; whnf)) rfl ?_
        refine x7 rfl (fun _ hN => o_extract (by conv => lhs; whnf) (by conv => lhs; whnf)) rfl ?_
        refine x7 rfl (fun _ hN => o_extract (by conv => lhs; whnf) (by conv => lhs; whnf)) rfl ?_
        refine x1 rfl (o_alloc (z := 2) rfl Ty.z24 (by conv => lhs; whnf) rfl rfl) rfl (fun _ => by rfl) (fun _ => .inr ⟨_, _, rfl⟩) ?_
        refine x_sto rfl (o_store (by conv => lhs; whnf) (by conv => lhs; whnf) (by conv => lhs; whnf) rfl Ty.s24 (Nat.le_of_ble_eq_true rfl) rfl) (by conv => lhs; whnf) rfl (Nat.zero_le _) (Nat.le_of_ble_eq_true rfl) rfl (by conv => lhs; whnf) (by conv => lhs; whnf) (by conv => lhs; whnf) (fun _ => by rfl) (fun _ => trivial) ?_
        refine x7 rfl (fun _ hN => o_assign (by conv => lhs; whnf)) rfl ?_
        refine x_nil ?_
        refine pw_seq ?_
        refine pw_seq ?_
        refine pw_reg (by kernel_rfl) ?_
        refine x0 rfl (o_move (by conv => lhs; whnf)) (fun q => nomatch q) ?_
        first | (refine x0 rfl (o_cmp (by rfl) (by rfl) (c_eqT (by omega))) (fun q => nomatch q) ?_) | (refine x0 rfl (o_cmp (by rfl) (by rfl) (c_eqF (by omega))) (fun q => nomatch q) ?_) | (refine x0 rfl (o_cmp (by rfl) (by rfl) (c_eqT (by first | rfl | decide))) (fun q => nomatch q) ?_) | (refine x0 rfl (o_cmp (by rfl) (by rfl) (c_eqF (by first | decide | (simp; done) | (simp; omega)))) (fun q => nomatch q) ?_)
        refine x_nil ?_
        refine pw_cond false (by rfl) (fun q => nomatch q) (fun _ => ?_)
        refine pw_skip ?_
        refine pw_reg (by kernel_rfl) ?_
        first | (refine x0 rfl (o_loadA (by rfl) (by conv => lhs; whnf) rfl Ty.a24 Ty.s24 (Nat.le_of_ble_eq_true rfl) (by conv => lhs; whnf)) (fun q => nomatch q) ?_) | (refine x0 rfl (o_loadRA (by rfl) Ty.a24 Ty.s24 (Nat.le_of_ble_eq_true rfl) (by conv => lhs; whnf)) (fun q => nomatch q) ?_)
        refine x_sto rfl (o_store (by conv => lhs; whnf) (by conv => lhs; whnf) (by conv => lhs; whnf) rfl Ty.s24 (Nat.le_of_ble_eq_true rfl) rfl) (by conv => lhs; whnf) rfl (Nat.zero_le _) (Nat.le_of_ble_eq_true rfl) rfl (by conv => lhs; whnf) (by conv => lhs; whnf) (by conv => lhs; whnf) (fun q => nomatch q) (fun q => nomatch q) ?_
        refine x_nil ?_
        refine pw_seq ?_
        refine pw_reg (by kernel_rfl) ?_
        first | (refine x0 rfl (o_loadA (by rfl) (by conv => lhs; whnf) rfl Ty.a24 Ty.s24 (Nat.le_of_ble_eq_true rfl) (by conv => lhs; whnf)) (fun q => nomatch q) ?_) | (refine x0 rfl (o_loadRA (by rfl) Ty.a24 Ty.s24 (Nat.le_of_ble_eq_true rfl) (by conv => lhs; whnf)) (fun q => nomatch q) ?_)
        refine x0 rfl (o_call  rfl Try.func22 rfl (by decide) rfl rfl rfl (C2.len_ok tt Q n) rfl) (fun q => nomatch q) ?_
        refine x0 rfl (o_move (by conv => lhs; whnf)) (fun q => nomatch q) ?_
        first | (refine x0 rfl (o_lenL (by rfl) Ty.e22 rfl) (fun q => nomatch q) ?_) | (refine x0 rfl (o_lenR (by rfl) (by conv => lhs; whnf) Ty.e22 rfl) (fun q => nomatch q) ?_)
        refine x0 rfl (o_cmp (by rfl) (by rfl) (c_neF rfl)) (fun q => nomatch q) ?_
        refine x_nil ?_
        refine pw_cond false (by rfl) (fun q => nomatch q) (fun _ => ?_)
        refine pw_skip ?_
        refine pw_reg (by kernel_rfl) ?_
        refine x0 rfl (o_move (by conv => lhs; whnf)) (fun q => nomatch q) ?_
        refine x0 rfl (o_ari (by rfl) (by rfl) (ari_add (by rfl) (by omega) (by omega))) (fun q => nomatch q) ?_
        refine x0 rfl (o_assign (by conv => lhs; whnf)) (fun q => nomatch q) ?_
        refine x_nil ?_
        exact ⟨_, _, (by omega), wk_st [(1, .lst t L), (5, .int .i64 n), (6, .ptr 6 0 0), (7, .sl 107), (8, .int .i64 (k + 1))] [(6, ⟨[.agg [.lst (tt) (Q), .int .i64 n]], 0, false, 2, true⟩), (107, ⟨(Q), (lo), true, 1, true⟩)] ⟨rfl, rfl, rfl, rfl, rfl, rfl, rfl, rfl, rfl, rfl, rfl, rfl, rfl, rfl, rfl, trivial⟩ ⟨rowLe_same rfl rfl rfl (fun q => q) rfl rfl rfl, rowLe_same rfl rfl rfl (fun q => q) rfl rfl rfl, trivial⟩, k + 1, tt, Q, lo, rfl, (by omega), (hQ), ((by omega)), rfl⟩
      · skip
        refine pw_seq ?_
        refine pw_seq ?_
        refine pw_reg (by kernel_rfl) ?_
        refine x0 rfl (o_move (by conv => lhs; whnf)) (fun q => nomatch q) ?_
        refine x0 rfl (o_move (by conv => lhs; whnf)) (fun q => nomatch q) ?_
        first | (refine x0 rfl (o_lenL (by rfl) Ty.e22 rfl) (fun q => nomatch q) ?_) | (refine x0 rfl (o_lenR (by rfl) (by conv => lhs; whnf) Ty.e22 rfl) (fun q => nomatch q) ?_)
        first | (refine x0 rfl (o_cmp (by rfl) (by rfl) (c_ltT (by omega))) (fun q => nomatch q) ?_) | (refine x0 rfl (o_cmp (by rfl) (by rfl) (c_ltF (by omega))) (fun q => nomatch q) ?_) | (refine x0 rfl (o_cmp (by rfl) (by rfl) (c_ltT (by first | rfl | decide))) (fun q => nomatch q) ?_) | (refine x0 rfl (o_cmp (by rfl) (by rfl) (c_ltF (by first | decide | (simp; done) | (simp; omega)))) (fun q => nomatch q) ?_)
        refine x_nil ?_
        refine pw_cond true (by rfl) (fun _ => ?_) (fun q => nomatch q)
        refine pw_skip ?_
        refine pw_seq ?_
        refine pw_block ?_
        refine pw_seq ?_
        refine pw_seq ?_
        refine pw_reg (by kernel_rfl) ?_
        refine x0 rfl (o_move (by conv => lhs; whnf)) (fun q => nomatch q) ?_
        refine x0 rfl (o_move (by conv => lhs; whnf)) (fun q => nomatch q) ?_
        first | (refine x0 rfl (o_idxL (m := k) (by rfl) (by rfl) (by rfl) hv Ty.e22 Ty.s3 (by rfl) (by conv => lhs; whnf)) (fun q => nomatch q) ?_) | (refine x0 rfl (o_idxR (m := k) (by rfl) (by conv => lhs; whnf) (by rfl) (by rfl) hv Ty.e22 Ty.s3 rfl) (fun q => nomatch q) ?_)
        first | (refine x0 rfl (o_loadS (by rfl) (by conv => lhs; whnf) rfl Ty.a3 (by conv => lhs; whnf)) (fun q => nomatch q) ?_) | (refine x0 rfl (o_loadRS (by rfl) Ty.a3 (by conv => lhs; whnf)) (fun q => nomatch q) ?_)
        refine x0 rfl (o_ari (by rfl) (by rfl) (show ariI .i64 .rem v 2 = some (v.tmod 2) from rfl)) (fun q => nomatch q) ?_
        refine x0 rfl (o_cmp (by rfl) (by rfl) (c_eqF hp)) (fun q => nomatch q) ?_
        refine x_nil ?_
        refine pw_cond false (by rfl) (fun q => nomatch q) (fun _ => ?_)
        refine pw_seq ?_
        refine pw_reg (by kernel_rfl) ?_
        first | (refine x0 rfl (o_loadA (by rfl) (by conv => lhs; whnf) rfl Ty.a24 Ty.s24 (Nat.le_of_ble_eq_true rfl) (by conv => lhs; whnf)) (fun q => nomatch q) ?_) | (refine x0 rfl (o_loadRA (by rfl) Ty.a24 Ty.s24 (Nat.le_of_ble_eq_true rfl) (by conv => lhs; whnf)) (fun q => nomatch q) ?_)
        refine x_cal rfl (o_callF (ls := [])  rfl Try.func16 rfl (by decide) rfl rfl rfl (C2.pop_nil tt [] rfl n) rfl) (fun q => nomatch q) ?_
        refine x0 rfl (o_move (by conv => lhs; whnf)) (fun q => nomatch q) ?_
        refine x0 rfl (o_extract (by conv => lhs; whnf) (by conv => lhs; whnf)) (fun q => nomatch q) ?_
        refine x0 rfl (o_extract (by conv => lhs; whnf) (by conv => lhs; whnf)) (fun q => nomatch q) ?_
        refine x0 rfl (o_extract (by conv => lhs; whnf) (by conv => lhs; whnf)) (fun q => nomatch q) ?_
        refine x1 rfl (o_alloc (z := 2) rfl Ty.z24 (by conv => lhs; whnf) rfl rfl) rfl (fun q => nomatch q) (fun q => nomatch q) ?_
        refine x_sto rfl (o_store (by conv => lhs; whnf) (by conv => lhs; whnf) (by conv => lhs; whnf) rfl Ty.s24 (Nat.le_of_ble_eq_true rfl) rfl) (by conv => lhs; whnf) rfl (Nat.zero_le _) (Nat.le_of_ble_eq_true rfl) rfl (by conv => lhs; whnf) (by conv => lhs; whnf) (by conv => lhs; whnf) (fun q => nomatch q) (fun q => nomatch q) ?_
        refine x0 rfl (o_assign (by conv => lhs; whnf)) (fun q => nomatch q) ?_
        refine x0 rfl (o_assign (by conv => lhs; whnf)) (fun q => nomatch q) ?_
        refine x_nil ?_
        refine pw_seq ?_
        refine pw_seq ?_
        refine pw_reg (by kernel_rfl) ?_
        refine x0 rfl (o_move (by conv => lhs; whnf)) (fun q => nomatch q) ?_
        first | (refine x0 rfl (o_cmp (by rfl) (by rfl) (c_eqT (by omega))) (fun q => nomatch q) ?_) | (refine x0 rfl (o_cmp (by rfl) (by rfl) (c_eqF (by omega))) (fun q => nomatch q) ?_) | (refine x0 rfl (o_cmp (by rfl) (by rfl) (c_eqT (by first | rfl | decide))) (fun q => nomatch q) ?_) | (refine x0 rfl (o_cmp (by rfl) (by rfl) (c_eqF (by first | decide | (simp; done) | (simp; omega)))) (fun q => nomatch q) ?_)
        refine x0 rfl (o_move (by conv => lhs; whnf)) (fun q => nomatch q) ?_
        first | (refine x0 rfl (o_lenL (by rfl) Ty.e22 rfl) (fun q => nomatch q) ?_) | (refine x0 rfl (o_lenR (by rfl) (by conv => lhs; whnf) Ty.e22 rfl) (fun q => nomatch q) ?_)
        first | (refine x0 rfl (o_cmp (by rfl) (by rfl) (c_gtT (by omega))) (fun q => nomatch q) ?_) | (refine x0 rfl (o_cmp (by rfl) (by rfl) (c_gtF (by omega))) (fun q => nomatch q) ?_) | (refine x0 rfl (o_cmp (by rfl) (by rfl) (c_gtT (by first | rfl | decide))) (fun q => nomatch q) ?_) | (refine x0 rfl (o_cmp (by rfl) (by rfl) (c_gtF (by first | decide | (simp; done) | (simp; omega)))) (fun q => nomatch q) ?_)
        refine x0 rfl (o_neB (by rfl) (by rfl) Ty.u4 (by conv => lhs; whnf)) (fun q => nomatch q) ?_
        refine x0 rfl (o_move (by conv => lhs; whnf)) (fun q => nomatch q) ?_
        first | (refine x0 rfl (o_move (by conv => lhs; whnf)) (fun q => nomatch q) ?_) | (refine x_skip rfl ?_)
        first | (refine x0 rfl (o_cmp (by rfl) (by rfl) (c_eqT (by omega))) (fun q => nomatch q) ?_) | (refine x0 rfl (o_cmp (by rfl) (by rfl) (c_eqF (by omega))) (fun q => nomatch q) ?_) | (refine x0 rfl (o_cmp (by rfl) (by rfl) (c_eqT (by first | rfl | decide))) (fun q => nomatch q) ?_) | (refine x0 rfl (o_cmp (by rfl) (by rfl) (c_eqF (by first | decide | (simp; done) | (simp; omega)))) (fun q => nomatch q) ?_) | (refine x_skip rfl ?_)
        first | (refine x0 rfl (o_move (by conv => lhs; whnf)) (fun q => nomatch q) ?_) | (refine x_skip rfl ?_)
        first | (refine x0 rfl (o_move (by conv => lhs; whnf)) (fun q => nomatch q) ?_) | (refine x_skip rfl ?_)
        first | (refine x0 rfl (o_move (by conv => lhs; whnf)) (fun q => nomatch q) ?_) | (refine x_skip rfl ?_)
        refine x_skip rfl ?_
        first | (refine x0 rfl (o_loadS (by rfl) (by conv => lhs; whnf) rfl Ty.a3 (by conv => lhs; whnf)) (fun q => nomatch q) ?_) | (refine x0 rfl (o_loadRS (by rfl) Ty.a3 (by conv => lhs; whnf)) (fun q => nomatch q) ?_) | (refine x_skip rfl ?_)
        first | (refine x0 rfl (o_cmp (by rfl) (by rfl) (c_neT (by omega))) (fun q => nomatch q) ?_) | (refine x0 rfl (o_cmp (by rfl) (by rfl) (c_neF (by omega))) (fun q => nomatch q) ?_) | (refine x0 rfl (o_cmp (by rfl) (by rfl) (c_neT (by first | rfl | decide))) (fun q => nomatch q) ?_) | (refine x0 rfl (o_cmp (by rfl) (by rfl) (c_neF (by first | decide | (simp; done) | (simp; omega)))) (fun q => nomatch q) ?_) | (refine x_skip rfl ?_)
        first | (refine x0 rfl (o_pickT (by rfl) (by conv => lhs; whnf)) (fun q => nomatch q) ?_) | (refine x0 rfl (o_pickF (by rfl) (by conv => lhs; whnf)) (fun q => nomatch q) ?_) | (refine x_skip rfl ?_)
        first | (refine x0 rfl (o_pickT (by rfl) (by conv => lhs; whnf)) (fun q => nomatch q) ?_) | (refine x0 rfl (o_pickF (by rfl) (by conv => lhs; whnf)) (fun q => nomatch q) ?_)
        refine x_nil ?_
        refine pw_cond false (by rfl) (fun q => nomatch q) (fun _ => ?_)
        refine pw_skip ?_
        refine pw_seq ?_
        refine pw_seq ?_
        refine pw_reg (by kernel_rfl) ?_
        refine x0 rfl (o_move (by conv => lhs; whnf)) (fun q => nomatch q) ?_
        first | (refine x0 rfl (o_cmp (by rfl) (by rfl) (c_eqT (by omega))) (fun q => nomatch q) ?_) | (refine x0 rfl (o_cmp (by rfl) (by rfl) (c_eqF (by omega))) (fun q => nomatch q) ?_) | (refine x0 rfl (o_cmp (by rfl) (by rfl) (c_eqT (by first | rfl | decide))) (fun q => nomatch q) ?_) | (refine x0 rfl (o_cmp (by rfl) (by rfl) (c_eqF (by first | decide | (simp; done) | (simp; omega)))) (fun q => nomatch q) ?_)
        refine x_nil ?_
        refine pw_cond false (by rfl) (fun q => nomatch q) (fun _ => ?_)
        refine pw_skip ?_
        refine pw_reg (by kernel_rfl) ?_
        first | (refine x0 rfl (o_loadA (by rfl) (by conv => lhs; whnf) rfl Ty.a24 Ty.s24 (Nat.le_of_ble_eq_true rfl) (by conv => lhs; whnf)) (fun q => nomatch q) ?_) | (refine x0 rfl (o_loadRA (by rfl) Ty.a24 Ty.s24 (Nat.le_of_ble_eq_true rfl) (by conv => lhs; whnf)) (fun q => nomatch q) ?_)
        refine x_sto rfl (o_store (by conv => lhs; whnf) (by conv => lhs; whnf) (by conv => lhs; whnf) rfl Ty.s24 (Nat.le_of_ble_eq_true rfl) rfl) (by conv => lhs; whnf) rfl (Nat.zero_le _) (Nat.le_of_ble_eq_true rfl) rfl (by conv => lhs; whnf) (by conv => lhs; whnf) (by conv => lhs; whnf) (fun q => nomatch q) (fun q => nomatch q) ?_
        refine x_nil ?_
        refine pw_seq ?_
        refine pw_reg (by kernel_rfl) ?_
        first | (refine x0 rfl (o_loadA (by rfl) (by conv => lhs; whnf) rfl Ty.a24 Ty.s24 (Nat.le_of_ble_eq_true rfl) (by conv => lhs; whnf)) (fun q => nomatch q) ?_) | (refine x0 rfl (o_loadRA (by rfl) Ty.a24 Ty.s24 (Nat.le_of_ble_eq_true rfl) (by conv => lhs; whnf)) (fun q => nomatch q) ?_)
        refine x0 rfl (o_call  rfl Try.func22 rfl (by decide) rfl rfl rfl (C2.len_ok tt [] n) rfl) (fun q => nomatch q) ?_
        refine x0 rfl (o_move (by conv => lhs; whnf)) (fun q => nomatch q) ?_
        first | (refine x0 rfl (o_lenL (by rfl) Ty.e22 rfl) (fun q => nomatch q) ?_) | (refine x0 rfl (o_lenR (by rfl) (by conv => lhs; whnf) Ty.e22 rfl) (fun q => nomatch q) ?_)
        refine x0 rfl (o_cmp (by rfl) (by rfl) (c_neF rfl)) (fun q => nomatch q) ?_
        refine x_nil ?_
        refine pw_cond false (by rfl) (fun q => nomatch q) (fun _ => ?_)
        refine pw_skip ?_
        refine pw_reg (by kernel_rfl) ?_
        refine x0 rfl (o_move (by conv => lhs; whnf)) (fun q => nomatch q) ?_
        refine x0 rfl (o_ari (by rfl) (by rfl) (ari_add (by rfl) (by omega) (by omega))) (fun q => nomatch q) ?_
        refine x0 rfl (o_assign (by conv => lhs; whnf)) (fun q => nomatch q) ?_
        refine x_nil ?_
        exact ⟨_, _, (by omega), wk_st [(1, .lst t L), (5, .int .i64 n), (6, .ptr 6 0 0), (7, .sl 107), (8, .int .i64 (k + 1))] [(6, ⟨[.agg [.lst (tt) ([]), .int .i64 n]], 0, false, 2, true⟩), (107, ⟨([]), (lo), true, 1, true⟩)] ⟨rfl, rfl, rfl, rfl, rfl, rfl, rfl, rfl, rfl, rfl, rfl, rfl, rfl, rfl, rfl, trivial⟩ ⟨rowLe_same rfl rfl rfl (fun q => q) rfl rfl rfl, rowLe_same rfl rfl rfl (fun q => q) rfl rfl rfl, trivial⟩, k + 1, tt, [], lo, rfl, (by omega), (hQ), ((by simp)), rfl⟩
      · skip
        refine pw_seq ?_
        refine pw_seq ?_
        refine pw_reg (by kernel_rfl) ?_
        refine x0 rfl (o_move (by conv => lhs; whnf)) (fun q => nomatch q) ?_
        refine x0 rfl (o_move (by conv => lhs; whnf)) (fun q => nomatch q) ?_
        first | (refine x0 rfl (o_lenL (by rfl) Ty.e22 rfl) (fun q => nomatch q) ?_) | (refine x0 rfl (o_lenR (by rfl) (by conv => lhs; whnf) Ty.e22 rfl) (fun q => nomatch q) ?_)
        first | (refine x0 rfl (o_cmp (by rfl) (by rfl) (c_ltT (by omega))) (fun q => nomatch q) ?_) | (refine x0 rfl (o_cmp (by rfl) (by rfl) (c_ltF (by omega))) (fun q => nomatch q) ?_) | (refine x0 rfl (o_cmp (by rfl) (by rfl) (c_ltT (by first | rfl | decide))) (fun q => nomatch q) ?_) | (refine x0 rfl (o_cmp (by rfl) (by rfl) (c_ltF (by first | decide | (simp; done) | (simp; omega)))) (fun q => nomatch q) ?_)
        refine x_nil ?_
        refine pw_cond true (by rfl) (fun _ => ?_) (fun q => nomatch q)
        refine pw_skip ?_
        refine pw_seq ?_
        refine pw_block ?_
        refine pw_seq ?_
        refine pw_seq ?_
        refine pw_reg (by kernel_rfl) ?_
        refine x0 rfl (o_move (by conv => lhs; whnf)) (fun q => nomatch q) ?_
        refine x0 rfl (o_move (by conv => lhs; whnf)) (fun q => nomatch q) ?_
        first | (refine x0 rfl (o_idxL (m := k) (by rfl) (by rfl) (by rfl) hv Ty.e22 Ty.s3 (by rfl) (by conv => lhs; whnf)) (fun q => nomatch q) ?_) | (refine x0 rfl (o_idxR (m := k) (by rfl) (by conv => lhs; whnf) (by rfl) (by rfl) hv Ty.e22 Ty.s3 rfl) (fun q => nomatch q) ?_)
        first | (refine x0 rfl (o_loadS (by rfl) (by conv => lhs; whnf) rfl Ty.a3 (by conv => lhs; whnf)) (fun q => nomatch q) ?_) | (refine x0 rfl (o_loadRS (by rfl) Ty.a3 (by conv => lhs; whnf)) (fun q => nomatch q) ?_)
        refine x0 rfl (o_ari (by rfl) (by rfl) (show ariI .i64 .rem v 2 = some (v.tmod 2) from rfl)) (fun q => nomatch q) ?_
        refine x0 rfl (o_cmp (by rfl) (by rfl) (c_eqF hp)) (fun q => nomatch q) ?_
        refine x_nil ?_
        refine pw_cond false (by rfl) (fun q => nomatch q) (fun _ => ?_)
        refine pw_seq ?_
        refine pw_reg (by kernel_rfl) ?_
        first | (refine x0 rfl (o_loadA (by rfl) (by conv => lhs; whnf) rfl Ty.a24 Ty.s24 (Nat.le_of_ble_eq_true rfl) (by conv => lhs; whnf)) (fun q => nomatch q) ?_) | (refine x0 rfl (o_loadRA (by rfl) Ty.a24 Ty.s24 (Nat.le_of_ble_eq_true rfl) (by conv => lhs; whnf)) (fun q => nomatch q) ?_)
        refine x_cal rfl (o_callF (ls := [])  rfl Try.func16 rfl (by decide) rfl rfl rfl (C2.pop_ok tt x n (PV.int .i64 x :: M) M rfl (fun e he => hQ.len e (List.mem_cons_of_mem _ he))) rfl) (fun q => nomatch q) ?_
        refine x0 rfl (o_move (by conv => lhs; whnf)) (fun q => nomatch q) ?_
        refine x0 rfl (o_extract (by conv => lhs; whnf) (by conv => lhs; whnf)) (fun q => nomatch q) ?_
        refine x0 rfl (o_extract (by conv => lhs; whnf) (by conv => lhs; whnf)) (fun q => nomatch q) ?_
        refine x0 rfl (o_extract (by conv => lhs; whnf) (by conv => lhs; whnf)) (fun q => nomatch q) ?_
        refine x1 rfl (o_alloc (z := 2) rfl Ty.z24 (by conv => lhs; whnf) rfl rfl) rfl (fun q => nomatch q) (fun q => nomatch q) ?_
        refine x_sto rfl (o_store (by conv => lhs; whnf) (by conv => lhs; whnf) (by conv => lhs; whnf) rfl Ty.s24 (Nat.le_of_ble_eq_true rfl) rfl) (by conv => lhs; whnf) rfl (Nat.zero_le _) (Nat.le_of_ble_eq_true rfl) rfl (by conv => lhs; whnf) (by conv => lhs; whnf) (by conv => lhs; whnf) (fun q => nomatch q) (fun q => nomatch q) ?_
        refine x0 rfl (o_assign (by conv => lhs; whnf)) (fun q => nomatch q) ?_
        refine x0 rfl (o_assign (by conv => lhs; whnf)) (fun q => nomatch q) ?_
        refine x_nil ?_
        refine pw_seq ?_
        refine pw_seq ?_
        refine pw_reg (by kernel_rfl) ?_
        refine x0 rfl (o_move (by conv => lhs; whnf)) (fun q => nomatch q) ?_
        refine x0 rfl (o_cmp (by rfl) (by rfl) (c_eqT rfl)) (fun q => nomatch q) ?_
        refine x0 rfl (o_move (by conv => lhs; whnf)) (fun q => nomatch q) ?_
        first | (refine x0 rfl (o_lenL (by rfl) Ty.e22 rfl) (fun q => nomatch q) ?_) | (refine x0 rfl (o_lenR (by rfl) (by conv => lhs; whnf) Ty.e22 rfl) (fun q => nomatch q) ?_)
        refine x0 rfl (o_cmp (by rfl) (by rfl) (c_gtT (by simp))) (fun q => nomatch q) ?_
        refine x0 rfl (o_neB (by rfl) (by rfl) Ty.u4 (by conv => lhs; whnf)) (fun q => nomatch q) ?_
        refine x0 rfl (o_move (by conv => lhs; whnf)) (fun q => nomatch q) ?_
        first | (refine x0 rfl (o_move (by conv => lhs; whnf)) (fun q => nomatch q) ?_) | (refine x_skip rfl ?_)
        refine x0 rfl (o_cmp (by rfl) (by rfl) (c_eqT rfl)) (fun q => nomatch q) ?_
        first | (refine x0 rfl (o_move (by conv => lhs; whnf)) (fun q => nomatch q) ?_) | (refine x_skip rfl ?_)
        first | (refine x0 rfl (o_move (by conv => lhs; whnf)) (fun q => nomatch q) ?_) | (refine x_skip rfl ?_)
        first | (refine x0 rfl (o_move (by conv => lhs; whnf)) (fun q => nomatch q) ?_) | (refine x_skip rfl ?_)
        refine x0 rfl (o_idxR (m := 0) (by rfl) (by conv => lhs; whnf) (by rfl) (by rfl) (by simp) Ty.e22 Ty.s3 rfl) (fun q => nomatch q) ?_
        first | (refine x0 rfl (o_loadS (by rfl) (by conv => lhs; whnf) rfl Ty.a3 (by conv => lhs; whnf)) (fun q => nomatch q) ?_) | (refine x0 rfl (o_loadRS (by rfl) Ty.a3 (by conv => lhs; whnf)) (fun q => nomatch q) ?_) | (refine x_skip rfl ?_)
        refine x0 rfl (o_cmp (by rfl) (by rfl) (c_neF rfl)) (fun q => nomatch q) ?_
        first | (refine x0 rfl (o_pickT (by rfl) (by conv => lhs; whnf)) (fun q => nomatch q) ?_) | (refine x0 rfl (o_pickF (by rfl) (by conv => lhs; whnf)) (fun q => nomatch q) ?_) | (refine x_skip rfl ?_)
        first | (refine x0 rfl (o_pickT (by rfl) (by conv => lhs; whnf)) (fun q => nomatch q) ?_) | (refine x0 rfl (o_pickF (by rfl) (by conv => lhs; whnf)) (fun q => nomatch q) ?_)
        refine x_nil ?_
        refine pw_cond false (by rfl) (fun q => nomatch q) (fun _ => ?_)
        refine pw_skip ?_
        refine pw_seq ?_
        refine pw_seq ?_
        refine pw_reg (by kernel_rfl) ?_
        refine x0 rfl (o_move (by conv => lhs; whnf)) (fun q => nomatch q) ?_
        refine x0 rfl (o_cmp (by rfl) (by rfl) (c_eqT rfl)) (fun q => nomatch q) ?_
        refine x_nil ?_
        refine pw_cond true (by rfl) (fun _ => ?_) (fun q => nomatch q)
        refine pw_reg (by kernel_rfl) ?_
        refine x0 rfl (o_move (by conv => lhs; whnf)) (fun q => nomatch q) ?_
        refine x_app rfl (o_sliceR (i := 1) rfl (by rfl) (by conv => lhs; whnf) Ty.e22 Ty.s3 (by rfl) ⟨_, rfl⟩ (by simp) rfl rfl (by conv => lhs; whnf)) rfl (by conv => lhs; whnf) rfl (fun q => nomatch q) (fun q => nomatch q) ?_
        refine x0 rfl (o_assign (by conv => lhs; whnf)) (fun q => nomatch q) ?_
        refine x_nil ?_
        refine pw_reg (by kernel_rfl) ?_
        first | (refine x0 rfl (o_loadA (by rfl) (by conv => lhs; whnf) rfl Ty.a24 Ty.s24 (Nat.le_of_ble_eq_true rfl) (by conv => lhs; whnf)) (fun q => nomatch q) ?_) | (refine x0 rfl (o_loadRA (by rfl) Ty.a24 Ty.s24 (Nat.le_of_ble_eq_true rfl) (by conv => lhs; whnf)) (fun q => nomatch q) ?_)
        refine x_sto rfl (o_store (by conv => lhs; whnf) (by conv => lhs; whnf) (by conv => lhs; whnf) rfl Ty.s24 (Nat.le_of_ble_eq_true rfl) rfl) (by conv => lhs; whnf) rfl (Nat.zero_le _) (Nat.le_of_ble_eq_true rfl) rfl (by conv => lhs; whnf) (by conv => lhs; whnf) (by conv => lhs; whnf) (fun q => nomatch q) (fun q => nomatch q) ?_
        refine x_nil ?_
        refine pw_seq ?_
        refine pw_reg (by kernel_rfl) ?_
        first | (refine x0 rfl (o_loadA (by rfl) (by conv => lhs; whnf) rfl Ty.a24 Ty.s24 (Nat.le_of_ble_eq_true rfl) (by conv => lhs; whnf)) (fun q => nomatch q) ?_) | (refine x0 rfl (o_loadRA (by rfl) Ty.a24 Ty.s24 (Nat.le_of_ble_eq_true rfl) (by conv => lhs; whnf)) (fun q => nomatch q) ?_)
        refine x0 rfl (o_call  rfl Try.func22 rfl (by decide) rfl rfl rfl (C2.len_ok true M n) rfl) (fun q => nomatch q) ?_
        refine x0 rfl (o_move (by conv => lhs; whnf)) (fun q => nomatch q) ?_
        first | (refine x0 rfl (o_lenL (by rfl) Ty.e22 rfl) (fun q => nomatch q) ?_) | (refine x0 rfl (o_lenR (by rfl) (by conv => lhs; whnf) Ty.e22 rfl) (fun q => nomatch q) ?_)
        refine x0 rfl (o_cmp (by rfl) (by rfl) (c_neF rfl)) (fun q => nomatch q) ?_
        refine x_nil ?_
        refine pw_cond false (by rfl) (fun q => nomatch q) (fun _ => ?_)
        refine pw_skip ?_
        refine pw_reg (by kernel_rfl) ?_
        refine x0 rfl (o_move (by conv => lhs; whnf)) (fun q => nomatch q) ?_
        refine x0 rfl (o_ari (by rfl) (by rfl) (ari_add (by rfl) (by omega) (by omega))) (fun q => nomatch q) ?_
        refine x0 rfl (o_assign (by conv => lhs; whnf)) (fun q => nomatch q) ?_
        refine x_nil ?_
        exact ⟨_, _, (by omega), wk_stP (fun l => if l = 107 then 85 else l) [(1, .lst t L), (5, .int .i64 n), (6, .ptr 6 0 0), (7, .sl 107), (8, .int .i64 (k + 1))] [(6, ⟨[.agg [.lst (true) (M), .int .i64 n]], 0, false, 2, true⟩), (107, ⟨(M), (M.length), true, 1, true⟩)] ⟨rfl, rfl, rfl, rfl, rfl, rfl, rfl, rfl, rfl, rfl, rfl, rfl, rfl, rfl, rfl, trivial⟩ ⟨rowLe_ren rfl rfl rfl (fun q => q) rfl rfl rfl, rowLe_ren rfl rfl rfl (fun q => q) rfl rfl rfl, trivial⟩ rfl, k + 1, true, M, M.length, rfl, (by omega), ((fun e he => hQ e (List.mem_cons_of_mem _ he))), ((by simp at hlen; omega)), rfl⟩
    · skip
      refine pw_seq ?_
      refine pw_seq ?_
      refine pw_reg (by kernel_rfl) ?_
      refine x0 rfl (o_move (by conv => lhs; whnf)) (fun q => nomatch q) ?_
      refine x0 rfl (o_move (by conv => lhs; whnf)) (fun q => nomatch q) ?_
      first | (refine x0 rfl (o_lenL (by rfl) Ty.e22 rfl) (fun q => nomatch q) ?_) | (refine x0 rfl (o_lenR (by rfl) (by conv => lhs; whnf) Ty.e22 rfl) (fun q => nomatch q) ?_)
      first | (refine x0 rfl (o_cmp (by rfl) (by rfl) (c_ltT (by omega))) (fun q => nomatch q) ?_) | (refine x0 rfl (o_cmp (by rfl) (by rfl) (c_ltF (by omega))) (fun q => nomatch q) ?_) | (refine x0 rfl (o_cmp (by rfl) (by rfl) (c_ltT (by first | rfl | decide))) (fun q => nomatch q) ?_) | (refine x0 rfl (o_cmp (by rfl) (by rfl) (c_ltF (by first | decide | (simp; done) | (simp; omega)))) (fun q => nomatch q) ?_)
      refine x_nil ?_
      refine pw_cond false (by rfl) (fun q => nomatch q) (fun _ => ?_)
      refine pw_exit ?_
      refine thenQ_exit ?_
      refine thenQ_exit ?_
      refine blockQ_exit ?_
      refine pw_seq ?_
      refine pw_reg (by kernel_rfl) ?_
      refine x0 rfl (o_assign (by conv => lhs; whnf)) (fun q => nomatch q) ?_
      refine x_nil ?_
      refine pw_ret ?_
      exact ⟨[_], ⟨rfl, trivial⟩, rfl, by (first | exact .inl rfl | exact .inr rfl)⟩

end Go.Proofs.Ytgleeglhdlnobaa.C2c
