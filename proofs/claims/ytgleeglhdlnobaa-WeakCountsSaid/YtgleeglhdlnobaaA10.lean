/-
  Layer 9: other functions.
  Conditions: the premises of each.
-/
import Derived.Test.YtgleeglhdlnobaaA9
namespace Go.Proofs.Ytgleeglhdlnobaa.C9b
open Go Go.Pw Go.Proofs C9
set_option linter.unusedVariables false
theorem rep_get {α : Type} (x z : α) {k n : Nat} (h : k < n) : (List.replicate k x ++ List.replicate (n - k) z)[k]? = some z := by
  rw [List.getElem?_append_right (by simp)]
  simp [List.getElem?_replicate]
  omega
theorem rep_set {α : Type} (x z : α) {k n : Nat} (h : k < n) : (List.replicate k x ++ List.replicate (n - k) z).set k x = List.replicate (k + 1) x ++ List.replicate (n - (k + 1)) z := by
  apply List.ext_getElem?
  intro i
  rw [List.getElem?_set]
  by_cases q : k = i
  · subst q
    simp [List.getElem?_append, List.getElem?_replicate]
    omega
  · rw [if_neg q]
    simp only [List.getElem?_append, List.getElem?_replicate, List.length_replicate]
    by_cases h1 : i < k
    · simp [h1, show i < k + 1 by omega]
    · simp only [if_neg h1, show ¬ i < k + 1 by omega, if_false]
      by_cases h2 : i < n
      · simp [show i - k < n - k by omega, show i - (k + 1) < n - (k + 1) by omega]
      · simp [show ¬ i - k < n - k by omega, show ¬ i - (k + 1) < n - (k + 1) by omega]
def tms (L : List PV) (p : PV → Bool) (k : Nat) : Nat := (L.take k).countP p
def isH (h : Int) : PV → Bool
  | .int _ n => n == h && n != 0
  | _ => false
theorem tms_succ (L : List PV) (p : PV → Bool) {k : Nat} {x : PV} (h : L[k]? = some x) : tms L p (k + 1) = tms L p k + (if p x then 1 else 0) := by
  simp [tms, List.take_add_one, h, List.countP_append, List.countP_singleton]
theorem tms_le (L : List PV) (p : PV → Bool) (k : Nat) : tms L p k ≤ k := by
  unfold tms
  exact Nat.le_trans List.countP_le_length (by simp; omega)
theorem h_cases (x h : Int) : (x = h ∧ h ≠ 0) ∨ (x = h ∧ h = 0) ∨ x ≠ h := by omega
namespace Ty
theorem a3 : tagg Try.prog 3 = some false := by kernel_rfl
theorem b76 : tbytes Try.prog 76 = some 24 := by kernel_rfl
theorem e22 : telem Try.prog 22 = some 3 := by kernel_rfl
theorem e59 : telem Try.prog 59 = some 76 := by kernel_rfl
theorem f76_2 : foff Try.prog 76 2 = some (2, 3) := by kernel_rfl
theorem s3 : tsize Try.prog 3 = some 1 := by kernel_rfl
theorem s76 : tsize Try.prog 76 = some 3 := by kernel_rfl
theorem z76 : tzero Try.prog 76 = some ((.agg #[(.int .i64 0), (.bool false), (.int .i64 0)])) := by kernel_rfl
theorem mix : Try.prog.follows .mixedOrders = true := by kernel_rfl
end Ty
set_option maxRecDepth 100000 in
set_option maxHeartbeats 4000000 in
theorem times_ok (t : Bool) (L : List PV) (hI : Ints L) (hb : L.length ≤ 1000000) (h : Int) : PCalls Try.prog 31 [.lst t L, .int .i64 h] (.int .i64 (tms L (isH h) L.length : Nat)) := by
  refine pc_intro (N := 26) Try.func31 rfl rfl (Nat.le_of_ble_eq_true rfl) fun w0 imm0 => ?_
  refine pw_seq ?_
  refine pw_reg (by kernel_rfl) ?_
  refine x0 rfl (o_assign (by conv => lhs; whnf)) (fun q => nomatch q) ?_
  refine x_nil ?_
  refine pw_seq ?_
  refine pw_reg (by kernel_rfl) ?_
  refine x0 rfl (o_assign (by conv => lhs; whnf)) (fun q => nomatch q) ?_
  refine x_nil ?_
  refine pw_seq ?_
  refine pw_seq ?_
  refine pw_reg (by kernel_rfl) ?_
  refine x0 rfl (o_assign (by conv => lhs; whnf)) (fun q => nomatch q) ?_
  refine x_nil ?_
  refine pw_block ?_
  refine pw_loopW (fun m s => ∃ k : Nat, m = L.length - k ∧ (k ≤ L.length) ∧ s = St.of [(0, .lst t L), (1, .int .i64 h), (5, .int .i64 (tms L (isH h) k : Nat)), (6, .int .i64 k)] []) (m := L.length - (0)) (wk_st [(0, .lst t L), (1, .int .i64 h), (5, .int .i64 (tms L (isH h) (0) : Nat)), (6, .int .i64 (0))] [] ⟨rfl, rfl, rfl, rfl, rfl, rfl, rfl, rfl, rfl, rfl, rfl, rfl, trivial⟩ trivial) ⟨0, rfl, (Nat.zero_le _), rfl⟩ ?_
  · rintro _ _ ⟨k, rfl, hk, rfl⟩
    rcases Nat.lt_or_ge k L.length with hk2 | hk2
    · obtain ⟨x, hv⟩ := hI.get hk2; have hle := tms_le L (isH h) k
      rcases h_cases x h with ⟨hx, h0⟩ | ⟨hx, h0⟩ | hx
      · skip
        refine pw_seq ?_
        refine pw_seq ?_
        refine pw_reg (by kernel_rfl) ?_
        refine x0 rfl (o_move (by conv => lhs; whnf)) (fun q => nomatch q) ?_
        refine x0 rfl (o_move (by conv => lhs; whnf)) (fun q => nomatch q) ?_
        first | (refine x0 rfl (o_lenL (by rfl) Ty.e22 rfl) (fun q => nomatch q) ?_) | (refine x0 rfl (o_lenR (by rfl) (by conv => lhs; whnf) Ty.e22 rfl) (fun q => nomatch q) ?_)
        first | (refine x0 rfl (o_cmp (by rfl) (by rfl) (c_ltT (by omega))) (fun q => nomatch q) ?_) | (refine x0 rfl (o_cmp (by rfl) (by rfl) (c_ltF (by omega))) (fun q => nomatch q) ?_) | (refine x0 rfl (o_cmp (by rfl) (by rfl) (c_ltT (by first | rfl | decide))) (fun q => nomatch q) ?_) | (refine x0 rfl (o_cmp (by rfl) (by rfl) (c_ltF (by first | decide | (simp; done) | (simp; omega)))) (fun q => nomatch q) ?_)
        refine x_nil ?_
        refine pw_cond true (by rfl) (fun _ => ?_) (fun q => nomatch q)
        refine pw_skip ?_
        refine pw_seq ?_
        refine pw_block ?_
        refine pw_seq ?_
        refine pw_reg (by kernel_rfl) ?_
        refine x0 rfl (o_move (by conv => lhs; whnf)) (fun q => nomatch q) ?_
        refine x0 rfl (o_move (by conv => lhs; whnf)) (fun q => nomatch q) ?_
        refine x0 rfl (o_idxL (m := k) (by rfl) (by rfl) (by rfl) hv Ty.e22 Ty.s3 (by rfl) (by conv => lhs; whnf)) (fun q => nomatch q) ?_
        first | (refine x0 rfl (o_loadS (by rfl) (by conv => lhs; whnf) rfl Ty.a3 (by conv => lhs; whnf)) (fun q => nomatch q) ?_) | (refine x0 rfl (o_loadRS (by rfl) Ty.a3 (by conv => lhs; whnf)) (fun q => nomatch q) ?_)
        refine x0 rfl (o_move (by conv => lhs; whnf)) (fun q => nomatch q) ?_
        refine x0 rfl (o_cmp (by rfl) (by rfl) (c_eqT hx)) (fun q => nomatch q) ?_
        refine x0 rfl (o_move (by conv => lhs; whnf)) (fun q => nomatch q) ?_
        first | (refine x0 rfl (o_move (by conv => lhs; whnf)) (fun q => nomatch q) ?_) | (refine x_skip rfl ?_)
        refine x0 rfl (o_cmp (by rfl) (by rfl) (c_neT h0)) (fun q => nomatch q) ?_
        first | (refine x0 rfl (o_pickT (by rfl) (by conv => lhs; whnf)) (fun q => nomatch q) ?_) | (refine x0 rfl (o_pickF (by rfl) (by conv => lhs; whnf)) (fun q => nomatch q) ?_)
        refine x_nil ?_
        refine pw_cond true (by rfl) (fun _ => ?_) (fun q => nomatch q)
        refine pw_reg (by kernel_rfl) ?_
        refine x0 rfl (o_move (by conv => lhs; whnf)) (fun q => nomatch q) ?_
        refine x0 rfl (o_ari (by rfl) (by rfl) (ari_add (by rfl) (by omega) (by omega))) (fun q => nomatch q) ?_
        refine x0 rfl (o_assign (by conv => lhs; whnf)) (fun q => nomatch q) ?_
        refine x_nil ?_
        refine pw_reg (by kernel_rfl) ?_
        refine x0 rfl (o_move (by conv => lhs; whnf)) (fun q => nomatch q) ?_
        refine x0 rfl (o_ari (by rfl) (by rfl) (ari_add (by rfl) (by omega) (by omega))) (fun q => nomatch q) ?_
        refine x0 rfl (o_assign (by conv => lhs; whnf)) (fun q => nomatch q) ?_
        refine x_nil ?_
        have e := tms_succ L (isH h) hv
        simp only [show isH h (PV.int .i64 x) = true by simp [isH, hx, h0], if_true] at e
        exact ⟨_, _, (by omega), wk_st [(0, .lst t L), (1, .int .i64 h), (5, .int .i64 (tms L (isH h) (k + 1) : Nat)), (6, .int .i64 (k + 1 : Nat))] [] ⟨rfl, rfl, rfl, rfl, rfl, rfl, (by rw [e]; rfl), rfl, rfl, rfl, rfl, rfl, trivial⟩ trivial, k + 1, rfl, (by omega), rfl⟩
      · skip
        refine pw_seq ?_
        refine pw_seq ?_
        refine pw_reg (by kernel_rfl) ?_
        refine x0 rfl (o_move (by conv => lhs; whnf)) (fun q => nomatch q) ?_
        refine x0 rfl (o_move (by conv => lhs; whnf)) (fun q => nomatch q) ?_
        first | (refine x0 rfl (o_lenL (by rfl) Ty.e22 rfl) (fun q => nomatch q) ?_) | (refine x0 rfl (o_lenR (by rfl) (by conv => lhs; whnf) Ty.e22 rfl) (fun q => nomatch q) ?_)
        first | (refine x0 rfl (o_cmp (by rfl) (by rfl) (c_ltT (by omega))) (fun q => nomatch q) ?_) | (refine x0 rfl (o_cmp (by rfl) (by rfl) (c_ltF (by omega))) (fun q => nomatch q) ?_) | (refine x0 rfl (o_cmp (by rfl) (by rfl) (c_ltT (by first | rfl | decide))) (fun q => nomatch q) ?_) | (refine x0 rfl (o_cmp (by rfl) (by rfl) (c_ltF (by first | decide | (simp; done) | (simp; omega)))) (fun q => nomatch q) ?_)
        refine x_nil ?_
        refine pw_cond true (by rfl) (fun _ => ?_) (fun q => nomatch q)
        refine pw_skip ?_
        refine pw_seq ?_
        refine pw_block ?_
        refine pw_seq ?_
        refine pw_reg (by kernel_rfl) ?_
        refine x0 rfl (o_move (by conv => lhs; whnf)) (fun q => nomatch q) ?_
        refine x0 rfl (o_move (by conv => lhs; whnf)) (fun q => nomatch q) ?_
        refine x0 rfl (o_idxL (m := k) (by rfl) (by rfl) (by rfl) hv Ty.e22 Ty.s3 (by rfl) (by conv => lhs; whnf)) (fun q => nomatch q) ?_
        first | (refine x0 rfl (o_loadS (by rfl) (by conv => lhs; whnf) rfl Ty.a3 (by conv => lhs; whnf)) (fun q => nomatch q) ?_) | (refine x0 rfl (o_loadRS (by rfl) Ty.a3 (by conv => lhs; whnf)) (fun q => nomatch q) ?_)
        refine x0 rfl (o_move (by conv => lhs; whnf)) (fun q => nomatch q) ?_
        refine x0 rfl (o_cmp (by rfl) (by rfl) (c_eqT hx)) (fun q => nomatch q) ?_
        refine x0 rfl (o_move (by conv => lhs; whnf)) (fun q => nomatch q) ?_
        first | (refine x0 rfl (o_move (by conv => lhs; whnf)) (fun q => nomatch q) ?_) | (refine x_skip rfl ?_)
        refine x0 rfl (o_cmp (by rfl) (by rfl) (c_neF h0)) (fun q => nomatch q) ?_
        first | (refine x0 rfl (o_pickT (by rfl) (by conv => lhs; whnf)) (fun q => nomatch q) ?_) | (refine x0 rfl (o_pickF (by rfl) (by conv => lhs; whnf)) (fun q => nomatch q) ?_)
        refine x_nil ?_
        refine pw_cond false (by rfl) (fun q => nomatch q) (fun _ => ?_)
        refine pw_skip ?_
        refine pw_reg (by kernel_rfl) ?_
        refine x0 rfl (o_move (by conv => lhs; whnf)) (fun q => nomatch q) ?_
        refine x0 rfl (o_ari (by rfl) (by rfl) (ari_add (by rfl) (by omega) (by omega))) (fun q => nomatch q) ?_
        refine x0 rfl (o_assign (by conv => lhs; whnf)) (fun q => nomatch q) ?_
        refine x_nil ?_
        have e := tms_succ L (isH h) hv
        simp only [show isH h (PV.int .i64 x) = false by simp [isH, hx, h0], Bool.false_eq_true, if_false, Nat.add_zero] at e
        exact ⟨_, _, (by omega), wk_st [(0, .lst t L), (1, .int .i64 h), (5, .int .i64 (tms L (isH h) (k + 1) : Nat)), (6, .int .i64 (k + 1 : Nat))] [] ⟨rfl, rfl, rfl, rfl, rfl, rfl, (by rw [e]; rfl), rfl, rfl, rfl, rfl, rfl, trivial⟩ trivial, k + 1, rfl, (by omega), rfl⟩
      · skip
        refine pw_seq ?_
        refine pw_seq ?_
        refine pw_reg (by kernel_rfl) ?_
        refine x0 rfl (o_move (by conv => lhs; whnf)) (fun q => nomatch q) ?_
        refine x0 rfl (o_move (by conv => lhs; whnf)) (fun q => nomatch q) ?_
        first | (refine x0 rfl (o_lenL (by rfl) Ty.e22 rfl) (fun q => nomatch q) ?_) | (refine x0 rfl (o_lenR (by rfl) (by conv => lhs; whnf) Ty.e22 rfl) (fun q => nomatch q) ?_)
        first | (refine x0 rfl (o_cmp (by rfl) (by rfl) (c_ltT (by omega))) (fun q => nomatch q) ?_) | (refine x0 rfl (o_cmp (by rfl) (by rfl) (c_ltF (by omega))) (fun q => nomatch q) ?_) | (refine x0 rfl (o_cmp (by rfl) (by rfl) (c_ltT (by first | rfl | decide))) (fun q => nomatch q) ?_) | (refine x0 rfl (o_cmp (by rfl) (by rfl) (c_ltF (by first | decide | (simp; done) | (simp; omega)))) (fun q => nomatch q) ?_)
        refine x_nil ?_
        refine pw_cond true (by rfl) (fun _ => ?_) (fun q => nomatch q)
        refine pw_skip ?_
        refine pw_seq ?_
        refine pw_block ?_
        refine pw_seq ?_
        refine pw_reg (by kernel_rfl) ?_
        refine x0 rfl (o_move (by conv => lhs; whnf)) (fun q => nomatch q) ?_
        refine x0 rfl (o_move (by conv => lhs; whnf)) (fun q => nomatch q) ?_
        refine x0 rfl (o_idxL (m := k) (by rfl) (by rfl) (by rfl) hv Ty.e22 Ty.s3 (by rfl) (by conv => lhs; whnf)) (fun q => nomatch q) ?_
        first | (refine x0 rfl (o_loadS (by rfl) (by conv => lhs; whnf) rfl Ty.a3 (by conv => lhs; whnf)) (fun q => nomatch q) ?_) | (refine x0 rfl (o_loadRS (by rfl) Ty.a3 (by conv => lhs; whnf)) (fun q => nomatch q) ?_)
        refine x0 rfl (o_move (by conv => lhs; whnf)) (fun q => nomatch q) ?_
        refine x0 rfl (o_cmp (by rfl) (by rfl) (c_eqF hx)) (fun q => nomatch q) ?_
        refine x0 rfl (o_move (by conv => lhs; whnf)) (fun q => nomatch q) ?_
        first | (refine x0 rfl (o_move (by conv => lhs; whnf)) (fun q => nomatch q) ?_) | (refine x_skip rfl ?_)
        first | (refine x0 rfl (o_cmp (by rfl) (by rfl) (c_neT (by omega))) (fun q => nomatch q) ?_) | (refine x0 rfl (o_cmp (by rfl) (by rfl) (c_neF (by omega))) (fun q => nomatch q) ?_) | (refine x0 rfl (o_cmp (by rfl) (by rfl) (c_neT (by first | rfl | decide))) (fun q => nomatch q) ?_) | (refine x0 rfl (o_cmp (by rfl) (by rfl) (c_neF (by first | decide | (simp; done) | (simp; omega)))) (fun q => nomatch q) ?_) | (refine x_skip rfl ?_)
        first | (refine x0 rfl (o_pickT (by rfl) (by conv => lhs; whnf)) (fun q => nomatch q) ?_) | (refine x0 rfl (o_pickF (by rfl) (by conv => lhs; whnf)) (fun q => nomatch q) ?_)
        refine x_nil ?_
        refine pw_cond false (by rfl) (fun q => nomatch q) (fun _ => ?_)
        refine pw_skip ?_
        refine pw_reg (by kernel_rfl) ?_
        refine x0 rfl (o_move (by conv => lhs; whnf)) (fun q => nomatch q) ?_
        refine x0 rfl (o_ari (by rfl) (by rfl) (ari_add (by rfl) (by omega) (by omega))) (fun q => nomatch q) ?_
        refine x0 rfl (o_assign (by conv => lhs; whnf)) (fun q => nomatch q) ?_
        refine x_nil ?_
        have e := tms_succ L (isH h) hv
        simp only [show isH h (PV.int .i64 x) = false by simp [isH, hx], Bool.false_eq_true, if_false, Nat.add_zero] at e
        exact ⟨_, _, (by omega), wk_st [(0, .lst t L), (1, .int .i64 h), (5, .int .i64 (tms L (isH h) (k + 1) : Nat)), (6, .int .i64 (k + 1 : Nat))] [] ⟨rfl, rfl, rfl, rfl, rfl, rfl, (by rw [e]; rfl), rfl, rfl, rfl, rfl, rfl, trivial⟩ trivial, k + 1, rfl, (by omega), rfl⟩
    · obtain rfl : k = L.length := by omega
      refine pw_seq ?_
      refine pw_seq ?_
      refine pw_reg (by kernel_rfl) ?_
      refine x0 rfl (o_move (by conv => lhs; whnf)) (fun q => nomatch q) ?_
      refine x0 rfl (o_move (by conv => lhs; whnf)) (fun q => nomatch q) ?_
      first | (refine x0 rfl (o_lenL (by rfl) Ty.e22 rfl) (fun q => nomatch q) ?_) | (refine x0 rfl (o_lenR (by rfl) (by conv => lhs; whnf) Ty.e22 rfl) (fun q => nomatch q) ?_)
      first | (refine x0 rfl (o_cmp (by rfl) (by rfl) (c_ltT (by omega))) (fun q => nomatch q) ?_) | (refine x0 rfl (o_cmp (by rfl) (by rfl) (c_ltF (by omega))) (fun q => nomatch q) ?_) | (refine x0 rfl (o_cmp (by rfl) (by rfl) (c_ltT (by first | rfl | decide))) (fun q => nomatch q) ?_) | (refine x0 rfl (o_cmp (by rfl) (by rfl) (c_ltF (by first | decide | (simp; done) | (simp; omega)))) (fun q => nomatch q) ?_)
      refine x_nil ?_
      refine pw_cond false (by rfl) (fun q => nomatch q) (fun _ => ?_)
      refine pw_exit ?_
      refine thenQ_exit ?_
      refine thenQ_exit ?_
      refine blockQ_exit ?_
      refine pw_seq ?_
      refine pw_reg (by kernel_rfl) ?_
      refine x0 rfl (o_move (by conv => lhs; whnf)) (fun q => nomatch q) ?_
      refine x0 rfl (o_assign (by conv => lhs; whnf)) (fun q => nomatch q) ?_
      refine x_nil ?_
      refine pw_ret ?_
      exact ⟨[_], ⟨rfl, trivial⟩, rfl, by (first | exact .inl rfl | exact .inr rfl)⟩

set_option maxRecDepth 100000 in
set_option maxHeartbeats 4000000 in
theorem new_no (n : Int) (h : 6 < n) : PCalls Try.prog 37 [.int .i64 n] (.lst true []) := by
  refine pc_intro (N := 24) Try.func37 rfl rfl (Nat.le_of_ble_eq_true rfl) fun w0 imm0 => ?_
  refine pw_seq ?_
  refine pw_reg (by kernel_rfl) ?_
  refine x0 rfl (o_assign (by conv => lhs; whnf)) (fun q => nomatch q) ?_
  refine x_nil ?_
  refine pw_seq ?_
  refine pw_seq ?_
  refine pw_reg (by kernel_rfl) ?_
  refine x0 rfl (o_move (by conv => lhs; whnf)) (fun q => nomatch q) ?_
  first | (refine x0 rfl (o_cmp (by rfl) (by rfl) (c_ltT (by omega))) (fun q => nomatch q) ?_) | (refine x0 rfl (o_cmp (by rfl) (by rfl) (c_ltF (by omega))) (fun q => nomatch q) ?_) | (refine x0 rfl (o_cmp (by rfl) (by rfl) (c_ltT (by first | rfl | decide))) (fun q => nomatch q) ?_) | (refine x0 rfl (o_cmp (by rfl) (by rfl) (c_ltF (by first | decide | (simp; done) | (simp; omega)))) (fun q => nomatch q) ?_)
  refine x0 rfl (o_move (by conv => lhs; whnf)) (fun q => nomatch q) ?_
  first | (refine x0 rfl (o_move (by conv => lhs; whnf)) (fun q => nomatch q) ?_) | (refine x_skip rfl ?_)
  first | (refine x0 rfl (o_cmp (by rfl) (by rfl) (c_gtT (by omega))) (fun q => nomatch q) ?_) | (refine x0 rfl (o_cmp (by rfl) (by rfl) (c_gtF (by omega))) (fun q => nomatch q) ?_) | (refine x0 rfl (o_cmp (by rfl) (by rfl) (c_gtT (by first | rfl | decide))) (fun q => nomatch q) ?_) | (refine x0 rfl (o_cmp (by rfl) (by rfl) (c_gtF (by first | decide | (simp; done) | (simp; omega)))) (fun q => nomatch q) ?_) | (refine x_skip rfl ?_)
  first | (refine x0 rfl (o_pickT (by rfl) (by conv => lhs; whnf)) (fun q => nomatch q) ?_) | (refine x0 rfl (o_pickF (by rfl) (by conv => lhs; whnf)) (fun q => nomatch q) ?_)
  refine x_nil ?_
  refine pw_cond true (by rfl) (fun _ => ?_) (fun q => nomatch q)
  refine pw_seq ?_
  refine pw_reg (by kernel_rfl) ?_
  refine x0 rfl (o_assign (by conv => lhs; whnf)) (fun q => nomatch q) ?_
  refine x_nil ?_
  refine pw_ret ?_
  exact ⟨[_], ⟨rfl, trivial⟩, rfl, by (first | exact .inl rfl | exact .inr rfl)⟩

set_option maxRecDepth 100000 in
set_option maxHeartbeats 4000000 in
theorem new_ok (n : Nat) (h : n ≤ 6) : PCalls Try.prog 37 [.int .i64 n] (.lst false (List.replicate n (cell (0, false, -1)) ++ List.replicate (n - n) (PV.agg [.int .i64 0, .bool false, .int .i64 0]))) := by
  refine pc_intro (N := 24) Try.func37 rfl rfl (Nat.le_of_ble_eq_true rfl) fun w0 imm0 => ?_
  refine pw_seq ?_
  refine pw_reg (by kernel_rfl) ?_
  refine x0 rfl (o_assign (by conv => lhs; whnf)) (fun q => nomatch q) ?_
  refine x_nil ?_
  refine pw_seq ?_
  refine pw_seq ?_
  refine pw_reg (by kernel_rfl) ?_
  refine x0 rfl (o_move (by conv => lhs; whnf)) (fun q => nomatch q) ?_
  first | (refine x0 rfl (o_cmp (by rfl) (by rfl) (c_ltT (by omega))) (fun q => nomatch q) ?_) | (refine x0 rfl (o_cmp (by rfl) (by rfl) (c_ltF (by omega))) (fun q => nomatch q) ?_) | (refine x0 rfl (o_cmp (by rfl) (by rfl) (c_ltT (by first | rfl | decide))) (fun q => nomatch q) ?_) | (refine x0 rfl (o_cmp (by rfl) (by rfl) (c_ltF (by first | decide | (simp; done) | (simp; omega)))) (fun q => nomatch q) ?_)
  refine x0 rfl (o_move (by conv => lhs; whnf)) (fun q => nomatch q) ?_
  first | (refine x0 rfl (o_move (by conv => lhs; whnf)) (fun q => nomatch q) ?_) | (refine x_skip rfl ?_)
  first | (refine x0 rfl (o_cmp (by rfl) (by rfl) (c_gtT (by omega))) (fun q => nomatch q) ?_) | (refine x0 rfl (o_cmp (by rfl) (by rfl) (c_gtF (by omega))) (fun q => nomatch q) ?_) | (refine x0 rfl (o_cmp (by rfl) (by rfl) (c_gtT (by first | rfl | decide))) (fun q => nomatch q) ?_) | (refine x0 rfl (o_cmp (by rfl) (by rfl) (c_gtF (by first | decide | (simp; done) | (simp; omega)))) (fun q => nomatch q) ?_) | (refine x_skip rfl ?_)
  first | (refine x0 rfl (o_pickT (by rfl) (by conv => lhs; whnf)) (fun q => nomatch q) ?_) | (refine x0 rfl (o_pickF (by rfl) (by conv => lhs; whnf)) (fun q => nomatch q) ?_)
  refine x_nil ?_
  refine pw_cond false (by rfl) (fun q => nomatch q) (fun _ => ?_)
  refine pw_skip ?_
  refine pw_seq ?_
  refine pw_reg (by kernel_rfl) ?_
  refine x0 rfl (o_move (by conv => lhs; whnf)) (fun q => nomatch q) ?_
  refine x1 rfl (o_mkSlice (m := n) rfl (by conv => lhs; whnf) (by conv => lhs; whnf) (by rfl) Ty.e59 Ty.s76 Ty.z76 Ty.b76 (by conv => lhs; whnf) rfl rfl (by omega) (by omega)) rfl (fun q => nomatch q) (fun q => nomatch q) ?_
  refine x0 rfl (o_assign (by conv => lhs; whnf)) (fun q => nomatch q) ?_
  refine x_nil ?_
  refine pw_seq ?_
  refine pw_seq ?_
  refine pw_reg (by kernel_rfl) ?_
  refine x0 rfl (o_move (by conv => lhs; whnf)) (fun q => nomatch q) ?_
  first | (refine x0 rfl (o_lenL (by rfl) Ty.e59 (show ((List.replicate n _).length : Int) = (n : Int) by simp)) (fun q => nomatch q) ?_) | (refine x0 rfl (o_lenR (by rfl) (by conv => lhs; whnf) Ty.e59 (show ((List.replicate n _).length : Int) = (n : Int) by simp)) (fun q => nomatch q) ?_)
  refine x0 rfl (o_move (by conv => lhs; whnf)) (fun q => nomatch q) ?_
  refine x_nil ?_
  refine pw_block ?_
  refine pw_loopW (fun m s => ∃ k : Nat, m = n - k ∧ (k ≤ n) ∧ s = St.of [(3, .sl 12), (14, .int .i64 n), (15, .int .i64 k)] [(12, ⟨List.replicate k (cell (0, false, -1)) ++ List.replicate (n - k) (PV.agg [.int .i64 0, .bool false, .int .i64 0]), 0, true, 3, true⟩)]) (m := n - (0)) (wk_st [(3, .sl 12), (14, .int .i64 n), (15, .int .i64 (0))] [(12, ⟨List.replicate (0) (cell (0, false, -1)) ++ List.replicate (n - (0)) (PV.agg [.int .i64 0, .bool false, .int .i64 0]), 0, true, 3, true⟩)] ⟨rfl, rfl, rfl, rfl, rfl, rfl, rfl, rfl, rfl, trivial⟩ ⟨rowLe_same rfl rfl rfl (fun q => q) rfl rfl rfl, trivial⟩) ⟨0, rfl, (Nat.zero_le _), rfl⟩ ?_
  · rintro _ _ ⟨k, rfl, hk, rfl⟩
    rcases Nat.lt_or_ge k n with hk2 | hk2
    · skip
      refine pw_seq ?_
      refine pw_reg (by kernel_rfl) ?_
      first | (refine x0 rfl (o_cmp (by rfl) (by rfl) (c_ltT (by omega))) (fun q => nomatch q) ?_) | (refine x0 rfl (o_cmp (by rfl) (by rfl) (c_ltF (by omega))) (fun q => nomatch q) ?_) | (refine x0 rfl (o_cmp (by rfl) (by rfl) (c_ltT (by first | rfl | decide))) (fun q => nomatch q) ?_) | (refine x0 rfl (o_cmp (by rfl) (by rfl) (c_ltF (by first | decide | (simp; done) | (simp; omega)))) (fun q => nomatch q) ?_)
      refine x_nil ?_
      refine pw_seq ?_
      refine pw_cond true (by rfl) (fun _ => ?_) (fun q => nomatch q)
      refine pw_skip ?_
      refine pw_seq ?_
      refine pw_block ?_
      refine pw_seq ?_
      refine pw_reg (by kernel_rfl) ?_
      refine x0 rfl (o_move (by conv => lhs; whnf)) (fun q => nomatch q) ?_
      refine x0 rfl (o_assign (by conv => lhs; whnf)) (fun q => nomatch q) ?_
      refine x_nil ?_
      refine pw_reg (by kernel_rfl) ?_
      refine x0 rfl (o_move (by conv => lhs; whnf)) (fun q => nomatch q) ?_
      refine x0 rfl (o_move (by conv => lhs; whnf)) (fun q => nomatch q) ?_
      refine x0 rfl (o_idxR (m := k) (by rfl) (by conv => lhs; whnf) (by rfl) (by rfl) (by simp; omega) Ty.e59 Ty.s76 rfl) (fun q => nomatch q) ?_
      first | (refine x0 rfl (o_fieldAddrP (by rfl) Ty.f76_2 (by conv => lhs; whnf)) (fun q => nomatch q) ?_) | (refine x0 rfl (o_fieldAddrR (by rfl) Ty.f76_2 (by conv => lhs; whnf)) (fun q => nomatch q) ?_)
      refine x_sto rfl (o_store (by conv => lhs; whnf) (by conv => lhs; whnf) (by conv => lhs; whnf) rfl Ty.s3 (Nat.le_of_ble_eq_true rfl) rfl) (by conv => lhs; whnf) (rep_get _ _ hk2) (Nat.zero_le _) (Nat.le_of_ble_eq_true rfl) rfl (by conv => lhs; whnf) (by rfl) (rep_set (cell (0, false, -1)) _ hk2) (fun q => nomatch q) (fun q => nomatch q) ?_
      refine x_nil ?_
      refine pw_reg (by kernel_rfl) ?_
      refine x0 rfl (o_ari (by rfl) (by rfl) (ari_add (by rfl) (by omega) (by omega))) (fun q => nomatch q) ?_
      refine x0 rfl (o_move (by conv => lhs; whnf)) (fun q => nomatch q) ?_
      refine x_nil ?_
      exact ⟨_, _, (by omega), wk_st [(3, .sl 12), (14, .int .i64 n), (15, .int .i64 (k + 1))] [(12, ⟨List.replicate (k + 1) (cell (0, false, -1)) ++ List.replicate (n - (k + 1)) (PV.agg [.int .i64 0, .bool false, .int .i64 0]), 0, true, 3, true⟩)] ⟨rfl, rfl, rfl, rfl, rfl, rfl, rfl, rfl, rfl, trivial⟩ ⟨rowLe_same rfl rfl rfl (fun q => q) rfl rfl rfl, trivial⟩, k + 1, rfl, (by omega), rfl⟩
    · obtain rfl : k = n := by omega
      refine pw_seq ?_
      refine pw_reg (by kernel_rfl) ?_
      first | (refine x0 rfl (o_cmp (by rfl) (by rfl) (c_ltT (by omega))) (fun q => nomatch q) ?_) | (refine x0 rfl (o_cmp (by rfl) (by rfl) (c_ltF (by omega))) (fun q => nomatch q) ?_) | (refine x0 rfl (o_cmp (by rfl) (by rfl) (c_ltT (by first | rfl | decide))) (fun q => nomatch q) ?_) | (refine x0 rfl (o_cmp (by rfl) (by rfl) (c_ltF (by first | decide | (simp; done) | (simp; omega)))) (fun q => nomatch q) ?_)
      refine x_nil ?_
      refine pw_seq ?_
      refine pw_cond false (by rfl) (fun q => nomatch q) (fun _ => ?_)
      refine pw_exit ?_
      refine thenQ_exit ?_
      refine thenQ_exit ?_
      refine blockQ_exit ?_
      refine pw_seq ?_
      refine pw_reg (by kernel_rfl) ?_
      refine x0 rfl (o_move (by conv => lhs; whnf)) (fun q => nomatch q) ?_
      refine x0 rfl (o_assign (by conv => lhs; whnf)) (fun q => nomatch q) ?_
      refine x_nil ?_
      refine pw_ret ?_
      exact ⟨[_], ⟨rfl, trivial⟩, rfl, by (first | exact .inl rfl | exact .inr rfl)⟩

end Go.Proofs.Ytgleeglhdlnobaa.C9b
