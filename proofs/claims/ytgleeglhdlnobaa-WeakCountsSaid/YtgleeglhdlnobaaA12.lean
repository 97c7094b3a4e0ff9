/-
  Layer 9: the laws.
  Conditions: the premises of each.
-/
import Derived.Test.YtgleeglhdlnobaaA11
namespace Go.Proofs.Ytgleeglhdlnobaa.C9d
open Go Go.Pw Go.Proofs C9
set_option linter.unusedVariables false
def ld (l : List C) (w : Int) : Int × Int :=
  if w < 0 ∨ l.length ≤ w then (0, 7) else match l[w.toNat]? with
    | some c => if c.1 = 0 ∨ c.2.1 = false then (0, 9) else (c.1, 0)
    | none => (0, 7)
theorem ld_all (t : Bool) (l : List C) (w : Int) : PCalls Try.prog 34 [.lst t (l.map cell), .int .i64 w] (.tup [.int .i64 (ld l w).1, .int .i64 (ld l w).2]) := by
  by_cases h : w < 0 ∨ l.length ≤ w
  · have e : ld l w = (0, 7) := if_pos h
    rw [e]
    exact load_no t _ w (by simpa using h)
  · obtain ⟨k, rfl⟩ : ∃ k : Nat, w = k := ⟨w.toNat, by omega⟩
    have hk : k < l.length := by omega
    have hv : l[k]? = some l[k] := List.getElem?_eq_getElem hk
    have e : ld l k = if l[k].1 = 0 ∨ l[k].2.1 = false then (0, 9) else (l[k].1, 0) := by
      unfold ld
      rw [if_neg h]
      simp [hv]
    rw [e]
    have hv' : (l.map cell)[k]? = some (cell l[k]) := by rw [List.getElem?_map, hv]; rfl
    have hk' : k < (l.map cell).length := by simpa using hk
    revert hv'
    generalize l[k] = c
    obtain ⟨a, b, d⟩ := c
    intro hv'
    by_cases h0 : a = 0
    · subst h0
      exact load_zero t _ k b d hk' hv'
    · cases b with
      | false => simpa using load_dead t _ k a d h0 hk' hv'
      | true => simpa [h0] using load_ok t _ k a d h0 hk' hv'
theorem ld_set (l : List C) (k : Nat) (c : C) (w : Int) (h : w ≠ k) : ld (l.set k c) w = ld l w := by
  unfold ld
  rw [List.length_set]
  split
  · rfl
  · rw [List.getElem?_set_ne (by omega)]
theorem map_set_cell (l : List C) (k : Nat) (c : C) : (l.map cell).set k (cell c) = (l.set k c).map cell := by rw [List.map_set]
theorem count_set (p : C → Bool) {l : List C} {k : Nat} {c : C} (h : l[k]? = some c) (c2 : C) : ((l.set k c2).countP p : Int) = l.countP p - (if p c then 1 else 0) + (if p c2 then 1 else 0) := by
  induction l generalizing k with
  | nil => simp at h
  | cons x l ih =>
    cases k with
    | zero =>
      simp at h
      subst h
      rw [List.set_cons_zero, List.countP_cons, List.countP_cons]
      split <;> split <;> simp
    | succ k =>
      rw [List.set_cons_succ, List.countP_cons, List.countP_cons]
      have := ih (by simpa using h)
      omega
namespace Ty
theorem e22 : telem Try.prog 22 = some 3 := by kernel_rfl
theorem e59 : telem Try.prog 59 = some 76 := by kernel_rfl
theorem s3 : tsize Try.prog 3 = some 1 := by kernel_rfl
theorem z3 : tzero Try.prog 3 = some ((.int .i64 0)) := by kernel_rfl
theorem mix : Try.prog.follows .mixedOrders = true := by kernel_rfl
end Ty
set_option maxRecDepth 100000 in
set_option maxHeartbeats 4000000 in
theorem loads_big (t : Bool) (L : List PV) (w h c o : Int) (hl : 50 < L.length) : PCalls Try.prog 10 [.lst t L, .int .i64 w, .int .i64 h, .int .i64 c, .int .i64 o] (.bool true) := by
  refine pc_intro (N := 113) Try.func10 rfl rfl (Nat.le_of_ble_eq_true rfl) fun w0 imm0 => ?_
  refine pw_seq ?_
  refine pw_reg (by kernel_rfl) ?_
  refine x0 rfl (o_assign (by conv => lhs; whnf)) (fun q => nomatch q) ?_
  refine x_nil ?_
  refine pw_seq ?_
  refine pw_seq ?_
  refine pw_reg (by kernel_rfl) ?_
  refine x0 rfl (o_move (by conv => lhs; whnf)) (fun q => nomatch q) ?_
  first | (refine x0 rfl (o_lenL (by rfl) Ty.e59 rfl) (fun q => nomatch q) ?_) | (refine x0 rfl (o_lenR (by rfl) (by conv => lhs; whnf) Ty.e59 rfl) (fun q => nomatch q) ?_)
  first | (refine x0 rfl (o_cmp (by rfl) (by rfl) (c_gtT (by omega))) (fun q => nomatch q) ?_) | (refine x0 rfl (o_cmp (by rfl) (by rfl) (c_gtF (by omega))) (fun q => nomatch q) ?_) | (refine x0 rfl (o_cmp (by rfl) (by rfl) (c_gtT (by first | rfl | decide))) (fun q => nomatch q) ?_) | (refine x0 rfl (o_cmp (by rfl) (by rfl) (c_gtF (by first | decide | (simp; done) | (simp; omega)))) (fun q => nomatch q) ?_)
  refine x0 rfl (o_move (by conv => lhs; whnf)) (fun q => nomatch q) ?_
  first | (refine x0 rfl (o_move (by conv => lhs; whnf)) (fun q => nomatch q) ?_) | (refine x_skip rfl ?_)
  first | (refine x0 rfl (o_cmp (by rfl) (by rfl) (c_eqT (by omega))) (fun q => nomatch q) ?_) | (refine x0 rfl (o_cmp (by rfl) (by rfl) (c_eqF (by omega))) (fun q => nomatch q) ?_) | (refine x0 rfl (o_cmp (by rfl) (by rfl) (c_eqT (by first | rfl | decide))) (fun q => nomatch q) ?_) | (refine x0 rfl (o_cmp (by rfl) (by rfl) (c_eqF (by first | decide | (simp; done) | (simp; omega)))) (fun q => nomatch q) ?_) | (refine x_skip rfl ?_)
  first | (refine x0 rfl (o_pickT (by rfl) (by conv => lhs; whnf)) (fun q => nomatch q) ?_) | (refine x0 rfl (o_pickF (by rfl) (by conv => lhs; whnf)) (fun q => nomatch q) ?_)
  refine x0 rfl (o_move (by conv => lhs; whnf)) (fun q => nomatch q) ?_
  refine x_skip rfl ?_
  first | (refine x0 rfl (o_not (by rfl) (by conv => lhs; whnf)) (fun q => nomatch q) ?_) | (refine x_skip rfl ?_)
  first | (refine x0 rfl (o_pickT (by rfl) (by conv => lhs; whnf)) (fun q => nomatch q) ?_) | (refine x0 rfl (o_pickF (by rfl) (by conv => lhs; whnf)) (fun q => nomatch q) ?_)
  refine x_nil ?_
  refine pw_cond true (by rfl) (fun _ => ?_) (fun q => nomatch q)
  refine pw_seq ?_
  refine pw_reg (by kernel_rfl) ?_
  refine x0 rfl (o_call  rfl Try.func28 rfl (by decide) rfl rfl rfl (C9c.shown_ok) rfl) (fun q => nomatch q) ?_
  refine x0 rfl (o_assign (by conv => lhs; whnf)) (fun q => nomatch q) ?_
  refine x_nil ?_
  refine pw_ret ?_
  exact ⟨[_], ⟨rfl, trivial⟩, rfl, by (first | exact .inl rfl | exact .inr rfl)⟩

set_option maxRecDepth 100000 in
set_option maxHeartbeats 4000000 in
theorem loads_zero (t : Bool) (L : List PV) (w c o : Int) (hl : L.length ≤ 50) : PCalls Try.prog 10 [.lst t L, .int .i64 w, .int .i64 0, .int .i64 c, .int .i64 o] (.bool true) := by
  refine pc_intro (N := 113) Try.func10 rfl rfl (Nat.le_of_ble_eq_true rfl) fun w0 imm0 => ?_
  refine pw_seq ?_
  refine pw_reg (by kernel_rfl) ?_
  refine x0 rfl (o_assign (by conv => lhs; whnf)) (fun q => nomatch q) ?_
  refine x_nil ?_
  refine pw_seq ?_
  refine pw_seq ?_
  refine pw_reg (by kernel_rfl) ?_
  refine x0 rfl (o_move (by conv => lhs; whnf)) (fun q => nomatch q) ?_
  first | (refine x0 rfl (o_lenL (by rfl) Ty.e59 rfl) (fun q => nomatch q) ?_) | (refine x0 rfl (o_lenR (by rfl) (by conv => lhs; whnf) Ty.e59 rfl) (fun q => nomatch q) ?_)
  first | (refine x0 rfl (o_cmp (by rfl) (by rfl) (c_gtT (by omega))) (fun q => nomatch q) ?_) | (refine x0 rfl (o_cmp (by rfl) (by rfl) (c_gtF (by omega))) (fun q => nomatch q) ?_) | (refine x0 rfl (o_cmp (by rfl) (by rfl) (c_gtT (by first | rfl | decide))) (fun q => nomatch q) ?_) | (refine x0 rfl (o_cmp (by rfl) (by rfl) (c_gtF (by first | decide | (simp; done) | (simp; omega)))) (fun q => nomatch q) ?_)
  refine x0 rfl (o_move (by conv => lhs; whnf)) (fun q => nomatch q) ?_
  first | (refine x0 rfl (o_move (by conv => lhs; whnf)) (fun q => nomatch q) ?_) | (refine x_skip rfl ?_)
  first | (refine x0 rfl (o_cmp (by rfl) (by rfl) (c_eqT (by omega))) (fun q => nomatch q) ?_) | (refine x0 rfl (o_cmp (by rfl) (by rfl) (c_eqF (by omega))) (fun q => nomatch q) ?_) | (refine x0 rfl (o_cmp (by rfl) (by rfl) (c_eqT (by first | rfl | decide))) (fun q => nomatch q) ?_) | (refine x0 rfl (o_cmp (by rfl) (by rfl) (c_eqF (by first | decide | (simp; done) | (simp; omega)))) (fun q => nomatch q) ?_) | (refine x_skip rfl ?_)
  first | (refine x0 rfl (o_pickT (by rfl) (by conv => lhs; whnf)) (fun q => nomatch q) ?_) | (refine x0 rfl (o_pickF (by rfl) (by conv => lhs; whnf)) (fun q => nomatch q) ?_)
  refine x0 rfl (o_move (by conv => lhs; whnf)) (fun q => nomatch q) ?_
  refine x_skip rfl ?_
  first | (refine x0 rfl (o_not (by rfl) (by conv => lhs; whnf)) (fun q => nomatch q) ?_) | (refine x_skip rfl ?_)
  first | (refine x0 rfl (o_pickT (by rfl) (by conv => lhs; whnf)) (fun q => nomatch q) ?_) | (refine x0 rfl (o_pickF (by rfl) (by conv => lhs; whnf)) (fun q => nomatch q) ?_)
  refine x_nil ?_
  refine pw_cond true (by rfl) (fun _ => ?_) (fun q => nomatch q)
  refine pw_seq ?_
  refine pw_reg (by kernel_rfl) ?_
  refine x0 rfl (o_call  rfl Try.func28 rfl (by decide) rfl rfl rfl (C9c.shown_ok) rfl) (fun q => nomatch q) ?_
  refine x0 rfl (o_assign (by conv => lhs; whnf)) (fun q => nomatch q) ?_
  refine x_nil ?_
  refine pw_ret ?_
  exact ⟨[_], ⟨rfl, trivial⟩, rfl, by (first | exact .inl rfl | exact .inr rfl)⟩

set_option maxRecDepth 100000 in
set_option maxHeartbeats 4000000 in
theorem loads_err (t : Bool) (L : List PV) (w h c o : Int) (hl : L.length ≤ 50) (hh : h ≠ 0) (hw : w < 0 ∨ L.length ≤ w) : PCalls Try.prog 10 [.lst t L, .int .i64 w, .int .i64 h, .int .i64 c, .int .i64 o] (.bool true) := by
  refine pc_intro (N := 113) Try.func10 rfl rfl (Nat.le_of_ble_eq_true rfl) fun w0 imm0 => ?_
  refine pw_seq ?_
  refine pw_reg (by kernel_rfl) ?_
  refine x0 rfl (o_assign (by conv => lhs; whnf)) (fun q => nomatch q) ?_
  refine x_nil ?_
  refine pw_seq ?_
  refine pw_seq ?_
  refine pw_reg (by kernel_rfl) ?_
  refine x0 rfl (o_move (by conv => lhs; whnf)) (fun q => nomatch q) ?_
  first | (refine x0 rfl (o_lenL (by rfl) Ty.e59 rfl) (fun q => nomatch q) ?_) | (refine x0 rfl (o_lenR (by rfl) (by conv => lhs; whnf) Ty.e59 rfl) (fun q => nomatch q) ?_)
  first | (refine x0 rfl (o_cmp (by rfl) (by rfl) (c_gtT (by omega))) (fun q => nomatch q) ?_) | (refine x0 rfl (o_cmp (by rfl) (by rfl) (c_gtF (by omega))) (fun q => nomatch q) ?_) | (refine x0 rfl (o_cmp (by rfl) (by rfl) (c_gtT (by first | rfl | decide))) (fun q => nomatch q) ?_) | (refine x0 rfl (o_cmp (by rfl) (by rfl) (c_gtF (by first | decide | (simp; done) | (simp; omega)))) (fun q => nomatch q) ?_)
  refine x0 rfl (o_move (by conv => lhs; whnf)) (fun q => nomatch q) ?_
  first | (refine x0 rfl (o_move (by conv => lhs; whnf)) (fun q => nomatch q) ?_) | (refine x_skip rfl ?_)
  first | (refine x0 rfl (o_cmp (by rfl) (by rfl) (c_eqT (by omega))) (fun q => nomatch q) ?_) | (refine x0 rfl (o_cmp (by rfl) (by rfl) (c_eqF (by omega))) (fun q => nomatch q) ?_) | (refine x0 rfl (o_cmp (by rfl) (by rfl) (c_eqT (by first | rfl | decide))) (fun q => nomatch q) ?_) | (refine x0 rfl (o_cmp (by rfl) (by rfl) (c_eqF (by first | decide | (simp; done) | (simp; omega)))) (fun q => nomatch q) ?_) | (refine x_skip rfl ?_)
  first | (refine x0 rfl (o_pickT (by rfl) (by conv => lhs; whnf)) (fun q => nomatch q) ?_) | (refine x0 rfl (o_pickF (by rfl) (by conv => lhs; whnf)) (fun q => nomatch q) ?_)
  refine x0 rfl (o_move (by conv => lhs; whnf)) (fun q => nomatch q) ?_
  refine x0 rfl (o_call  rfl Try.func28 rfl (by decide) rfl rfl rfl (C9c.shown_ok) rfl) (fun q => nomatch q) ?_
  first | (refine x0 rfl (o_not (by rfl) (by conv => lhs; whnf)) (fun q => nomatch q) ?_) | (refine x_skip rfl ?_)
  first | (refine x0 rfl (o_pickT (by rfl) (by conv => lhs; whnf)) (fun q => nomatch q) ?_) | (refine x0 rfl (o_pickF (by rfl) (by conv => lhs; whnf)) (fun q => nomatch q) ?_)
  refine x_nil ?_
  refine pw_cond false (by rfl) (fun q => nomatch q) (fun _ => ?_)
  refine pw_skip ?_
  refine pw_seq ?_
  refine pw_reg (by kernel_rfl) ?_
  refine x0 rfl (o_move (by conv => lhs; whnf)) (fun q => nomatch q) ?_
  refine x0 rfl (o_move (by conv => lhs; whnf)) (fun q => nomatch q) ?_
  refine x0 rfl (o_move (by conv => lhs; whnf)) (fun q => nomatch q) ?_
  refine x0 rfl (o_move (by conv => lhs; whnf)) (fun q => nomatch q) ?_
  refine x_cal rfl (o_callF (ls := [])  rfl Try.func33 rfl (by decide) rfl rfl rfl (set_no t L w h c hw) rfl) (fun q => nomatch q) ?_
  refine x0 rfl (o_move (by conv => lhs; whnf)) (fun q => nomatch q) ?_
  refine x0 rfl (o_extract (by conv => lhs; whnf) (by conv => lhs; whnf)) (fun q => nomatch q) ?_
  refine x0 rfl (o_extract (by conv => lhs; whnf) (by conv => lhs; whnf)) (fun q => nomatch q) ?_
  refine x0 rfl (o_extract (by conv => lhs; whnf) (by conv => lhs; whnf)) (fun q => nomatch q) ?_
  refine x0 rfl (o_assign (by conv => lhs; whnf)) (fun q => nomatch q) ?_
  refine x0 rfl (o_assign (by conv => lhs; whnf)) (fun q => nomatch q) ?_
  refine x0 rfl (o_assign (by conv => lhs; whnf)) (fun q => nomatch q) ?_
  refine x_nil ?_
  refine pw_seq ?_
  refine pw_seq ?_
  refine pw_reg (by kernel_rfl) ?_
  refine x0 rfl (o_move (by conv => lhs; whnf)) (fun q => nomatch q) ?_
  first | (refine x0 rfl (o_cmp (by rfl) (by rfl) (c_neT (by omega))) (fun q => nomatch q) ?_) | (refine x0 rfl (o_cmp (by rfl) (by rfl) (c_neF (by omega))) (fun q => nomatch q) ?_) | (refine x0 rfl (o_cmp (by rfl) (by rfl) (c_neT (by first | rfl | decide))) (fun q => nomatch q) ?_) | (refine x0 rfl (o_cmp (by rfl) (by rfl) (c_neF (by first | decide | (simp; done) | (simp; omega)))) (fun q => nomatch q) ?_)
  refine x_nil ?_
  refine pw_cond true (by rfl) (fun _ => ?_) (fun q => nomatch q)
  refine pw_seq ?_
  refine pw_reg (by kernel_rfl) ?_
  refine x0 rfl (o_move (by conv => lhs; whnf)) (fun q => nomatch q) ?_
  first | (refine x0 rfl (o_cmp (by rfl) (by rfl) (c_eqT (by omega))) (fun q => nomatch q) ?_) | (refine x0 rfl (o_cmp (by rfl) (by rfl) (c_eqF (by omega))) (fun q => nomatch q) ?_) | (refine x0 rfl (o_cmp (by rfl) (by rfl) (c_eqT (by first | rfl | decide))) (fun q => nomatch q) ?_) | (refine x0 rfl (o_cmp (by rfl) (by rfl) (c_eqF (by first | decide | (simp; done) | (simp; omega)))) (fun q => nomatch q) ?_)
  refine x0 rfl (o_move (by conv => lhs; whnf)) (fun q => nomatch q) ?_
  first | (refine x0 rfl (o_move (by conv => lhs; whnf)) (fun q => nomatch q) ?_) | (refine x_skip rfl ?_)
  first | (refine x0 rfl (o_lenL (by rfl) Ty.e59 rfl) (fun q => nomatch q) ?_) | (refine x0 rfl (o_lenR (by rfl) (by conv => lhs; whnf) Ty.e59 rfl) (fun q => nomatch q) ?_) | (refine x_skip rfl ?_)
  first | (refine x0 rfl (o_move (by conv => lhs; whnf)) (fun q => nomatch q) ?_) | (refine x_skip rfl ?_)
  first | (refine x0 rfl (o_lenL (by rfl) Ty.e59 rfl) (fun q => nomatch q) ?_) | (refine x0 rfl (o_lenR (by rfl) (by conv => lhs; whnf) Ty.e59 rfl) (fun q => nomatch q) ?_) | (refine x_skip rfl ?_)
  first | (refine x0 rfl (o_cmp (by rfl) (by rfl) (c_eqT (by omega))) (fun q => nomatch q) ?_) | (refine x0 rfl (o_cmp (by rfl) (by rfl) (c_eqF (by omega))) (fun q => nomatch q) ?_) | (refine x0 rfl (o_cmp (by rfl) (by rfl) (c_eqT (by first | rfl | decide))) (fun q => nomatch q) ?_) | (refine x0 rfl (o_cmp (by rfl) (by rfl) (c_eqF (by first | decide | (simp; done) | (simp; omega)))) (fun q => nomatch q) ?_) | (refine x_skip rfl ?_)
  first | (refine x0 rfl (o_pickT (by rfl) (by conv => lhs; whnf)) (fun q => nomatch q) ?_) | (refine x0 rfl (o_pickF (by rfl) (by conv => lhs; whnf)) (fun q => nomatch q) ?_)
  refine x0 rfl (o_assign (by conv => lhs; whnf)) (fun q => nomatch q) ?_
  refine x_nil ?_
  refine pw_ret ?_
  exact ⟨[_], ⟨rfl, trivial⟩, rfl, by (first | exact .inl rfl | exact .inr rfl)⟩

set_option maxRecDepth 100000 in
set_option maxHeartbeats 4000000 in
theorem loads_same (t : Bool) (L A B CL : List PV) (w h c o a0 v0 y i z j : Int) (hl : L.length ≤ 50) (hh : h ≠ 0)
    (h1 : PCalls Try.prog 33 [.lst t L, .int .i64 w, .int .i64 h, .int .i64 c] (.tup [.lst false A, .int .i64 a0, .int .i64 0])) (h2 : PCalls Try.prog 34 [.lst false A, .int .i64 w] (.tup [.int .i64 h, .int .i64 0]))
    (h3 : PCalls Try.prog 29 [.lst false A, .lst false [.int .i64 h]] (.tup [.lst false B, .lst false CL])) (h4 : PCalls Try.prog 34 [.lst false B, .int .i64 w] (.tup [.int .i64 v0, .int .i64 9]))
    (h5 : PCalls Try.prog 34 [.lst t L, .int .i64 o] (.tup [.int .i64 y, .int .i64 i])) (h6 : PCalls Try.prog 34 [.lst false A, .int .i64 o] (.tup [.int .i64 z, .int .i64 j])) (ho : o = w) : PCalls Try.prog 10 [.lst t L, .int .i64 w, .int .i64 h, .int .i64 c, .int .i64 o] (.bool true) := by
  refine pc_intro (N := 113) Try.func10 rfl rfl (Nat.le_of_ble_eq_true rfl) fun w0 imm0 => ?_
  refine pw_seq ?_
  refine pw_reg (by kernel_rfl) ?_
  refine x0 rfl (o_assign (by conv => lhs; whnf)) (fun q => nomatch q) ?_
  refine x_nil ?_
  refine pw_seq ?_
  refine pw_seq ?_
  refine pw_reg (by kernel_rfl) ?_
  refine x0 rfl (o_move (by conv => lhs; whnf)) (fun q => nomatch q) ?_
  first | (refine x0 rfl (o_lenL (by rfl) Ty.e59 rfl) (fun q => nomatch q) ?_) | (refine x0 rfl (o_lenR (by rfl) (by conv => lhs; whnf) Ty.e59 rfl) (fun q => nomatch q) ?_)
  first | (refine x0 rfl (o_cmp (by rfl) (by rfl) (c_gtT (by omega))) (fun q => nomatch q) ?_) | (refine x0 rfl (o_cmp (by rfl) (by rfl) (c_gtF (by omega))) (fun q => nomatch q) ?_) | (refine x0 rfl (o_cmp (by rfl) (by rfl) (c_gtT (by first | rfl | decide))) (fun q => nomatch q) ?_) | (refine x0 rfl (o_cmp (by rfl) (by rfl) (c_gtF (by first | decide | (simp; done) | (simp; omega)))) (fun q => nomatch q) ?_)
  refine x0 rfl (o_move (by conv => lhs; whnf)) (fun q => nomatch q) ?_
  first | (refine x0 rfl (o_move (by conv => lhs; whnf)) (fun q => nomatch q) ?_) | (refine x_skip rfl ?_)
  first | (refine x0 rfl (o_cmp (by rfl) (by rfl) (c_eqT (by omega))) (fun q => nomatch q) ?_) | (refine x0 rfl (o_cmp (by rfl) (by rfl) (c_eqF (by omega))) (fun q => nomatch q) ?_) | (refine x0 rfl (o_cmp (by rfl) (by rfl) (c_eqT (by first | rfl | decide))) (fun q => nomatch q) ?_) | (refine x0 rfl (o_cmp (by rfl) (by rfl) (c_eqF (by first | decide | (simp; done) | (simp; omega)))) (fun q => nomatch q) ?_) | (refine x_skip rfl ?_)
  first | (refine x0 rfl (o_pickT (by rfl) (by conv => lhs; whnf)) (fun q => nomatch q) ?_) | (refine x0 rfl (o_pickF (by rfl) (by conv => lhs; whnf)) (fun q => nomatch q) ?_)
  refine x0 rfl (o_move (by conv => lhs; whnf)) (fun q => nomatch q) ?_
  refine x0 rfl (o_call  rfl Try.func28 rfl (by decide) rfl rfl rfl (C9c.shown_ok) rfl) (fun q => nomatch q) ?_
  first | (refine x0 rfl (o_not (by rfl) (by conv => lhs; whnf)) (fun q => nomatch q) ?_) | (refine x_skip rfl ?_)
  first | (refine x0 rfl (o_pickT (by rfl) (by conv => lhs; whnf)) (fun q => nomatch q) ?_) | (refine x0 rfl (o_pickF (by rfl) (by conv => lhs; whnf)) (fun q => nomatch q) ?_)
  refine x_nil ?_
  refine pw_cond false (by rfl) (fun q => nomatch q) (fun _ => ?_)
  refine pw_skip ?_
  refine pw_seq ?_
  refine pw_reg (by kernel_rfl) ?_
  refine x0 rfl (o_move (by conv => lhs; whnf)) (fun q => nomatch q) ?_
  refine x0 rfl (o_move (by conv => lhs; whnf)) (fun q => nomatch q) ?_
  refine x0 rfl (o_move (by conv => lhs; whnf)) (fun q => nomatch q) ?_
  refine x0 rfl (o_move (by conv => lhs; whnf)) (fun q => nomatch q) ?_
  refine x_cal rfl (o_callF (ls := [])  rfl Try.func33 rfl (by decide) rfl rfl rfl (h1) rfl) (fun q => nomatch q) ?_
  refine x0 rfl (o_move (by conv => lhs; whnf)) (fun q => nomatch q) ?_
  refine x0 rfl (o_extract (by conv => lhs; whnf) (by conv => lhs; whnf)) (fun q => nomatch q) ?_
  refine x0 rfl (o_extract (by conv => lhs; whnf) (by conv => lhs; whnf)) (fun q => nomatch q) ?_
  refine x0 rfl (o_extract (by conv => lhs; whnf) (by conv => lhs; whnf)) (fun q => nomatch q) ?_
  refine x0 rfl (o_assign (by conv => lhs; whnf)) (fun q => nomatch q) ?_
  refine x0 rfl (o_assign (by conv => lhs; whnf)) (fun q => nomatch q) ?_
  refine x0 rfl (o_assign (by conv => lhs; whnf)) (fun q => nomatch q) ?_
  refine x_nil ?_
  refine pw_seq ?_
  refine pw_seq ?_
  refine pw_reg (by kernel_rfl) ?_
  refine x0 rfl (o_move (by conv => lhs; whnf)) (fun q => nomatch q) ?_
  first | (refine x0 rfl (o_cmp (by rfl) (by rfl) (c_neT (by omega))) (fun q => nomatch q) ?_) | (refine x0 rfl (o_cmp (by rfl) (by rfl) (c_neF (by omega))) (fun q => nomatch q) ?_) | (refine x0 rfl (o_cmp (by rfl) (by rfl) (c_neT (by first | rfl | decide))) (fun q => nomatch q) ?_) | (refine x0 rfl (o_cmp (by rfl) (by rfl) (c_neF (by first | decide | (simp; done) | (simp; omega)))) (fun q => nomatch q) ?_)
  refine x_nil ?_
  refine pw_cond false (by rfl) (fun q => nomatch q) (fun _ => ?_)
  refine pw_skip ?_
  refine pw_seq ?_
  refine pw_reg (by kernel_rfl) ?_
  refine x0 rfl (o_move (by conv => lhs; whnf)) (fun q => nomatch q) ?_
  refine x0 rfl (o_move (by conv => lhs; whnf)) (fun q => nomatch q) ?_
  refine x_cal rfl (o_callF (ls := [])  rfl Try.func34 rfl (by decide) rfl rfl rfl (h2) rfl) (fun q => nomatch q) ?_
  refine x0 rfl (o_move (by conv => lhs; whnf)) (fun q => nomatch q) ?_
  refine x0 rfl (o_extract (by conv => lhs; whnf) (by conv => lhs; whnf)) (fun q => nomatch q) ?_
  refine x0 rfl (o_extract (by conv => lhs; whnf) (by conv => lhs; whnf)) (fun q => nomatch q) ?_
  refine x0 rfl (o_assign (by conv => lhs; whnf)) (fun q => nomatch q) ?_
  refine x0 rfl (o_assign (by conv => lhs; whnf)) (fun q => nomatch q) ?_
  refine x_nil ?_
  refine pw_seq ?_
  refine pw_reg (by kernel_rfl) ?_
  refine x0 rfl (o_move (by conv => lhs; whnf)) (fun q => nomatch q) ?_
  refine x0 rfl (o_move (by conv => lhs; whnf)) (fun q => nomatch q) ?_
  refine x1 rfl (o_bslice (els := [.int .i64 h]) (cl := true) rfl (by first | rfl | (conv => lhs; simp only [List.toList_toArray, List.map_cons, List.map_nil])) Ty.e22 Ty.s3 Ty.z3 rfl rfl (Nat.le_of_ble_eq_true rfl) rfl (fun _ => rfl)) rfl (fun q => nomatch q) (fun q => nomatch q) ?_
  refine x_cal1 rfl (o_callF (ls := [65])  rfl Try.func29 rfl (by decide) rfl rfl rfl (h3) rfl) (by conv => lhs; whnf) (fun q => nomatch q) ?_
  refine x0 rfl (o_move (by conv => lhs; whnf)) (fun q => nomatch q) ?_
  refine x0 rfl (o_extract (by conv => lhs; whnf) (by conv => lhs; whnf)) (fun q => nomatch q) ?_
  refine x0 rfl (o_extract (by conv => lhs; whnf) (by conv => lhs; whnf)) (fun q => nomatch q) ?_
  refine x0 rfl (o_assign (by conv => lhs; whnf)) (fun q => nomatch q) ?_
  refine x0 rfl (o_assign (by conv => lhs; whnf)) (fun q => nomatch q) ?_
  refine x_nil ?_
  refine pw_seq ?_
  refine pw_reg (by kernel_rfl) ?_
  refine x0 rfl (o_move (by conv => lhs; whnf)) (fun q => nomatch q) ?_
  refine x0 rfl (o_move (by conv => lhs; whnf)) (fun q => nomatch q) ?_
  refine x_cal rfl (o_callF (ls := [])  rfl Try.func34 rfl (by decide) rfl rfl rfl (h4) rfl) (fun q => nomatch q) ?_
  refine x0 rfl (o_move (by conv => lhs; whnf)) (fun q => nomatch q) ?_
  refine x0 rfl (o_extract (by conv => lhs; whnf) (by conv => lhs; whnf)) (fun q => nomatch q) ?_
  refine x0 rfl (o_extract (by conv => lhs; whnf) (by conv => lhs; whnf)) (fun q => nomatch q) ?_
  refine x0 rfl (o_assign (by conv => lhs; whnf)) (fun q => nomatch q) ?_
  refine x0 rfl (o_assign (by conv => lhs; whnf)) (fun q => nomatch q) ?_
  refine x_nil ?_
  refine pw_seq ?_
  refine pw_reg (by kernel_rfl) ?_
  refine x0 rfl (o_move (by conv => lhs; whnf)) (fun q => nomatch q) ?_
  refine x0 rfl (o_move (by conv => lhs; whnf)) (fun q => nomatch q) ?_
  refine x_cal rfl (o_callF (ls := [])  rfl Try.func34 rfl (by decide) rfl rfl rfl (h5) rfl) (fun q => nomatch q) ?_
  refine x0 rfl (o_move (by conv => lhs; whnf)) (fun q => nomatch q) ?_
  refine x0 rfl (o_extract (by conv => lhs; whnf) (by conv => lhs; whnf)) (fun q => nomatch q) ?_
  refine x0 rfl (o_extract (by conv => lhs; whnf) (by conv => lhs; whnf)) (fun q => nomatch q) ?_
  refine x0 rfl (o_assign (by conv => lhs; whnf)) (fun q => nomatch q) ?_
  refine x0 rfl (o_assign (by conv => lhs; whnf)) (fun q => nomatch q) ?_
  refine x_nil ?_
  refine pw_seq ?_
  refine pw_reg (by kernel_rfl) ?_
  refine x0 rfl (o_move (by conv => lhs; whnf)) (fun q => nomatch q) ?_
  refine x0 rfl (o_move (by conv => lhs; whnf)) (fun q => nomatch q) ?_
  refine x_cal rfl (o_callF (ls := [])  rfl Try.func34 rfl (by decide) rfl rfl rfl (h6) rfl) (fun q => nomatch q) ?_
  refine x0 rfl (o_move (by conv => lhs; whnf)) (fun q => nomatch q) ?_
  refine x0 rfl (o_extract (by conv => lhs; whnf) (by conv => lhs; whnf)) (fun q => nomatch q) ?_
  refine x0 rfl (o_extract (by conv => lhs; whnf) (by conv => lhs; whnf)) (fun q => nomatch q) ?_
  refine x0 rfl (o_assign (by conv => lhs; whnf)) (fun q => nomatch q) ?_
  refine x0 rfl (o_assign (by conv => lhs; whnf)) (fun q => nomatch q) ?_
  refine x_nil ?_
  refine pw_seq ?_
  refine pw_reg (by kernel_rfl) ?_
  refine x0 rfl (o_move (by conv => lhs; whnf)) (fun q => nomatch q) ?_
  refine x0 rfl (o_move (by conv => lhs; whnf)) (fun q => nomatch q) ?_
  refine x0 rfl (o_cmp (by rfl) (by rfl) (c_eqT rfl)) (fun q => nomatch q) ?_
  refine x0 rfl (o_move (by conv => lhs; whnf)) (fun q => nomatch q) ?_
  first | (refine x0 rfl (o_move (by conv => lhs; whnf)) (fun q => nomatch q) ?_) | (refine x_skip rfl ?_)
  refine x0 rfl (o_cmp (by rfl) (by rfl) (c_eqT rfl)) (fun q => nomatch q) ?_
  first | (refine x0 rfl (o_pickT (by rfl) (by conv => lhs; whnf)) (fun q => nomatch q) ?_) | (refine x0 rfl (o_pickF (by rfl) (by conv => lhs; whnf)) (fun q => nomatch q) ?_)
  refine x0 rfl (o_move (by conv => lhs; whnf)) (fun q => nomatch q) ?_
  first | (refine x0 rfl (o_move (by conv => lhs; whnf)) (fun q => nomatch q) ?_) | (refine x_skip rfl ?_)
  refine x0 rfl (o_cmp (by rfl) (by rfl) (c_eqT rfl)) (fun q => nomatch q) ?_
  first | (refine x0 rfl (o_pickT (by rfl) (by conv => lhs; whnf)) (fun q => nomatch q) ?_) | (refine x0 rfl (o_pickF (by rfl) (by conv => lhs; whnf)) (fun q => nomatch q) ?_)
  refine x0 rfl (o_move (by conv => lhs; whnf)) (fun q => nomatch q) ?_
  first | (refine x0 rfl (o_move (by conv => lhs; whnf)) (fun q => nomatch q) ?_) | (refine x_skip rfl ?_)
  first | (refine x0 rfl (o_move (by conv => lhs; whnf)) (fun q => nomatch q) ?_) | (refine x_skip rfl ?_)
  refine x0 rfl (o_cmp (by rfl) (by rfl) (c_eqT ho)) (fun q => nomatch q) ?_
  first | (refine x0 rfl (o_move (by conv => lhs; whnf)) (fun q => nomatch q) ?_) | (refine x_skip rfl ?_)
  first | (refine x0 rfl (o_move (by conv => lhs; whnf)) (fun q => nomatch q) ?_) | (refine x_skip rfl ?_)
  first | (refine x0 rfl (o_move (by conv => lhs; whnf)) (fun q => nomatch q) ?_) | (refine x_skip rfl ?_)
  first | (refine x0 rfl (o_cmp (by rfl) (by rfl) (c_eqT (by omega))) (fun q => nomatch q) ?_) | (refine x0 rfl (o_cmp (by rfl) (by rfl) (c_eqF (by omega))) (fun q => nomatch q) ?_) | (refine x0 rfl (o_cmp (by rfl) (by rfl) (c_eqT (by first | rfl | decide))) (fun q => nomatch q) ?_) | (refine x0 rfl (o_cmp (by rfl) (by rfl) (c_eqF (by first | decide | (simp; done) | (simp; omega)))) (fun q => nomatch q) ?_) | (refine x_skip rfl ?_)
  first | (refine x0 rfl (o_move (by conv => lhs; whnf)) (fun q => nomatch q) ?_) | (refine x_skip rfl ?_)
  first | (refine x0 rfl (o_move (by conv => lhs; whnf)) (fun q => nomatch q) ?_) | (refine x_skip rfl ?_)
  first | (refine x0 rfl (o_move (by conv => lhs; whnf)) (fun q => nomatch q) ?_) | (refine x_skip rfl ?_)
  first | (refine x0 rfl (o_cmp (by rfl) (by rfl) (c_eqT (by omega))) (fun q => nomatch q) ?_) | (refine x0 rfl (o_cmp (by rfl) (by rfl) (c_eqF (by omega))) (fun q => nomatch q) ?_) | (refine x0 rfl (o_cmp (by rfl) (by rfl) (c_eqT (by first | rfl | decide))) (fun q => nomatch q) ?_) | (refine x0 rfl (o_cmp (by rfl) (by rfl) (c_eqF (by first | decide | (simp; done) | (simp; omega)))) (fun q => nomatch q) ?_) | (refine x_skip rfl ?_)
  first | (refine x0 rfl (o_pickT (by rfl) (by conv => lhs; whnf)) (fun q => nomatch q) ?_) | (refine x0 rfl (o_pickF (by rfl) (by conv => lhs; whnf)) (fun q => nomatch q) ?_) | (refine x_skip rfl ?_)
  first | (refine x0 rfl (o_pickT (by rfl) (by conv => lhs; whnf)) (fun q => nomatch q) ?_) | (refine x0 rfl (o_pickF (by rfl) (by conv => lhs; whnf)) (fun q => nomatch q) ?_) | (refine x_skip rfl ?_)
  first | (refine x0 rfl (o_pickT (by rfl) (by conv => lhs; whnf)) (fun q => nomatch q) ?_) | (refine x0 rfl (o_pickF (by rfl) (by conv => lhs; whnf)) (fun q => nomatch q) ?_)
  refine x0 rfl (o_assign (by conv => lhs; whnf)) (fun q => nomatch q) ?_
  refine x_nil ?_
  refine pw_ret ?_
  exact ⟨[_], ⟨rfl, trivial⟩, rfl, by (first | exact .inl rfl | exact .inr rfl)⟩

set_option maxRecDepth 100000 in
set_option maxHeartbeats 4000000 in
theorem loads_diff (t : Bool) (L A B CL : List PV) (w h c o a0 v0 y i z j : Int) (hl : L.length ≤ 50) (hh : h ≠ 0)
    (h1 : PCalls Try.prog 33 [.lst t L, .int .i64 w, .int .i64 h, .int .i64 c] (.tup [.lst false A, .int .i64 a0, .int .i64 0])) (h2 : PCalls Try.prog 34 [.lst false A, .int .i64 w] (.tup [.int .i64 h, .int .i64 0]))
    (h3 : PCalls Try.prog 29 [.lst false A, .lst false [.int .i64 h]] (.tup [.lst false B, .lst false CL])) (h4 : PCalls Try.prog 34 [.lst false B, .int .i64 w] (.tup [.int .i64 v0, .int .i64 9]))
    (h5 : PCalls Try.prog 34 [.lst t L, .int .i64 o] (.tup [.int .i64 y, .int .i64 i])) (h6 : PCalls Try.prog 34 [.lst false A, .int .i64 o] (.tup [.int .i64 z, .int .i64 j])) (ho : o ≠ w) (hy : y = z) (hi : i = j) : PCalls Try.prog 10 [.lst t L, .int .i64 w, .int .i64 h, .int .i64 c, .int .i64 o] (.bool true) := by
  refine pc_intro (N := 113) Try.func10 rfl rfl (Nat.le_of_ble_eq_true rfl) fun w0 imm0 => ?_
  refine pw_seq ?_
  refine pw_reg (by kernel_rfl) ?_
  refine x0 rfl (o_assign (by conv => lhs; whnf)) (fun q => nomatch q) ?_
  refine x_nil ?_
  refine pw_seq ?_
  refine pw_seq ?_
  refine pw_reg (by kernel_rfl) ?_
  refine x0 rfl (o_move (by conv => lhs; whnf)) (fun q => nomatch q) ?_
  first | (refine x0 rfl (o_lenL (by rfl) Ty.e59 rfl) (fun q => nomatch q) ?_) | (refine x0 rfl (o_lenR (by rfl) (by conv => lhs; whnf) Ty.e59 rfl) (fun q => nomatch q) ?_)
  first | (refine x0 rfl (o_cmp (by rfl) (by rfl) (c_gtT (by omega))) (fun q => nomatch q) ?_) | (refine x0 rfl (o_cmp (by rfl) (by rfl) (c_gtF (by omega))) (fun q => nomatch q) ?_) | (refine x0 rfl (o_cmp (by rfl) (by rfl) (c_gtT (by first | rfl | decide))) (fun q => nomatch q) ?_) | (refine x0 rfl (o_cmp (by rfl) (by rfl) (c_gtF (by first | decide | (simp; done) | (simp; omega)))) (fun q => nomatch q) ?_)
  refine x0 rfl (o_move (by conv => lhs; whnf)) (fun q => nomatch q) ?_
  first | (refine x0 rfl (o_move (by conv => lhs; whnf)) (fun q => nomatch q) ?_) | (refine x_skip rfl ?_)
  first | (refine x0 rfl (o_cmp (by rfl) (by rfl) (c_eqT (by omega))) (fun q => nomatch q) ?_) | (refine x0 rfl (o_cmp (by rfl) (by rfl) (c_eqF (by omega))) (fun q => nomatch q) ?_) | (refine x0 rfl (o_cmp (by rfl) (by rfl) (c_eqT (by first | rfl | decide))) (fun q => nomatch q) ?_) | (refine x0 rfl (o_cmp (by rfl) (by rfl) (c_eqF (by first | decide | (simp; done) | (simp; omega)))) (fun q => nomatch q) ?_) | (refine x_skip rfl ?_)
  first | (refine x0 rfl (o_pickT (by rfl) (by conv => lhs; whnf)) (fun q => nomatch q) ?_) | (refine x0 rfl (o_pickF (by rfl) (by conv => lhs; whnf)) (fun q => nomatch q) ?_)
  refine x0 rfl (o_move (by conv => lhs; whnf)) (fun q => nomatch q) ?_
  refine x0 rfl (o_call  rfl Try.func28 rfl (by decide) rfl rfl rfl (C9c.shown_ok) rfl) (fun q => nomatch q) ?_
  first | (refine x0 rfl (o_not (by rfl) (by conv => lhs; whnf)) (fun q => nomatch q) ?_) | (refine x_skip rfl ?_)
  first | (refine x0 rfl (o_pickT (by rfl) (by conv => lhs; whnf)) (fun q => nomatch q) ?_) | (refine x0 rfl (o_pickF (by rfl) (by conv => lhs; whnf)) (fun q => nomatch q) ?_)
  refine x_nil ?_
  refine pw_cond false (by rfl) (fun q => nomatch q) (fun _ => ?_)
  refine pw_skip ?_
  refine pw_seq ?_
  refine pw_reg (by kernel_rfl) ?_
  refine x0 rfl (o_move (by conv => lhs; whnf)) (fun q => nomatch q) ?_
  refine x0 rfl (o_move (by conv => lhs; whnf)) (fun q => nomatch q) ?_
  refine x0 rfl (o_move (by conv => lhs; whnf)) (fun q => nomatch q) ?_
  refine x0 rfl (o_move (by conv => lhs; whnf)) (fun q => nomatch q) ?_
  refine x_cal rfl (o_callF (ls := [])  rfl Try.func33 rfl (by decide) rfl rfl rfl (h1) rfl) (fun q => nomatch q) ?_
  refine x0 rfl (o_move (by conv => lhs; whnf)) (fun q => nomatch q) ?_
  refine x0 rfl (o_extract (by conv => lhs; whnf) (by conv => lhs; whnf)) (fun q => nomatch q) ?_
  refine x0 rfl (o_extract (by conv => lhs; whnf) (by conv => lhs; whnf)) (fun q => nomatch q) ?_
  refine x0 rfl (o_extract (by conv => lhs; whnf) (by conv => lhs; whnf)) (fun q => nomatch q) ?_
  refine x0 rfl (o_assign (by conv => lhs; whnf)) (fun q => nomatch q) ?_
  refine x0 rfl (o_assign (by conv => lhs; whnf)) (fun q => nomatch q) ?_
  refine x0 rfl (o_assign (by conv => lhs; whnf)) (fun q => nomatch q) ?_
  refine x_nil ?_
  refine pw_seq ?_
  refine pw_seq ?_
  refine pw_reg (by kernel_rfl) ?_
  refine x0 rfl (o_move (by conv => lhs; whnf)) (fun q => nomatch q) ?_
  first | (refine x0 rfl (o_cmp (by rfl) (by rfl) (c_neT (by omega))) (fun q => nomatch q) ?_) | (refine x0 rfl (o_cmp (by rfl) (by rfl) (c_neF (by omega))) (fun q => nomatch q) ?_) | (refine x0 rfl (o_cmp (by rfl) (by rfl) (c_neT (by first | rfl | decide))) (fun q => nomatch q) ?_) | (refine x0 rfl (o_cmp (by rfl) (by rfl) (c_neF (by first | decide | (simp; done) | (simp; omega)))) (fun q => nomatch q) ?_)
  refine x_nil ?_
  refine pw_cond false (by rfl) (fun q => nomatch q) (fun _ => ?_)
  refine pw_skip ?_
  refine pw_seq ?_
  refine pw_reg (by kernel_rfl) ?_
  refine x0 rfl (o_move (by conv => lhs; whnf)) (fun q => nomatch q) ?_
  refine x0 rfl (o_move (by conv => lhs; whnf)) (fun q => nomatch q) ?_
  refine x_cal rfl (o_callF (ls := [])  rfl Try.func34 rfl (by decide) rfl rfl rfl (h2) rfl) (fun q => nomatch q) ?_
  refine x0 rfl (o_move (by conv => lhs; whnf)) (fun q => nomatch q) ?_
  refine x0 rfl (o_extract (by conv => lhs; whnf) (by conv => lhs; whnf)) (fun q => nomatch q) ?_
  refine x0 rfl (o_extract (by conv => lhs; whnf) (by conv => lhs; whnf)) (fun q => nomatch q) ?_
  refine x0 rfl (o_assign (by conv => lhs; whnf)) (fun q => nomatch q) ?_
  refine x0 rfl (o_assign (by conv => lhs; whnf)) (fun q => nomatch q) ?_
  refine x_nil ?_
  refine pw_seq ?_
  refine pw_reg (by kernel_rfl) ?_
  refine x0 rfl (o_move (by conv => lhs; whnf)) (fun q => nomatch q) ?_
  refine x0 rfl (o_move (by conv => lhs; whnf)) (fun q => nomatch q) ?_
  refine x1 rfl (o_bslice (els := [.int .i64 h]) (cl := true) rfl (by first | rfl | (conv => lhs; simp only [List.toList_toArray, List.map_cons, List.map_nil])) Ty.e22 Ty.s3 Ty.z3 rfl rfl (Nat.le_of_ble_eq_true rfl) rfl (fun _ => rfl)) rfl (fun q => nomatch q) (fun q => nomatch q) ?_
  refine x_cal1 rfl (o_callF (ls := [65])  rfl Try.func29 rfl (by decide) rfl rfl rfl (h3) rfl) (by conv => lhs; whnf) (fun q => nomatch q) ?_
  refine x0 rfl (o_move (by conv => lhs; whnf)) (fun q => nomatch q) ?_
  refine x0 rfl (o_extract (by conv => lhs; whnf) (by conv => lhs; whnf)) (fun q => nomatch q) ?_
  refine x0 rfl (o_extract (by conv => lhs; whnf) (by conv => lhs; whnf)) (fun q => nomatch q) ?_
  refine x0 rfl (o_assign (by conv => lhs; whnf)) (fun q => nomatch q) ?_
  refine x0 rfl (o_assign (by conv => lhs; whnf)) (fun q => nomatch q) ?_
  refine x_nil ?_
  refine pw_seq ?_
  refine pw_reg (by kernel_rfl) ?_
  refine x0 rfl (o_move (by conv => lhs; whnf)) (fun q => nomatch q) ?_
  refine x0 rfl (o_move (by conv => lhs; whnf)) (fun q => nomatch q) ?_
  refine x_cal rfl (o_callF (ls := [])  rfl Try.func34 rfl (by decide) rfl rfl rfl (h4) rfl) (fun q => nomatch q) ?_
  refine x0 rfl (o_move (by conv => lhs; whnf)) (fun q => nomatch q) ?_
  refine x0 rfl (o_extract (by conv => lhs; whnf) (by conv => lhs; whnf)) (fun q => nomatch q) ?_
  refine x0 rfl (o_extract (by conv => lhs; whnf) (by conv => lhs; whnf)) (fun q => nomatch q) ?_
  refine x0 rfl (o_assign (by conv => lhs; whnf)) (fun q => nomatch q) ?_
  refine x0 rfl (o_assign (by conv => lhs; whnf)) (fun q => nomatch q) ?_
  refine x_nil ?_
  refine pw_seq ?_
  refine pw_reg (by kernel_rfl) ?_
  refine x0 rfl (o_move (by conv => lhs; whnf)) (fun q => nomatch q) ?_
  refine x0 rfl (o_move (by conv => lhs; whnf)) (fun q => nomatch q) ?_
  refine x_cal rfl (o_callF (ls := [])  rfl Try.func34 rfl (by decide) rfl rfl rfl (h5) rfl) (fun q => nomatch q) ?_
  refine x0 rfl (o_move (by conv => lhs; whnf)) (fun q => nomatch q) ?_
  refine x0 rfl (o_extract (by conv => lhs; whnf) (by conv => lhs; whnf)) (fun q => nomatch q) ?_
  refine x0 rfl (o_extract (by conv => lhs; whnf) (by conv => lhs; whnf)) (fun q => nomatch q) ?_
  refine x0 rfl (o_assign (by conv => lhs; whnf)) (fun q => nomatch q) ?_
  refine x0 rfl (o_assign (by conv => lhs; whnf)) (fun q => nomatch q) ?_
  refine x_nil ?_
  refine pw_seq ?_
  refine pw_reg (by kernel_rfl) ?_
  refine x0 rfl (o_move (by conv => lhs; whnf)) (fun q => nomatch q) ?_
  refine x0 rfl (o_move (by conv => lhs; whnf)) (fun q => nomatch q) ?_
  refine x_cal rfl (o_callF (ls := [])  rfl Try.func34 rfl (by decide) rfl rfl rfl (h6) rfl) (fun q => nomatch q) ?_
  refine x0 rfl (o_move (by conv => lhs; whnf)) (fun q => nomatch q) ?_
  refine x0 rfl (o_extract (by conv => lhs; whnf) (by conv => lhs; whnf)) (fun q => nomatch q) ?_
  refine x0 rfl (o_extract (by conv => lhs; whnf) (by conv => lhs; whnf)) (fun q => nomatch q) ?_
  refine x0 rfl (o_assign (by conv => lhs; whnf)) (fun q => nomatch q) ?_
  refine x0 rfl (o_assign (by conv => lhs; whnf)) (fun q => nomatch q) ?_
  refine x_nil ?_
  refine pw_seq ?_
  refine pw_reg (by kernel_rfl) ?_
  refine x0 rfl (o_move (by conv => lhs; whnf)) (fun q => nomatch q) ?_
  refine x0 rfl (o_move (by conv => lhs; whnf)) (fun q => nomatch q) ?_
  refine x0 rfl (o_cmp (by rfl) (by rfl) (c_eqT rfl)) (fun q => nomatch q) ?_
  refine x0 rfl (o_move (by conv => lhs; whnf)) (fun q => nomatch q) ?_
  first | (refine x0 rfl (o_move (by conv => lhs; whnf)) (fun q => nomatch q) ?_) | (refine x_skip rfl ?_)
  refine x0 rfl (o_cmp (by rfl) (by rfl) (c_eqT rfl)) (fun q => nomatch q) ?_
  first | (refine x0 rfl (o_pickT (by rfl) (by conv => lhs; whnf)) (fun q => nomatch q) ?_) | (refine x0 rfl (o_pickF (by rfl) (by conv => lhs; whnf)) (fun q => nomatch q) ?_)
  refine x0 rfl (o_move (by conv => lhs; whnf)) (fun q => nomatch q) ?_
  first | (refine x0 rfl (o_move (by conv => lhs; whnf)) (fun q => nomatch q) ?_) | (refine x_skip rfl ?_)
  refine x0 rfl (o_cmp (by rfl) (by rfl) (c_eqT rfl)) (fun q => nomatch q) ?_
  first | (refine x0 rfl (o_pickT (by rfl) (by conv => lhs; whnf)) (fun q => nomatch q) ?_) | (refine x0 rfl (o_pickF (by rfl) (by conv => lhs; whnf)) (fun q => nomatch q) ?_)
  refine x0 rfl (o_move (by conv => lhs; whnf)) (fun q => nomatch q) ?_
  first | (refine x0 rfl (o_move (by conv => lhs; whnf)) (fun q => nomatch q) ?_) | (refine x_skip rfl ?_)
  first | (refine x0 rfl (o_move (by conv => lhs; whnf)) (fun q => nomatch q) ?_) | (refine x_skip rfl ?_)
  refine x0 rfl (o_cmp (by rfl) (by rfl) (c_eqF ho)) (fun q => nomatch q) ?_
  first | (refine x0 rfl (o_move (by conv => lhs; whnf)) (fun q => nomatch q) ?_) | (refine x_skip rfl ?_)
  first | (refine x0 rfl (o_move (by conv => lhs; whnf)) (fun q => nomatch q) ?_) | (refine x_skip rfl ?_)
  first | (refine x0 rfl (o_move (by conv => lhs; whnf)) (fun q => nomatch q) ?_) | (refine x_skip rfl ?_)
  refine x0 rfl (o_cmp (by rfl) (by rfl) (c_eqT hy)) (fun q => nomatch q) ?_
  first | (refine x0 rfl (o_move (by conv => lhs; whnf)) (fun q => nomatch q) ?_) | (refine x_skip rfl ?_)
  first | (refine x0 rfl (o_move (by conv => lhs; whnf)) (fun q => nomatch q) ?_) | (refine x_skip rfl ?_)
  first | (refine x0 rfl (o_move (by conv => lhs; whnf)) (fun q => nomatch q) ?_) | (refine x_skip rfl ?_)
  refine x0 rfl (o_cmp (by rfl) (by rfl) (c_eqT hi)) (fun q => nomatch q) ?_
  first | (refine x0 rfl (o_pickT (by rfl) (by conv => lhs; whnf)) (fun q => nomatch q) ?_) | (refine x0 rfl (o_pickF (by rfl) (by conv => lhs; whnf)) (fun q => nomatch q) ?_) | (refine x_skip rfl ?_)
  first | (refine x0 rfl (o_pickT (by rfl) (by conv => lhs; whnf)) (fun q => nomatch q) ?_) | (refine x0 rfl (o_pickF (by rfl) (by conv => lhs; whnf)) (fun q => nomatch q) ?_) | (refine x_skip rfl ?_)
  first | (refine x0 rfl (o_pickT (by rfl) (by conv => lhs; whnf)) (fun q => nomatch q) ?_) | (refine x0 rfl (o_pickF (by rfl) (by conv => lhs; whnf)) (fun q => nomatch q) ?_)
  refine x0 rfl (o_assign (by conv => lhs; whnf)) (fun q => nomatch q) ?_
  refine x_nil ?_
  refine pw_ret ?_
  exact ⟨[_], ⟨rfl, trivial⟩, rfl, by (first | exact .inl rfl | exact .inr rfl)⟩

set_option maxRecDepth 100000 in
set_option maxHeartbeats 4000000 in
theorem counts_big (t : Bool) (L : List PV) (w h c : Int) (hl : 50 < L.length) : PCalls Try.prog 11 [.lst t L, .int .i64 w, .int .i64 h, .int .i64 c] (.bool true) := by
  refine pc_intro (N := 69) Try.func11 rfl rfl (Nat.le_of_ble_eq_true rfl) fun w0 imm0 => ?_
  refine pw_seq ?_
  refine pw_reg (by kernel_rfl) ?_
  refine x0 rfl (o_assign (by conv => lhs; whnf)) (fun q => nomatch q) ?_
  refine x_nil ?_
  refine pw_seq ?_
  refine pw_seq ?_
  refine pw_reg (by kernel_rfl) ?_
  refine x0 rfl (o_move (by conv => lhs; whnf)) (fun q => nomatch q) ?_
  first | (refine x0 rfl (o_lenL (by rfl) Ty.e59 rfl) (fun q => nomatch q) ?_) | (refine x0 rfl (o_lenR (by rfl) (by conv => lhs; whnf) Ty.e59 rfl) (fun q => nomatch q) ?_)
  first | (refine x0 rfl (o_cmp (by rfl) (by rfl) (c_gtT (by omega))) (fun q => nomatch q) ?_) | (refine x0 rfl (o_cmp (by rfl) (by rfl) (c_gtF (by omega))) (fun q => nomatch q) ?_) | (refine x0 rfl (o_cmp (by rfl) (by rfl) (c_gtT (by first | rfl | decide))) (fun q => nomatch q) ?_) | (refine x0 rfl (o_cmp (by rfl) (by rfl) (c_gtF (by first | decide | (simp; done) | (simp; omega)))) (fun q => nomatch q) ?_)
  refine x0 rfl (o_move (by conv => lhs; whnf)) (fun q => nomatch q) ?_
  first | (refine x0 rfl (o_move (by conv => lhs; whnf)) (fun q => nomatch q) ?_) | (refine x_skip rfl ?_)
  first | (refine x0 rfl (o_cmp (by rfl) (by rfl) (c_eqT (by omega))) (fun q => nomatch q) ?_) | (refine x0 rfl (o_cmp (by rfl) (by rfl) (c_eqF (by omega))) (fun q => nomatch q) ?_) | (refine x0 rfl (o_cmp (by rfl) (by rfl) (c_eqT (by first | rfl | decide))) (fun q => nomatch q) ?_) | (refine x0 rfl (o_cmp (by rfl) (by rfl) (c_eqF (by first | decide | (simp; done) | (simp; omega)))) (fun q => nomatch q) ?_) | (refine x_skip rfl ?_)
  first | (refine x0 rfl (o_pickT (by rfl) (by conv => lhs; whnf)) (fun q => nomatch q) ?_) | (refine x0 rfl (o_pickF (by rfl) (by conv => lhs; whnf)) (fun q => nomatch q) ?_)
  refine x0 rfl (o_move (by conv => lhs; whnf)) (fun q => nomatch q) ?_
  refine x_skip rfl ?_
  first | (refine x0 rfl (o_not (by rfl) (by conv => lhs; whnf)) (fun q => nomatch q) ?_) | (refine x_skip rfl ?_)
  first | (refine x0 rfl (o_pickT (by rfl) (by conv => lhs; whnf)) (fun q => nomatch q) ?_) | (refine x0 rfl (o_pickF (by rfl) (by conv => lhs; whnf)) (fun q => nomatch q) ?_)
  refine x_nil ?_
  refine pw_cond true (by rfl) (fun _ => ?_) (fun q => nomatch q)
  refine pw_seq ?_
  refine pw_reg (by kernel_rfl) ?_
  refine x0 rfl (o_call  rfl Try.func28 rfl (by decide) rfl rfl rfl (C9c.shown_ok) rfl) (fun q => nomatch q) ?_
  refine x0 rfl (o_assign (by conv => lhs; whnf)) (fun q => nomatch q) ?_
  refine x_nil ?_
  refine pw_ret ?_
  exact ⟨[_], ⟨rfl, trivial⟩, rfl, by (first | exact .inl rfl | exact .inr rfl)⟩

set_option maxRecDepth 100000 in
set_option maxHeartbeats 4000000 in
theorem counts_zero (t : Bool) (L : List PV) (w c : Int) (hl : L.length ≤ 50) : PCalls Try.prog 11 [.lst t L, .int .i64 w, .int .i64 0, .int .i64 c] (.bool true) := by
  refine pc_intro (N := 69) Try.func11 rfl rfl (Nat.le_of_ble_eq_true rfl) fun w0 imm0 => ?_
  refine pw_seq ?_
  refine pw_reg (by kernel_rfl) ?_
  refine x0 rfl (o_assign (by conv => lhs; whnf)) (fun q => nomatch q) ?_
  refine x_nil ?_
  refine pw_seq ?_
  refine pw_seq ?_
  refine pw_reg (by kernel_rfl) ?_
  refine x0 rfl (o_move (by conv => lhs; whnf)) (fun q => nomatch q) ?_
  first | (refine x0 rfl (o_lenL (by rfl) Ty.e59 rfl) (fun q => nomatch q) ?_) | (refine x0 rfl (o_lenR (by rfl) (by conv => lhs; whnf) Ty.e59 rfl) (fun q => nomatch q) ?_)
  first | (refine x0 rfl (o_cmp (by rfl) (by rfl) (c_gtT (by omega))) (fun q => nomatch q) ?_) | (refine x0 rfl (o_cmp (by rfl) (by rfl) (c_gtF (by omega))) (fun q => nomatch q) ?_) | (refine x0 rfl (o_cmp (by rfl) (by rfl) (c_gtT (by first | rfl | decide))) (fun q => nomatch q) ?_) | (refine x0 rfl (o_cmp (by rfl) (by rfl) (c_gtF (by first | decide | (simp; done) | (simp; omega)))) (fun q => nomatch q) ?_)
  refine x0 rfl (o_move (by conv => lhs; whnf)) (fun q => nomatch q) ?_
  first | (refine x0 rfl (o_move (by conv => lhs; whnf)) (fun q => nomatch q) ?_) | (refine x_skip rfl ?_)
  first | (refine x0 rfl (o_cmp (by rfl) (by rfl) (c_eqT (by omega))) (fun q => nomatch q) ?_) | (refine x0 rfl (o_cmp (by rfl) (by rfl) (c_eqF (by omega))) (fun q => nomatch q) ?_) | (refine x0 rfl (o_cmp (by rfl) (by rfl) (c_eqT (by first | rfl | decide))) (fun q => nomatch q) ?_) | (refine x0 rfl (o_cmp (by rfl) (by rfl) (c_eqF (by first | decide | (simp; done) | (simp; omega)))) (fun q => nomatch q) ?_) | (refine x_skip rfl ?_)
  first | (refine x0 rfl (o_pickT (by rfl) (by conv => lhs; whnf)) (fun q => nomatch q) ?_) | (refine x0 rfl (o_pickF (by rfl) (by conv => lhs; whnf)) (fun q => nomatch q) ?_)
  refine x0 rfl (o_move (by conv => lhs; whnf)) (fun q => nomatch q) ?_
  refine x_skip rfl ?_
  first | (refine x0 rfl (o_not (by rfl) (by conv => lhs; whnf)) (fun q => nomatch q) ?_) | (refine x_skip rfl ?_)
  first | (refine x0 rfl (o_pickT (by rfl) (by conv => lhs; whnf)) (fun q => nomatch q) ?_) | (refine x0 rfl (o_pickF (by rfl) (by conv => lhs; whnf)) (fun q => nomatch q) ?_)
  refine x_nil ?_
  refine pw_cond true (by rfl) (fun _ => ?_) (fun q => nomatch q)
  refine pw_seq ?_
  refine pw_reg (by kernel_rfl) ?_
  refine x0 rfl (o_call  rfl Try.func28 rfl (by decide) rfl rfl rfl (C9c.shown_ok) rfl) (fun q => nomatch q) ?_
  refine x0 rfl (o_assign (by conv => lhs; whnf)) (fun q => nomatch q) ?_
  refine x_nil ?_
  refine pw_ret ?_
  exact ⟨[_], ⟨rfl, trivial⟩, rfl, by (first | exact .inl rfl | exact .inr rfl)⟩

set_option maxRecDepth 100000 in
set_option maxHeartbeats 4000000 in
theorem counts_err (t : Bool) (L : List PV) (w h c n : Int) (hl : L.length ≤ 50) (hh : h ≠ 0) (hw : w < 0 ∨ L.length ≤ w) (hn : PCalls Try.prog 32 [.lst t L, .int .i64 h] (.int .i64 n)) : PCalls Try.prog 11 [.lst t L, .int .i64 w, .int .i64 h, .int .i64 c] (.bool true) := by
  refine pc_intro (N := 69) Try.func11 rfl rfl (Nat.le_of_ble_eq_true rfl) fun w0 imm0 => ?_
  refine pw_seq ?_
  refine pw_reg (by kernel_rfl) ?_
  refine x0 rfl (o_assign (by conv => lhs; whnf)) (fun q => nomatch q) ?_
  refine x_nil ?_
  refine pw_seq ?_
  refine pw_seq ?_
  refine pw_reg (by kernel_rfl) ?_
  refine x0 rfl (o_move (by conv => lhs; whnf)) (fun q => nomatch q) ?_
  first | (refine x0 rfl (o_lenL (by rfl) Ty.e59 rfl) (fun q => nomatch q) ?_) | (refine x0 rfl (o_lenR (by rfl) (by conv => lhs; whnf) Ty.e59 rfl) (fun q => nomatch q) ?_)
  first | (refine x0 rfl (o_cmp (by rfl) (by rfl) (c_gtT (by omega))) (fun q => nomatch q) ?_) | (refine x0 rfl (o_cmp (by rfl) (by rfl) (c_gtF (by omega))) (fun q => nomatch q) ?_) | (refine x0 rfl (o_cmp (by rfl) (by rfl) (c_gtT (by first | rfl | decide))) (fun q => nomatch q) ?_) | (refine x0 rfl (o_cmp (by rfl) (by rfl) (c_gtF (by first | decide | (simp; done) | (simp; omega)))) (fun q => nomatch q) ?_)
  refine x0 rfl (o_move (by conv => lhs; whnf)) (fun q => nomatch q) ?_
  first | (refine x0 rfl (o_move (by conv => lhs; whnf)) (fun q => nomatch q) ?_) | (refine x_skip rfl ?_)
  first | (refine x0 rfl (o_cmp (by rfl) (by rfl) (c_eqT (by omega))) (fun q => nomatch q) ?_) | (refine x0 rfl (o_cmp (by rfl) (by rfl) (c_eqF (by omega))) (fun q => nomatch q) ?_) | (refine x0 rfl (o_cmp (by rfl) (by rfl) (c_eqT (by first | rfl | decide))) (fun q => nomatch q) ?_) | (refine x0 rfl (o_cmp (by rfl) (by rfl) (c_eqF (by first | decide | (simp; done) | (simp; omega)))) (fun q => nomatch q) ?_) | (refine x_skip rfl ?_)
  first | (refine x0 rfl (o_pickT (by rfl) (by conv => lhs; whnf)) (fun q => nomatch q) ?_) | (refine x0 rfl (o_pickF (by rfl) (by conv => lhs; whnf)) (fun q => nomatch q) ?_)
  refine x0 rfl (o_move (by conv => lhs; whnf)) (fun q => nomatch q) ?_
  refine x0 rfl (o_call  rfl Try.func28 rfl (by decide) rfl rfl rfl (C9c.shown_ok) rfl) (fun q => nomatch q) ?_
  first | (refine x0 rfl (o_not (by rfl) (by conv => lhs; whnf)) (fun q => nomatch q) ?_) | (refine x_skip rfl ?_)
  first | (refine x0 rfl (o_pickT (by rfl) (by conv => lhs; whnf)) (fun q => nomatch q) ?_) | (refine x0 rfl (o_pickF (by rfl) (by conv => lhs; whnf)) (fun q => nomatch q) ?_)
  refine x_nil ?_
  refine pw_cond false (by rfl) (fun q => nomatch q) (fun _ => ?_)
  refine pw_skip ?_
  refine pw_seq ?_
  refine pw_reg (by kernel_rfl) ?_
  refine x0 rfl (o_move (by conv => lhs; whnf)) (fun q => nomatch q) ?_
  refine x0 rfl (o_move (by conv => lhs; whnf)) (fun q => nomatch q) ?_
  refine x0 rfl (o_move (by conv => lhs; whnf)) (fun q => nomatch q) ?_
  refine x0 rfl (o_move (by conv => lhs; whnf)) (fun q => nomatch q) ?_
  refine x_cal rfl (o_callF (ls := [])  rfl Try.func33 rfl (by decide) rfl rfl rfl (set_no t L w h c hw) rfl) (fun q => nomatch q) ?_
  refine x0 rfl (o_move (by conv => lhs; whnf)) (fun q => nomatch q) ?_
  refine x0 rfl (o_extract (by conv => lhs; whnf) (by conv => lhs; whnf)) (fun q => nomatch q) ?_
  refine x0 rfl (o_extract (by conv => lhs; whnf) (by conv => lhs; whnf)) (fun q => nomatch q) ?_
  refine x0 rfl (o_extract (by conv => lhs; whnf) (by conv => lhs; whnf)) (fun q => nomatch q) ?_
  refine x0 rfl (o_assign (by conv => lhs; whnf)) (fun q => nomatch q) ?_
  refine x0 rfl (o_assign (by conv => lhs; whnf)) (fun q => nomatch q) ?_
  refine x0 rfl (o_assign (by conv => lhs; whnf)) (fun q => nomatch q) ?_
  refine x_nil ?_
  refine pw_seq ?_
  refine pw_seq ?_
  refine pw_reg (by kernel_rfl) ?_
  refine x0 rfl (o_move (by conv => lhs; whnf)) (fun q => nomatch q) ?_
  first | (refine x0 rfl (o_cmp (by rfl) (by rfl) (c_neT (by omega))) (fun q => nomatch q) ?_) | (refine x0 rfl (o_cmp (by rfl) (by rfl) (c_neF (by omega))) (fun q => nomatch q) ?_) | (refine x0 rfl (o_cmp (by rfl) (by rfl) (c_neT (by first | rfl | decide))) (fun q => nomatch q) ?_) | (refine x0 rfl (o_cmp (by rfl) (by rfl) (c_neF (by first | decide | (simp; done) | (simp; omega)))) (fun q => nomatch q) ?_)
  refine x0 rfl (o_move (by conv => lhs; whnf)) (fun q => nomatch q) ?_
  first | (refine x0 rfl (o_move (by conv => lhs; whnf)) (fun q => nomatch q) ?_) | (refine x_skip rfl ?_)
  first | (refine x0 rfl (o_move (by conv => lhs; whnf)) (fun q => nomatch q) ?_) | (refine x_skip rfl ?_)
  first | (refine x0 rfl (o_cmp (by rfl) (by rfl) (c_eqT (by omega))) (fun q => nomatch q) ?_) | (refine x0 rfl (o_cmp (by rfl) (by rfl) (c_eqF (by omega))) (fun q => nomatch q) ?_) | (refine x0 rfl (o_cmp (by rfl) (by rfl) (c_eqT (by first | rfl | decide))) (fun q => nomatch q) ?_) | (refine x0 rfl (o_cmp (by rfl) (by rfl) (c_eqF (by first | decide | (simp; done) | (simp; omega)))) (fun q => nomatch q) ?_) | (refine x_skip rfl ?_)
  first | (refine x0 rfl (o_pickT (by rfl) (by conv => lhs; whnf)) (fun q => nomatch q) ?_) | (refine x0 rfl (o_pickF (by rfl) (by conv => lhs; whnf)) (fun q => nomatch q) ?_)
  refine x_nil ?_
  refine pw_cond true (by rfl) (fun _ => ?_) (fun q => nomatch q)
  refine pw_seq ?_
  refine pw_reg (by kernel_rfl) ?_
  refine x0 rfl (o_move (by conv => lhs; whnf)) (fun q => nomatch q) ?_
  refine x0 rfl (o_move (by conv => lhs; whnf)) (fun q => nomatch q) ?_
  refine x0 rfl (o_call  rfl Try.func32 rfl (by decide) rfl rfl rfl (hn) rfl) (fun q => nomatch q) ?_
  refine x0 rfl (o_move (by conv => lhs; whnf)) (fun q => nomatch q) ?_
  refine x0 rfl (o_move (by conv => lhs; whnf)) (fun q => nomatch q) ?_
  refine x0 rfl (o_call  rfl Try.func32 rfl (by decide) rfl rfl rfl (hn) rfl) (fun q => nomatch q) ?_
  refine x0 rfl (o_cmp (by rfl) (by rfl) (c_eqT rfl)) (fun q => nomatch q) ?_
  refine x0 rfl (o_assign (by conv => lhs; whnf)) (fun q => nomatch q) ?_
  refine x_nil ?_
  refine pw_ret ?_
  exact ⟨[_], ⟨rfl, trivial⟩, rfl, by (first | exact .inl rfl | exact .inr rfl)⟩

set_option maxRecDepth 100000 in
set_option maxHeartbeats 4000000 in
theorem counts_same (t : Bool) (L A : List PV) (w h c a0 n1 n0 : Int) (hl : L.length ≤ 50) (hh : h ≠ 0)
    (h1 : PCalls Try.prog 33 [.lst t L, .int .i64 w, .int .i64 h, .int .i64 c] (.tup [.lst false A, .int .i64 a0, .int .i64 0])) (h2 : PCalls Try.prog 32 [.lst false A, .int .i64 h] (.int .i64 n1)) (h3 : PCalls Try.prog 32 [.lst t L, .int .i64 h] (.int .i64 n0)) (ha : a0 = h) (hn : n1 = n0) : PCalls Try.prog 11 [.lst t L, .int .i64 w, .int .i64 h, .int .i64 c] (.bool true) := by
  refine pc_intro (N := 69) Try.func11 rfl rfl (Nat.le_of_ble_eq_true rfl) fun w0 imm0 => ?_
  refine pw_seq ?_
  refine pw_reg (by kernel_rfl) ?_
  refine x0 rfl (o_assign (by conv => lhs; whnf)) (fun q => nomatch q) ?_
  refine x_nil ?_
  refine pw_seq ?_
  refine pw_seq ?_
  refine pw_reg (by kernel_rfl) ?_
  refine x0 rfl (o_move (by conv => lhs; whnf)) (fun q => nomatch q) ?_
  first | (refine x0 rfl (o_lenL (by rfl) Ty.e59 rfl) (fun q => nomatch q) ?_) | (refine x0 rfl (o_lenR (by rfl) (by conv => lhs; whnf) Ty.e59 rfl) (fun q => nomatch q) ?_)
  first | (refine x0 rfl (o_cmp (by rfl) (by rfl) (c_gtT (by omega))) (fun q => nomatch q) ?_) | (refine x0 rfl (o_cmp (by rfl) (by rfl) (c_gtF (by omega))) (fun q => nomatch q) ?_) | (refine x0 rfl (o_cmp (by rfl) (by rfl) (c_gtT (by first | rfl | decide))) (fun q => nomatch q) ?_) | (refine x0 rfl (o_cmp (by rfl) (by rfl) (c_gtF (by first | decide | (simp; done) | (simp; omega)))) (fun q => nomatch q) ?_)
  refine x0 rfl (o_move (by conv => lhs; whnf)) (fun q => nomatch q) ?_
  first | (refine x0 rfl (o_move (by conv => lhs; whnf)) (fun q => nomatch q) ?_) | (refine x_skip rfl ?_)
  first | (refine x0 rfl (o_cmp (by rfl) (by rfl) (c_eqT (by omega))) (fun q => nomatch q) ?_) | (refine x0 rfl (o_cmp (by rfl) (by rfl) (c_eqF (by omega))) (fun q => nomatch q) ?_) | (refine x0 rfl (o_cmp (by rfl) (by rfl) (c_eqT (by first | rfl | decide))) (fun q => nomatch q) ?_) | (refine x0 rfl (o_cmp (by rfl) (by rfl) (c_eqF (by first | decide | (simp; done) | (simp; omega)))) (fun q => nomatch q) ?_) | (refine x_skip rfl ?_)
  first | (refine x0 rfl (o_pickT (by rfl) (by conv => lhs; whnf)) (fun q => nomatch q) ?_) | (refine x0 rfl (o_pickF (by rfl) (by conv => lhs; whnf)) (fun q => nomatch q) ?_)
  refine x0 rfl (o_move (by conv => lhs; whnf)) (fun q => nomatch q) ?_
  refine x0 rfl (o_call  rfl Try.func28 rfl (by decide) rfl rfl rfl (C9c.shown_ok) rfl) (fun q => nomatch q) ?_
  first | (refine x0 rfl (o_not (by rfl) (by conv => lhs; whnf)) (fun q => nomatch q) ?_) | (refine x_skip rfl ?_)
  first | (refine x0 rfl (o_pickT (by rfl) (by conv => lhs; whnf)) (fun q => nomatch q) ?_) | (refine x0 rfl (o_pickF (by rfl) (by conv => lhs; whnf)) (fun q => nomatch q) ?_)
  refine x_nil ?_
  refine pw_cond false (by rfl) (fun q => nomatch q) (fun _ => ?_)
  refine pw_skip ?_
  refine pw_seq ?_
  refine pw_reg (by kernel_rfl) ?_
  refine x0 rfl (o_move (by conv => lhs; whnf)) (fun q => nomatch q) ?_
  refine x0 rfl (o_move (by conv => lhs; whnf)) (fun q => nomatch q) ?_
  refine x0 rfl (o_move (by conv => lhs; whnf)) (fun q => nomatch q) ?_
  refine x0 rfl (o_move (by conv => lhs; whnf)) (fun q => nomatch q) ?_
  refine x_cal rfl (o_callF (ls := [])  rfl Try.func33 rfl (by decide) rfl rfl rfl (h1) rfl) (fun q => nomatch q) ?_
  refine x0 rfl (o_move (by conv => lhs; whnf)) (fun q => nomatch q) ?_
  refine x0 rfl (o_extract (by conv => lhs; whnf) (by conv => lhs; whnf)) (fun q => nomatch q) ?_
  refine x0 rfl (o_extract (by conv => lhs; whnf) (by conv => lhs; whnf)) (fun q => nomatch q) ?_
  refine x0 rfl (o_extract (by conv => lhs; whnf) (by conv => lhs; whnf)) (fun q => nomatch q) ?_
  refine x0 rfl (o_assign (by conv => lhs; whnf)) (fun q => nomatch q) ?_
  refine x0 rfl (o_assign (by conv => lhs; whnf)) (fun q => nomatch q) ?_
  refine x0 rfl (o_assign (by conv => lhs; whnf)) (fun q => nomatch q) ?_
  refine x_nil ?_
  refine pw_seq ?_
  refine pw_seq ?_
  refine pw_reg (by kernel_rfl) ?_
  refine x0 rfl (o_move (by conv => lhs; whnf)) (fun q => nomatch q) ?_
  refine x0 rfl (o_cmp (by rfl) (by rfl) (c_neF rfl)) (fun q => nomatch q) ?_
  refine x0 rfl (o_move (by conv => lhs; whnf)) (fun q => nomatch q) ?_
  first | (refine x0 rfl (o_move (by conv => lhs; whnf)) (fun q => nomatch q) ?_) | (refine x_skip rfl ?_)
  first | (refine x0 rfl (o_move (by conv => lhs; whnf)) (fun q => nomatch q) ?_) | (refine x_skip rfl ?_)
  refine x0 rfl (o_cmp (by rfl) (by rfl) (c_eqT ha)) (fun q => nomatch q) ?_
  first | (refine x0 rfl (o_pickT (by rfl) (by conv => lhs; whnf)) (fun q => nomatch q) ?_) | (refine x0 rfl (o_pickF (by rfl) (by conv => lhs; whnf)) (fun q => nomatch q) ?_)
  refine x_nil ?_
  refine pw_cond true (by rfl) (fun _ => ?_) (fun q => nomatch q)
  refine pw_seq ?_
  refine pw_reg (by kernel_rfl) ?_
  refine x0 rfl (o_move (by conv => lhs; whnf)) (fun q => nomatch q) ?_
  refine x0 rfl (o_move (by conv => lhs; whnf)) (fun q => nomatch q) ?_
  refine x0 rfl (o_call  rfl Try.func32 rfl (by decide) rfl rfl rfl (h2) rfl) (fun q => nomatch q) ?_
  refine x0 rfl (o_move (by conv => lhs; whnf)) (fun q => nomatch q) ?_
  refine x0 rfl (o_move (by conv => lhs; whnf)) (fun q => nomatch q) ?_
  refine x0 rfl (o_call  rfl Try.func32 rfl (by decide) rfl rfl rfl (h3) rfl) (fun q => nomatch q) ?_
  refine x0 rfl (o_cmp (by rfl) (by rfl) (c_eqT hn)) (fun q => nomatch q) ?_
  refine x0 rfl (o_assign (by conv => lhs; whnf)) (fun q => nomatch q) ?_
  refine x_nil ?_
  refine pw_ret ?_
  exact ⟨[_], ⟨rfl, trivial⟩, rfl, by (first | exact .inl rfl | exact .inr rfl)⟩

set_option maxRecDepth 100000 in
set_option maxHeartbeats 4000000 in
theorem counts_zero_old (t : Bool) (L A : List PV) (w h c a0 n1 n0 : Int) (hl : L.length ≤ 50) (hh : h ≠ 0)
    (h1 : PCalls Try.prog 33 [.lst t L, .int .i64 w, .int .i64 h, .int .i64 c] (.tup [.lst false A, .int .i64 a0, .int .i64 0])) (h2 : PCalls Try.prog 32 [.lst false A, .int .i64 h] (.int .i64 n1)) (h3 : PCalls Try.prog 32 [.lst t L, .int .i64 h] (.int .i64 n0)) (ha : a0 ≠ h) (hb : 0 ≤ n0) (hb2 : n0 ≤ 1000) (hn : n1 = n0 + 1) (h0 : a0 = 0) : PCalls Try.prog 11 [.lst t L, .int .i64 w, .int .i64 h, .int .i64 c] (.bool true) := by
  refine pc_intro (N := 69) Try.func11 rfl rfl (Nat.le_of_ble_eq_true rfl) fun w0 imm0 => ?_
  refine pw_seq ?_
  refine pw_reg (by kernel_rfl) ?_
  refine x0 rfl (o_assign (by conv => lhs; whnf)) (fun q => nomatch q) ?_
  refine x_nil ?_
  refine pw_seq ?_
  refine pw_seq ?_
  refine pw_reg (by kernel_rfl) ?_
  refine x0 rfl (o_move (by conv => lhs; whnf)) (fun q => nomatch q) ?_
  first | (refine x0 rfl (o_lenL (by rfl) Ty.e59 rfl) (fun q => nomatch q) ?_) | (refine x0 rfl (o_lenR (by rfl) (by conv => lhs; whnf) Ty.e59 rfl) (fun q => nomatch q) ?_)
  first | (refine x0 rfl (o_cmp (by rfl) (by rfl) (c_gtT (by omega))) (fun q => nomatch q) ?_) | (refine x0 rfl (o_cmp (by rfl) (by rfl) (c_gtF (by omega))) (fun q => nomatch q) ?_) | (refine x0 rfl (o_cmp (by rfl) (by rfl) (c_gtT (by first | rfl | decide))) (fun q => nomatch q) ?_) | (refine x0 rfl (o_cmp (by rfl) (by rfl) (c_gtF (by first | decide | (simp; done) | (simp; omega)))) (fun q => nomatch q) ?_)
  refine x0 rfl (o_move (by conv => lhs; whnf)) (fun q => nomatch q) ?_
  first | (refine x0 rfl (o_move (by conv => lhs; whnf)) (fun q => nomatch q) ?_) | (refine x_skip rfl ?_)
  first | (refine x0 rfl (o_cmp (by rfl) (by rfl) (c_eqT (by omega))) (fun q => nomatch q) ?_) | (refine x0 rfl (o_cmp (by rfl) (by rfl) (c_eqF (by omega))) (fun q => nomatch q) ?_) | (refine x0 rfl (o_cmp (by rfl) (by rfl) (c_eqT (by first | rfl | decide))) (fun q => nomatch q) ?_) | (refine x0 rfl (o_cmp (by rfl) (by rfl) (c_eqF (by first | decide | (simp; done) | (simp; omega)))) (fun q => nomatch q) ?_) | (refine x_skip rfl ?_)
  first | (refine x0 rfl (o_pickT (by rfl) (by conv => lhs; whnf)) (fun q => nomatch q) ?_) | (refine x0 rfl (o_pickF (by rfl) (by conv => lhs; whnf)) (fun q => nomatch q) ?_)
  refine x0 rfl (o_move (by conv => lhs; whnf)) (fun q => nomatch q) ?_
  refine x0 rfl (o_call  rfl Try.func28 rfl (by decide) rfl rfl rfl (C9c.shown_ok) rfl) (fun q => nomatch q) ?_
  first | (refine x0 rfl (o_not (by rfl) (by conv => lhs; whnf)) (fun q => nomatch q) ?_) | (refine x_skip rfl ?_)
  first | (refine x0 rfl (o_pickT (by rfl) (by conv => lhs; whnf)) (fun q => nomatch q) ?_) | (refine x0 rfl (o_pickF (by rfl) (by conv => lhs; whnf)) (fun q => nomatch q) ?_)
  refine x_nil ?_
  refine pw_cond false (by rfl) (fun q => nomatch q) (fun _ => ?_)
  refine pw_skip ?_
  refine pw_seq ?_
  refine pw_reg (by kernel_rfl) ?_
  refine x0 rfl (o_move (by conv => lhs; whnf)) (fun q => nomatch q) ?_
  refine x0 rfl (o_move (by conv => lhs; whnf)) (fun q => nomatch q) ?_
  refine x0 rfl (o_move (by conv => lhs; whnf)) (fun q => nomatch q) ?_
  refine x0 rfl (o_move (by conv => lhs; whnf)) (fun q => nomatch q) ?_
  refine x_cal rfl (o_callF (ls := [])  rfl Try.func33 rfl (by decide) rfl rfl rfl (h1) rfl) (fun q => nomatch q) ?_
  refine x0 rfl (o_move (by conv => lhs; whnf)) (fun q => nomatch q) ?_
  refine x0 rfl (o_extract (by conv => lhs; whnf) (by conv => lhs; whnf)) (fun q => nomatch q) ?_
  refine x0 rfl (o_extract (by conv => lhs; whnf) (by conv => lhs; whnf)) (fun q => nomatch q) ?_
  refine x0 rfl (o_extract (by conv => lhs; whnf) (by conv => lhs; whnf)) (fun q => nomatch q) ?_
  refine x0 rfl (o_assign (by conv => lhs; whnf)) (fun q => nomatch q) ?_
  refine x0 rfl (o_assign (by conv => lhs; whnf)) (fun q => nomatch q) ?_
  refine x0 rfl (o_assign (by conv => lhs; whnf)) (fun q => nomatch q) ?_
  refine x_nil ?_
  refine pw_seq ?_
  refine pw_seq ?_
  refine pw_reg (by kernel_rfl) ?_
  refine x0 rfl (o_move (by conv => lhs; whnf)) (fun q => nomatch q) ?_
  refine x0 rfl (o_cmp (by rfl) (by rfl) (c_neF rfl)) (fun q => nomatch q) ?_
  refine x0 rfl (o_move (by conv => lhs; whnf)) (fun q => nomatch q) ?_
  first | (refine x0 rfl (o_move (by conv => lhs; whnf)) (fun q => nomatch q) ?_) | (refine x_skip rfl ?_)
  first | (refine x0 rfl (o_move (by conv => lhs; whnf)) (fun q => nomatch q) ?_) | (refine x_skip rfl ?_)
  refine x0 rfl (o_cmp (by rfl) (by rfl) (c_eqF ha)) (fun q => nomatch q) ?_
  first | (refine x0 rfl (o_pickT (by rfl) (by conv => lhs; whnf)) (fun q => nomatch q) ?_) | (refine x0 rfl (o_pickF (by rfl) (by conv => lhs; whnf)) (fun q => nomatch q) ?_)
  refine x_nil ?_
  refine pw_cond false (by rfl) (fun q => nomatch q) (fun _ => ?_)
  refine pw_skip ?_
  refine pw_seq ?_
  refine pw_reg (by kernel_rfl) ?_
  refine x0 rfl (o_move (by conv => lhs; whnf)) (fun q => nomatch q) ?_
  refine x0 rfl (o_move (by conv => lhs; whnf)) (fun q => nomatch q) ?_
  refine x0 rfl (o_call  rfl Try.func32 rfl (by decide) rfl rfl rfl (h2) rfl) (fun q => nomatch q) ?_
  refine x0 rfl (o_move (by conv => lhs; whnf)) (fun q => nomatch q) ?_
  refine x0 rfl (o_move (by conv => lhs; whnf)) (fun q => nomatch q) ?_
  refine x0 rfl (o_call  rfl Try.func32 rfl (by decide) rfl rfl rfl (h3) rfl) (fun q => nomatch q) ?_
  refine x0 rfl (o_ari (by rfl) (by rfl) (ari_add (by rfl) (by omega) (by omega))) (fun q => nomatch q) ?_
  refine x0 rfl (o_cmp (by rfl) (by rfl) (c_eqT hn)) (fun q => nomatch q) ?_
  refine x0 rfl (o_move (by conv => lhs; whnf)) (fun q => nomatch q) ?_
  first | (refine x0 rfl (o_move (by conv => lhs; whnf)) (fun q => nomatch q) ?_) | (refine x_skip rfl ?_)
  refine x0 rfl (o_cmp (by rfl) (by rfl) (c_eqT h0)) (fun q => nomatch q) ?_
  first | (refine x0 rfl (o_move (by conv => lhs; whnf)) (fun q => nomatch q) ?_) | (refine x_skip rfl ?_)
  first | (refine x0 rfl (o_move (by conv => lhs; whnf)) (fun q => nomatch q) ?_) | (refine x_skip rfl ?_)
  first | (refine x0 rfl (o_move (by conv => lhs; whnf)) (fun q => nomatch q) ?_) | (refine x_skip rfl ?_)
  refine x_skip rfl ?_
  first | (refine x0 rfl (o_move (by conv => lhs; whnf)) (fun q => nomatch q) ?_) | (refine x_skip rfl ?_)
  first | (refine x0 rfl (o_move (by conv => lhs; whnf)) (fun q => nomatch q) ?_) | (refine x_skip rfl ?_)
  refine x_skip rfl ?_
  first | (refine x0 rfl (o_ari (by rfl) (by rfl) (ari_sub (by rfl) (by omega) (by omega))) (fun q => nomatch q) ?_) | (refine x_skip rfl ?_)
  first | (refine x0 rfl (o_cmp (by rfl) (by rfl) (c_eqT (by omega))) (fun q => nomatch q) ?_) | (refine x0 rfl (o_cmp (by rfl) (by rfl) (c_eqF (by omega))) (fun q => nomatch q) ?_) | (refine x0 rfl (o_cmp (by rfl) (by rfl) (c_eqT (by first | rfl | decide))) (fun q => nomatch q) ?_) | (refine x0 rfl (o_cmp (by rfl) (by rfl) (c_eqF (by first | decide | (simp; done) | (simp; omega)))) (fun q => nomatch q) ?_) | (refine x_skip rfl ?_)
  first | (refine x0 rfl (o_pickT (by rfl) (by conv => lhs; whnf)) (fun q => nomatch q) ?_) | (refine x0 rfl (o_pickF (by rfl) (by conv => lhs; whnf)) (fun q => nomatch q) ?_) | (refine x_skip rfl ?_)
  first | (refine x0 rfl (o_pickT (by rfl) (by conv => lhs; whnf)) (fun q => nomatch q) ?_) | (refine x0 rfl (o_pickF (by rfl) (by conv => lhs; whnf)) (fun q => nomatch q) ?_)
  refine x0 rfl (o_assign (by conv => lhs; whnf)) (fun q => nomatch q) ?_
  refine x_nil ?_
  refine pw_ret ?_
  exact ⟨[_], ⟨rfl, trivial⟩, rfl, by (first | exact .inl rfl | exact .inr rfl)⟩

set_option maxRecDepth 100000 in
set_option maxHeartbeats 4000000 in
theorem counts_old (t : Bool) (L A : List PV) (w h c a0 n1 n0 : Int) (hl : L.length ≤ 50) (hh : h ≠ 0)
    (h1 : PCalls Try.prog 33 [.lst t L, .int .i64 w, .int .i64 h, .int .i64 c] (.tup [.lst false A, .int .i64 a0, .int .i64 0])) (h2 : PCalls Try.prog 32 [.lst false A, .int .i64 h] (.int .i64 n1)) (h3 : PCalls Try.prog 32 [.lst t L, .int .i64 h] (.int .i64 n0)) (m1 m0 : Int) (ha : a0 ≠ h) (hb : 0 ≤ n0) (hb2 : n0 ≤ 1000) (hn : n1 = n0 + 1) (h0 : a0 ≠ 0) (h4 : PCalls Try.prog 32 [.lst false A, .int .i64 a0] (.int .i64 m1)) (h5 : PCalls Try.prog 32 [.lst t L, .int .i64 a0] (.int .i64 m0)) (k0 : 0 ≤ m0) (k1 : m0 ≤ 1000) (hm : m1 = m0 - 1) : PCalls Try.prog 11 [.lst t L, .int .i64 w, .int .i64 h, .int .i64 c] (.bool true) := by
  refine pc_intro (N := 69) Try.func11 rfl rfl (Nat.le_of_ble_eq_true rfl) fun w0 imm0 => ?_
  refine pw_seq ?_
  refine pw_reg (by kernel_rfl) ?_
  refine x0 rfl (o_assign (by conv => lhs; whnf)) (fun q => nomatch q) ?_
  refine x_nil ?_
  refine pw_seq ?_
  refine pw_seq ?_
  refine pw_reg (by kernel_rfl) ?_
  refine x0 rfl (o_move (by conv => lhs; whnf)) (fun q => nomatch q) ?_
  first | (refine x0 rfl (o_lenL (by rfl) Ty.e59 rfl) (fun q => nomatch q) ?_) | (refine x0 rfl (o_lenR (by rfl) (by conv => lhs; whnf) Ty.e59 rfl) (fun q => nomatch q) ?_)
  first | (refine x0 rfl (o_cmp (by rfl) (by rfl) (c_gtT (by omega))) (fun q => nomatch q) ?_) | (refine x0 rfl (o_cmp (by rfl) (by rfl) (c_gtF (by omega))) (fun q => nomatch q) ?_) | (refine x0 rfl (o_cmp (by rfl) (by rfl) (c_gtT (by first | rfl | decide))) (fun q => nomatch q) ?_) | (refine x0 rfl (o_cmp (by rfl) (by rfl) (c_gtF (by first | decide | (simp; done) | (simp; omega)))) (fun q => nomatch q) ?_)
  refine x0 rfl (o_move (by conv => lhs; whnf)) (fun q => nomatch q) ?_
  first | (refine x0 rfl (o_move (by conv => lhs; whnf)) (fun q => nomatch q) ?_) | (refine x_skip rfl ?_)
  first | (refine x0 rfl (o_cmp (by rfl) (by rfl) (c_eqT (by omega))) (fun q => nomatch q) ?_) | (refine x0 rfl (o_cmp (by rfl) (by rfl) (c_eqF (by omega))) (fun q => nomatch q) ?_) | (refine x0 rfl (o_cmp (by rfl) (by rfl) (c_eqT (by first | rfl | decide))) (fun q => nomatch q) ?_) | (refine x0 rfl (o_cmp (by rfl) (by rfl) (c_eqF (by first | decide | (simp; done) | (simp; omega)))) (fun q => nomatch q) ?_) | (refine x_skip rfl ?_)
  first | (refine x0 rfl (o_pickT (by rfl) (by conv => lhs; whnf)) (fun q => nomatch q) ?_) | (refine x0 rfl (o_pickF (by rfl) (by conv => lhs; whnf)) (fun q => nomatch q) ?_)
  refine x0 rfl (o_move (by conv => lhs; whnf)) (fun q => nomatch q) ?_
  refine x0 rfl (o_call  rfl Try.func28 rfl (by decide) rfl rfl rfl (C9c.shown_ok) rfl) (fun q => nomatch q) ?_
  first | (refine x0 rfl (o_not (by rfl) (by conv => lhs; whnf)) (fun q => nomatch q) ?_) | (refine x_skip rfl ?_)
  first | (refine x0 rfl (o_pickT (by rfl) (by conv => lhs; whnf)) (fun q => nomatch q) ?_) | (refine x0 rfl (o_pickF (by rfl) (by conv => lhs; whnf)) (fun q => nomatch q) ?_)
  refine x_nil ?_
  refine pw_cond false (by rfl) (fun q => nomatch q) (fun _ => ?_)
  refine pw_skip ?_
  refine pw_seq ?_
  refine pw_reg (by kernel_rfl) ?_
  refine x0 rfl (o_move (by conv => lhs; whnf)) (fun q => nomatch q) ?_
  refine x0 rfl (o_move (by conv => lhs; whnf)) (fun q => nomatch q) ?_
  refine x0 rfl (o_move (by conv => lhs; whnf)) (fun q => nomatch q) ?_
  refine x0 rfl (o_move (by conv => lhs; whnf)) (fun q => nomatch q) ?_
  refine x_cal rfl (o_callF (ls := [])  rfl Try.func33 rfl (by decide) rfl rfl rfl (h1) rfl) (fun q => nomatch q) ?_
  refine x0 rfl (o_move (by conv => lhs; whnf)) (fun q => nomatch q) ?_
  refine x0 rfl (o_extract (by conv => lhs; whnf) (by conv => lhs; whnf)) (fun q => nomatch q) ?_
  refine x0 rfl (o_extract (by conv => lhs; whnf) (by conv => lhs; whnf)) (fun q => nomatch q) ?_
  refine x0 rfl (o_extract (by conv => lhs; whnf) (by conv => lhs; whnf)) (fun q => nomatch q) ?_
  refine x0 rfl (o_assign (by conv => lhs; whnf)) (fun q => nomatch q) ?_
  refine x0 rfl (o_assign (by conv => lhs; whnf)) (fun q => nomatch q) ?_
  refine x0 rfl (o_assign (by conv => lhs; whnf)) (fun q => nomatch q) ?_
  refine x_nil ?_
  refine pw_seq ?_
  refine pw_seq ?_
  refine pw_reg (by kernel_rfl) ?_
  refine x0 rfl (o_move (by conv => lhs; whnf)) (fun q => nomatch q) ?_
  refine x0 rfl (o_cmp (by rfl) (by rfl) (c_neF rfl)) (fun q => nomatch q) ?_
  refine x0 rfl (o_move (by conv => lhs; whnf)) (fun q => nomatch q) ?_
  first | (refine x0 rfl (o_move (by conv => lhs; whnf)) (fun q => nomatch q) ?_) | (refine x_skip rfl ?_)
  first | (refine x0 rfl (o_move (by conv => lhs; whnf)) (fun q => nomatch q) ?_) | (refine x_skip rfl ?_)
  refine x0 rfl (o_cmp (by rfl) (by rfl) (c_eqF ha)) (fun q => nomatch q) ?_
  first | (refine x0 rfl (o_pickT (by rfl) (by conv => lhs; whnf)) (fun q => nomatch q) ?_) | (refine x0 rfl (o_pickF (by rfl) (by conv => lhs; whnf)) (fun q => nomatch q) ?_)
  refine x_nil ?_
  refine pw_cond false (by rfl) (fun q => nomatch q) (fun _ => ?_)
  refine pw_skip ?_
  refine pw_seq ?_
  refine pw_reg (by kernel_rfl) ?_
  refine x0 rfl (o_move (by conv => lhs; whnf)) (fun q => nomatch q) ?_
  refine x0 rfl (o_move (by conv => lhs; whnf)) (fun q => nomatch q) ?_
  refine x0 rfl (o_call  rfl Try.func32 rfl (by decide) rfl rfl rfl (h2) rfl) (fun q => nomatch q) ?_
  refine x0 rfl (o_move (by conv => lhs; whnf)) (fun q => nomatch q) ?_
  refine x0 rfl (o_move (by conv => lhs; whnf)) (fun q => nomatch q) ?_
  refine x0 rfl (o_call  rfl Try.func32 rfl (by decide) rfl rfl rfl (h3) rfl) (fun q => nomatch q) ?_
  refine x0 rfl (o_ari (by rfl) (by rfl) (ari_add (by rfl) (by omega) (by omega))) (fun q => nomatch q) ?_
  refine x0 rfl (o_cmp (by rfl) (by rfl) (c_eqT hn)) (fun q => nomatch q) ?_
  refine x0 rfl (o_move (by conv => lhs; whnf)) (fun q => nomatch q) ?_
  first | (refine x0 rfl (o_move (by conv => lhs; whnf)) (fun q => nomatch q) ?_) | (refine x_skip rfl ?_)
  refine x0 rfl (o_cmp (by rfl) (by rfl) (c_eqF h0)) (fun q => nomatch q) ?_
  first | (refine x0 rfl (o_move (by conv => lhs; whnf)) (fun q => nomatch q) ?_) | (refine x_skip rfl ?_)
  first | (refine x0 rfl (o_move (by conv => lhs; whnf)) (fun q => nomatch q) ?_) | (refine x_skip rfl ?_)
  first | (refine x0 rfl (o_move (by conv => lhs; whnf)) (fun q => nomatch q) ?_) | (refine x_skip rfl ?_)
  refine x0 rfl (o_call  rfl Try.func32 rfl (by decide) rfl rfl rfl (h4) rfl) (fun q => nomatch q) ?_
  first | (refine x0 rfl (o_move (by conv => lhs; whnf)) (fun q => nomatch q) ?_) | (refine x_skip rfl ?_)
  first | (refine x0 rfl (o_move (by conv => lhs; whnf)) (fun q => nomatch q) ?_) | (refine x_skip rfl ?_)
  refine x0 rfl (o_call  rfl Try.func32 rfl (by decide) rfl rfl rfl (h5) rfl) (fun q => nomatch q) ?_
  first | (refine x0 rfl (o_ari (by rfl) (by rfl) (ari_sub (by rfl) (by omega) (by omega))) (fun q => nomatch q) ?_) | (refine x_skip rfl ?_)
  refine x0 rfl (o_cmp (by rfl) (by rfl) (c_eqT hm)) (fun q => nomatch q) ?_
  first | (refine x0 rfl (o_pickT (by rfl) (by conv => lhs; whnf)) (fun q => nomatch q) ?_) | (refine x0 rfl (o_pickF (by rfl) (by conv => lhs; whnf)) (fun q => nomatch q) ?_) | (refine x_skip rfl ?_)
  first | (refine x0 rfl (o_pickT (by rfl) (by conv => lhs; whnf)) (fun q => nomatch q) ?_) | (refine x0 rfl (o_pickF (by rfl) (by conv => lhs; whnf)) (fun q => nomatch q) ?_)
  refine x0 rfl (o_assign (by conv => lhs; whnf)) (fun q => nomatch q) ?_
  refine x_nil ?_
  refine pw_ret ?_
  exact ⟨[_], ⟨rfl, trivial⟩, rfl, by (first | exact .inl rfl | exact .inr rfl)⟩

end Go.Proofs.Ytgleeglhdlnobaa.C9d
