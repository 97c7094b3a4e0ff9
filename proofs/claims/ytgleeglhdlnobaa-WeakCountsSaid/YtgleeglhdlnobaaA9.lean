/-
  Package weak: what its functions return.
  Conditions: the premises of each.
-/
import Derived.Test.YtgleeglhdlnobaaA2
import Derived.Test.YtgleeglhdlnobaaPw20
namespace Go.Proofs.Ytgleeglhdlnobaa.C9
open Go Go.Pw Go.Proofs
set_option linter.unusedVariables false
abbrev C := Int × Bool × Int
def cell (c : C) : PV := .agg [.int .i64 c.1, .bool c.2.1, .int .i64 c.2.2]
def Cel (L : List PV) : Prop := ∀ e ∈ L, ∃ c, e = cell c
theorem Cel.len {L : List PV} (h : Cel L) : ∀ e ∈ L, e.cells.length = 3 := fun e he => by obtain ⟨c, rfl⟩ := h e he; rfl
theorem Cel.get {L : List PV} (h : Cel L) {k : Nat} (hk : k < L.length) : ∃ c, L[k]? = some (cell c) := by
  obtain ⟨c, hc⟩ := h L[k] (List.getElem_mem hk)
  exact ⟨c, by rw [List.getElem?_eq_getElem hk, hc]⟩
theorem get_lt {L : List PV} {k : Nat} {x : PV} (h : L[k]? = some x) : k < L.length := (List.getElem?_eq_some_iff.1 h).1
theorem c_neR {a b : Int} {r : Bool} (h : r = decide (a ≠ b)) : cmpI .neq a b = some r := by subst h; by_cases q : a = b <;> simp [cmpI, q]
namespace Ty
theorem a3 : tagg Try.prog 3 = some false := by kernel_rfl
theorem a4 : tagg Try.prog 4 = some false := by kernel_rfl
theorem a22 : tagg Try.prog 22 = some false := by kernel_rfl
theorem a76 : tagg Try.prog 76 = some true := by kernel_rfl
theorem b3 : tbytes Try.prog 3 = some 8 := by kernel_rfl
theorem b76 : tbytes Try.prog 76 = some 24 := by kernel_rfl
theorem e22 : telem Try.prog 22 = some 3 := by kernel_rfl
theorem e59 : telem Try.prog 59 = some 76 := by kernel_rfl
theorem f76_0 : foff Try.prog 76 0 = some (0, 3) := by kernel_rfl
theorem f76_1 : foff Try.prog 76 1 = some (1, 4) := by kernel_rfl
theorem f76_2 : foff Try.prog 76 2 = some (2, 3) := by kernel_rfl
theorem p76 : bplaces Try.prog 76 = some (fun i => (#[(0, 1), (1, 1), (2, 1)] : Array (Nat × Nat))[i]?) := by kernel_rfl
theorem s3 : tsize Try.prog 3 = some 1 := by kernel_rfl
theorem s4 : tsize Try.prog 4 = some 1 := by kernel_rfl
theorem s76 : tsize Try.prog 76 = some 3 := by kernel_rfl
theorem z3 : tzero Try.prog 3 = some ((.int .i64 0)) := by kernel_rfl
theorem z76 : tzero Try.prog 76 = some ((.agg #[(.int .i64 0), (.bool false), (.int .i64 0)])) := by kernel_rfl
theorem mix : Try.prog.follows .mixedOrders = true := by kernel_rfl
end Ty
set_option maxRecDepth 100000 in
set_option maxHeartbeats 4000000 in
theorem has_yes (t : Bool) (L : List PV) (k : Nat) (hk : k < L.length) : PCalls Try.prog 44 [.lst t L, .int .i64 k] (.bool true) := by
  refine pc_intro (N := 13) Try.func44 rfl rfl (Nat.le_of_ble_eq_true rfl) fun w0 imm0 => ?_
  refine pw_seq ?_
  refine pw_reg (by kernel_rfl) ?_
  refine x0 rfl (o_assign (by conv => lhs; whnf)) (fun q => nomatch q) ?_
  refine x_nil ?_
  refine pw_seq ?_
  refine pw_reg (by kernel_rfl) ?_
  refine x0 rfl (o_move (by conv => lhs; whnf)) (fun q => nomatch q) ?_
  first | (refine x0 rfl (o_cmp (by rfl) (by rfl) (c_geT (by omega))) (fun q => nomatch q) ?_) | (refine x0 rfl (o_cmp (by rfl) (by rfl) (c_geF (by omega))) (fun q => nomatch q) ?_) | (refine x0 rfl (o_cmp (by rfl) (by rfl) (c_geT (by first | rfl | decide))) (fun q => nomatch q) ?_) | (refine x0 rfl (o_cmp (by rfl) (by rfl) (c_geF (by first | decide | (simp; done) | (simp; omega)))) (fun q => nomatch q) ?_)
  refine x0 rfl (o_move (by conv => lhs; whnf)) (fun q => nomatch q) ?_
  first | (refine x0 rfl (o_move (by conv => lhs; whnf)) (fun q => nomatch q) ?_) | (refine x_skip rfl ?_)
  first | (refine x0 rfl (o_move (by conv => lhs; whnf)) (fun q => nomatch q) ?_) | (refine x_skip rfl ?_)
  first | (refine x0 rfl (o_lenL (by rfl) Ty.e59 rfl) (fun q => nomatch q) ?_) | (refine x0 rfl (o_lenR (by rfl) (by conv => lhs; whnf) Ty.e59 rfl) (fun q => nomatch q) ?_) | (refine x_skip rfl ?_)
  first | (refine x0 rfl (o_cmp (by rfl) (by rfl) (c_ltT (by omega))) (fun q => nomatch q) ?_) | (refine x0 rfl (o_cmp (by rfl) (by rfl) (c_ltF (by omega))) (fun q => nomatch q) ?_) | (refine x0 rfl (o_cmp (by rfl) (by rfl) (c_ltT (by first | rfl | decide))) (fun q => nomatch q) ?_) | (refine x0 rfl (o_cmp (by rfl) (by rfl) (c_ltF (by first | decide | (simp; done) | (simp; omega)))) (fun q => nomatch q) ?_) | (refine x_skip rfl ?_)
  first | (refine x0 rfl (o_pickT (by rfl) (by conv => lhs; whnf)) (fun q => nomatch q) ?_) | (refine x0 rfl (o_pickF (by rfl) (by conv => lhs; whnf)) (fun q => nomatch q) ?_)
  refine x0 rfl (o_assign (by conv => lhs; whnf)) (fun q => nomatch q) ?_
  refine x_nil ?_
  refine pw_ret ?_
  exact ⟨[_], ⟨rfl, trivial⟩, rfl, by (first | exact .inl rfl | exact .inr rfl)⟩

set_option maxRecDepth 100000 in
set_option maxHeartbeats 4000000 in
theorem has_no (t : Bool) (L : List PV) (w : Int) (h : w < 0 ∨ L.length ≤ w) : PCalls Try.prog 44 [.lst t L, .int .i64 w] (.bool false) := by
  rcases h with h | h
  · skip
    refine pc_intro (N := 13) Try.func44 rfl rfl (Nat.le_of_ble_eq_true rfl) fun w0 imm0 => ?_
    refine pw_seq ?_
    refine pw_reg (by kernel_rfl) ?_
    refine x0 rfl (o_assign (by conv => lhs; whnf)) (fun q => nomatch q) ?_
    refine x_nil ?_
    refine pw_seq ?_
    refine pw_reg (by kernel_rfl) ?_
    refine x0 rfl (o_move (by conv => lhs; whnf)) (fun q => nomatch q) ?_
    first | (refine x0 rfl (o_cmp (by rfl) (by rfl) (c_geT (by omega))) (fun q => nomatch q) ?_) | (refine x0 rfl (o_cmp (by rfl) (by rfl) (c_geF (by omega))) (fun q => nomatch q) ?_) | (refine x0 rfl (o_cmp (by rfl) (by rfl) (c_geT (by first | rfl | decide))) (fun q => nomatch q) ?_) | (refine x0 rfl (o_cmp (by rfl) (by rfl) (c_geF (by first | decide | (simp; done) | (simp; omega)))) (fun q => nomatch q) ?_)
    refine x0 rfl (o_move (by conv => lhs; whnf)) (fun q => nomatch q) ?_
    first | (refine x0 rfl (o_move (by conv => lhs; whnf)) (fun q => nomatch q) ?_) | (refine x_skip rfl ?_)
    first | (refine x0 rfl (o_move (by conv => lhs; whnf)) (fun q => nomatch q) ?_) | (refine x_skip rfl ?_)
    first | (refine x0 rfl (o_lenL (by rfl) Ty.e59 rfl) (fun q => nomatch q) ?_) | (refine x0 rfl (o_lenR (by rfl) (by conv => lhs; whnf) Ty.e59 rfl) (fun q => nomatch q) ?_) | (refine x_skip rfl ?_)
    first | (refine x0 rfl (o_cmp (by rfl) (by rfl) (c_ltT (by omega))) (fun q => nomatch q) ?_) | (refine x0 rfl (o_cmp (by rfl) (by rfl) (c_ltF (by omega))) (fun q => nomatch q) ?_) | (refine x0 rfl (o_cmp (by rfl) (by rfl) (c_ltT (by first | rfl | decide))) (fun q => nomatch q) ?_) | (refine x0 rfl (o_cmp (by rfl) (by rfl) (c_ltF (by first | decide | (simp; done) | (simp; omega)))) (fun q => nomatch q) ?_) | (refine x_skip rfl ?_)
    first | (refine x0 rfl (o_pickT (by rfl) (by conv => lhs; whnf)) (fun q => nomatch q) ?_) | (refine x0 rfl (o_pickF (by rfl) (by conv => lhs; whnf)) (fun q => nomatch q) ?_)
    refine x0 rfl (o_assign (by conv => lhs; whnf)) (fun q => nomatch q) ?_
    refine x_nil ?_
    refine pw_ret ?_
    exact ⟨[_], ⟨rfl, trivial⟩, rfl, by (first | exact .inl rfl | exact .inr rfl)⟩
  · skip
    refine pc_intro (N := 13) Try.func44 rfl rfl (Nat.le_of_ble_eq_true rfl) fun w0 imm0 => ?_
    refine pw_seq ?_
    refine pw_reg (by kernel_rfl) ?_
    refine x0 rfl (o_assign (by conv => lhs; whnf)) (fun q => nomatch q) ?_
    refine x_nil ?_
    refine pw_seq ?_
    refine pw_reg (by kernel_rfl) ?_
    refine x0 rfl (o_move (by conv => lhs; whnf)) (fun q => nomatch q) ?_
    first | (refine x0 rfl (o_cmp (by rfl) (by rfl) (c_geT (by omega))) (fun q => nomatch q) ?_) | (refine x0 rfl (o_cmp (by rfl) (by rfl) (c_geF (by omega))) (fun q => nomatch q) ?_) | (refine x0 rfl (o_cmp (by rfl) (by rfl) (c_geT (by first | rfl | decide))) (fun q => nomatch q) ?_) | (refine x0 rfl (o_cmp (by rfl) (by rfl) (c_geF (by first | decide | (simp; done) | (simp; omega)))) (fun q => nomatch q) ?_)
    refine x0 rfl (o_move (by conv => lhs; whnf)) (fun q => nomatch q) ?_
    first | (refine x0 rfl (o_move (by conv => lhs; whnf)) (fun q => nomatch q) ?_) | (refine x_skip rfl ?_)
    first | (refine x0 rfl (o_move (by conv => lhs; whnf)) (fun q => nomatch q) ?_) | (refine x_skip rfl ?_)
    first | (refine x0 rfl (o_lenL (by rfl) Ty.e59 rfl) (fun q => nomatch q) ?_) | (refine x0 rfl (o_lenR (by rfl) (by conv => lhs; whnf) Ty.e59 rfl) (fun q => nomatch q) ?_) | (refine x_skip rfl ?_)
    first | (refine x0 rfl (o_cmp (by rfl) (by rfl) (c_ltT (by omega))) (fun q => nomatch q) ?_) | (refine x0 rfl (o_cmp (by rfl) (by rfl) (c_ltF (by omega))) (fun q => nomatch q) ?_) | (refine x0 rfl (o_cmp (by rfl) (by rfl) (c_ltT (by first | rfl | decide))) (fun q => nomatch q) ?_) | (refine x0 rfl (o_cmp (by rfl) (by rfl) (c_ltF (by first | decide | (simp; done) | (simp; omega)))) (fun q => nomatch q) ?_) | (refine x_skip rfl ?_)
    first | (refine x0 rfl (o_pickT (by rfl) (by conv => lhs; whnf)) (fun q => nomatch q) ?_) | (refine x0 rfl (o_pickF (by rfl) (by conv => lhs; whnf)) (fun q => nomatch q) ?_)
    refine x0 rfl (o_assign (by conv => lhs; whnf)) (fun q => nomatch q) ?_
    refine x_nil ?_
    refine pw_ret ?_
    exact ⟨[_], ⟨rfl, trivial⟩, rfl, by (first | exact .inl rfl | exact .inr rfl)⟩

set_option maxRecDepth 100000 in
set_option maxHeartbeats 4000000 in
theorem copied_ok (t : Bool) (L : List PV) (hL : Cel L) (hb : L.length ≤ 1000) : PCallsN Try.prog 41 [.lst t L] (⟨L, 0, true, 3, true⟩) := by
  refine pc_introN (N := 11) Try.func41 rfl rfl (Nat.le_of_ble_eq_true rfl) fun w0 imm0 => ?_
  refine pw_seq ?_
  refine pw_reg (by kernel_rfl) ?_
  refine x0 rfl (o_assign (by conv => lhs; whnf)) (fun q => nomatch q) ?_
  refine x_nil ?_
  refine pw_seq ?_
  refine pw_reg (by kernel_rfl) ?_
  refine x0 rfl (o_move (by conv => lhs; whnf)) (fun q => nomatch q) ?_
  first | (refine x0 rfl (o_lenL (by rfl) Ty.e59 rfl) (fun q => nomatch q) ?_) | (refine x0 rfl (o_lenR (by rfl) (by conv => lhs; whnf) Ty.e59 rfl) (fun q => nomatch q) ?_)
  refine x1 rfl (o_mkSlice (m := L.length) rfl (by conv => lhs; whnf) (by conv => lhs; whnf) (by rfl) Ty.e59 Ty.s76 Ty.z76 Ty.b76 (by conv => lhs; whnf) rfl rfl (by omega) (by omega)) rfl (fun q => nomatch q) (fun q => nomatch q) ?_
  refine x0 rfl (o_assign (by conv => lhs; whnf)) (fun q => nomatch q) ?_
  refine x_nil ?_
  refine pw_seq ?_
  refine pw_reg (by kernel_rfl) ?_
  refine x0 rfl (o_move (by conv => lhs; whnf)) (fun q => nomatch q) ?_
  refine x0 rfl (o_move (by conv => lhs; whnf)) (fun q => nomatch q) ?_
  refine x_cpy rfl (o_copy (by conv => lhs; whnf) (by conv => lhs; whnf) rfl (by first | exact .inl ⟨_, rfl, rfl⟩ | exact .inr ⟨_, _, rfl, rfl, rfl, rfl⟩) Ty.e59 Ty.s76 rfl hL.len (by simp) rfl) (by conv => lhs; whnf) rfl (by simp) (show L ++ _ = L by simp) (fun q => nomatch q) (fun q => nomatch q) ?_
  refine x_nil ?_
  refine pw_seq ?_
  refine pw_reg (by kernel_rfl) ?_
  refine x0 rfl (o_move (by conv => lhs; whnf)) (fun q => nomatch q) ?_
  refine x0 rfl (o_assign (by conv => lhs; whnf)) (fun q => nomatch q) ?_
  refine x_nil ?_
  refine pw_ret ?_
  exact ⟨_, _, rfl, rfl, rfl, rfl⟩

set_option maxRecDepth 100000 in
set_option maxHeartbeats 4000000 in
theorem set_no (t : Bool) (L : List PV) (w h c : Int) (hw : w < 0 ∨ L.length ≤ w) : PCalls Try.prog 33 [.lst t L, .int .i64 w, .int .i64 h, .int .i64 c] (.tup [.lst t L, .int .i64 0, .int .i64 7]) := by
  refine pc_intro (N := 33) Try.func33 rfl rfl (Nat.le_of_ble_eq_true rfl) fun w0 imm0 => ?_
  refine pw_seq ?_
  refine pw_reg (by kernel_rfl) ?_
  refine x0 rfl (o_assign (by conv => lhs; whnf)) (fun q => nomatch q) ?_
  refine x0 rfl (o_assign (by conv => lhs; whnf)) (fun q => nomatch q) ?_
  refine x0 rfl (o_assign (by conv => lhs; whnf)) (fun q => nomatch q) ?_
  refine x_nil ?_
  refine pw_seq ?_
  refine pw_seq ?_
  refine pw_reg (by kernel_rfl) ?_
  refine x0 rfl (o_move (by conv => lhs; whnf)) (fun q => nomatch q) ?_
  refine x0 rfl (o_move (by conv => lhs; whnf)) (fun q => nomatch q) ?_
  refine x0 rfl (o_call  rfl Try.func44 rfl (by decide) rfl rfl rfl (has_no t L w hw) rfl) (fun q => nomatch q) ?_
  refine x0 rfl (o_not (by rfl) (by conv => lhs; whnf)) (fun q => nomatch q) ?_
  refine x_nil ?_
  refine pw_cond true (by rfl) (fun _ => ?_) (fun q => nomatch q)
  refine pw_seq ?_
  refine pw_reg (by kernel_rfl) ?_
  refine x0 rfl (o_move (by conv => lhs; whnf)) (fun q => nomatch q) ?_
  refine x0 rfl (o_assign (by conv => lhs; whnf)) (fun q => nomatch q) ?_
  refine x0 rfl (o_assign (by conv => lhs; whnf)) (fun q => nomatch q) ?_
  refine x0 rfl (o_assign (by conv => lhs; whnf)) (fun q => nomatch q) ?_
  refine x_nil ?_
  refine pw_ret ?_
  exact ⟨[_, _, _], ⟨rfl, ⟨rfl, ⟨rfl, trivial⟩⟩⟩, rfl, by (first | exact .inl rfl | exact .inr rfl)⟩

set_option maxRecDepth 100000 in
set_option maxHeartbeats 4000000 in
theorem set_ok (t : Bool) (L : List PV) (L2 : List PV) (hL : Cel L) (hb : L.length ≤ 1000) (k : Nat) (h c a : Int) (b : Bool) (d : Int) (r : Bool) (hr : r = decide (h ≠ 0)) (hv : L[k]? = some (cell (a, b, d))) (hk : k < L.length) (hL2 : L.set k (cell (h, r, c)) = L2) : PCalls Try.prog 33 [.lst t L, .int .i64 k, .int .i64 h, .int .i64 c] (.tup [.lst false L2, .int .i64 a, .int .i64 0]) := by
  subst hL2
  refine pc_intro (N := 33) Try.func33 rfl rfl (Nat.le_of_ble_eq_true rfl) fun w0 imm0 => ?_
  refine pw_seq ?_
  refine pw_reg (by kernel_rfl) ?_
  refine x0 rfl (o_assign (by conv => lhs; whnf)) (fun q => nomatch q) ?_
  refine x0 rfl (o_assign (by conv => lhs; whnf)) (fun q => nomatch q) ?_
  refine x0 rfl (o_assign (by conv => lhs; whnf)) (fun q => nomatch q) ?_
  refine x_nil ?_
  refine pw_seq ?_
  refine pw_seq ?_
  refine pw_reg (by kernel_rfl) ?_
  refine x0 rfl (o_move (by conv => lhs; whnf)) (fun q => nomatch q) ?_
  refine x0 rfl (o_move (by conv => lhs; whnf)) (fun q => nomatch q) ?_
  refine x0 rfl (o_call  rfl Try.func44 rfl (by decide) rfl rfl rfl (has_yes t L k hk) rfl) (fun q => nomatch q) ?_
  refine x0 rfl (o_not (by rfl) (by conv => lhs; whnf)) (fun q => nomatch q) ?_
  refine x_nil ?_
  refine pw_cond false (by rfl) (fun q => nomatch q) (fun _ => ?_)
  refine pw_skip ?_
  refine pw_seq ?_
  refine pw_reg (by kernel_rfl) ?_
  refine x0 rfl (o_move (by conv => lhs; whnf)) (fun q => nomatch q) ?_
  refine x_calN rfl (o_callN (ls := [])  rfl rfl Try.func41 rfl (by decide) rfl rfl rfl (copied_ok t L hL hb) rfl rfl) rfl (fun q => nomatch q) (fun q => nomatch q) ?_
  refine x0 rfl (o_assign (by conv => lhs; whnf)) (fun q => nomatch q) ?_
  refine x_nil ?_
  refine pw_seq ?_
  refine pw_reg (by kernel_rfl) ?_
  refine x0 rfl (o_move (by conv => lhs; whnf)) (fun q => nomatch q) ?_
  refine x0 rfl (o_move (by conv => lhs; whnf)) (fun q => nomatch q) ?_
  refine x0 rfl (o_move (by conv => lhs; whnf)) (fun q => nomatch q) ?_
  refine x0 rfl (o_move (by conv => lhs; whnf)) (fun q => nomatch q) ?_
  refine x0 rfl (o_cmp (by rfl) (by rfl) (c_neR hr)) (fun q => nomatch q) ?_
  refine x0 rfl (o_move (by conv => lhs; whnf)) (fun q => nomatch q) ?_
  refine x0 rfl (o_build (by first | rfl | (conv => lhs; simp only [List.toList_toArray, List.map_cons, List.map_nil])) Ty.p76 Ty.z76 (by conv => lhs; whnf) (by conv => lhs; whnf) rfl) (fun q => nomatch q) ?_
  refine x0 rfl (o_idxR (m := k) (by rfl) (by conv => lhs; whnf) (by rfl) (by rfl) hk Ty.e59 Ty.s76 rfl) (fun q => nomatch q) ?_
  refine x_sto rfl (o_store (by conv => lhs; whnf) (by conv => lhs; whnf) (by conv => lhs; whnf) rfl Ty.s76 (Nat.le_of_ble_eq_true rfl) rfl) (by conv => lhs; whnf) hv (Nat.zero_le _) (Nat.le_of_ble_eq_true rfl) rfl (by conv => lhs; whnf) (by conv => lhs; whnf) (by conv => lhs; whnf) (fun q => nomatch q) (fun q => nomatch q) ?_
  refine x_nil ?_
  refine pw_seq ?_
  refine pw_drw [] Ty.mix (by kernel_rfl) (by kernel_rfl) ?_
  refine x7 rfl (fun _ hN => o_move (by conv => lhs; whnf)) rfl ?_
  refine x7 rfl (fun _ hN => o_move (by conv => lhs; whnf)) rfl ?_
  refine x7 rfl (fun _ hN => o_move (by conv => lhs; whnf)) rfl ?_
  refine x0 rfl (o_idxL (m := k) (by rfl) (by rfl) (by rfl) hv Ty.e59 Ty.s76 (by rfl) (by conv => lhs; whnf)) (fun _ => rfl) ?_
  first | (refine x7 rfl (fun _ hN => o_fieldAddrP (by rfl) Ty.f76_0 (by conv => lhs; whnf)) rfl ?_) | (refine x7 rfl (fun _ hN => o_fieldAddrR (by rfl) Ty.f76_0 (by conv => lhs; whnf)) rfl ?_)
  first | (refine x0 rfl (o_loadS (by rfl) (by conv => lhs; whnf) rfl Ty.a3 (by conv => lhs; whnf)) (fun _ => rfl) ?_) | (refine x0 rfl (o_loadRS (by rfl) Ty.a3 (by conv => lhs; whnf)) (fun _ => rfl) ?_)
  refine x7 rfl (fun _ hN => o_assign (by conv => lhs; whnf)) rfl ?_
  refine x7 rfl (fun _ hN => o_assign (by conv => lhs; whnf)) rfl ?_
  refine x7 rfl (fun _ hN => o_assign (by conv => lhs; whnf)) rfl ?_
  refine x_nil ?_
  refine pw_ret ?_
  exact ⟨[_, _, _], ⟨rfl, ⟨rfl, ⟨rfl, trivial⟩⟩⟩, rfl, by (first | exact .inl rfl | exact .inr rfl)⟩

set_option maxRecDepth 100000 in
set_option maxHeartbeats 4000000 in
theorem load_no (t : Bool) (L : List PV) (w : Int) (hw : w < 0 ∨ L.length ≤ w) : PCalls Try.prog 34 [.lst t L, .int .i64 w] (.tup [.int .i64 0, .int .i64 7]) := by
  refine pc_intro (N := 29) Try.func34 rfl rfl (Nat.le_of_ble_eq_true rfl) fun w0 imm0 => ?_
  refine pw_seq ?_
  refine pw_reg (by kernel_rfl) ?_
  refine x0 rfl (o_assign (by conv => lhs; whnf)) (fun q => nomatch q) ?_
  refine x0 rfl (o_assign (by conv => lhs; whnf)) (fun q => nomatch q) ?_
  refine x_nil ?_
  refine pw_seq ?_
  refine pw_seq ?_
  refine pw_reg (by kernel_rfl) ?_
  refine x0 rfl (o_move (by conv => lhs; whnf)) (fun q => nomatch q) ?_
  refine x0 rfl (o_move (by conv => lhs; whnf)) (fun q => nomatch q) ?_
  refine x0 rfl (o_call  rfl Try.func44 rfl (by decide) rfl rfl rfl (has_no t L w hw) rfl) (fun q => nomatch q) ?_
  refine x0 rfl (o_not (by rfl) (by conv => lhs; whnf)) (fun q => nomatch q) ?_
  refine x_nil ?_
  refine pw_cond true (by rfl) (fun _ => ?_) (fun q => nomatch q)
  refine pw_seq ?_
  refine pw_reg (by kernel_rfl) ?_
  refine x0 rfl (o_assign (by conv => lhs; whnf)) (fun q => nomatch q) ?_
  refine x0 rfl (o_assign (by conv => lhs; whnf)) (fun q => nomatch q) ?_
  refine x_nil ?_
  refine pw_ret ?_
  exact ⟨[_, _], ⟨rfl, ⟨rfl, trivial⟩⟩, rfl, by (first | exact .inl rfl | exact .inr rfl)⟩

set_option maxRecDepth 100000 in
set_option maxHeartbeats 4000000 in
theorem load_zero (t : Bool) (L : List PV) (k : Nat) (b : Bool) (d : Int) (hk : k < L.length) (hv : L[k]? = some (cell (0, b, d))) : PCalls Try.prog 34 [.lst t L, .int .i64 k] (.tup [.int .i64 0, .int .i64 9]) := by
  refine pc_intro (N := 29) Try.func34 rfl rfl (Nat.le_of_ble_eq_true rfl) fun w0 imm0 => ?_
  refine pw_seq ?_
  refine pw_reg (by kernel_rfl) ?_
  refine x0 rfl (o_assign (by conv => lhs; whnf)) (fun q => nomatch q) ?_
  refine x0 rfl (o_assign (by conv => lhs; whnf)) (fun q => nomatch q) ?_
  refine x_nil ?_
  refine pw_seq ?_
  refine pw_seq ?_
  refine pw_reg (by kernel_rfl) ?_
  refine x0 rfl (o_move (by conv => lhs; whnf)) (fun q => nomatch q) ?_
  refine x0 rfl (o_move (by conv => lhs; whnf)) (fun q => nomatch q) ?_
  refine x0 rfl (o_call  rfl Try.func44 rfl (by decide) rfl rfl rfl (has_yes t L k hk) rfl) (fun q => nomatch q) ?_
  refine x0 rfl (o_not (by rfl) (by conv => lhs; whnf)) (fun q => nomatch q) ?_
  refine x_nil ?_
  refine pw_cond false (by rfl) (fun q => nomatch q) (fun _ => ?_)
  refine pw_skip ?_
  refine pw_seq ?_
  refine pw_seq ?_
  refine pw_reg (by kernel_rfl) ?_
  refine x0 rfl (o_move (by conv => lhs; whnf)) (fun q => nomatch q) ?_
  refine x0 rfl (o_move (by conv => lhs; whnf)) (fun q => nomatch q) ?_
  refine x0 rfl (o_idxL (m := k) (by rfl) (by rfl) (by rfl) hv Ty.e59 Ty.s76 (by rfl) (by conv => lhs; whnf)) (fun q => nomatch q) ?_
  first | (refine x0 rfl (o_fieldAddrP (by rfl) Ty.f76_0 (by conv => lhs; whnf)) (fun q => nomatch q) ?_) | (refine x0 rfl (o_fieldAddrR (by rfl) Ty.f76_0 (by conv => lhs; whnf)) (fun q => nomatch q) ?_)
  first | (refine x0 rfl (o_loadS (by rfl) (by conv => lhs; whnf) rfl Ty.a3 (by conv => lhs; whnf)) (fun q => nomatch q) ?_) | (refine x0 rfl (o_loadRS (by rfl) Ty.a3 (by conv => lhs; whnf)) (fun q => nomatch q) ?_)
  first | (refine x0 rfl (o_cmp (by rfl) (by rfl) (c_eqT (by omega))) (fun q => nomatch q) ?_) | (refine x0 rfl (o_cmp (by rfl) (by rfl) (c_eqF (by omega))) (fun q => nomatch q) ?_) | (refine x0 rfl (o_cmp (by rfl) (by rfl) (c_eqT (by first | rfl | decide))) (fun q => nomatch q) ?_) | (refine x0 rfl (o_cmp (by rfl) (by rfl) (c_eqF (by first | decide | (simp; done) | (simp; omega)))) (fun q => nomatch q) ?_)
  refine x0 rfl (o_move (by conv => lhs; whnf)) (fun q => nomatch q) ?_
  first | (refine x0 rfl (o_move (by conv => lhs; whnf)) (fun q => nomatch q) ?_) | (refine x_skip rfl ?_)
  first | (refine x0 rfl (o_move (by conv => lhs; whnf)) (fun q => nomatch q) ?_) | (refine x_skip rfl ?_)
  refine x_skip rfl ?_
  first | (refine x0 rfl (o_fieldAddrP (by rfl) Ty.f76_1 (by conv => lhs; whnf)) (fun q => nomatch q) ?_) | (refine x0 rfl (o_fieldAddrR (by rfl) Ty.f76_1 (by conv => lhs; whnf)) (fun q => nomatch q) ?_) | (refine x_skip rfl ?_)
  first | (refine x0 rfl (o_loadS (by rfl) (by conv => lhs; whnf) rfl Ty.a4 (by conv => lhs; whnf)) (fun q => nomatch q) ?_) | (refine x0 rfl (o_loadRS (by rfl) Ty.a4 (by conv => lhs; whnf)) (fun q => nomatch q) ?_) | (refine x_skip rfl ?_)
  first | (refine x0 rfl (o_not (by rfl) (by conv => lhs; whnf)) (fun q => nomatch q) ?_) | (refine x_skip rfl ?_)
  first | (refine x0 rfl (o_pickT (by rfl) (by conv => lhs; whnf)) (fun q => nomatch q) ?_) | (refine x0 rfl (o_pickF (by rfl) (by conv => lhs; whnf)) (fun q => nomatch q) ?_)
  refine x_nil ?_
  refine pw_cond true (by rfl) (fun _ => ?_) (fun q => nomatch q)
  refine pw_seq ?_
  refine pw_reg (by kernel_rfl) ?_
  refine x0 rfl (o_assign (by conv => lhs; whnf)) (fun q => nomatch q) ?_
  refine x0 rfl (o_assign (by conv => lhs; whnf)) (fun q => nomatch q) ?_
  refine x_nil ?_
  refine pw_ret ?_
  exact ⟨[_, _], ⟨rfl, ⟨rfl, trivial⟩⟩, rfl, by (first | exact .inl rfl | exact .inr rfl)⟩

set_option maxRecDepth 100000 in
set_option maxHeartbeats 4000000 in
theorem load_dead (t : Bool) (L : List PV) (k : Nat) (a d : Int) (ha : a ≠ 0) (hk : k < L.length) (hv : L[k]? = some (cell (a, false, d))) : PCalls Try.prog 34 [.lst t L, .int .i64 k] (.tup [.int .i64 0, .int .i64 9]) := by
  refine pc_intro (N := 29) Try.func34 rfl rfl (Nat.le_of_ble_eq_true rfl) fun w0 imm0 => ?_
  refine pw_seq ?_
  refine pw_reg (by kernel_rfl) ?_
  refine x0 rfl (o_assign (by conv => lhs; whnf)) (fun q => nomatch q) ?_
  refine x0 rfl (o_assign (by conv => lhs; whnf)) (fun q => nomatch q) ?_
  refine x_nil ?_
  refine pw_seq ?_
  refine pw_seq ?_
  refine pw_reg (by kernel_rfl) ?_
  refine x0 rfl (o_move (by conv => lhs; whnf)) (fun q => nomatch q) ?_
  refine x0 rfl (o_move (by conv => lhs; whnf)) (fun q => nomatch q) ?_
  refine x0 rfl (o_call  rfl Try.func44 rfl (by decide) rfl rfl rfl (has_yes t L k hk) rfl) (fun q => nomatch q) ?_
  refine x0 rfl (o_not (by rfl) (by conv => lhs; whnf)) (fun q => nomatch q) ?_
  refine x_nil ?_
  refine pw_cond false (by rfl) (fun q => nomatch q) (fun _ => ?_)
  refine pw_skip ?_
  refine pw_seq ?_
  refine pw_seq ?_
  refine pw_reg (by kernel_rfl) ?_
  refine x0 rfl (o_move (by conv => lhs; whnf)) (fun q => nomatch q) ?_
  refine x0 rfl (o_move (by conv => lhs; whnf)) (fun q => nomatch q) ?_
  refine x0 rfl (o_idxL (m := k) (by rfl) (by rfl) (by rfl) hv Ty.e59 Ty.s76 (by rfl) (by conv => lhs; whnf)) (fun q => nomatch q) ?_
  first | (refine x0 rfl (o_fieldAddrP (by rfl) Ty.f76_0 (by conv => lhs; whnf)) (fun q => nomatch q) ?_) | (refine x0 rfl (o_fieldAddrR (by rfl) Ty.f76_0 (by conv => lhs; whnf)) (fun q => nomatch q) ?_)
  first | (refine x0 rfl (o_loadS (by rfl) (by conv => lhs; whnf) rfl Ty.a3 (by conv => lhs; whnf)) (fun q => nomatch q) ?_) | (refine x0 rfl (o_loadRS (by rfl) Ty.a3 (by conv => lhs; whnf)) (fun q => nomatch q) ?_)
  first | (refine x0 rfl (o_cmp (by rfl) (by rfl) (c_eqT (by omega))) (fun q => nomatch q) ?_) | (refine x0 rfl (o_cmp (by rfl) (by rfl) (c_eqF (by omega))) (fun q => nomatch q) ?_) | (refine x0 rfl (o_cmp (by rfl) (by rfl) (c_eqT (by first | rfl | decide))) (fun q => nomatch q) ?_) | (refine x0 rfl (o_cmp (by rfl) (by rfl) (c_eqF (by first | decide | (simp; done) | (simp; omega)))) (fun q => nomatch q) ?_)
  refine x0 rfl (o_move (by conv => lhs; whnf)) (fun q => nomatch q) ?_
  first | (refine x0 rfl (o_move (by conv => lhs; whnf)) (fun q => nomatch q) ?_) | (refine x_skip rfl ?_)
  first | (refine x0 rfl (o_move (by conv => lhs; whnf)) (fun q => nomatch q) ?_) | (refine x_skip rfl ?_)
  refine x0 rfl (o_idxL (m := k) (by rfl) (by rfl) (by rfl) hv Ty.e59 Ty.s76 (by rfl) (by conv => lhs; whnf)) (fun q => nomatch q) ?_
  first | (refine x0 rfl (o_fieldAddrP (by rfl) Ty.f76_1 (by conv => lhs; whnf)) (fun q => nomatch q) ?_) | (refine x0 rfl (o_fieldAddrR (by rfl) Ty.f76_1 (by conv => lhs; whnf)) (fun q => nomatch q) ?_) | (refine x_skip rfl ?_)
  first | (refine x0 rfl (o_loadS (by rfl) (by conv => lhs; whnf) rfl Ty.a4 (by conv => lhs; whnf)) (fun q => nomatch q) ?_) | (refine x0 rfl (o_loadRS (by rfl) Ty.a4 (by conv => lhs; whnf)) (fun q => nomatch q) ?_) | (refine x_skip rfl ?_)
  first | (refine x0 rfl (o_not (by rfl) (by conv => lhs; whnf)) (fun q => nomatch q) ?_) | (refine x_skip rfl ?_)
  first | (refine x0 rfl (o_pickT (by rfl) (by conv => lhs; whnf)) (fun q => nomatch q) ?_) | (refine x0 rfl (o_pickF (by rfl) (by conv => lhs; whnf)) (fun q => nomatch q) ?_)
  refine x_nil ?_
  refine pw_cond true (by rfl) (fun _ => ?_) (fun q => nomatch q)
  refine pw_seq ?_
  refine pw_reg (by kernel_rfl) ?_
  refine x0 rfl (o_assign (by conv => lhs; whnf)) (fun q => nomatch q) ?_
  refine x0 rfl (o_assign (by conv => lhs; whnf)) (fun q => nomatch q) ?_
  refine x_nil ?_
  refine pw_ret ?_
  exact ⟨[_, _], ⟨rfl, ⟨rfl, trivial⟩⟩, rfl, by (first | exact .inl rfl | exact .inr rfl)⟩

set_option maxRecDepth 100000 in
set_option maxHeartbeats 4000000 in
theorem load_ok (t : Bool) (L : List PV) (k : Nat) (a d : Int) (ha : a ≠ 0) (hk : k < L.length) (hv : L[k]? = some (cell (a, true, d))) : PCalls Try.prog 34 [.lst t L, .int .i64 k] (.tup [.int .i64 a, .int .i64 0]) := by
  refine pc_intro (N := 29) Try.func34 rfl rfl (Nat.le_of_ble_eq_true rfl) fun w0 imm0 => ?_
  refine pw_seq ?_
  refine pw_reg (by kernel_rfl) ?_
  refine x0 rfl (o_assign (by conv => lhs; whnf)) (fun q => nomatch q) ?_
  refine x0 rfl (o_assign (by conv => lhs; whnf)) (fun q => nomatch q) ?_
  refine x_nil ?_
  refine pw_seq ?_
  refine pw_seq ?_
  refine pw_reg (by kernel_rfl) ?_
  refine x0 rfl (o_move (by conv => lhs; whnf)) (fun q => nomatch q) ?_
  refine x0 rfl (o_move (by conv => lhs; whnf)) (fun q => nomatch q) ?_
  refine x0 rfl (o_call  rfl Try.func44 rfl (by decide) rfl rfl rfl (has_yes t L k hk) rfl) (fun q => nomatch q) ?_
  refine x0 rfl (o_not (by rfl) (by conv => lhs; whnf)) (fun q => nomatch q) ?_
  refine x_nil ?_
  refine pw_cond false (by rfl) (fun q => nomatch q) (fun _ => ?_)
  refine pw_skip ?_
  refine pw_seq ?_
  refine pw_seq ?_
  refine pw_reg (by kernel_rfl) ?_
  refine x0 rfl (o_move (by conv => lhs; whnf)) (fun q => nomatch q) ?_
  refine x0 rfl (o_move (by conv => lhs; whnf)) (fun q => nomatch q) ?_
  refine x0 rfl (o_idxL (m := k) (by rfl) (by rfl) (by rfl) hv Ty.e59 Ty.s76 (by rfl) (by conv => lhs; whnf)) (fun q => nomatch q) ?_
  first | (refine x0 rfl (o_fieldAddrP (by rfl) Ty.f76_0 (by conv => lhs; whnf)) (fun q => nomatch q) ?_) | (refine x0 rfl (o_fieldAddrR (by rfl) Ty.f76_0 (by conv => lhs; whnf)) (fun q => nomatch q) ?_)
  first | (refine x0 rfl (o_loadS (by rfl) (by conv => lhs; whnf) rfl Ty.a3 (by conv => lhs; whnf)) (fun q => nomatch q) ?_) | (refine x0 rfl (o_loadRS (by rfl) Ty.a3 (by conv => lhs; whnf)) (fun q => nomatch q) ?_)
  first | (refine x0 rfl (o_cmp (by rfl) (by rfl) (c_eqT (by omega))) (fun q => nomatch q) ?_) | (refine x0 rfl (o_cmp (by rfl) (by rfl) (c_eqF (by omega))) (fun q => nomatch q) ?_) | (refine x0 rfl (o_cmp (by rfl) (by rfl) (c_eqT (by first | rfl | decide))) (fun q => nomatch q) ?_) | (refine x0 rfl (o_cmp (by rfl) (by rfl) (c_eqF (by first | decide | (simp; done) | (simp; omega)))) (fun q => nomatch q) ?_)
  refine x0 rfl (o_move (by conv => lhs; whnf)) (fun q => nomatch q) ?_
  first | (refine x0 rfl (o_move (by conv => lhs; whnf)) (fun q => nomatch q) ?_) | (refine x_skip rfl ?_)
  first | (refine x0 rfl (o_move (by conv => lhs; whnf)) (fun q => nomatch q) ?_) | (refine x_skip rfl ?_)
  refine x0 rfl (o_idxL (m := k) (by rfl) (by rfl) (by rfl) hv Ty.e59 Ty.s76 (by rfl) (by conv => lhs; whnf)) (fun q => nomatch q) ?_
  first | (refine x0 rfl (o_fieldAddrP (by rfl) Ty.f76_1 (by conv => lhs; whnf)) (fun q => nomatch q) ?_) | (refine x0 rfl (o_fieldAddrR (by rfl) Ty.f76_1 (by conv => lhs; whnf)) (fun q => nomatch q) ?_) | (refine x_skip rfl ?_)
  first | (refine x0 rfl (o_loadS (by rfl) (by conv => lhs; whnf) rfl Ty.a4 (by conv => lhs; whnf)) (fun q => nomatch q) ?_) | (refine x0 rfl (o_loadRS (by rfl) Ty.a4 (by conv => lhs; whnf)) (fun q => nomatch q) ?_) | (refine x_skip rfl ?_)
  first | (refine x0 rfl (o_not (by rfl) (by conv => lhs; whnf)) (fun q => nomatch q) ?_) | (refine x_skip rfl ?_)
  first | (refine x0 rfl (o_pickT (by rfl) (by conv => lhs; whnf)) (fun q => nomatch q) ?_) | (refine x0 rfl (o_pickF (by rfl) (by conv => lhs; whnf)) (fun q => nomatch q) ?_)
  refine x_nil ?_
  refine pw_cond false (by rfl) (fun q => nomatch q) (fun _ => ?_)
  refine pw_skip ?_
  refine pw_seq ?_
  refine pw_reg (by kernel_rfl) ?_
  refine x0 rfl (o_move (by conv => lhs; whnf)) (fun q => nomatch q) ?_
  refine x0 rfl (o_move (by conv => lhs; whnf)) (fun q => nomatch q) ?_
  refine x0 rfl (o_idxL (m := k) (by rfl) (by rfl) (by rfl) hv Ty.e59 Ty.s76 (by rfl) (by conv => lhs; whnf)) (fun q => nomatch q) ?_
  first | (refine x0 rfl (o_fieldAddrP (by rfl) Ty.f76_0 (by conv => lhs; whnf)) (fun q => nomatch q) ?_) | (refine x0 rfl (o_fieldAddrR (by rfl) Ty.f76_0 (by conv => lhs; whnf)) (fun q => nomatch q) ?_)
  first | (refine x0 rfl (o_loadS (by rfl) (by conv => lhs; whnf) rfl Ty.a3 (by conv => lhs; whnf)) (fun q => nomatch q) ?_) | (refine x0 rfl (o_loadRS (by rfl) Ty.a3 (by conv => lhs; whnf)) (fun q => nomatch q) ?_)
  refine x0 rfl (o_assign (by conv => lhs; whnf)) (fun q => nomatch q) ?_
  refine x0 rfl (o_assign (by conv => lhs; whnf)) (fun q => nomatch q) ?_
  refine x_nil ?_
  refine pw_ret ?_
  exact ⟨[_, _], ⟨rfl, ⟨rfl, trivial⟩⟩, rfl, by (first | exact .inl rfl | exact .inr rfl)⟩

set_option maxRecDepth 100000 in
set_option maxHeartbeats 4000000 in
theorem idx_no (t : Bool) (L : List PV) (v : Int) (hI : Ints L) (hb : L.length ≤ 1000000) (hno : ∀ k : Nat, L[k]? ≠ some (PV.int .i64 v)) : PCalls Try.prog 45 [.lst t L, .int .i64 v] (.int .i64 (-1)) := by
  refine pc_intro (N := 19) Try.func45 rfl rfl (Nat.le_of_ble_eq_true rfl) fun w0 imm0 => ?_
  refine pw_seq ?_
  refine pw_reg (by kernel_rfl) ?_
  refine x0 rfl (o_assign (by conv => lhs; whnf)) (fun q => nomatch q) ?_
  refine x_nil ?_
  refine pw_seq ?_
  refine pw_seq ?_
  refine pw_reg (by kernel_rfl) ?_
  refine x0 rfl (o_move (by conv => lhs; whnf)) (fun q => nomatch q) ?_
  first | (refine x0 rfl (o_lenL (by rfl) Ty.e22 rfl) (fun q => nomatch q) ?_) | (refine x0 rfl (o_lenR (by rfl) (by conv => lhs; whnf) Ty.e22 rfl) (fun q => nomatch q) ?_)
  refine x0 rfl (o_move (by conv => lhs; whnf)) (fun q => nomatch q) ?_
  refine x_nil ?_
  refine pw_block ?_
  refine pw_loopW (fun m s => ∃ k : Nat, m = L.length - k ∧ (k ≤ L.length) ∧ s = St.of [(0, .lst t L), (1, .int .i64 v), (7, .int .i64 L.length), (8, .int .i64 k)] []) (m := L.length - (0)) (wk_st [(0, .lst t L), (1, .int .i64 v), (7, .int .i64 L.length), (8, .int .i64 (0))] [] ⟨rfl, rfl, rfl, rfl, rfl, rfl, rfl, rfl, rfl, rfl, rfl, rfl, trivial⟩ trivial) ⟨0, rfl, (Nat.zero_le _), rfl⟩ ?_
  · rintro _ _ ⟨k, rfl, hk, rfl⟩
    rcases Nat.lt_or_ge k L.length with hk2 | hk2
    · obtain ⟨x, hv⟩ := hI.get hk2
      refine pw_seq ?_
      refine pw_reg (by kernel_rfl) ?_
      first | (refine x0 rfl (o_cmp (by rfl) (by rfl) (c_ltT (by omega))) (fun q => nomatch q) ?_) | (refine x0 rfl (o_cmp (by rfl) (by rfl) (c_ltF (by omega))) (fun q => nomatch q) ?_) | (refine x0 rfl (o_cmp (by rfl) (by rfl) (c_ltT (by first | rfl | decide))) (fun q => nomatch q) ?_) | (refine x0 rfl (o_cmp (by rfl) (by rfl) (c_ltF (by first | decide | (simp; done) | (simp; omega)))) (fun q => nomatch q) ?_)
      refine x_nil ?_
      refine pw_seq ?_
      refine pw_cond true (by rfl) (fun _ => ?_) (fun q => nomatch q)
      refine pw_skip ?_
      refine pw_seq ?_
      refine pw_block ?_
      refine pw_seq ?_
      refine pw_reg (by kernel_rfl) ?_
      refine x0 rfl (o_move (by conv => lhs; whnf)) (fun q => nomatch q) ?_
      refine x0 rfl (o_assign (by conv => lhs; whnf)) (fun q => nomatch q) ?_
      refine x_nil ?_
      refine pw_seq ?_
      refine pw_reg (by kernel_rfl) ?_
      refine x0 rfl (o_move (by conv => lhs; whnf)) (fun q => nomatch q) ?_
      refine x0 rfl (o_move (by conv => lhs; whnf)) (fun q => nomatch q) ?_
      refine x0 rfl (o_move (by conv => lhs; whnf)) (fun q => nomatch q) ?_
      refine x0 rfl (o_idxL (m := k) (by rfl) (by rfl) (by rfl) hv Ty.e22 Ty.s3 (by rfl) (by conv => lhs; whnf)) (fun q => nomatch q) ?_
      first | (refine x0 rfl (o_loadS (by rfl) (by conv => lhs; whnf) rfl Ty.a3 (by conv => lhs; whnf)) (fun q => nomatch q) ?_) | (refine x0 rfl (o_loadRS (by rfl) Ty.a3 (by conv => lhs; whnf)) (fun q => nomatch q) ?_)
      refine x0 rfl (o_cmp (by rfl) (by rfl) (c_eqF (fun q => hno k (by rw [hv, q])))) (fun q => nomatch q) ?_
      refine x_nil ?_
      refine pw_cond false (by rfl) (fun q => nomatch q) (fun _ => ?_)
      refine pw_skip ?_
      refine pw_reg (by kernel_rfl) ?_
      refine x0 rfl (o_ari (by rfl) (by rfl) (ari_add (by rfl) (by omega) (by omega))) (fun q => nomatch q) ?_
      refine x0 rfl (o_move (by conv => lhs; whnf)) (fun q => nomatch q) ?_
      refine x_nil ?_
      exact ⟨_, _, (by omega), wk_st [(0, .lst t L), (1, .int .i64 v), (7, .int .i64 L.length), (8, .int .i64 (k + 1))] [] ⟨rfl, rfl, rfl, rfl, rfl, rfl, rfl, rfl, rfl, rfl, rfl, rfl, trivial⟩ trivial, k + 1, rfl, (by omega), rfl⟩
    · skip
      refine pw_seq ?_
      refine pw_reg (by kernel_rfl) ?_
      first | (refine x0 rfl (o_cmp (by rfl) (by rfl) (c_ltT (by omega))) (fun q => nomatch q) ?_) | (refine x0 rfl (o_cmp (by rfl) (by rfl) (c_ltF (by omega))) (fun q => nomatch q) ?_) | (refine x0 rfl (o_cmp (by rfl) (by rfl) (c_ltT (by first | rfl | decide))) (fun q => nomatch q) ?_) | (refine x0 rfl (o_cmp (by rfl) (by rfl) (c_ltF (by first | decide | (simp; done) | (simp; omega)))) (fun q => nomatch q) ?_)
      refine x_nil ?_
      refine pw_seq ?_
      refine pw_cond false (by rfl) (fun q => nomatch q) (fun _ => ?_)
      refine pw_exit ?_
      refine thenQ_exit ?_
      refine thenQ_exit ?_
      refine blockQ_exit ?_
      refine pw_seq ?_
      refine pw_reg (by kernel_rfl) ?_
      refine x0 rfl (o_assign (by conv => lhs; whnf)) (fun q => nomatch q) ?_
      refine x_nil ?_
      refine pw_ret ?_
      exact ⟨[_], ⟨rfl, trivial⟩, rfl, by (first | exact .inl rfl | exact .inr rfl)⟩

set_option maxRecDepth 100000 in
set_option maxHeartbeats 4000000 in
theorem idx_yes (t : Bool) (L : List PV) (v : Int) (hI : Ints L) (hb : L.length ≤ 1000000) (j : Nat) (hj : L[j]? = some (.int .i64 v)) (hlt : j < L.length) (hmin : ∀ k, k < j → L[k]? ≠ some (PV.int .i64 v)) : PCalls Try.prog 45 [.lst t L, .int .i64 v] (.int .i64 j) := by
  refine pc_intro (N := 19) Try.func45 rfl rfl (Nat.le_of_ble_eq_true rfl) fun w0 imm0 => ?_
  refine pw_seq ?_
  refine pw_reg (by kernel_rfl) ?_
  refine x0 rfl (o_assign (by conv => lhs; whnf)) (fun q => nomatch q) ?_
  refine x_nil ?_
  refine pw_seq ?_
  refine pw_seq ?_
  refine pw_reg (by kernel_rfl) ?_
  refine x0 rfl (o_move (by conv => lhs; whnf)) (fun q => nomatch q) ?_
  first | (refine x0 rfl (o_lenL (by rfl) Ty.e22 rfl) (fun q => nomatch q) ?_) | (refine x0 rfl (o_lenR (by rfl) (by conv => lhs; whnf) Ty.e22 rfl) (fun q => nomatch q) ?_)
  refine x0 rfl (o_move (by conv => lhs; whnf)) (fun q => nomatch q) ?_
  refine x_nil ?_
  refine pw_block ?_
  refine pw_loopW (fun m s => ∃ k : Nat, m = L.length - k ∧ (k ≤ j) ∧ s = St.of [(0, .lst t L), (1, .int .i64 v), (7, .int .i64 L.length), (8, .int .i64 k)] []) (m := L.length - (0)) (wk_st [(0, .lst t L), (1, .int .i64 v), (7, .int .i64 L.length), (8, .int .i64 (0))] [] ⟨rfl, rfl, rfl, rfl, rfl, rfl, rfl, rfl, rfl, rfl, rfl, rfl, trivial⟩ trivial) ⟨0, rfl, (Nat.zero_le _), rfl⟩ ?_
  · rintro _ _ ⟨k, rfl, hk, rfl⟩
    rcases Nat.lt_or_ge k j with hk2 | hk2
    · obtain ⟨x, hv⟩ := hI.get (k := k) (by omega)
      refine pw_seq ?_
      refine pw_reg (by kernel_rfl) ?_
      first | (refine x0 rfl (o_cmp (by rfl) (by rfl) (c_ltT (by omega))) (fun q => nomatch q) ?_) | (refine x0 rfl (o_cmp (by rfl) (by rfl) (c_ltF (by omega))) (fun q => nomatch q) ?_) | (refine x0 rfl (o_cmp (by rfl) (by rfl) (c_ltT (by first | rfl | decide))) (fun q => nomatch q) ?_) | (refine x0 rfl (o_cmp (by rfl) (by rfl) (c_ltF (by first | decide | (simp; done) | (simp; omega)))) (fun q => nomatch q) ?_)
      refine x_nil ?_
      refine pw_seq ?_
      refine pw_cond true (by rfl) (fun _ => ?_) (fun q => nomatch q)
      refine pw_skip ?_
      refine pw_seq ?_
      refine pw_block ?_
      refine pw_seq ?_
      refine pw_reg (by kernel_rfl) ?_
      refine x0 rfl (o_move (by conv => lhs; whnf)) (fun q => nomatch q) ?_
      refine x0 rfl (o_assign (by conv => lhs; whnf)) (fun q => nomatch q) ?_
      refine x_nil ?_
      refine pw_seq ?_
      refine pw_reg (by kernel_rfl) ?_
      refine x0 rfl (o_move (by conv => lhs; whnf)) (fun q => nomatch q) ?_
      refine x0 rfl (o_move (by conv => lhs; whnf)) (fun q => nomatch q) ?_
      refine x0 rfl (o_move (by conv => lhs; whnf)) (fun q => nomatch q) ?_
      refine x0 rfl (o_idxL (m := k) (by rfl) (by rfl) (by rfl) hv Ty.e22 Ty.s3 (by rfl) (by conv => lhs; whnf)) (fun q => nomatch q) ?_
      first | (refine x0 rfl (o_loadS (by rfl) (by conv => lhs; whnf) rfl Ty.a3 (by conv => lhs; whnf)) (fun q => nomatch q) ?_) | (refine x0 rfl (o_loadRS (by rfl) Ty.a3 (by conv => lhs; whnf)) (fun q => nomatch q) ?_)
      refine x0 rfl (o_cmp (by rfl) (by rfl) (c_eqF (fun q => hmin k hk2 (by rw [hv, q])))) (fun q => nomatch q) ?_
      refine x_nil ?_
      refine pw_cond false (by rfl) (fun q => nomatch q) (fun _ => ?_)
      refine pw_skip ?_
      refine pw_reg (by kernel_rfl) ?_
      refine x0 rfl (o_ari (by rfl) (by rfl) (ari_add (by rfl) (by omega) (by omega))) (fun q => nomatch q) ?_
      refine x0 rfl (o_move (by conv => lhs; whnf)) (fun q => nomatch q) ?_
      refine x_nil ?_
      exact ⟨_, _, (by omega), wk_st [(0, .lst t L), (1, .int .i64 v), (7, .int .i64 L.length), (8, .int .i64 (k + 1))] [] ⟨rfl, rfl, rfl, rfl, rfl, rfl, rfl, rfl, rfl, rfl, rfl, rfl, trivial⟩ trivial, k + 1, rfl, (by omega), rfl⟩
    · obtain rfl : k = j := by omega
      refine pw_seq ?_
      refine pw_reg (by kernel_rfl) ?_
      first | (refine x0 rfl (o_cmp (by rfl) (by rfl) (c_ltT (by omega))) (fun q => nomatch q) ?_) | (refine x0 rfl (o_cmp (by rfl) (by rfl) (c_ltF (by omega))) (fun q => nomatch q) ?_) | (refine x0 rfl (o_cmp (by rfl) (by rfl) (c_ltT (by first | rfl | decide))) (fun q => nomatch q) ?_) | (refine x0 rfl (o_cmp (by rfl) (by rfl) (c_ltF (by first | decide | (simp; done) | (simp; omega)))) (fun q => nomatch q) ?_)
      refine x_nil ?_
      refine pw_seq ?_
      refine pw_cond true (by rfl) (fun _ => ?_) (fun q => nomatch q)
      refine pw_skip ?_
      refine pw_seq ?_
      refine pw_block ?_
      refine pw_seq ?_
      refine pw_reg (by kernel_rfl) ?_
      refine x0 rfl (o_move (by conv => lhs; whnf)) (fun q => nomatch q) ?_
      refine x0 rfl (o_assign (by conv => lhs; whnf)) (fun q => nomatch q) ?_
      refine x_nil ?_
      refine pw_seq ?_
      refine pw_reg (by kernel_rfl) ?_
      refine x0 rfl (o_move (by conv => lhs; whnf)) (fun q => nomatch q) ?_
      refine x0 rfl (o_move (by conv => lhs; whnf)) (fun q => nomatch q) ?_
      refine x0 rfl (o_move (by conv => lhs; whnf)) (fun q => nomatch q) ?_
      refine x0 rfl (o_idxL (m := k) (by rfl) (by rfl) (by rfl) hj Ty.e22 Ty.s3 (by rfl) (by conv => lhs; whnf)) (fun q => nomatch q) ?_
      first | (refine x0 rfl (o_loadS (by rfl) (by conv => lhs; whnf) rfl Ty.a3 (by conv => lhs; whnf)) (fun q => nomatch q) ?_) | (refine x0 rfl (o_loadRS (by rfl) Ty.a3 (by conv => lhs; whnf)) (fun q => nomatch q) ?_)
      refine x0 rfl (o_cmp (by rfl) (by rfl) (c_eqT rfl)) (fun q => nomatch q) ?_
      refine x_nil ?_
      refine pw_cond true (by rfl) (fun _ => ?_) (fun q => nomatch q)
      refine pw_seq ?_
      refine pw_reg (by kernel_rfl) ?_
      refine x0 rfl (o_move (by conv => lhs; whnf)) (fun q => nomatch q) ?_
      refine x0 rfl (o_assign (by conv => lhs; whnf)) (fun q => nomatch q) ?_
      refine x_nil ?_
      refine pw_ret ?_
      exact ⟨[_], ⟨rfl, trivial⟩, rfl, by (first | exact .inl rfl | exact .inr rfl)⟩

set_option maxRecDepth 100000 in
set_option maxHeartbeats 4000000 in
theorem has_not (t : Bool) (L : List PV) (v : Int) (hI : Ints L) (hb : L.length ≤ 1000000) (hno : ∀ k : Nat, L[k]? ≠ some (PV.int .i64 v)) : PCalls Try.prog 40 [.lst t L, .int .i64 v] (.bool false) := by
  refine pc_intro (N := 9) Try.func40 rfl rfl (Nat.le_of_ble_eq_true rfl) fun w0 imm0 => ?_
  refine pw_seq ?_
  refine pw_reg (by kernel_rfl) ?_
  refine x0 rfl (o_assign (by conv => lhs; whnf)) (fun q => nomatch q) ?_
  refine x_nil ?_
  refine pw_seq ?_
  refine pw_reg (by kernel_rfl) ?_
  refine x0 rfl (o_move (by conv => lhs; whnf)) (fun q => nomatch q) ?_
  refine x0 rfl (o_move (by conv => lhs; whnf)) (fun q => nomatch q) ?_
  refine x0 rfl (o_call  rfl Try.func45 rfl (by decide) rfl rfl rfl (idx_no t L v hI hb hno) rfl) (fun q => nomatch q) ?_
  first | (refine x0 rfl (o_cmp (by rfl) (by rfl) (c_geT (by omega))) (fun q => nomatch q) ?_) | (refine x0 rfl (o_cmp (by rfl) (by rfl) (c_geF (by omega))) (fun q => nomatch q) ?_) | (refine x0 rfl (o_cmp (by rfl) (by rfl) (c_geT (by first | rfl | decide))) (fun q => nomatch q) ?_) | (refine x0 rfl (o_cmp (by rfl) (by rfl) (c_geF (by first | decide | (simp; done) | (simp; omega)))) (fun q => nomatch q) ?_)
  refine x0 rfl (o_assign (by conv => lhs; whnf)) (fun q => nomatch q) ?_
  refine x_nil ?_
  refine pw_ret ?_
  exact ⟨[_], ⟨rfl, trivial⟩, rfl, by (first | exact .inl rfl | exact .inr rfl)⟩

set_option maxRecDepth 100000 in
set_option maxHeartbeats 4000000 in
theorem has_it (t : Bool) (L : List PV) (v : Int) (hI : Ints L) (hb : L.length ≤ 1000000) (j : Nat) (hj : L[j]? = some (.int .i64 v)) (hlt : j < L.length) (hmin : ∀ k, k < j → L[k]? ≠ some (PV.int .i64 v)) : PCalls Try.prog 40 [.lst t L, .int .i64 v] (.bool true) := by
  refine pc_intro (N := 9) Try.func40 rfl rfl (Nat.le_of_ble_eq_true rfl) fun w0 imm0 => ?_
  refine pw_seq ?_
  refine pw_reg (by kernel_rfl) ?_
  refine x0 rfl (o_assign (by conv => lhs; whnf)) (fun q => nomatch q) ?_
  refine x_nil ?_
  refine pw_seq ?_
  refine pw_reg (by kernel_rfl) ?_
  refine x0 rfl (o_move (by conv => lhs; whnf)) (fun q => nomatch q) ?_
  refine x0 rfl (o_move (by conv => lhs; whnf)) (fun q => nomatch q) ?_
  refine x0 rfl (o_call  rfl Try.func45 rfl (by decide) rfl rfl rfl (idx_yes t L v hI hb j hj hlt hmin) rfl) (fun q => nomatch q) ?_
  first | (refine x0 rfl (o_cmp (by rfl) (by rfl) (c_geT (by omega))) (fun q => nomatch q) ?_) | (refine x0 rfl (o_cmp (by rfl) (by rfl) (c_geF (by omega))) (fun q => nomatch q) ?_) | (refine x0 rfl (o_cmp (by rfl) (by rfl) (c_geT (by first | rfl | decide))) (fun q => nomatch q) ?_) | (refine x0 rfl (o_cmp (by rfl) (by rfl) (c_geF (by first | decide | (simp; done) | (simp; omega)))) (fun q => nomatch q) ?_)
  refine x0 rfl (o_assign (by conv => lhs; whnf)) (fun q => nomatch q) ?_
  refine x_nil ?_
  refine pw_ret ?_
  exact ⟨[_], ⟨rfl, trivial⟩, rfl, by (first | exact .inl rfl | exact .inr rfl)⟩

theorem first_at (L : List PV) (v : Int) (h : PV.int .i64 v ∈ L) : ∃ j, L[j]? = some (PV.int .i64 v) ∧ j < L.length ∧ ∀ k, k < j → L[k]? ≠ some (PV.int .i64 v) := by
  obtain ⟨i, hi⟩ := List.getElem?_of_mem h
  obtain ⟨j, h1, h2⟩ := exists_least (p := fun i => L[i]? = some (PV.int .i64 v)) ⟨i, hi⟩
  exact ⟨j, h1, get_lt h1, fun k hk q => by have := h2 k q; omega⟩
theorem contains_ok (t : Bool) (L : List PV) (v : Int) (hI : Ints L) (hb : L.length ≤ 1000000) (H : List Int) (hL : L = H.map (PV.int .i64)) : PCalls Try.prog 40 [.lst t L, .int .i64 v] (.bool (decide (v ∈ H))) := by
  have e : PV.int .i64 v ∈ L ↔ v ∈ H := by
    subst hL
    rw [List.mem_map]
    exact ⟨fun ⟨a, h1, h2⟩ => by cases h2; exact h1, fun h => ⟨v, h, rfl⟩⟩
  by_cases h : v ∈ H
  · rw [← e] at h
    obtain ⟨j, h1, h2, h3⟩ := first_at L v h
    rw [decide_eq_true (e.1 h)]
    exact has_it t L v hI hb j h1 h2 h3
  · rw [decide_eq_false h]
    exact has_not t L v hI hb fun k q => h (e.1 (List.mem_of_getElem? q))

set_option maxRecDepth 100000 in
set_option maxHeartbeats 4000000 in
theorem c39_dead (t : Bool) (HS : List PV) (a d : Int) : PCalls Try.prog 39 [cell (a, false, d), .rptr [.lst t HS]] (.bool false) := by
  refine pc_intro (N := 17) Try.func39 rfl rfl (Nat.le_of_ble_eq_true rfl) fun w0 imm0 => ?_
  refine pw_seq ?_
  refine pw_reg (by kernel_rfl) ?_
  refine x1 rfl (o_box (z := 3) (by conv => lhs; whnf) rfl rfl rfl (by conv => lhs; whnf)) rfl (fun q => nomatch q) (fun q => nomatch q) ?_
  refine x0 rfl (o_assign (by conv => lhs; whnf)) (fun q => nomatch q) ?_
  refine x_nil ?_
  refine pw_seq ?_
  refine pw_reg (by kernel_rfl) ?_
  first | (refine x0 rfl (o_fieldAddrP (by rfl) Ty.f76_1 (by conv => lhs; whnf)) (fun q => nomatch q) ?_) | (refine x0 rfl (o_fieldAddrR (by rfl) Ty.f76_1 (by conv => lhs; whnf)) (fun q => nomatch q) ?_)
  first | (refine x0 rfl (o_loadS (by rfl) (by conv => lhs; whnf) rfl Ty.a4 (by conv => lhs; whnf)) (fun q => nomatch q) ?_) | (refine x0 rfl (o_loadRS (by rfl) Ty.a4 (by conv => lhs; whnf)) (fun q => nomatch q) ?_)
  refine x0 rfl (o_move (by conv => lhs; whnf)) (fun q => nomatch q) ?_
  first | (refine x0 rfl (o_fieldAddrP (by rfl) Ty.f76_0 (by conv => lhs; whnf)) (fun q => nomatch q) ?_) | (refine x0 rfl (o_fieldAddrR (by rfl) Ty.f76_0 (by conv => lhs; whnf)) (fun q => nomatch q) ?_) | (refine x_skip rfl ?_)
  first | (refine x0 rfl (o_loadS (by rfl) (by conv => lhs; whnf) rfl Ty.a3 (by conv => lhs; whnf)) (fun q => nomatch q) ?_) | (refine x0 rfl (o_loadRS (by rfl) Ty.a3 (by conv => lhs; whnf)) (fun q => nomatch q) ?_) | (refine x_skip rfl ?_)
  first | (refine x0 rfl (o_cmp (by rfl) (by rfl) (c_neT (by omega))) (fun q => nomatch q) ?_) | (refine x0 rfl (o_cmp (by rfl) (by rfl) (c_neF (by omega))) (fun q => nomatch q) ?_) | (refine x0 rfl (o_cmp (by rfl) (by rfl) (c_neT (by first | rfl | decide))) (fun q => nomatch q) ?_) | (refine x0 rfl (o_cmp (by rfl) (by rfl) (c_neF (by first | decide | (simp; done) | (simp; omega)))) (fun q => nomatch q) ?_) | (refine x_skip rfl ?_)
  first | (refine x0 rfl (o_pickT (by rfl) (by conv => lhs; whnf)) (fun q => nomatch q) ?_) | (refine x0 rfl (o_pickF (by rfl) (by conv => lhs; whnf)) (fun q => nomatch q) ?_)
  refine x0 rfl (o_move (by conv => lhs; whnf)) (fun q => nomatch q) ?_
  first | (refine x0 rfl (o_loadS (by rfl) (by conv => lhs; whnf) rfl Ty.a22 (by conv => lhs; whnf)) (fun q => nomatch q) ?_) | (refine x0 rfl (o_loadRS (by rfl) Ty.a22 (by conv => lhs; whnf)) (fun q => nomatch q) ?_) | (refine x_skip rfl ?_)
  first | (refine x0 rfl (o_fieldAddrP (by rfl) Ty.f76_0 (by conv => lhs; whnf)) (fun q => nomatch q) ?_) | (refine x0 rfl (o_fieldAddrR (by rfl) Ty.f76_0 (by conv => lhs; whnf)) (fun q => nomatch q) ?_) | (refine x_skip rfl ?_)
  first | (refine x0 rfl (o_loadS (by rfl) (by conv => lhs; whnf) rfl Ty.a3 (by conv => lhs; whnf)) (fun q => nomatch q) ?_) | (refine x0 rfl (o_loadRS (by rfl) Ty.a3 (by conv => lhs; whnf)) (fun q => nomatch q) ?_) | (refine x_skip rfl ?_)
  refine x_skip rfl ?_
  first | (refine x0 rfl (o_pickT (by rfl) (by conv => lhs; whnf)) (fun q => nomatch q) ?_) | (refine x0 rfl (o_pickF (by rfl) (by conv => lhs; whnf)) (fun q => nomatch q) ?_)
  refine x0 rfl (o_assign (by conv => lhs; whnf)) (fun q => nomatch q) ?_
  refine x_nil ?_
  refine pw_ret ?_
  exact ⟨[_], ⟨rfl, trivial⟩, rfl, by (first | exact .inl rfl | exact .inr rfl)⟩

set_option maxRecDepth 100000 in
set_option maxHeartbeats 4000000 in
theorem c39_zero (t : Bool) (HS : List PV) (d : Int) : PCalls Try.prog 39 [cell (0, true, d), .rptr [.lst t HS]] (.bool false) := by
  refine pc_intro (N := 17) Try.func39 rfl rfl (Nat.le_of_ble_eq_true rfl) fun w0 imm0 => ?_
  refine pw_seq ?_
  refine pw_reg (by kernel_rfl) ?_
  refine x1 rfl (o_box (z := 3) (by conv => lhs; whnf) rfl rfl rfl (by conv => lhs; whnf)) rfl (fun q => nomatch q) (fun q => nomatch q) ?_
  refine x0 rfl (o_assign (by conv => lhs; whnf)) (fun q => nomatch q) ?_
  refine x_nil ?_
  refine pw_seq ?_
  refine pw_reg (by kernel_rfl) ?_
  first | (refine x0 rfl (o_fieldAddrP (by rfl) Ty.f76_1 (by conv => lhs; whnf)) (fun q => nomatch q) ?_) | (refine x0 rfl (o_fieldAddrR (by rfl) Ty.f76_1 (by conv => lhs; whnf)) (fun q => nomatch q) ?_)
  first | (refine x0 rfl (o_loadS (by rfl) (by conv => lhs; whnf) rfl Ty.a4 (by conv => lhs; whnf)) (fun q => nomatch q) ?_) | (refine x0 rfl (o_loadRS (by rfl) Ty.a4 (by conv => lhs; whnf)) (fun q => nomatch q) ?_)
  refine x0 rfl (o_move (by conv => lhs; whnf)) (fun q => nomatch q) ?_
  first | (refine x0 rfl (o_fieldAddrP (by rfl) Ty.f76_0 (by conv => lhs; whnf)) (fun q => nomatch q) ?_) | (refine x0 rfl (o_fieldAddrR (by rfl) Ty.f76_0 (by conv => lhs; whnf)) (fun q => nomatch q) ?_) | (refine x_skip rfl ?_)
  first | (refine x0 rfl (o_loadS (by rfl) (by conv => lhs; whnf) rfl Ty.a3 (by conv => lhs; whnf)) (fun q => nomatch q) ?_) | (refine x0 rfl (o_loadRS (by rfl) Ty.a3 (by conv => lhs; whnf)) (fun q => nomatch q) ?_) | (refine x_skip rfl ?_)
  first | (refine x0 rfl (o_cmp (by rfl) (by rfl) (c_neT (by omega))) (fun q => nomatch q) ?_) | (refine x0 rfl (o_cmp (by rfl) (by rfl) (c_neF (by omega))) (fun q => nomatch q) ?_) | (refine x0 rfl (o_cmp (by rfl) (by rfl) (c_neT (by first | rfl | decide))) (fun q => nomatch q) ?_) | (refine x0 rfl (o_cmp (by rfl) (by rfl) (c_neF (by first | decide | (simp; done) | (simp; omega)))) (fun q => nomatch q) ?_) | (refine x_skip rfl ?_)
  first | (refine x0 rfl (o_pickT (by rfl) (by conv => lhs; whnf)) (fun q => nomatch q) ?_) | (refine x0 rfl (o_pickF (by rfl) (by conv => lhs; whnf)) (fun q => nomatch q) ?_)
  refine x0 rfl (o_move (by conv => lhs; whnf)) (fun q => nomatch q) ?_
  first | (refine x0 rfl (o_loadS (by rfl) (by conv => lhs; whnf) rfl Ty.a22 (by conv => lhs; whnf)) (fun q => nomatch q) ?_) | (refine x0 rfl (o_loadRS (by rfl) Ty.a22 (by conv => lhs; whnf)) (fun q => nomatch q) ?_) | (refine x_skip rfl ?_)
  first | (refine x0 rfl (o_fieldAddrP (by rfl) Ty.f76_0 (by conv => lhs; whnf)) (fun q => nomatch q) ?_) | (refine x0 rfl (o_fieldAddrR (by rfl) Ty.f76_0 (by conv => lhs; whnf)) (fun q => nomatch q) ?_) | (refine x_skip rfl ?_)
  first | (refine x0 rfl (o_loadS (by rfl) (by conv => lhs; whnf) rfl Ty.a3 (by conv => lhs; whnf)) (fun q => nomatch q) ?_) | (refine x0 rfl (o_loadRS (by rfl) Ty.a3 (by conv => lhs; whnf)) (fun q => nomatch q) ?_) | (refine x_skip rfl ?_)
  refine x_skip rfl ?_
  first | (refine x0 rfl (o_pickT (by rfl) (by conv => lhs; whnf)) (fun q => nomatch q) ?_) | (refine x0 rfl (o_pickF (by rfl) (by conv => lhs; whnf)) (fun q => nomatch q) ?_)
  refine x0 rfl (o_assign (by conv => lhs; whnf)) (fun q => nomatch q) ?_
  refine x_nil ?_
  refine pw_ret ?_
  exact ⟨[_], ⟨rfl, trivial⟩, rfl, by (first | exact .inl rfl | exact .inr rfl)⟩

set_option maxRecDepth 100000 in
set_option maxHeartbeats 4000000 in
theorem c39_in (t : Bool) (HS : List PV) (a d : Int) (r : Bool) (ha : a ≠ 0) (h : PCalls Try.prog 40 [.lst t HS, .int .i64 a] (.bool r)) : PCalls Try.prog 39 [cell (a, true, d), .rptr [.lst t HS]] (.bool r) := by
  refine pc_intro (N := 17) Try.func39 rfl rfl (Nat.le_of_ble_eq_true rfl) fun w0 imm0 => ?_
  refine pw_seq ?_
  refine pw_reg (by kernel_rfl) ?_
  refine x1 rfl (o_box (z := 3) (by conv => lhs; whnf) rfl rfl rfl (by conv => lhs; whnf)) rfl (fun q => nomatch q) (fun q => nomatch q) ?_
  refine x0 rfl (o_assign (by conv => lhs; whnf)) (fun q => nomatch q) ?_
  refine x_nil ?_
  refine pw_seq ?_
  refine pw_reg (by kernel_rfl) ?_
  first | (refine x0 rfl (o_fieldAddrP (by rfl) Ty.f76_1 (by conv => lhs; whnf)) (fun q => nomatch q) ?_) | (refine x0 rfl (o_fieldAddrR (by rfl) Ty.f76_1 (by conv => lhs; whnf)) (fun q => nomatch q) ?_)
  first | (refine x0 rfl (o_loadS (by rfl) (by conv => lhs; whnf) rfl Ty.a4 (by conv => lhs; whnf)) (fun q => nomatch q) ?_) | (refine x0 rfl (o_loadRS (by rfl) Ty.a4 (by conv => lhs; whnf)) (fun q => nomatch q) ?_)
  refine x0 rfl (o_move (by conv => lhs; whnf)) (fun q => nomatch q) ?_
  first | (refine x0 rfl (o_fieldAddrP (by rfl) Ty.f76_0 (by conv => lhs; whnf)) (fun q => nomatch q) ?_) | (refine x0 rfl (o_fieldAddrR (by rfl) Ty.f76_0 (by conv => lhs; whnf)) (fun q => nomatch q) ?_) | (refine x_skip rfl ?_)
  first | (refine x0 rfl (o_loadS (by rfl) (by conv => lhs; whnf) rfl Ty.a3 (by conv => lhs; whnf)) (fun q => nomatch q) ?_) | (refine x0 rfl (o_loadRS (by rfl) Ty.a3 (by conv => lhs; whnf)) (fun q => nomatch q) ?_) | (refine x_skip rfl ?_)
  first | (refine x0 rfl (o_cmp (by rfl) (by rfl) (c_neT (by omega))) (fun q => nomatch q) ?_) | (refine x0 rfl (o_cmp (by rfl) (by rfl) (c_neF (by omega))) (fun q => nomatch q) ?_) | (refine x0 rfl (o_cmp (by rfl) (by rfl) (c_neT (by first | rfl | decide))) (fun q => nomatch q) ?_) | (refine x0 rfl (o_cmp (by rfl) (by rfl) (c_neF (by first | decide | (simp; done) | (simp; omega)))) (fun q => nomatch q) ?_) | (refine x_skip rfl ?_)
  first | (refine x0 rfl (o_pickT (by rfl) (by conv => lhs; whnf)) (fun q => nomatch q) ?_) | (refine x0 rfl (o_pickF (by rfl) (by conv => lhs; whnf)) (fun q => nomatch q) ?_)
  refine x0 rfl (o_move (by conv => lhs; whnf)) (fun q => nomatch q) ?_
  first | (refine x0 rfl (o_loadS (by rfl) (by conv => lhs; whnf) rfl Ty.a22 (by conv => lhs; whnf)) (fun q => nomatch q) ?_) | (refine x0 rfl (o_loadRS (by rfl) Ty.a22 (by conv => lhs; whnf)) (fun q => nomatch q) ?_) | (refine x_skip rfl ?_)
  first | (refine x0 rfl (o_fieldAddrP (by rfl) Ty.f76_0 (by conv => lhs; whnf)) (fun q => nomatch q) ?_) | (refine x0 rfl (o_fieldAddrR (by rfl) Ty.f76_0 (by conv => lhs; whnf)) (fun q => nomatch q) ?_) | (refine x_skip rfl ?_)
  first | (refine x0 rfl (o_loadS (by rfl) (by conv => lhs; whnf) rfl Ty.a3 (by conv => lhs; whnf)) (fun q => nomatch q) ?_) | (refine x0 rfl (o_loadRS (by rfl) Ty.a3 (by conv => lhs; whnf)) (fun q => nomatch q) ?_) | (refine x_skip rfl ?_)
  refine x0 rfl (o_call  rfl Try.func40 rfl (by decide) rfl rfl rfl (h) rfl) (fun q => nomatch q) ?_
  first | (refine x0 rfl (o_pickT (by rfl) (by conv => lhs; whnf)) (fun q => nomatch q) ?_) | (refine x0 rfl (o_pickF (by rfl) (by conv => lhs; whnf)) (fun q => nomatch q) ?_)
  refine x0 rfl (o_assign (by conv => lhs; whnf)) (fun q => nomatch q) ?_
  refine x_nil ?_
  refine pw_ret ?_
  exact ⟨[_], ⟨rfl, trivial⟩, rfl, by (first | exact .inl rfl | exact .inr rfl)⟩

set_option maxRecDepth 100000 in
set_option maxHeartbeats 4000000 in
theorem c42_zero (c : C) : PCalls Try.prog 42 [cell c, .rptr [.int .i64 0]] (.bool false) := by
  refine pc_intro (N := 16) Try.func42 rfl rfl (Nat.le_of_ble_eq_true rfl) fun w0 imm0 => ?_
  refine pw_seq ?_
  refine pw_reg (by kernel_rfl) ?_
  refine x1 rfl (o_box (z := 3) (by conv => lhs; whnf) rfl rfl rfl (by conv => lhs; whnf)) rfl (fun q => nomatch q) (fun q => nomatch q) ?_
  refine x0 rfl (o_assign (by conv => lhs; whnf)) (fun q => nomatch q) ?_
  refine x_nil ?_
  refine pw_seq ?_
  refine pw_reg (by kernel_rfl) ?_
  first | (refine x0 rfl (o_loadS (by rfl) (by conv => lhs; whnf) rfl Ty.a3 (by conv => lhs; whnf)) (fun q => nomatch q) ?_) | (refine x0 rfl (o_loadRS (by rfl) Ty.a3 (by conv => lhs; whnf)) (fun q => nomatch q) ?_)
  first | (refine x0 rfl (o_cmp (by rfl) (by rfl) (c_neT (by omega))) (fun q => nomatch q) ?_) | (refine x0 rfl (o_cmp (by rfl) (by rfl) (c_neF (by omega))) (fun q => nomatch q) ?_) | (refine x0 rfl (o_cmp (by rfl) (by rfl) (c_neT (by first | rfl | decide))) (fun q => nomatch q) ?_) | (refine x0 rfl (o_cmp (by rfl) (by rfl) (c_neF (by first | decide | (simp; done) | (simp; omega)))) (fun q => nomatch q) ?_)
  refine x0 rfl (o_move (by conv => lhs; whnf)) (fun q => nomatch q) ?_
  first | (refine x0 rfl (o_fieldAddrP (by rfl) Ty.f76_0 (by conv => lhs; whnf)) (fun q => nomatch q) ?_) | (refine x0 rfl (o_fieldAddrR (by rfl) Ty.f76_0 (by conv => lhs; whnf)) (fun q => nomatch q) ?_) | (refine x_skip rfl ?_)
  first | (refine x0 rfl (o_loadS (by rfl) (by conv => lhs; whnf) rfl Ty.a3 (by conv => lhs; whnf)) (fun q => nomatch q) ?_) | (refine x0 rfl (o_loadRS (by rfl) Ty.a3 (by conv => lhs; whnf)) (fun q => nomatch q) ?_) | (refine x_skip rfl ?_)
  first | (refine x0 rfl (o_loadS (by rfl) (by conv => lhs; whnf) rfl Ty.a3 (by conv => lhs; whnf)) (fun q => nomatch q) ?_) | (refine x0 rfl (o_loadRS (by rfl) Ty.a3 (by conv => lhs; whnf)) (fun q => nomatch q) ?_) | (refine x_skip rfl ?_)
  first | (refine x0 rfl (o_cmp (by rfl) (by rfl) (c_eqT (by omega))) (fun q => nomatch q) ?_) | (refine x0 rfl (o_cmp (by rfl) (by rfl) (c_eqF (by omega))) (fun q => nomatch q) ?_) | (refine x0 rfl (o_cmp (by rfl) (by rfl) (c_eqT (by first | rfl | decide))) (fun q => nomatch q) ?_) | (refine x0 rfl (o_cmp (by rfl) (by rfl) (c_eqF (by first | decide | (simp; done) | (simp; omega)))) (fun q => nomatch q) ?_) | (refine x_skip rfl ?_)
  first | (refine x0 rfl (o_pickT (by rfl) (by conv => lhs; whnf)) (fun q => nomatch q) ?_) | (refine x0 rfl (o_pickF (by rfl) (by conv => lhs; whnf)) (fun q => nomatch q) ?_)
  refine x0 rfl (o_move (by conv => lhs; whnf)) (fun q => nomatch q) ?_
  first | (refine x0 rfl (o_fieldAddrP (by rfl) Ty.f76_1 (by conv => lhs; whnf)) (fun q => nomatch q) ?_) | (refine x0 rfl (o_fieldAddrR (by rfl) Ty.f76_1 (by conv => lhs; whnf)) (fun q => nomatch q) ?_) | (refine x_skip rfl ?_)
  first | (refine x0 rfl (o_loadS (by rfl) (by conv => lhs; whnf) rfl Ty.a4 (by conv => lhs; whnf)) (fun q => nomatch q) ?_) | (refine x0 rfl (o_loadRS (by rfl) Ty.a4 (by conv => lhs; whnf)) (fun q => nomatch q) ?_) | (refine x_skip rfl ?_)
  first | (refine x0 rfl (o_pickT (by rfl) (by conv => lhs; whnf)) (fun q => nomatch q) ?_) | (refine x0 rfl (o_pickF (by rfl) (by conv => lhs; whnf)) (fun q => nomatch q) ?_)
  refine x0 rfl (o_assign (by conv => lhs; whnf)) (fun q => nomatch q) ?_
  refine x_nil ?_
  refine pw_ret ?_
  exact ⟨[_], ⟨rfl, trivial⟩, rfl, by (first | exact .inl rfl | exact .inr rfl)⟩

set_option maxRecDepth 100000 in
set_option maxHeartbeats 4000000 in
theorem c42_other (c : C) (h : Int) (hh : h ≠ 0) (hc : c.1 ≠ h) : PCalls Try.prog 42 [cell c, .rptr [.int .i64 h]] (.bool false) := by
  refine pc_intro (N := 16) Try.func42 rfl rfl (Nat.le_of_ble_eq_true rfl) fun w0 imm0 => ?_
  refine pw_seq ?_
  refine pw_reg (by kernel_rfl) ?_
  refine x1 rfl (o_box (z := 3) (by conv => lhs; whnf) rfl rfl rfl (by conv => lhs; whnf)) rfl (fun q => nomatch q) (fun q => nomatch q) ?_
  refine x0 rfl (o_assign (by conv => lhs; whnf)) (fun q => nomatch q) ?_
  refine x_nil ?_
  refine pw_seq ?_
  refine pw_reg (by kernel_rfl) ?_
  first | (refine x0 rfl (o_loadS (by rfl) (by conv => lhs; whnf) rfl Ty.a3 (by conv => lhs; whnf)) (fun q => nomatch q) ?_) | (refine x0 rfl (o_loadRS (by rfl) Ty.a3 (by conv => lhs; whnf)) (fun q => nomatch q) ?_)
  first | (refine x0 rfl (o_cmp (by rfl) (by rfl) (c_neT (by omega))) (fun q => nomatch q) ?_) | (refine x0 rfl (o_cmp (by rfl) (by rfl) (c_neF (by omega))) (fun q => nomatch q) ?_) | (refine x0 rfl (o_cmp (by rfl) (by rfl) (c_neT (by first | rfl | decide))) (fun q => nomatch q) ?_) | (refine x0 rfl (o_cmp (by rfl) (by rfl) (c_neF (by first | decide | (simp; done) | (simp; omega)))) (fun q => nomatch q) ?_)
  refine x0 rfl (o_move (by conv => lhs; whnf)) (fun q => nomatch q) ?_
  first | (refine x0 rfl (o_fieldAddrP (by rfl) Ty.f76_0 (by conv => lhs; whnf)) (fun q => nomatch q) ?_) | (refine x0 rfl (o_fieldAddrR (by rfl) Ty.f76_0 (by conv => lhs; whnf)) (fun q => nomatch q) ?_) | (refine x_skip rfl ?_)
  first | (refine x0 rfl (o_loadS (by rfl) (by conv => lhs; whnf) rfl Ty.a3 (by conv => lhs; whnf)) (fun q => nomatch q) ?_) | (refine x0 rfl (o_loadRS (by rfl) Ty.a3 (by conv => lhs; whnf)) (fun q => nomatch q) ?_) | (refine x_skip rfl ?_)
  first | (refine x0 rfl (o_loadS (by rfl) (by conv => lhs; whnf) rfl Ty.a3 (by conv => lhs; whnf)) (fun q => nomatch q) ?_) | (refine x0 rfl (o_loadRS (by rfl) Ty.a3 (by conv => lhs; whnf)) (fun q => nomatch q) ?_) | (refine x_skip rfl ?_)
  first | (refine x0 rfl (o_cmp (by rfl) (by rfl) (c_eqT (by omega))) (fun q => nomatch q) ?_) | (refine x0 rfl (o_cmp (by rfl) (by rfl) (c_eqF (by omega))) (fun q => nomatch q) ?_) | (refine x0 rfl (o_cmp (by rfl) (by rfl) (c_eqT (by first | rfl | decide))) (fun q => nomatch q) ?_) | (refine x0 rfl (o_cmp (by rfl) (by rfl) (c_eqF (by first | decide | (simp; done) | (simp; omega)))) (fun q => nomatch q) ?_) | (refine x_skip rfl ?_)
  first | (refine x0 rfl (o_pickT (by rfl) (by conv => lhs; whnf)) (fun q => nomatch q) ?_) | (refine x0 rfl (o_pickF (by rfl) (by conv => lhs; whnf)) (fun q => nomatch q) ?_)
  refine x0 rfl (o_move (by conv => lhs; whnf)) (fun q => nomatch q) ?_
  first | (refine x0 rfl (o_fieldAddrP (by rfl) Ty.f76_1 (by conv => lhs; whnf)) (fun q => nomatch q) ?_) | (refine x0 rfl (o_fieldAddrR (by rfl) Ty.f76_1 (by conv => lhs; whnf)) (fun q => nomatch q) ?_) | (refine x_skip rfl ?_)
  first | (refine x0 rfl (o_loadS (by rfl) (by conv => lhs; whnf) rfl Ty.a4 (by conv => lhs; whnf)) (fun q => nomatch q) ?_) | (refine x0 rfl (o_loadRS (by rfl) Ty.a4 (by conv => lhs; whnf)) (fun q => nomatch q) ?_) | (refine x_skip rfl ?_)
  first | (refine x0 rfl (o_pickT (by rfl) (by conv => lhs; whnf)) (fun q => nomatch q) ?_) | (refine x0 rfl (o_pickF (by rfl) (by conv => lhs; whnf)) (fun q => nomatch q) ?_)
  refine x0 rfl (o_assign (by conv => lhs; whnf)) (fun q => nomatch q) ?_
  refine x_nil ?_
  refine pw_ret ?_
  exact ⟨[_], ⟨rfl, trivial⟩, rfl, by (first | exact .inl rfl | exact .inr rfl)⟩

set_option maxRecDepth 100000 in
set_option maxHeartbeats 4000000 in
theorem c42_it (c : C) (hh : c.1 ≠ 0) : PCalls Try.prog 42 [cell c, .rptr [.int .i64 c.1]] (.bool c.2.1) := by
  refine pc_intro (N := 16) Try.func42 rfl rfl (Nat.le_of_ble_eq_true rfl) fun w0 imm0 => ?_
  refine pw_seq ?_
  refine pw_reg (by kernel_rfl) ?_
  refine x1 rfl (o_box (z := 3) (by conv => lhs; whnf) rfl rfl rfl (by conv => lhs; whnf)) rfl (fun q => nomatch q) (fun q => nomatch q) ?_
  refine x0 rfl (o_assign (by conv => lhs; whnf)) (fun q => nomatch q) ?_
  refine x_nil ?_
  refine pw_seq ?_
  refine pw_reg (by kernel_rfl) ?_
  first | (refine x0 rfl (o_loadS (by rfl) (by conv => lhs; whnf) rfl Ty.a3 (by conv => lhs; whnf)) (fun q => nomatch q) ?_) | (refine x0 rfl (o_loadRS (by rfl) Ty.a3 (by conv => lhs; whnf)) (fun q => nomatch q) ?_)
  refine x0 rfl (o_cmp (by rfl) (by rfl) (c_neT hh)) (fun q => nomatch q) ?_
  refine x0 rfl (o_move (by conv => lhs; whnf)) (fun q => nomatch q) ?_
  first | (refine x0 rfl (o_fieldAddrP (by rfl) Ty.f76_0 (by conv => lhs; whnf)) (fun q => nomatch q) ?_) | (refine x0 rfl (o_fieldAddrR (by rfl) Ty.f76_0 (by conv => lhs; whnf)) (fun q => nomatch q) ?_) | (refine x_skip rfl ?_)
  first | (refine x0 rfl (o_loadS (by rfl) (by conv => lhs; whnf) rfl Ty.a3 (by conv => lhs; whnf)) (fun q => nomatch q) ?_) | (refine x0 rfl (o_loadRS (by rfl) Ty.a3 (by conv => lhs; whnf)) (fun q => nomatch q) ?_) | (refine x_skip rfl ?_)
  first | (refine x0 rfl (o_loadS (by rfl) (by conv => lhs; whnf) rfl Ty.a3 (by conv => lhs; whnf)) (fun q => nomatch q) ?_) | (refine x0 rfl (o_loadRS (by rfl) Ty.a3 (by conv => lhs; whnf)) (fun q => nomatch q) ?_) | (refine x_skip rfl ?_)
  refine x0 rfl (o_cmp (by rfl) (by rfl) (c_eqT rfl)) (fun q => nomatch q) ?_
  first | (refine x0 rfl (o_pickT (by rfl) (by conv => lhs; whnf)) (fun q => nomatch q) ?_) | (refine x0 rfl (o_pickF (by rfl) (by conv => lhs; whnf)) (fun q => nomatch q) ?_)
  refine x0 rfl (o_move (by conv => lhs; whnf)) (fun q => nomatch q) ?_
  first | (refine x0 rfl (o_fieldAddrP (by rfl) Ty.f76_1 (by conv => lhs; whnf)) (fun q => nomatch q) ?_) | (refine x0 rfl (o_fieldAddrR (by rfl) Ty.f76_1 (by conv => lhs; whnf)) (fun q => nomatch q) ?_) | (refine x_skip rfl ?_)
  first | (refine x0 rfl (o_loadS (by rfl) (by conv => lhs; whnf) rfl Ty.a4 (by conv => lhs; whnf)) (fun q => nomatch q) ?_) | (refine x0 rfl (o_loadRS (by rfl) Ty.a4 (by conv => lhs; whnf)) (fun q => nomatch q) ?_) | (refine x_skip rfl ?_)
  first | (refine x0 rfl (o_pickT (by rfl) (by conv => lhs; whnf)) (fun q => nomatch q) ?_) | (refine x0 rfl (o_pickF (by rfl) (by conv => lhs; whnf)) (fun q => nomatch q) ?_)
  refine x0 rfl (o_assign (by conv => lhs; whnf)) (fun q => nomatch q) ?_
  refine x_nil ?_
  refine pw_ret ?_
  exact ⟨[_], ⟨rfl, trivial⟩, rfl, by (first | exact .inl rfl | exact .inr rfl)⟩

set_option maxRecDepth 100000 in
set_option maxHeartbeats 4000000 in
theorem c43_zero (c : C) : PCalls Try.prog 43 [cell c, .rptr [.int .i64 0]] (.bool false) := by
  refine pc_intro (N := 12) Try.func43 rfl rfl (Nat.le_of_ble_eq_true rfl) fun w0 imm0 => ?_
  refine pw_seq ?_
  refine pw_reg (by kernel_rfl) ?_
  refine x1 rfl (o_box (z := 3) (by conv => lhs; whnf) rfl rfl rfl (by conv => lhs; whnf)) rfl (fun q => nomatch q) (fun q => nomatch q) ?_
  refine x0 rfl (o_assign (by conv => lhs; whnf)) (fun q => nomatch q) ?_
  refine x_nil ?_
  refine pw_seq ?_
  refine pw_reg (by kernel_rfl) ?_
  first | (refine x0 rfl (o_loadS (by rfl) (by conv => lhs; whnf) rfl Ty.a3 (by conv => lhs; whnf)) (fun q => nomatch q) ?_) | (refine x0 rfl (o_loadRS (by rfl) Ty.a3 (by conv => lhs; whnf)) (fun q => nomatch q) ?_)
  first | (refine x0 rfl (o_cmp (by rfl) (by rfl) (c_neT (by omega))) (fun q => nomatch q) ?_) | (refine x0 rfl (o_cmp (by rfl) (by rfl) (c_neF (by omega))) (fun q => nomatch q) ?_) | (refine x0 rfl (o_cmp (by rfl) (by rfl) (c_neT (by first | rfl | decide))) (fun q => nomatch q) ?_) | (refine x0 rfl (o_cmp (by rfl) (by rfl) (c_neF (by first | decide | (simp; done) | (simp; omega)))) (fun q => nomatch q) ?_)
  refine x0 rfl (o_move (by conv => lhs; whnf)) (fun q => nomatch q) ?_
  first | (refine x0 rfl (o_fieldAddrP (by rfl) Ty.f76_0 (by conv => lhs; whnf)) (fun q => nomatch q) ?_) | (refine x0 rfl (o_fieldAddrR (by rfl) Ty.f76_0 (by conv => lhs; whnf)) (fun q => nomatch q) ?_) | (refine x_skip rfl ?_)
  first | (refine x0 rfl (o_loadS (by rfl) (by conv => lhs; whnf) rfl Ty.a3 (by conv => lhs; whnf)) (fun q => nomatch q) ?_) | (refine x0 rfl (o_loadRS (by rfl) Ty.a3 (by conv => lhs; whnf)) (fun q => nomatch q) ?_) | (refine x_skip rfl ?_)
  first | (refine x0 rfl (o_loadS (by rfl) (by conv => lhs; whnf) rfl Ty.a3 (by conv => lhs; whnf)) (fun q => nomatch q) ?_) | (refine x0 rfl (o_loadRS (by rfl) Ty.a3 (by conv => lhs; whnf)) (fun q => nomatch q) ?_) | (refine x_skip rfl ?_)
  first | (refine x0 rfl (o_cmp (by rfl) (by rfl) (c_eqT (by omega))) (fun q => nomatch q) ?_) | (refine x0 rfl (o_cmp (by rfl) (by rfl) (c_eqF (by omega))) (fun q => nomatch q) ?_) | (refine x0 rfl (o_cmp (by rfl) (by rfl) (c_eqT (by first | rfl | decide))) (fun q => nomatch q) ?_) | (refine x0 rfl (o_cmp (by rfl) (by rfl) (c_eqF (by first | decide | (simp; done) | (simp; omega)))) (fun q => nomatch q) ?_) | (refine x_skip rfl ?_)
  first | (refine x0 rfl (o_pickT (by rfl) (by conv => lhs; whnf)) (fun q => nomatch q) ?_) | (refine x0 rfl (o_pickF (by rfl) (by conv => lhs; whnf)) (fun q => nomatch q) ?_)
  refine x0 rfl (o_assign (by conv => lhs; whnf)) (fun q => nomatch q) ?_
  refine x_nil ?_
  refine pw_ret ?_
  exact ⟨[_], ⟨rfl, trivial⟩, rfl, by (first | exact .inl rfl | exact .inr rfl)⟩

set_option maxRecDepth 100000 in
set_option maxHeartbeats 4000000 in
theorem c43_other (c : C) (h : Int) (hh : h ≠ 0) (hc : c.1 ≠ h) : PCalls Try.prog 43 [cell c, .rptr [.int .i64 h]] (.bool false) := by
  refine pc_intro (N := 12) Try.func43 rfl rfl (Nat.le_of_ble_eq_true rfl) fun w0 imm0 => ?_
  refine pw_seq ?_
  refine pw_reg (by kernel_rfl) ?_
  refine x1 rfl (o_box (z := 3) (by conv => lhs; whnf) rfl rfl rfl (by conv => lhs; whnf)) rfl (fun q => nomatch q) (fun q => nomatch q) ?_
  refine x0 rfl (o_assign (by conv => lhs; whnf)) (fun q => nomatch q) ?_
  refine x_nil ?_
  refine pw_seq ?_
  refine pw_reg (by kernel_rfl) ?_
  first | (refine x0 rfl (o_loadS (by rfl) (by conv => lhs; whnf) rfl Ty.a3 (by conv => lhs; whnf)) (fun q => nomatch q) ?_) | (refine x0 rfl (o_loadRS (by rfl) Ty.a3 (by conv => lhs; whnf)) (fun q => nomatch q) ?_)
  first | (refine x0 rfl (o_cmp (by rfl) (by rfl) (c_neT (by omega))) (fun q => nomatch q) ?_) | (refine x0 rfl (o_cmp (by rfl) (by rfl) (c_neF (by omega))) (fun q => nomatch q) ?_) | (refine x0 rfl (o_cmp (by rfl) (by rfl) (c_neT (by first | rfl | decide))) (fun q => nomatch q) ?_) | (refine x0 rfl (o_cmp (by rfl) (by rfl) (c_neF (by first | decide | (simp; done) | (simp; omega)))) (fun q => nomatch q) ?_)
  refine x0 rfl (o_move (by conv => lhs; whnf)) (fun q => nomatch q) ?_
  first | (refine x0 rfl (o_fieldAddrP (by rfl) Ty.f76_0 (by conv => lhs; whnf)) (fun q => nomatch q) ?_) | (refine x0 rfl (o_fieldAddrR (by rfl) Ty.f76_0 (by conv => lhs; whnf)) (fun q => nomatch q) ?_) | (refine x_skip rfl ?_)
  first | (refine x0 rfl (o_loadS (by rfl) (by conv => lhs; whnf) rfl Ty.a3 (by conv => lhs; whnf)) (fun q => nomatch q) ?_) | (refine x0 rfl (o_loadRS (by rfl) Ty.a3 (by conv => lhs; whnf)) (fun q => nomatch q) ?_) | (refine x_skip rfl ?_)
  first | (refine x0 rfl (o_loadS (by rfl) (by conv => lhs; whnf) rfl Ty.a3 (by conv => lhs; whnf)) (fun q => nomatch q) ?_) | (refine x0 rfl (o_loadRS (by rfl) Ty.a3 (by conv => lhs; whnf)) (fun q => nomatch q) ?_) | (refine x_skip rfl ?_)
  first | (refine x0 rfl (o_cmp (by rfl) (by rfl) (c_eqT (by omega))) (fun q => nomatch q) ?_) | (refine x0 rfl (o_cmp (by rfl) (by rfl) (c_eqF (by omega))) (fun q => nomatch q) ?_) | (refine x0 rfl (o_cmp (by rfl) (by rfl) (c_eqT (by first | rfl | decide))) (fun q => nomatch q) ?_) | (refine x0 rfl (o_cmp (by rfl) (by rfl) (c_eqF (by first | decide | (simp; done) | (simp; omega)))) (fun q => nomatch q) ?_) | (refine x_skip rfl ?_)
  first | (refine x0 rfl (o_pickT (by rfl) (by conv => lhs; whnf)) (fun q => nomatch q) ?_) | (refine x0 rfl (o_pickF (by rfl) (by conv => lhs; whnf)) (fun q => nomatch q) ?_)
  refine x0 rfl (o_assign (by conv => lhs; whnf)) (fun q => nomatch q) ?_
  refine x_nil ?_
  refine pw_ret ?_
  exact ⟨[_], ⟨rfl, trivial⟩, rfl, by (first | exact .inl rfl | exact .inr rfl)⟩

set_option maxRecDepth 100000 in
set_option maxHeartbeats 4000000 in
theorem c43_it (c : C) (hh : c.1 ≠ 0) : PCalls Try.prog 43 [cell c, .rptr [.int .i64 c.1]] (.bool true) := by
  refine pc_intro (N := 12) Try.func43 rfl rfl (Nat.le_of_ble_eq_true rfl) fun w0 imm0 => ?_
  refine pw_seq ?_
  refine pw_reg (by kernel_rfl) ?_
  refine x1 rfl (o_box (z := 3) (by conv => lhs; whnf) rfl rfl rfl (by conv => lhs; whnf)) rfl (fun q => nomatch q) (fun q => nomatch q) ?_
  refine x0 rfl (o_assign (by conv => lhs; whnf)) (fun q => nomatch q) ?_
  refine x_nil ?_
  refine pw_seq ?_
  refine pw_reg (by kernel_rfl) ?_
  first | (refine x0 rfl (o_loadS (by rfl) (by conv => lhs; whnf) rfl Ty.a3 (by conv => lhs; whnf)) (fun q => nomatch q) ?_) | (refine x0 rfl (o_loadRS (by rfl) Ty.a3 (by conv => lhs; whnf)) (fun q => nomatch q) ?_)
  refine x0 rfl (o_cmp (by rfl) (by rfl) (c_neT hh)) (fun q => nomatch q) ?_
  refine x0 rfl (o_move (by conv => lhs; whnf)) (fun q => nomatch q) ?_
  first | (refine x0 rfl (o_fieldAddrP (by rfl) Ty.f76_0 (by conv => lhs; whnf)) (fun q => nomatch q) ?_) | (refine x0 rfl (o_fieldAddrR (by rfl) Ty.f76_0 (by conv => lhs; whnf)) (fun q => nomatch q) ?_) | (refine x_skip rfl ?_)
  first | (refine x0 rfl (o_loadS (by rfl) (by conv => lhs; whnf) rfl Ty.a3 (by conv => lhs; whnf)) (fun q => nomatch q) ?_) | (refine x0 rfl (o_loadRS (by rfl) Ty.a3 (by conv => lhs; whnf)) (fun q => nomatch q) ?_) | (refine x_skip rfl ?_)
  first | (refine x0 rfl (o_loadS (by rfl) (by conv => lhs; whnf) rfl Ty.a3 (by conv => lhs; whnf)) (fun q => nomatch q) ?_) | (refine x0 rfl (o_loadRS (by rfl) Ty.a3 (by conv => lhs; whnf)) (fun q => nomatch q) ?_) | (refine x_skip rfl ?_)
  refine x0 rfl (o_cmp (by rfl) (by rfl) (c_eqT rfl)) (fun q => nomatch q) ?_
  first | (refine x0 rfl (o_pickT (by rfl) (by conv => lhs; whnf)) (fun q => nomatch q) ?_) | (refine x0 rfl (o_pickF (by rfl) (by conv => lhs; whnf)) (fun q => nomatch q) ?_)
  refine x0 rfl (o_assign (by conv => lhs; whnf)) (fun q => nomatch q) ?_
  refine x_nil ?_
  refine pw_ret ?_
  exact ⟨[_], ⟨rfl, trivial⟩, rfl, by (first | exact .inl rfl | exact .inr rfl)⟩

def hit (H : List Int) (c : C) : Bool := c.2.1 && (decide (c.1 ≠ 0) && decide (c.1 ∈ H))
def intact (h : Int) (c : C) : Bool := decide (h ≠ 0) && (decide (c.1 = h) && c.2.1)
def naming (h : Int) (c : C) : Bool := decide (h ≠ 0) && decide (c.1 = h)
theorem c39_ok (t : Bool) (HS : List PV) (H : List Int) (hH : HS = H.map (PV.int .i64)) (hb : HS.length ≤ 1000000) (c : C) : PCalls Try.prog 39 [cell c, .rptr [.lst t HS]] (.bool (hit H c)) := by
  have hI : Ints HS := by subst hH; exact ints_map H
  obtain ⟨a, b, d⟩ := c
  cases b with
  | false => exact c39_dead t HS a d
  | true =>
    by_cases h : a = 0
    · subst h
      have : hit H (0, true, d) = false := by simp [hit]
      rw [this]
      exact c39_zero t HS d
    · have : hit H (a, true, d) = decide (a ∈ H) := by simp [hit, h]
      rw [this]
      exact c39_in t HS a d _ h (contains_ok t HS a hI hb H hH)
theorem c42_ok (h : Int) (c : C) : PCalls Try.prog 42 [cell c, .rptr [.int .i64 h]] (.bool (intact h c)) := by
  by_cases h0 : h = 0
  · subst h0
    have : intact 0 c = false := by simp [intact]
    rw [this]
    exact c42_zero c
  · by_cases h1 : c.1 = h
    · subst h1
      have : intact c.1 c = c.2.1 := by simp [intact, h0]
      rw [this]
      exact c42_it c h0
    · have : intact h c = false := by simp [intact, h1]
      rw [this]
      exact c42_other c h h0 h1
theorem c43_ok (h : Int) (c : C) : PCalls Try.prog 43 [cell c, .rptr [.int .i64 h]] (.bool (naming h c)) := by
  by_cases h0 : h = 0
  · subst h0
    have : naming 0 c = false := by simp [naming]
    rw [this]
    exact c43_zero c
  · by_cases h1 : c.1 = h
    · subst h1
      have : naming c.1 c = true := by simp [naming, h0]
      rw [this]
      exact c43_it c h0
    · have : naming h c = false := by simp [naming, h1]
      rw [this]
      exact c43_other c h h0 h1
def off (c : C) : C := (c.1, false, c.2.2)
def clm (l : List C) (S : List Nat) : List C := l.mapIdx fun i c => if i ∈ S then off c else c
def cld (l : List C) (S : List Nat) : List PV := (S.filter fun i => (l[i]?).any fun c => decide (0 ≤ c.2.2)).map fun i : Nat => PV.int .i64 (i : Int)
theorem clm_length (l : List C) (S : List Nat) : (clm l S).length = l.length := by simp [clm]
theorem clm_get {l : List C} {S : List Nat} {w : Nat} {c : C} (h : l[w]? = some c) : (clm l S)[w]? = some (if w ∈ S then off c else c) := by simp [clm, h]
theorem clm_old {l : List C} {S : List Nat} {w : Nat} {c : C} (h : l[w]? = some c) : ∃ b, ((clm l S).map cell)[w]? = some (cell (c.1, b, c.2.2)) := by
  rw [List.getElem?_map, clm_get h]
  by_cases q : w ∈ S
  · exact ⟨false, by simp [q, off]⟩
  · exact ⟨c.2.1, by simp [q]⟩
theorem clm_set {l : List C} {S : List Nat} {w : Nat} {c : C} (h : l[w]? = some c) : ((clm l S).map cell).set w (cell (off c)) = (clm l (S ++ [w])).map cell := by
  apply List.ext_getElem?
  intro i
  rw [List.getElem?_set]
  obtain ⟨hlt, he⟩ := List.getElem?_eq_some_iff.1 h
  by_cases q : w = i
  · subst q
    simp [clm, hlt, he]
  · rw [if_neg q]
    have : i ≠ w := fun e => q e.symm
    simp [clm, this]
theorem clm_new {l : List C} {S : List Nat} {w : Nat} {c : C} (h : l[w]? = some c) : ((clm l (S ++ [w])).map cell)[w]? = some (cell (off c)) := by
  rw [List.getElem?_map, clm_get h]
  simp
theorem cld_T {l : List C} {I : List Nat} {k w : Nat} {c : C} (hw : I[k]? = some w) (h : l[w]? = some c) (hc : 0 ≤ c.2.2) : cld l (I.take k) ++ [PV.int .i64 w] = cld l (I.take (k + 1)) := by
  simp [cld, List.take_add_one, hw, h, hc]
theorem cld_F {l : List C} {I : List Nat} {k w : Nat} {c : C} (hw : I[k]? = some w) (h : l[w]? = some c) (hc : ¬ 0 ≤ c.2.2) : cld l (I.take k) = cld l (I.take (k + 1)) := by
  simp [cld, List.take_add_one, hw, h, hc]
theorem cld_ints (l : List C) (S : List Nat) : Ints (cld l S) := fun e he => by
  obtain ⟨i, _, rfl⟩ := List.mem_map.1 he
  exact ⟨i, rfl⟩
theorem cld_len (l : List C) (S : List Nat) : (cld l S).length ≤ S.length := by
  unfold cld
  rw [List.length_map]
  exact List.length_filter_le ..
theorem take_snoc {I : List Nat} {k w : Nat} (hw : I[k]? = some w) : I.take k ++ [w] = I.take (k + 1) := by
  rw [List.take_add_one, hw]
  rfl
theorem cel_map (l : List C) : Cel (l.map cell) := fun e he => by
  obtain ⟨c, _, rfl⟩ := List.mem_map.1 he
  exact ⟨c, rfl⟩
def plc (p : C → Bool) (l : List C) (k : Nat) : List PV := ((List.range k).filter (fun i => (l[i]?).any p)).map (fun i : Nat => PV.int .i64 (i : Int))
theorem plc_succ (p : C → Bool) {l : List C} {k : Nat} {c : C} (h : l[k]? = some c) : plc p l (k + 1) = plc p l k ++ (if p c then [PV.int .i64 k] else []) := by
  unfold plc
  rw [List.range_succ, List.filter_append, List.map_append]
  congr 1
  simp only [List.filter_cons, List.filter_nil, h, Option.any_some]
  split <;> rfl
theorem plc_T (p : C → Bool) {l : List C} {k : Nat} {c : C} (h : l[k]? = some c) (hp : p c = true) : plc p l k ++ [PV.int .i64 k] = plc p l (k + 1) := by rw [plc_succ p h, hp]; rfl
theorem plc_F (p : C → Bool) {l : List C} {k : Nat} {c : C} (h : l[k]? = some c) (hp : p c = false) : plc p l k = plc p l (k + 1) := by rw [plc_succ p h, hp]; simp
theorem plc_ints (p : C → Bool) (l : List C) (k : Nat) : Ints (plc p l k) := fun e he => by
  obtain ⟨i, _, rfl⟩ := List.mem_map.1 he
  exact ⟨i, rfl⟩
theorem plc_len (p : C → Bool) (l : List C) (k : Nat) : (plc p l k).length ≤ k := by
  unfold plc
  rw [List.length_map]
  exact Nat.le_trans (List.length_filter_le ..) (by simp)

set_option maxRecDepth 100000 in
set_option maxHeartbeats 4000000 in
theorem picked_ok (t : Bool) (l : List C) (hl : l.length ≤ 1000) (hcs : (l.map cell).length = l.length) (f : FuncId) (x : PV) (hx : x.v2ok (fun _ => none) = true) (fn : Func) (c0 : Code) (hf : Try.prog.funcs[f]? = some fn) (hb : fn.body = some c0) (hn : fn.name ≠ "runtime.NumGoroutine") (p : C → Bool) (hp : ∀ c, PCalls Try.prog f [cell c, .rptr [x]] (.bool (p c))) : PCalls Try.prog 38 [.lst t (l.map cell), .fn (.func f) [.rptr [x]]] (.lst false (plc p l l.length)) := by
  refine pc_intro (N := 24) Try.func38 rfl rfl (Nat.le_of_ble_eq_true rfl) fun w0 imm0 => ?_
  refine pw_seq ?_
  refine pw_reg (by kernel_rfl) ?_
  refine x0 rfl (o_assign (by conv => lhs; whnf)) (fun q => nomatch q) ?_
  refine x_nil ?_
  refine pw_seq ?_
  refine pw_reg (by kernel_rfl) ?_
  refine x0 rfl (o_assign (by conv => lhs; whnf)) (fun q => nomatch q) ?_
  refine x_nil ?_
  refine pw_seq ?_
  refine pw_seq ?_
  refine pw_reg (by kernel_rfl) ?_
  refine x0 rfl (o_move (by conv => lhs; whnf)) (fun q => nomatch q) ?_
  first | (refine x0 rfl (o_lenL (by rfl) Ty.e59 rfl) (fun q => nomatch q) ?_) | (refine x0 rfl (o_lenR (by rfl) (by conv => lhs; whnf) Ty.e59 rfl) (fun q => nomatch q) ?_)
  refine x0 rfl (o_move (by conv => lhs; whnf)) (fun q => nomatch q) ?_
  refine x_nil ?_
  refine pw_block ?_
  refine pw_loopW (fun m s => ∃ k : Nat, ∃ lo : Nat, m = l.length - k ∧ (k ≤ l.length) ∧ s = St.of [(1, .fn (.func f) [.rptr [x]]), (5, .sl 105), (8, .lst t (l.map cell)), (9, .int .i64 (l.map cell).length), (10, .int .i64 k)] [(105, ⟨plc p l k, lo, true, 1, true⟩)]) (m := l.length - (0)) (Wk.trans (wk_nil (t := 5) (l := 105) (z := 1) rfl rfl) (wk_st [(1, .fn (.func f) [.rptr [x]]), (5, .sl 105), (8, .lst t (l.map cell)), (9, .int .i64 (l.map cell).length), (10, .int .i64 (0))] [(105, ⟨plc p l (0), (0), true, 1, true⟩)] ⟨rfl, rfl, rfl, rfl, rfl, rfl, rfl, rfl, rfl, rfl, rfl, rfl, rfl, rfl, rfl, trivial⟩ ⟨rowLe_same rfl rfl rfl (fun q => q) rfl rfl rfl, trivial⟩)) ⟨0, 0, rfl, (Nat.zero_le _), rfl⟩ ?_
  · rintro _ _ ⟨k, lo, rfl, hk, rfl⟩
    rcases Nat.lt_or_ge k l.length with hk2 | hk2
    · obtain ⟨c, hv⟩ : ∃ c, l[k]? = some c := ⟨_, List.getElem?_eq_getElem hk2⟩
      have hc := hp c; rcases Bool.eq_false_or_eq_true (p c) with hpc | hpc <;> rw [hpc] at hc
      · skip
        refine pw_seq ?_
        refine pw_reg (by kernel_rfl) ?_
        first | (refine x0 rfl (o_cmp (by rfl) (by rfl) (c_ltT (by omega))) (fun q => nomatch q) ?_) | (refine x0 rfl (o_cmp (by rfl) (by rfl) (c_ltF (by omega))) (fun q => nomatch q) ?_) | (refine x0 rfl (o_cmp (by rfl) (by rfl) (c_ltT (by first | rfl | decide))) (fun q => nomatch q) ?_) | (refine x0 rfl (o_cmp (by rfl) (by rfl) (c_ltF (by first | decide | (simp; done) | (simp; omega)))) (fun q => nomatch q) ?_)
        refine x_nil ?_
        refine pw_seq ?_
        refine pw_cond true (by rfl) (fun _ => ?_) (fun q => nomatch q)
        refine pw_skip ?_
        refine pw_seq ?_
        refine pw_block ?_
        refine pw_seq ?_
        refine pw_reg (by kernel_rfl) ?_
        refine x0 rfl (o_move (by conv => lhs; whnf)) (fun q => nomatch q) ?_
        refine x0 rfl (o_idxL (m := k) (by rfl) (by rfl) (by rfl) (show (l.map cell)[k]? = some (cell c) by rw [List.getElem?_map, hv]; rfl) Ty.e59 Ty.s76 (by rfl) (by conv => lhs; whnf)) (fun q => nomatch q) ?_
        first | (refine x0 rfl (o_loadA (by rfl) (by conv => lhs; whnf) rfl Ty.a76 Ty.s76 (Nat.le_of_ble_eq_true rfl) (by conv => lhs; whnf)) (fun q => nomatch q) ?_) | (refine x0 rfl (o_loadRA (by rfl) Ty.a76 Ty.s76 (Nat.le_of_ble_eq_true rfl) (by conv => lhs; whnf)) (fun q => nomatch q) ?_)
        refine x1 rfl (o_alloc (z := 3) rfl Ty.z76 (by conv => lhs; whnf) rfl rfl) rfl (fun q => nomatch q) (fun q => nomatch q) ?_
        refine x0 rfl (o_assign (by conv => lhs; whnf)) (fun q => nomatch q) ?_
        refine x_sto rfl (o_store (by conv => lhs; whnf) (by conv => lhs; whnf) (by conv => lhs; whnf) rfl Ty.s76 (Nat.le_of_ble_eq_true rfl) rfl) (by conv => lhs; whnf) rfl (Nat.zero_le _) (Nat.le_of_ble_eq_true rfl) rfl (by conv => lhs; whnf) (by conv => lhs; whnf) (by conv => lhs; whnf) (fun q => nomatch q) (fun q => nomatch q) ?_
        refine x_nil ?_
        refine pw_seq ?_
        refine pw_reg (by kernel_rfl) ?_
        refine x0 rfl (o_move (by conv => lhs; whnf)) (fun q => nomatch q) ?_
        first | (refine x0 rfl (o_loadA (by rfl) (by conv => lhs; whnf) rfl Ty.a76 Ty.s76 (Nat.le_of_ble_eq_true rfl) (by conv => lhs; whnf)) (fun q => nomatch q) ?_) | (refine x0 rfl (o_loadRA (by rfl) Ty.a76 Ty.s76 (Nat.le_of_ble_eq_true rfl) (by conv => lhs; whnf)) (fun q => nomatch q) ?_)
        refine x0 rfl (o_call  rfl hf hb hn rfl rfl rfl (hc) rfl) (fun q => nomatch q) ?_
        refine x_nil ?_
        refine pw_cond true (by rfl) (fun _ => ?_) (fun q => nomatch q)
        refine pw_reg (by kernel_rfl) ?_
        refine x0 rfl (o_move (by conv => lhs; whnf)) (fun q => nomatch q) ?_
        refine x0 rfl (o_move (by conv => lhs; whnf)) (fun q => nomatch q) ?_
        refine x1 rfl (o_bslice (els := [PV.int .i64 k]) (cl := true) rfl (by first | rfl | (conv => lhs; simp only [List.toList_toArray, List.map_cons, List.map_nil])) Ty.e22 Ty.s3 Ty.z3 rfl rfl (Nat.le_of_ble_eq_true rfl) rfl (fun _ => rfl)) rfl (fun q => nomatch q) (fun q => nomatch q) ?_
        refine x_app rfl (o_appR rfl (by conv => lhs; whnf) (by conv => lhs; whnf) (by first | exact .inl ⟨_, rfl, rfl⟩ | exact .inr ⟨_, _, rfl, rfl, rfl, rfl⟩) Ty.e22 Ty.s3 Ty.b3 Ty.z3 rfl (fun e he => (List.mem_append.1 he).elim ((plc_ints p l k).len e) (fun q => by cases List.mem_singleton.1 q; rfl)) rfl (by have := plc_len p l k; simp; omega) (by have := plc_len p l k; simp; omega) rfl rfl (by conv => lhs; whnf)) rfl (by conv => lhs; whnf) rfl (fun q => nomatch q) (fun q => nomatch q) ?_
        refine x0 rfl (o_assign (by conv => lhs; whnf)) (fun q => nomatch q) ?_
        refine x_nil ?_
        refine pw_reg (by kernel_rfl) ?_
        refine x0 rfl (o_ari (by rfl) (by rfl) (ari_add (by rfl) (by omega) (by omega))) (fun q => nomatch q) ?_
        refine x0 rfl (o_move (by conv => lhs; whnf)) (fun q => nomatch q) ?_
        refine x_nil ?_
        exact ⟨_, _, (by omega), wk_stP (fun l => if l = 105 then 21 else l) [(1, .fn (.func f) [.rptr [x]]), (5, .sl 105), (8, .lst t (l.map cell)), (9, .int .i64 (l.map cell).length), (10, .int .i64 (k + 1))] [(105, ⟨plc p l (k + 1), ((plc p l k).length), true, 1, true⟩)] ⟨rfl, rfl, rfl, rfl, rfl, rfl, rfl, rfl, rfl, rfl, rfl, rfl, rfl, rfl, rfl, trivial⟩ ⟨rowLe_ren rfl rfl rfl (fun q => q) rfl (plc_T p hv hpc) rfl, trivial⟩ rfl, k + 1, (plc p l k).length, rfl, (by omega), rfl⟩
      · skip
        refine pw_seq ?_
        refine pw_reg (by kernel_rfl) ?_
        first | (refine x0 rfl (o_cmp (by rfl) (by rfl) (c_ltT (by omega))) (fun q => nomatch q) ?_) | (refine x0 rfl (o_cmp (by rfl) (by rfl) (c_ltF (by omega))) (fun q => nomatch q) ?_) | (refine x0 rfl (o_cmp (by rfl) (by rfl) (c_ltT (by first | rfl | decide))) (fun q => nomatch q) ?_) | (refine x0 rfl (o_cmp (by rfl) (by rfl) (c_ltF (by first | decide | (simp; done) | (simp; omega)))) (fun q => nomatch q) ?_)
        refine x_nil ?_
        refine pw_seq ?_
        refine pw_cond true (by rfl) (fun _ => ?_) (fun q => nomatch q)
        refine pw_skip ?_
        refine pw_seq ?_
        refine pw_block ?_
        refine pw_seq ?_
        refine pw_reg (by kernel_rfl) ?_
        refine x0 rfl (o_move (by conv => lhs; whnf)) (fun q => nomatch q) ?_
        refine x0 rfl (o_idxL (m := k) (by rfl) (by rfl) (by rfl) (show (l.map cell)[k]? = some (cell c) by rw [List.getElem?_map, hv]; rfl) Ty.e59 Ty.s76 (by rfl) (by conv => lhs; whnf)) (fun q => nomatch q) ?_
        first | (refine x0 rfl (o_loadA (by rfl) (by conv => lhs; whnf) rfl Ty.a76 Ty.s76 (Nat.le_of_ble_eq_true rfl) (by conv => lhs; whnf)) (fun q => nomatch q) ?_) | (refine x0 rfl (o_loadRA (by rfl) Ty.a76 Ty.s76 (Nat.le_of_ble_eq_true rfl) (by conv => lhs; whnf)) (fun q => nomatch q) ?_)
        refine x1 rfl (o_alloc (z := 3) rfl Ty.z76 (by conv => lhs; whnf) rfl rfl) rfl (fun q => nomatch q) (fun q => nomatch q) ?_
        refine x0 rfl (o_assign (by conv => lhs; whnf)) (fun q => nomatch q) ?_
        refine x_sto rfl (o_store (by conv => lhs; whnf) (by conv => lhs; whnf) (by conv => lhs; whnf) rfl Ty.s76 (Nat.le_of_ble_eq_true rfl) rfl) (by conv => lhs; whnf) rfl (Nat.zero_le _) (Nat.le_of_ble_eq_true rfl) rfl (by conv => lhs; whnf) (by conv => lhs; whnf) (by conv => lhs; whnf) (fun q => nomatch q) (fun q => nomatch q) ?_
        refine x_nil ?_
        refine pw_seq ?_
        refine pw_reg (by kernel_rfl) ?_
        refine x0 rfl (o_move (by conv => lhs; whnf)) (fun q => nomatch q) ?_
        first | (refine x0 rfl (o_loadA (by rfl) (by conv => lhs; whnf) rfl Ty.a76 Ty.s76 (Nat.le_of_ble_eq_true rfl) (by conv => lhs; whnf)) (fun q => nomatch q) ?_) | (refine x0 rfl (o_loadRA (by rfl) Ty.a76 Ty.s76 (Nat.le_of_ble_eq_true rfl) (by conv => lhs; whnf)) (fun q => nomatch q) ?_)
        refine x0 rfl (o_call  rfl hf hb hn rfl rfl rfl (hc) rfl) (fun q => nomatch q) ?_
        refine x_nil ?_
        refine pw_cond false (by rfl) (fun q => nomatch q) (fun _ => ?_)
        refine pw_skip ?_
        refine pw_reg (by kernel_rfl) ?_
        refine x0 rfl (o_ari (by rfl) (by rfl) (ari_add (by rfl) (by omega) (by omega))) (fun q => nomatch q) ?_
        refine x0 rfl (o_move (by conv => lhs; whnf)) (fun q => nomatch q) ?_
        refine x_nil ?_
        exact ⟨_, _, (by omega), wk_st [(1, .fn (.func f) [.rptr [x]]), (5, .sl 105), (8, .lst t (l.map cell)), (9, .int .i64 (l.map cell).length), (10, .int .i64 (k + 1))] [(105, ⟨plc p l (k + 1), (lo), true, 1, true⟩)] ⟨rfl, rfl, rfl, rfl, rfl, rfl, rfl, rfl, rfl, rfl, rfl, rfl, rfl, rfl, rfl, trivial⟩ ⟨rowLe_same rfl rfl rfl (fun q => q) rfl (plc_F p hv hpc) rfl, trivial⟩, k + 1, lo, rfl, (by omega), rfl⟩
    · obtain rfl : k = l.length := by omega
      refine pw_seq ?_
      refine pw_reg (by kernel_rfl) ?_
      first | (refine x0 rfl (o_cmp (by rfl) (by rfl) (c_ltT (by omega))) (fun q => nomatch q) ?_) | (refine x0 rfl (o_cmp (by rfl) (by rfl) (c_ltF (by omega))) (fun q => nomatch q) ?_) | (refine x0 rfl (o_cmp (by rfl) (by rfl) (c_ltT (by first | rfl | decide))) (fun q => nomatch q) ?_) | (refine x0 rfl (o_cmp (by rfl) (by rfl) (c_ltF (by first | decide | (simp; done) | (simp; omega)))) (fun q => nomatch q) ?_)
      refine x_nil ?_
      refine pw_seq ?_
      refine pw_cond false (by rfl) (fun q => nomatch q) (fun _ => ?_)
      refine pw_exit ?_
      refine thenQ_exit ?_
      refine thenQ_exit ?_
      refine blockQ_exit ?_
      refine pw_seq ?_
      refine pw_reg (by kernel_rfl) ?_
      refine x0 rfl (o_move (by conv => lhs; whnf)) (fun q => nomatch q) ?_
      refine x0 rfl (o_assign (by conv => lhs; whnf)) (fun q => nomatch q) ?_
      refine x_nil ?_
      refine pw_ret ?_
      exact ⟨[_], ⟨rfl, trivial⟩, rfl, by (first | exact .inl rfl | exact .inr rfl)⟩

theorem clm_nil (l : List C) : clm l [] = l := by
  apply List.ext_getElem?
  intro i
  simp [clm]

set_option maxRecDepth 100000 in
set_option maxHeartbeats 4000000 in
theorem clear_ok (t t2 : Bool) (l : List C) (HS : List PV) (hl : l.length ≤ 1000) (I : List Nat) (hI : ∀ w ∈ I, ∃ c, l[w]? = some c) (hIl : I.length ≤ 1000) (h38 : PCalls Try.prog 38 [.lst t (l.map cell), .fn (.func 39) [.rptr [.lst t2 HS]]] (.lst false (I.map fun i : Nat => PV.int .i64 (i : Int)))) : PCalls Try.prog 29 [.lst t (l.map cell), .lst t2 HS] (.tup [.lst false ((clm l I).map cell), .lst false (cld l I)]) := by
  refine pc_intro (N := 39) Try.func29 rfl rfl (Nat.le_of_ble_eq_true rfl) fun w0 imm0 => ?_
  refine pw_seq ?_
  refine pw_reg (by kernel_rfl) ?_
  refine x1 rfl (o_box (z := 1) (by conv => lhs; whnf) rfl rfl rfl (by conv => lhs; whnf)) rfl (fun q => nomatch q) (fun q => nomatch q) ?_
  refine x0 rfl (o_assign (by conv => lhs; whnf)) (fun q => nomatch q) ?_
  refine x0 rfl (o_assign (by conv => lhs; whnf)) (fun q => nomatch q) ?_
  refine x_nil ?_
  refine pw_seq ?_
  refine pw_reg (by kernel_rfl) ?_
  refine x0 rfl (o_move (by conv => lhs; whnf)) (fun q => nomatch q) ?_
  refine x0 rfl (o_mkFunc (by first | rfl | (conv => lhs; simp only [List.toList_toArray, List.map_cons, List.map_nil]))) (fun q => nomatch q) ?_
  refine x_cal1 rfl (o_callF (ls := [3])  rfl Try.func38 rfl (by decide) rfl rfl rfl (h38) rfl) (by conv => lhs; whnf) (fun q => nomatch q) ?_
  refine x0 rfl (o_assign (by conv => lhs; whnf)) (fun q => nomatch q) ?_
  refine x_nil ?_
  refine pw_seq ?_
  refine pw_reg (by kernel_rfl) ?_
  refine x0 rfl (o_move (by conv => lhs; whnf)) (fun q => nomatch q) ?_
  refine x_calN rfl (o_callN (ls := [])  rfl rfl Try.func41 rfl (by decide) rfl rfl rfl ((copied_ok t (l.map cell) (cel_map l) (by simpa using hl))) rfl rfl) rfl (fun q => nomatch q) (fun q => nomatch q) ?_
  refine x0 rfl (o_assign (by conv => lhs; whnf)) (fun q => nomatch q) ?_
  refine x_nil ?_
  refine pw_seq ?_
  refine pw_reg (by kernel_rfl) ?_
  refine x0 rfl (o_assign (by conv => lhs; whnf)) (fun q => nomatch q) ?_
  refine x_nil ?_
  refine pw_seq ?_
  refine pw_seq ?_
  refine pw_reg (by kernel_rfl) ?_
  refine x0 rfl (o_move (by conv => lhs; whnf)) (fun q => nomatch q) ?_
  first | (refine x0 rfl (o_lenL (by rfl) Ty.e22 rfl) (fun q => nomatch q) ?_) | (refine x0 rfl (o_lenR (by rfl) (by conv => lhs; whnf) Ty.e22 rfl) (fun q => nomatch q) ?_)
  refine x0 rfl (o_move (by conv => lhs; whnf)) (fun q => nomatch q) ?_
  refine x_nil ?_
  refine pw_block ?_
  refine pw_loopW (fun m s => ∃ k : Nat, ∃ lo : Nat, m = I.length - k ∧ (k ≤ I.length) ∧ s = St.of [(7, .sl 15), (8, .sl 108), (16, .lst false (I.map fun i : Nat => PV.int .i64 (i : Int))), (17, .int .i64 (I.map fun i : Nat => PV.int .i64 (i : Int)).length), (18, .int .i64 k)] [(15, ⟨(clm l (I.take k)).map cell, 0, true, 3, true⟩), (108, ⟨cld l (I.take k), lo, true, 1, true⟩)]) (m := I.length - (0)) (Wk.trans (wk_nil (t := 8) (l := 108) (z := 1) rfl rfl) (wk_st [(7, .sl 15), (8, .sl 108), (16, .lst false (I.map fun i : Nat => PV.int .i64 (i : Int))), (17, .int .i64 (I.map fun i : Nat => PV.int .i64 (i : Int)).length), (18, .int .i64 (0))] [(15, ⟨(clm l (I.take (0))).map cell, 0, true, 3, true⟩), (108, ⟨cld l (I.take (0)), (0), true, 1, true⟩)] ⟨rfl, rfl, rfl, rfl, rfl, rfl, rfl, rfl, rfl, rfl, rfl, rfl, rfl, rfl, rfl, trivial⟩ ⟨rowLe_same rfl rfl rfl (fun q => q) rfl (by simp [clm_nil]) rfl, rowLe_same rfl rfl rfl (fun q => q) rfl rfl rfl, trivial⟩)) ⟨0, 0, rfl, (Nat.zero_le _), rfl⟩ ?_
  · rintro _ _ ⟨k, lo, rfl, hk, rfl⟩
    rcases Nat.lt_or_ge k I.length with hk2 | hk2
    · obtain ⟨w, hw⟩ : ∃ w, I[k]? = some w := ⟨_, List.getElem?_eq_getElem hk2⟩; obtain ⟨c, hc⟩ := hI w (List.mem_of_getElem? hw); have hlt : w < l.length := (List.getElem?_eq_some_iff.1 hc).1; obtain ⟨b, ho⟩ := clm_old (S := I.take k) hc
      by_cases hq : 0 ≤ c.2.2
      · skip
        refine pw_seq ?_
        refine pw_reg (by kernel_rfl) ?_
        refine x0 rfl (o_cmp (by rfl) (by rfl) (c_ltT (by simp; omega))) (fun q => nomatch q) ?_
        refine x_nil ?_
        refine pw_seq ?_
        refine pw_cond true (by rfl) (fun _ => ?_) (fun q => nomatch q)
        refine pw_skip ?_
        refine pw_seq ?_
        refine pw_block ?_
        refine pw_seq ?_
        refine pw_reg (by kernel_rfl) ?_
        refine x0 rfl (o_idxL (m := k) (by rfl) (by rfl) (by rfl) (show (I.map fun i : Nat => PV.int .i64 (i : Int))[k]? = some (PV.int .i64 w) by rw [List.getElem?_map, hw]; rfl) Ty.e22 Ty.s3 (by rfl) (by conv => lhs; whnf)) (fun q => nomatch q) ?_
        first | (refine x0 rfl (o_loadS (by rfl) (by conv => lhs; whnf) rfl Ty.a3 (by conv => lhs; whnf)) (fun q => nomatch q) ?_) | (refine x0 rfl (o_loadRS (by rfl) Ty.a3 (by conv => lhs; whnf)) (fun q => nomatch q) ?_)
        refine x0 rfl (o_assign (by conv => lhs; whnf)) (fun q => nomatch q) ?_
        refine x_nil ?_
        refine pw_seq ?_
        refine pw_reg (by kernel_rfl) ?_
        refine x0 rfl (o_move (by conv => lhs; whnf)) (fun q => nomatch q) ?_
        refine x0 rfl (o_move (by conv => lhs; whnf)) (fun q => nomatch q) ?_
        refine x0 rfl (o_idxR (m := w) (by rfl) (by conv => lhs; whnf) (by rfl) (by rfl) (by simp [clm_length]; exact hlt) Ty.e59 Ty.s76 rfl) (fun q => nomatch q) ?_
        first | (refine x0 rfl (o_fieldAddrP (by rfl) Ty.f76_1 (by conv => lhs; whnf)) (fun q => nomatch q) ?_) | (refine x0 rfl (o_fieldAddrR (by rfl) Ty.f76_1 (by conv => lhs; whnf)) (fun q => nomatch q) ?_)
        refine x_sto rfl (o_store (by conv => lhs; whnf) (by conv => lhs; whnf) (by conv => lhs; whnf) rfl Ty.s4 (Nat.le_of_ble_eq_true rfl) rfl) (by conv => lhs; whnf) ho (Nat.zero_le _) (Nat.le_of_ble_eq_true rfl) rfl (by conv => lhs; whnf) (by rfl) (clm_set hc) (fun q => nomatch q) (fun q => nomatch q) ?_
        refine x_nil ?_
        refine pw_seq ?_
        refine pw_reg (by kernel_rfl) ?_
        refine x0 rfl (o_move (by conv => lhs; whnf)) (fun q => nomatch q) ?_
        refine x0 rfl (o_move (by conv => lhs; whnf)) (fun q => nomatch q) ?_
        refine x0 rfl (o_idxR (m := w) (by rfl) (by conv => lhs; whnf) (by rfl) (by rfl) (by simp [clm_length]; exact hlt) Ty.e59 Ty.s76 rfl) (fun q => nomatch q) ?_
        first | (refine x0 rfl (o_fieldAddrP (by rfl) Ty.f76_2 (by conv => lhs; whnf)) (fun q => nomatch q) ?_) | (refine x0 rfl (o_fieldAddrR (by rfl) Ty.f76_2 (by conv => lhs; whnf)) (fun q => nomatch q) ?_)
        refine x0 rfl (o_loadS (by rfl) (by conv => lhs; whnf) (clm_new hc) Ty.a3 (by conv => lhs; whnf)) (fun q => nomatch q) ?_
        refine x0 rfl (o_cmp (by rfl) (by rfl) (c_geT hq)) (fun q => nomatch q) ?_
        refine x_nil ?_
        refine pw_cond true (by rfl) (fun _ => ?_) (fun q => nomatch q)
        refine pw_reg (by kernel_rfl) ?_
        refine x0 rfl (o_move (by conv => lhs; whnf)) (fun q => nomatch q) ?_
        refine x0 rfl (o_move (by conv => lhs; whnf)) (fun q => nomatch q) ?_
        refine x1 rfl (o_bslice (els := [PV.int .i64 w]) (cl := true) rfl (by first | rfl | (conv => lhs; simp only [List.toList_toArray, List.map_cons, List.map_nil])) Ty.e22 Ty.s3 Ty.z3 rfl rfl (Nat.le_of_ble_eq_true rfl) rfl (fun _ => rfl)) rfl (fun q => nomatch q) (fun q => nomatch q) ?_
        refine x_app rfl (o_appR rfl (by conv => lhs; whnf) (by conv => lhs; whnf) (by first | exact .inl ⟨_, rfl, rfl⟩ | exact .inr ⟨_, _, rfl, rfl, rfl, rfl⟩) Ty.e22 Ty.s3 Ty.b3 Ty.z3 rfl (fun e he => (List.mem_append.1 he).elim ((cld_ints l (I.take k)).len e) (fun q => by cases List.mem_singleton.1 q; rfl)) rfl (by have := cld_len l (I.take k); simp at this ⊢; omega) (by have := cld_len l (I.take k); simp at this ⊢; omega) rfl rfl (by conv => lhs; whnf)) rfl (by conv => lhs; whnf) rfl (fun q => nomatch q) (fun q => nomatch q) ?_
        refine x0 rfl (o_assign (by conv => lhs; whnf)) (fun q => nomatch q) ?_
        refine x_nil ?_
        refine pw_reg (by kernel_rfl) ?_
        refine x0 rfl (o_ari (by rfl) (by rfl) (ari_add (by rfl) (by omega) (by omega))) (fun q => nomatch q) ?_
        refine x0 rfl (o_move (by conv => lhs; whnf)) (fun q => nomatch q) ?_
        refine x_nil ?_
        exact ⟨_, _, (by omega), wk_stP (fun l => if l = 108 then 35 else l) [(7, .sl 15), (8, .sl 108), (16, .lst false (I.map fun i : Nat => PV.int .i64 (i : Int))), (17, .int .i64 (I.map fun i : Nat => PV.int .i64 (i : Int)).length), (18, .int .i64 (k + 1))] [(15, ⟨(clm l (I.take (k + 1))).map cell, 0, true, 3, true⟩), (108, ⟨cld l (I.take (k + 1)), ((cld l (I.take k)).length), true, 1, true⟩)] ⟨rfl, rfl, rfl, rfl, rfl, rfl, rfl, rfl, rfl, rfl, rfl, rfl, rfl, rfl, rfl, trivial⟩ ⟨rowLe_ren rfl rfl rfl (fun q => q) rfl (by rw [← take_snoc hw]) rfl, rowLe_ren rfl rfl rfl (fun q => q) rfl (cld_T hw hc hq) rfl, trivial⟩ rfl, k + 1, (cld l (I.take k)).length, rfl, (by omega), rfl⟩
      · skip
        refine pw_seq ?_
        refine pw_reg (by kernel_rfl) ?_
        refine x0 rfl (o_cmp (by rfl) (by rfl) (c_ltT (by simp; omega))) (fun q => nomatch q) ?_
        refine x_nil ?_
        refine pw_seq ?_
        refine pw_cond true (by rfl) (fun _ => ?_) (fun q => nomatch q)
        refine pw_skip ?_
        refine pw_seq ?_
        refine pw_block ?_
        refine pw_seq ?_
        refine pw_reg (by kernel_rfl) ?_
        refine x0 rfl (o_idxL (m := k) (by rfl) (by rfl) (by rfl) (show (I.map fun i : Nat => PV.int .i64 (i : Int))[k]? = some (PV.int .i64 w) by rw [List.getElem?_map, hw]; rfl) Ty.e22 Ty.s3 (by rfl) (by conv => lhs; whnf)) (fun q => nomatch q) ?_
        first | (refine x0 rfl (o_loadS (by rfl) (by conv => lhs; whnf) rfl Ty.a3 (by conv => lhs; whnf)) (fun q => nomatch q) ?_) | (refine x0 rfl (o_loadRS (by rfl) Ty.a3 (by conv => lhs; whnf)) (fun q => nomatch q) ?_)
        refine x0 rfl (o_assign (by conv => lhs; whnf)) (fun q => nomatch q) ?_
        refine x_nil ?_
        refine pw_seq ?_
        refine pw_reg (by kernel_rfl) ?_
        refine x0 rfl (o_move (by conv => lhs; whnf)) (fun q => nomatch q) ?_
        refine x0 rfl (o_move (by conv => lhs; whnf)) (fun q => nomatch q) ?_
        refine x0 rfl (o_idxR (m := w) (by rfl) (by conv => lhs; whnf) (by rfl) (by rfl) (by simp [clm_length]; exact hlt) Ty.e59 Ty.s76 rfl) (fun q => nomatch q) ?_
        first | (refine x0 rfl (o_fieldAddrP (by rfl) Ty.f76_1 (by conv => lhs; whnf)) (fun q => nomatch q) ?_) | (refine x0 rfl (o_fieldAddrR (by rfl) Ty.f76_1 (by conv => lhs; whnf)) (fun q => nomatch q) ?_)
        refine x_sto rfl (o_store (by conv => lhs; whnf) (by conv => lhs; whnf) (by conv => lhs; whnf) rfl Ty.s4 (Nat.le_of_ble_eq_true rfl) rfl) (by conv => lhs; whnf) ho (Nat.zero_le _) (Nat.le_of_ble_eq_true rfl) rfl (by conv => lhs; whnf) (by rfl) (clm_set hc) (fun q => nomatch q) (fun q => nomatch q) ?_
        refine x_nil ?_
        refine pw_seq ?_
        refine pw_reg (by kernel_rfl) ?_
        refine x0 rfl (o_move (by conv => lhs; whnf)) (fun q => nomatch q) ?_
        refine x0 rfl (o_move (by conv => lhs; whnf)) (fun q => nomatch q) ?_
        refine x0 rfl (o_idxR (m := w) (by rfl) (by conv => lhs; whnf) (by rfl) (by rfl) (by simp [clm_length]; exact hlt) Ty.e59 Ty.s76 rfl) (fun q => nomatch q) ?_
        first | (refine x0 rfl (o_fieldAddrP (by rfl) Ty.f76_2 (by conv => lhs; whnf)) (fun q => nomatch q) ?_) | (refine x0 rfl (o_fieldAddrR (by rfl) Ty.f76_2 (by conv => lhs; whnf)) (fun q => nomatch q) ?_)
        refine x0 rfl (o_loadS (by rfl) (by conv => lhs; whnf) (clm_new hc) Ty.a3 (by conv => lhs; whnf)) (fun q => nomatch q) ?_
        refine x0 rfl (o_cmp (by rfl) (by rfl) (c_geF (Int.not_le.1 hq))) (fun q => nomatch q) ?_
        refine x_nil ?_
        refine pw_cond false (by rfl) (fun q => nomatch q) (fun _ => ?_)
        refine pw_skip ?_
        refine pw_reg (by kernel_rfl) ?_
        refine x0 rfl (o_ari (by rfl) (by rfl) (ari_add (by rfl) (by omega) (by omega))) (fun q => nomatch q) ?_
        refine x0 rfl (o_move (by conv => lhs; whnf)) (fun q => nomatch q) ?_
        refine x_nil ?_
        exact ⟨_, _, (by omega), wk_st [(7, .sl 15), (8, .sl 108), (16, .lst false (I.map fun i : Nat => PV.int .i64 (i : Int))), (17, .int .i64 (I.map fun i : Nat => PV.int .i64 (i : Int)).length), (18, .int .i64 (k + 1))] [(15, ⟨(clm l (I.take (k + 1))).map cell, 0, true, 3, true⟩), (108, ⟨cld l (I.take (k + 1)), (lo), true, 1, true⟩)] ⟨rfl, rfl, rfl, rfl, rfl, rfl, rfl, rfl, rfl, rfl, rfl, rfl, rfl, rfl, rfl, trivial⟩ ⟨rowLe_same rfl rfl rfl (fun q => q) rfl (by rw [← take_snoc hw]) rfl, rowLe_same rfl rfl rfl (fun q => q) rfl (cld_F hw hc hq) rfl, trivial⟩, k + 1, lo, rfl, (by omega), rfl⟩
    · have hk3 : I.take k = I := List.take_of_length_le hk2; rw [hk3]
      refine pw_seq ?_
      refine pw_reg (by kernel_rfl) ?_
      refine x0 rfl (o_cmp (by rfl) (by rfl) (c_ltF (by simp; omega))) (fun q => nomatch q) ?_
      refine x_nil ?_
      refine pw_seq ?_
      refine pw_cond false (by rfl) (fun q => nomatch q) (fun _ => ?_)
      refine pw_exit ?_
      refine thenQ_exit ?_
      refine thenQ_exit ?_
      refine blockQ_exit ?_
      refine pw_seq ?_
      refine pw_reg (by kernel_rfl) ?_
      refine x0 rfl (o_move (by conv => lhs; whnf)) (fun q => nomatch q) ?_
      refine x0 rfl (o_move (by conv => lhs; whnf)) (fun q => nomatch q) ?_
      refine x0 rfl (o_assign (by conv => lhs; whnf)) (fun q => nomatch q) ?_
      refine x0 rfl (o_assign (by conv => lhs; whnf)) (fun q => nomatch q) ?_
      refine x_nil ?_
      refine pw_ret ?_
      exact ⟨[_, _], ⟨rfl, ⟨rfl, trivial⟩⟩, rfl, by (first | exact .inl rfl | exact .inr rfl)⟩

set_option maxRecDepth 100000 in
set_option maxHeartbeats 4000000 in
theorem intact_ok (t : Bool) (l : List C) (hl : l.length ≤ 1000) (h : Int) : PCalls Try.prog 30 [.lst t (l.map cell), .int .i64 h] (.int .i64 (plc (intact h) l l.length).length) := by
  refine pc_intro (N := 9) Try.func30 rfl rfl (Nat.le_of_ble_eq_true rfl) fun w0 imm0 => ?_
  refine pw_seq ?_
  refine pw_reg (by kernel_rfl) ?_
  refine x1 rfl (o_box (z := 1) (by conv => lhs; whnf) rfl rfl rfl (by conv => lhs; whnf)) rfl (fun q => nomatch q) (fun q => nomatch q) ?_
  refine x0 rfl (o_assign (by conv => lhs; whnf)) (fun q => nomatch q) ?_
  refine x_nil ?_
  refine pw_seq ?_
  refine pw_reg (by kernel_rfl) ?_
  refine x0 rfl (o_move (by conv => lhs; whnf)) (fun q => nomatch q) ?_
  refine x0 rfl (o_mkFunc (by first | rfl | (conv => lhs; simp only [List.toList_toArray, List.map_cons, List.map_nil]))) (fun q => nomatch q) ?_
  refine x_cal1 rfl (o_callF (ls := [3])  rfl Try.func38 rfl (by decide) rfl rfl rfl (picked_ok t l hl (by simp) 42 (.int .i64 h) rfl _ _ Try.func42 rfl (by decide) (intact h) (c42_ok h)) rfl) (by conv => lhs; whnf) (fun q => nomatch q) ?_
  first | (refine x0 rfl (o_lenL (by rfl) Ty.e22 rfl) (fun q => nomatch q) ?_) | (refine x0 rfl (o_lenR (by rfl) (by conv => lhs; whnf) Ty.e22 rfl) (fun q => nomatch q) ?_)
  refine x0 rfl (o_assign (by conv => lhs; whnf)) (fun q => nomatch q) ?_
  refine x_nil ?_
  refine pw_ret ?_
  exact ⟨[_], ⟨rfl, trivial⟩, rfl, by (first | exact .inl rfl | exact .inr rfl)⟩

set_option maxRecDepth 100000 in
set_option maxHeartbeats 4000000 in
theorem naming_ok (t : Bool) (l : List C) (hl : l.length ≤ 1000) (h : Int) : PCalls Try.prog 32 [.lst t (l.map cell), .int .i64 h] (.int .i64 (plc (naming h) l l.length).length) := by
  refine pc_intro (N := 9) Try.func32 rfl rfl (Nat.le_of_ble_eq_true rfl) fun w0 imm0 => ?_
  refine pw_seq ?_
  refine pw_reg (by kernel_rfl) ?_
  refine x1 rfl (o_box (z := 1) (by conv => lhs; whnf) rfl rfl rfl (by conv => lhs; whnf)) rfl (fun q => nomatch q) (fun q => nomatch q) ?_
  refine x0 rfl (o_assign (by conv => lhs; whnf)) (fun q => nomatch q) ?_
  refine x_nil ?_
  refine pw_seq ?_
  refine pw_reg (by kernel_rfl) ?_
  refine x0 rfl (o_move (by conv => lhs; whnf)) (fun q => nomatch q) ?_
  refine x0 rfl (o_mkFunc (by first | rfl | (conv => lhs; simp only [List.toList_toArray, List.map_cons, List.map_nil]))) (fun q => nomatch q) ?_
  refine x_cal1 rfl (o_callF (ls := [3])  rfl Try.func38 rfl (by decide) rfl rfl rfl (picked_ok t l hl (by simp) 43 (.int .i64 h) rfl _ _ Try.func43 rfl (by decide) (naming h) (c43_ok h)) rfl) (by conv => lhs; whnf) (fun q => nomatch q) ?_
  first | (refine x0 rfl (o_lenL (by rfl) Ty.e22 rfl) (fun q => nomatch q) ?_) | (refine x0 rfl (o_lenR (by rfl) (by conv => lhs; whnf) Ty.e22 rfl) (fun q => nomatch q) ?_)
  refine x0 rfl (o_assign (by conv => lhs; whnf)) (fun q => nomatch q) ?_
  refine x_nil ?_
  refine pw_ret ?_
  exact ⟨[_], ⟨rfl, trivial⟩, rfl, by (first | exact .inl rfl | exact .inr rfl)⟩

end Go.Proofs.Ytgleeglhdlnobaa.C9
