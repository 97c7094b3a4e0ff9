/-
  The functions of packages queue, mortmainref02 and mortmainlaw02: what each returns.
  Conditions: the premises of each.
-/
import Derived.Test.YtgleeglhdlnobaaPw20
import Derived.Test.YtgleeglhdlnobaaProg
namespace Go.Proofs.Ytgleeglhdlnobaa.C2
open Go Go.Pw Go.Proofs
set_option linter.unusedVariables false
theorem ari_rem {a b r : Int} (ha : 0 ≤ a) (hb : 0 < b) (h : a.tmod b = r) (h1 : -9223372036854775808 ≤ r) (h2 : r ≤ 9223372036854775807) : ariI .i64 .rem a b = some r := by
  have : b ≠ 0 := by omega
  simp only [ariI, h, this, if_false]
theorem take_drop {L : List PV} {m j : Nat} {v : Int} (hv : L[j]? = some (.int .i64 v)) (hj : j < m) : (L.take m).drop j = .int .i64 v :: (L.take m).drop (j + 1) := by
  have h : (L.take m)[j]? = some (.int .i64 v) := by rw [List.getElem?_take, if_pos hj, hv]
  obtain ⟨hlt, he⟩ := List.getElem?_eq_some_iff.1 h
  rw [List.drop_eq_getElem_cons hlt, he]
theorem take_min {L : List PV} {k n : Nat} {v : Int} (hv : L[k]? = some (.int .i64 v)) (hn : k < n) : L.take (min k n) ++ [.int .i64 v] = L.take (min (k + 1) n) := by
  rw [Nat.min_eq_left (by omega), Nat.min_eq_left (by omega), List.take_add_one, hv]
  rfl
namespace Ty
theorem a3 : tagg Try.prog 3 = some false := by kernel_rfl
theorem a22 : tagg Try.prog 22 = some false := by kernel_rfl
theorem a24 : tagg Try.prog 24 = some true := by kernel_rfl
theorem a29 : tagg Try.prog 29 = some true := by kernel_rfl
theorem b3 : tbytes Try.prog 3 = some 8 := by kernel_rfl
theorem e22 : telem Try.prog 22 = some 3 := by kernel_rfl
theorem f24_0 : foff Try.prog 24 0 = some (0, 22) := by kernel_rfl
theorem f24_1 : foff Try.prog 24 1 = some (1, 3) := by kernel_rfl
theorem f29_0 : foff Try.prog 29 0 = some (0, 22) := by kernel_rfl
theorem f29_1 : foff Try.prog 29 1 = some (1, 3) := by kernel_rfl
theorem i3 : tint Try.prog 3 = some .i64 := by kernel_rfl
theorem p24 : bplaces Try.prog 24 = some (fun i => (#[(0, 1), (1, 1)] : Array (Nat × Nat))[i]?) := by kernel_rfl
theorem p29 : bplaces Try.prog 29 = some (fun i => (#[(0, 1), (1, 1)] : Array (Nat × Nat))[i]?) := by kernel_rfl
theorem s3 : tsize Try.prog 3 = some 1 := by kernel_rfl
theorem s22 : tsize Try.prog 22 = some 1 := by kernel_rfl
theorem s24 : tsize Try.prog 24 = some 2 := by kernel_rfl
theorem s29 : tsize Try.prog 29 = some 2 := by kernel_rfl
theorem u4 : Try.prog.underlying 4 = some (.bool) := by kernel_rfl
theorem u5 : Try.prog.underlying 5 = some (.int .u8) := by kernel_rfl
theorem z3 : tzero Try.prog 3 = some ((.int .i64 0)) := by kernel_rfl
theorem z24 : tzero Try.prog 24 = some ((.agg #[(.slice none 0 0), (.int .i64 0)])) := by kernel_rfl
theorem z29 : tzero Try.prog 29 = some ((.agg #[(.slice none 0 0), (.int .i64 0)])) := by kernel_rfl
theorem mix : Try.prog.follows .mixedOrders = true := by kernel_rfl
end Ty
set_option maxRecDepth 100000 in
set_option maxHeartbeats 4000000 in
theorem len_ok (t : Bool) (L : List PV) (c : Int) : PCalls Try.prog 22 [.agg [.lst t L, .int .i64 c]] (.int .i64 L.length) := by
  refine pc_intro (N := 6) Try.func22 rfl rfl (Nat.le_of_ble_eq_true rfl) fun w0 imm0 => ?_
  refine pw_seq ?_
  refine pw_reg (by kernel_rfl) ?_
  refine x1 rfl (o_box (z := 2) (by conv => lhs; whnf) rfl rfl rfl (by conv => lhs; whnf)) rfl (fun q => nomatch q) (fun q => nomatch q) ?_
  refine x0 rfl (o_assign (by conv => lhs; whnf)) (fun q => nomatch q) ?_
  refine x_nil ?_
  refine pw_seq ?_
  refine pw_reg (by kernel_rfl) ?_
  first | (refine x0 rfl (o_fieldAddrP (by rfl) Ty.f24_0 (by conv => lhs; whnf)) (fun q => nomatch q) ?_) | (refine x0 rfl (o_fieldAddrR (by rfl) Ty.f24_0 (by conv => lhs; whnf)) (fun q => nomatch q) ?_)
  first | (refine x0 rfl (o_loadS (by rfl) (by conv => lhs; whnf) rfl Ty.a22 (by conv => lhs; whnf)) (fun q => nomatch q) ?_) | (refine x0 rfl (o_loadRS (by rfl) Ty.a22 (by conv => lhs; whnf)) (fun q => nomatch q) ?_)
  first | (refine x0 rfl (o_lenL (by rfl) Ty.e22 rfl) (fun q => nomatch q) ?_) | (refine x0 rfl (o_lenR (by rfl) (by conv => lhs; whnf) Ty.e22 rfl) (fun q => nomatch q) ?_)
  refine x0 rfl (o_assign (by conv => lhs; whnf)) (fun q => nomatch q) ?_
  refine x_nil ?_
  refine pw_ret ?_
  exact ⟨[_], ⟨rfl, trivial⟩, rfl, by (first | exact .inl rfl | exact .inr rfl)⟩

set_option maxRecDepth 100000 in
set_option maxHeartbeats 4000000 in
theorem part_ok (t : Bool) (L M : List PV) (hL : ∀ e ∈ L, e.cells.length = 1) (i j : Nat) (hij : i ≤ j) (hj : j ≤ L.length) (hM : (L.take j).drop i = M) : PCalls Try.prog 35 [.lst t L, .int .i64 i, .int .i64 j] (.lst true M) := by
  refine pc_intro (N := 12) Try.func35 rfl rfl (Nat.le_of_ble_eq_true rfl) fun w0 imm0 => ?_
  refine pw_seq ?_
  refine pw_reg (by kernel_rfl) ?_
  refine x0 rfl (o_assign (by conv => lhs; whnf)) (fun q => nomatch q) ?_
  refine x_nil ?_
  refine pw_seq ?_
  refine pw_reg (by kernel_rfl) ?_
  refine x0 rfl (o_move (by conv => lhs; whnf)) (fun q => nomatch q) ?_
  refine x0 rfl (o_move (by conv => lhs; whnf)) (fun q => nomatch q) ?_
  refine x0 rfl (o_move (by conv => lhs; whnf)) (fun q => nomatch q) ?_
  refine x0 rfl (o_move (by conv => lhs; whnf)) (fun q => nomatch q) ?_
  refine x0 rfl (o_slice (t' := true) (i := i) (j := j) (k := j) (by conv => lhs; whnf) Ty.e22 Ty.s3 hL ⟨_, rfl⟩ ⟨_, rfl⟩ ⟨_, rfl⟩ (by first | (intro _; rfl) | (intro q; cases q)) (by first | omega | (simp only [List.length_cons]; omega)) (by first | omega | (simp only [List.length_cons]; omega)) (by first | omega | (simp only [List.length_cons]; omega)) (by simp) hM) (fun q => nomatch q) ?_
  refine x0 rfl (o_assign (by conv => lhs; whnf)) (fun q => nomatch q) ?_
  refine x_nil ?_
  refine pw_ret ?_
  exact ⟨[_], ⟨rfl, trivial⟩, rfl, by (first | exact .inl rfl | exact .inr rfl)⟩

set_option maxRecDepth 100000 in
set_option maxHeartbeats 4000000 in
theorem new_ok (c : Int) : PCalls Try.prog 23 [.int .i64 c] (.agg [.lst true [], .int .i64 c]) := by
  refine pc_intro (N := 5) Try.func23 rfl rfl (Nat.le_of_ble_eq_true rfl) fun w0 imm0 => ?_
  refine pw_seq ?_
  refine pw_reg (by kernel_rfl) ?_
  refine x1 rfl (o_alloc (z := 2) rfl Ty.z24 (by conv => lhs; whnf) rfl rfl) rfl (fun q => nomatch q) (fun q => nomatch q) ?_
  refine x_nil ?_
  refine pw_seq ?_
  refine pw_reg (by kernel_rfl) ?_
  refine x0 rfl (o_move (by conv => lhs; whnf)) (fun q => nomatch q) ?_
  refine x0 rfl (o_build (by first | rfl | (conv => lhs; simp only [List.toList_toArray, List.map_cons, List.map_nil])) Ty.p24 Ty.z24 (by conv => lhs; whnf) (by conv => lhs; whnf) rfl) (fun q => nomatch q) ?_
  refine x_sto rfl (o_store (by conv => lhs; whnf) (by conv => lhs; whnf) (by conv => lhs; whnf) rfl Ty.s24 (Nat.le_of_ble_eq_true rfl) rfl) (by conv => lhs; whnf) rfl (Nat.zero_le _) (Nat.le_of_ble_eq_true rfl) rfl (by conv => lhs; whnf) (by conv => lhs; whnf) (by conv => lhs; whnf) (fun q => nomatch q) (fun q => nomatch q) ?_
  refine x_nil ?_
  refine pw_ret ?_
  exact ⟨[_], ⟨o_loadA (by rfl) (by conv => lhs; whnf) rfl Ty.a24 Ty.s24 (Nat.le_of_ble_eq_true rfl) rfl, trivial⟩, rfl, by (first | exact .inl rfl | exact .inr rfl)⟩

set_option maxRecDepth 100000 in
set_option maxHeartbeats 4000000 in
theorem push_full (t : Bool) (L M : List PV) (hM : L = M) (c x : Int) (hc : c ≤ L.length) : PCalls Try.prog 13 [.agg [.lst t L, .int .i64 c], .int .i64 x] (.tup [.agg [.lst t M, .int .i64 c], .int .i64 4]) := by
  subst hM
  refine pc_intro (N := 22) Try.func13 rfl rfl (Nat.le_of_ble_eq_true rfl) fun w0 imm0 => ?_
  refine pw_seq ?_
  refine pw_reg (by kernel_rfl) ?_
  refine x1 rfl (o_box (z := 2) (by conv => lhs; whnf) rfl rfl rfl (by conv => lhs; whnf)) rfl (fun q => nomatch q) (fun q => nomatch q) ?_
  refine x1 rfl (o_alloc (z := 2) rfl Ty.z24 (by conv => lhs; whnf) rfl rfl) rfl (fun q => nomatch q) (fun q => nomatch q) ?_
  refine x0 rfl (o_assign (by conv => lhs; whnf)) (fun q => nomatch q) ?_
  refine x_nil ?_
  refine pw_seq ?_
  refine pw_seq ?_
  refine pw_drw [] Ty.mix (by kernel_rfl) (by kernel_rfl) ?_
  first | (refine x0 rfl (o_loadA (by rfl) (by conv => lhs; whnf) rfl Ty.a24 Ty.s24 (Nat.le_of_ble_eq_true rfl) (by conv => lhs; whnf)) (fun _ => rfl) ?_) | (refine x0 rfl (o_loadRA (by rfl) Ty.a24 Ty.s24 (Nat.le_of_ble_eq_true rfl) (by conv => lhs; whnf)) (fun _ => rfl) ?_)
  refine x0 rfl (o_call  rfl Try.func22 rfl (by decide) rfl rfl rfl (len_ok t L c) rfl) (fun _ => .inl rfl) ?_
  first | (refine x7 rfl (fun _ hN => o_fieldAddrP (by rfl) Ty.f24_1 (by conv => lhs; whnf)) rfl ?_) | (refine x7 rfl (fun _ hN => o_fieldAddrR (by rfl) Ty.f24_1 (by conv => lhs; whnf)) rfl ?_)
  first | (refine x0 rfl (o_loadS (by rfl) (by conv => lhs; whnf) rfl Ty.a3 (by conv => lhs; whnf)) (fun _ => rfl) ?_) | (refine x0 rfl (o_loadRS (by rfl) Ty.a3 (by conv => lhs; whnf)) (fun _ => rfl) ?_)
  first | (refine x7 rfl (fun _ hN => o_cmp (by rfl) (by rfl) (c_geT (by omega))) rfl ?_) | (refine x7 rfl (fun _ hN => o_cmp (by rfl) (by rfl) (c_geF (by omega))) rfl ?_) | (refine x7 rfl (fun _ hN => o_cmp (by rfl) (by rfl) (c_geT (by first | rfl | decide))) rfl ?_) | (refine x7 rfl (fun _ hN => o_cmp (by rfl) (by rfl) (c_geF (by first | decide | (simp; done) | (simp; omega)))) rfl ?_)
  refine x_nil ?_
  refine pw_cond true (by rfl) (fun _ => ?_) (fun q => nomatch q)
  refine pw_seq ?_
  refine pw_reg (by kernel_rfl) ?_
  first | (refine x0 rfl (o_loadA (by rfl) (by conv => lhs; whnf) rfl Ty.a24 Ty.s24 (Nat.le_of_ble_eq_true rfl) (by conv => lhs; whnf)) (fun q => nomatch q) ?_) | (refine x0 rfl (o_loadRA (by rfl) Ty.a24 Ty.s24 (Nat.le_of_ble_eq_true rfl) (by conv => lhs; whnf)) (fun q => nomatch q) ?_)
  refine x_sto rfl (o_store (by conv => lhs; whnf) (by conv => lhs; whnf) (by conv => lhs; whnf) rfl Ty.s24 (Nat.le_of_ble_eq_true rfl) rfl) (by conv => lhs; whnf) rfl (Nat.zero_le _) (Nat.le_of_ble_eq_true rfl) rfl (by conv => lhs; whnf) (by conv => lhs; whnf) (by conv => lhs; whnf) (fun q => nomatch q) (fun q => nomatch q) ?_
  refine x0 rfl (o_assign (by conv => lhs; whnf)) (fun q => nomatch q) ?_
  refine x_nil ?_
  refine pw_ret ?_
  exact ⟨[_, _], ⟨o_loadA (by rfl) (by conv => lhs; whnf) rfl Ty.a24 Ty.s24 (Nat.le_of_ble_eq_true rfl) rfl, ⟨rfl, trivial⟩⟩, rfl, by (first | exact .inl rfl | exact .inr rfl)⟩

set_option maxRecDepth 100000 in
set_option maxHeartbeats 4000000 in
theorem push_ok (t : Bool) (L M : List PV) (hL : ∀ e ∈ L, e.cells.length = 1) (c x : Int) (hM : L ++ [.int .i64 x] = M) (hc : L.length < c) (hfit : (L.length + 1) * 8 ≤ 140737488355328) : PCalls Try.prog 13 [.agg [.lst t L, .int .i64 c], .int .i64 x] (.tup [.agg [.lst false M, .int .i64 c], .int .i64 0]) := by
  subst hM
  refine pc_intro (N := 22) Try.func13 rfl rfl (Nat.le_of_ble_eq_true rfl) fun w0 imm0 => ?_
  refine pw_seq ?_
  refine pw_reg (by kernel_rfl) ?_
  refine x1 rfl (o_box (z := 2) (by conv => lhs; whnf) rfl rfl rfl (by conv => lhs; whnf)) rfl (fun q => nomatch q) (fun q => nomatch q) ?_
  refine x1 rfl (o_alloc (z := 2) rfl Ty.z24 (by conv => lhs; whnf) rfl rfl) rfl (fun q => nomatch q) (fun q => nomatch q) ?_
  refine x0 rfl (o_assign (by conv => lhs; whnf)) (fun q => nomatch q) ?_
  refine x_nil ?_
  refine pw_seq ?_
  refine pw_seq ?_
  refine pw_drw [] Ty.mix (by kernel_rfl) (by kernel_rfl) ?_
  first | (refine x0 rfl (o_loadA (by rfl) (by conv => lhs; whnf) rfl Ty.a24 Ty.s24 (Nat.le_of_ble_eq_true rfl) (by conv => lhs; whnf)) (fun _ => rfl) ?_) | (refine x0 rfl (o_loadRA (by rfl) Ty.a24 Ty.s24 (Nat.le_of_ble_eq_true rfl) (by conv => lhs; whnf)) (fun _ => rfl) ?_)
  refine x0 rfl (o_call  rfl Try.func22 rfl (by decide) rfl rfl rfl (len_ok t L c) rfl) (fun _ => .inl rfl) ?_
  first | (refine x7 rfl (fun _ hN => o_fieldAddrP (by rfl) Ty.f24_1 (by conv => lhs; whnf)) rfl ?_) | (refine x7 rfl (fun _ hN => o_fieldAddrR (by rfl) Ty.f24_1 (by conv => lhs; whnf)) rfl ?_)
  first | (refine x0 rfl (o_loadS (by rfl) (by conv => lhs; whnf) rfl Ty.a3 (by conv => lhs; whnf)) (fun _ => rfl) ?_) | (refine x0 rfl (o_loadRS (by rfl) Ty.a3 (by conv => lhs; whnf)) (fun _ => rfl) ?_)
  first | (refine x7 rfl (fun _ hN => o_cmp (by rfl) (by rfl) (c_geT (by omega))) rfl ?_) | (refine x7 rfl (fun _ hN => o_cmp (by rfl) (by rfl) (c_geF (by omega))) rfl ?_) | (refine x7 rfl (fun _ hN => o_cmp (by rfl) (by rfl) (c_geT (by first | rfl | decide))) rfl ?_) | (refine x7 rfl (fun _ hN => o_cmp (by rfl) (by rfl) (c_geF (by first | decide | (simp; done) | (simp; omega)))) rfl ?_)
  refine x_nil ?_
  refine pw_cond false (by rfl) (fun q => nomatch q) (fun _ => ?_)
  refine pw_skip ?_
  refine pw_seq ?_
  refine pw_drw [] Ty.mix (by kernel_rfl) (by kernel_rfl) ?_
  first | (refine x7 rfl (fun _ hN => o_fieldAddrP (by rfl) Ty.f24_0 (by conv => lhs; whnf)) rfl ?_) | (refine x7 rfl (fun _ hN => o_fieldAddrR (by rfl) Ty.f24_0 (by conv => lhs; whnf)) rfl ?_)
  first | (refine x0 rfl (o_loadS (by rfl) (by conv => lhs; whnf) rfl Ty.a22 (by conv => lhs; whnf)) (fun _ => rfl) ?_) | (refine x0 rfl (o_loadRS (by rfl) Ty.a22 (by conv => lhs; whnf)) (fun _ => rfl) ?_)
  first | (refine x0 rfl (o_loadA (by rfl) (by conv => lhs; whnf) rfl Ty.a24 Ty.s24 (Nat.le_of_ble_eq_true rfl) (by conv => lhs; whnf)) (fun _ => rfl) ?_) | (refine x0 rfl (o_loadRA (by rfl) Ty.a24 Ty.s24 (Nat.le_of_ble_eq_true rfl) (by conv => lhs; whnf)) (fun _ => rfl) ?_)
  refine x0 rfl (o_call  rfl Try.func22 rfl (by decide) rfl rfl rfl (len_ok t L c) rfl) (fun _ => .inl rfl) ?_
  refine x_cal rfl (o_callF (ls := [])  rfl Try.func35 rfl (by decide) rfl rfl rfl (part_ok t L L hL 0 L.length (Nat.zero_le _) (Nat.le_refl _) (by simp)) rfl) (fun _ => .inr (.inl rfl)) ?_
  refine x7 rfl (fun _ hN => o_move (by conv => lhs; whnf)) rfl ?_
  refine x1 rfl (o_bslice (els := [.int .i64 x]) (cl := true) rfl (by first | rfl | (conv => lhs; simp only [List.toList_toArray, List.map_cons, List.map_nil])) Ty.e22 Ty.s3 Ty.z3 rfl rfl (Nat.le_of_ble_eq_true rfl) rfl (fun _ => rfl)) rfl (fun _ => by rfl) (fun _ => .inr ⟨_, _, rfl⟩) ?_
  refine x1 rfl (o_appT rfl (by conv => lhs; whnf) (by first | exact .inl ⟨_, rfl, rfl⟩ | exact .inr ⟨_, _, rfl, rfl, rfl, rfl⟩) Ty.e22 Ty.s3 Ty.b3 Ty.z3 rfl (fun e he => (List.mem_append.1 he).elim (hL e) (fun q => by cases List.mem_singleton.1 q; rfl)) (by simp; omega) (by simp; omega) rfl rfl) rfl (fun _ => by rfl) (fun _ => .inl ⟨_, _, rfl⟩) ?_
  first | (refine x7 rfl (fun _ hN => o_fieldAddrP (by rfl) Ty.f24_0 (by conv => lhs; whnf)) rfl ?_) | (refine x7 rfl (fun _ hN => o_fieldAddrR (by rfl) Ty.f24_0 (by conv => lhs; whnf)) rfl ?_)
  refine x_sto rfl (o_store (by conv => lhs; whnf) (by conv => lhs; whnf) (by conv => lhs; whnf) rfl Ty.s22 (Nat.le_of_ble_eq_true rfl) rfl) (by conv => lhs; whnf) rfl (Nat.zero_le _) (Nat.le_of_ble_eq_true rfl) rfl (by conv => lhs; whnf) (by conv => lhs; whnf) (by conv => lhs; whnf) (fun _ => by rfl) (fun _ => trivial) ?_
  refine x_nil ?_
  refine pw_seq ?_
  refine pw_reg (by kernel_rfl) ?_
  first | (refine x0 rfl (o_loadA (by rfl) (by conv => lhs; whnf) rfl Ty.a24 Ty.s24 (Nat.le_of_ble_eq_true rfl) (by conv => lhs; whnf)) (fun q => nomatch q) ?_) | (refine x0 rfl (o_loadRA (by rfl) Ty.a24 Ty.s24 (Nat.le_of_ble_eq_true rfl) (by conv => lhs; whnf)) (fun q => nomatch q) ?_)
  refine x_sto rfl (o_store (by conv => lhs; whnf) (by conv => lhs; whnf) (by conv => lhs; whnf) rfl Ty.s24 (Nat.le_of_ble_eq_true rfl) rfl) (by conv => lhs; whnf) rfl (Nat.zero_le _) (Nat.le_of_ble_eq_true rfl) rfl (by conv => lhs; whnf) (by conv => lhs; whnf) (by conv => lhs; whnf) (fun q => nomatch q) (fun q => nomatch q) ?_
  refine x0 rfl (o_assign (by conv => lhs; whnf)) (fun q => nomatch q) ?_
  refine x_nil ?_
  refine pw_ret ?_
  exact ⟨[_, _], ⟨o_loadA (by rfl) (by conv => lhs; whnf) rfl Ty.a24 Ty.s24 (Nat.le_of_ble_eq_true rfl) rfl, ⟨rfl, trivial⟩⟩, rfl, by (first | exact .inl rfl | exact .inr rfl)⟩

set_option maxRecDepth 100000 in
set_option maxHeartbeats 4000000 in
theorem drain_ok (t : Bool) (L : List PV) (hL : ∀ e ∈ L, e.cells.length = 1) (c : Int) (n : Int) (k : Nat) (hk : (k : Int) = max 0 (min n L.length)) : PCalls Try.prog 18 [.agg [.lst t L, .int .i64 c], .int .i64 n] (.tup [.agg [.lst true (L.drop k), .int .i64 c], .lst true (L.take k)]) := by
  refine pc_intro (N := 25) Try.func18 rfl rfl (Nat.le_of_ble_eq_true rfl) fun w0 imm0 => ?_
  refine pw_seq ?_
  refine pw_reg (by kernel_rfl) ?_
  refine x1 rfl (o_box (z := 2) (by conv => lhs; whnf) rfl rfl rfl (by conv => lhs; whnf)) rfl (fun q => nomatch q) (fun q => nomatch q) ?_
  refine x1 rfl (o_alloc (z := 2) rfl Ty.z24 (by conv => lhs; whnf) rfl rfl) rfl (fun q => nomatch q) (fun q => nomatch q) ?_
  refine x0 rfl (o_assign (by conv => lhs; whnf)) (fun q => nomatch q) ?_
  refine x_nil ?_
  refine pw_seq ?_
  refine pw_reg (by kernel_rfl) ?_
  refine x0 rfl (o_move (by conv => lhs; whnf)) (fun q => nomatch q) ?_
  first | (refine x0 rfl (o_loadA (by rfl) (by conv => lhs; whnf) rfl Ty.a24 Ty.s24 (Nat.le_of_ble_eq_true rfl) (by conv => lhs; whnf)) (fun q => nomatch q) ?_) | (refine x0 rfl (o_loadRA (by rfl) Ty.a24 Ty.s24 (Nat.le_of_ble_eq_true rfl) (by conv => lhs; whnf)) (fun q => nomatch q) ?_)
  refine x0 rfl (o_call  rfl Try.func22 rfl (by decide) rfl rfl rfl (len_ok t L c) rfl) (fun q => nomatch q) ?_
  refine x0 rfl (o_min (r := min n L.length) (by conv => lhs; whnf) (by conv => lhs; whnf) (by split <;> omega)) (fun q => nomatch q) ?_
  refine x0 rfl (o_max (r := (k : Int)) (by conv => lhs; whnf) (by conv => lhs; whnf) (by split <;> omega)) (fun q => nomatch q) ?_
  refine x0 rfl (o_assign (by conv => lhs; whnf)) (fun q => nomatch q) ?_
  refine x_nil ?_
  refine pw_seq ?_
  refine pw_reg (by kernel_rfl) ?_
  first | (refine x0 rfl (o_fieldAddrP (by rfl) Ty.f24_0 (by conv => lhs; whnf)) (fun q => nomatch q) ?_) | (refine x0 rfl (o_fieldAddrR (by rfl) Ty.f24_0 (by conv => lhs; whnf)) (fun q => nomatch q) ?_)
  first | (refine x0 rfl (o_loadS (by rfl) (by conv => lhs; whnf) rfl Ty.a22 (by conv => lhs; whnf)) (fun q => nomatch q) ?_) | (refine x0 rfl (o_loadRS (by rfl) Ty.a22 (by conv => lhs; whnf)) (fun q => nomatch q) ?_)
  refine x0 rfl (o_move (by conv => lhs; whnf)) (fun q => nomatch q) ?_
  refine x_cal rfl (o_callF (ls := [])  rfl Try.func35 rfl (by decide) rfl rfl rfl (part_ok t L (L.take k) hL 0 k (Nat.zero_le _) (by omega) (by simp)) rfl) (fun q => nomatch q) ?_
  refine x0 rfl (o_assign (by conv => lhs; whnf)) (fun q => nomatch q) ?_
  refine x_nil ?_
  refine pw_seq ?_
  refine pw_drw [] Ty.mix (by kernel_rfl) (by kernel_rfl) ?_
  first | (refine x7 rfl (fun _ hN => o_fieldAddrP (by rfl) Ty.f24_0 (by conv => lhs; whnf)) rfl ?_) | (refine x7 rfl (fun _ hN => o_fieldAddrR (by rfl) Ty.f24_0 (by conv => lhs; whnf)) rfl ?_)
  first | (refine x0 rfl (o_loadS (by rfl) (by conv => lhs; whnf) rfl Ty.a22 (by conv => lhs; whnf)) (fun _ => rfl) ?_) | (refine x0 rfl (o_loadRS (by rfl) Ty.a22 (by conv => lhs; whnf)) (fun _ => rfl) ?_)
  refine x7 rfl (fun _ hN => o_move (by conv => lhs; whnf)) rfl ?_
  first | (refine x0 rfl (o_loadA (by rfl) (by conv => lhs; whnf) rfl Ty.a24 Ty.s24 (Nat.le_of_ble_eq_true rfl) (by conv => lhs; whnf)) (fun _ => rfl) ?_) | (refine x0 rfl (o_loadRA (by rfl) Ty.a24 Ty.s24 (Nat.le_of_ble_eq_true rfl) (by conv => lhs; whnf)) (fun _ => rfl) ?_)
  refine x0 rfl (o_call  rfl Try.func22 rfl (by decide) rfl rfl rfl (len_ok t L c) rfl) (fun _ => .inl rfl) ?_
  refine x_cal rfl (o_callF (ls := [])  rfl Try.func35 rfl (by decide) rfl rfl rfl (part_ok t L (L.drop k) hL k L.length (by omega) (Nat.le_refl _) (by simp)) rfl) (fun _ => .inr (.inl rfl)) ?_
  first | (refine x7 rfl (fun _ hN => o_fieldAddrP (by rfl) Ty.f24_0 (by conv => lhs; whnf)) rfl ?_) | (refine x7 rfl (fun _ hN => o_fieldAddrR (by rfl) Ty.f24_0 (by conv => lhs; whnf)) rfl ?_)
  refine x_sto rfl (o_store (by conv => lhs; whnf) (by conv => lhs; whnf) (by conv => lhs; whnf) rfl Ty.s22 (Nat.le_of_ble_eq_true rfl) rfl) (by conv => lhs; whnf) rfl (Nat.zero_le _) (Nat.le_of_ble_eq_true rfl) rfl (by conv => lhs; whnf) (by conv => lhs; whnf) (by conv => lhs; whnf) (fun _ => by rfl) (fun _ => trivial) ?_
  refine x_nil ?_
  refine pw_seq ?_
  refine pw_reg (by kernel_rfl) ?_
  first | (refine x0 rfl (o_loadA (by rfl) (by conv => lhs; whnf) rfl Ty.a24 Ty.s24 (Nat.le_of_ble_eq_true rfl) (by conv => lhs; whnf)) (fun q => nomatch q) ?_) | (refine x0 rfl (o_loadRA (by rfl) Ty.a24 Ty.s24 (Nat.le_of_ble_eq_true rfl) (by conv => lhs; whnf)) (fun q => nomatch q) ?_)
  refine x0 rfl (o_move (by conv => lhs; whnf)) (fun q => nomatch q) ?_
  refine x_sto rfl (o_store (by conv => lhs; whnf) (by conv => lhs; whnf) (by conv => lhs; whnf) rfl Ty.s24 (Nat.le_of_ble_eq_true rfl) rfl) (by conv => lhs; whnf) rfl (Nat.zero_le _) (Nat.le_of_ble_eq_true rfl) rfl (by conv => lhs; whnf) (by conv => lhs; whnf) (by conv => lhs; whnf) (fun q => nomatch q) (fun q => nomatch q) ?_
  refine x0 rfl (o_assign (by conv => lhs; whnf)) (fun q => nomatch q) ?_
  refine x_nil ?_
  refine pw_ret ?_
  exact ⟨[_, _], ⟨o_loadA (by rfl) (by conv => lhs; whnf) rfl Ty.a24 Ty.s24 (Nat.le_of_ble_eq_true rfl) rfl, ⟨rfl, trivial⟩⟩, rfl, by (first | exact .inl rfl | exact .inr rfl)⟩

set_option maxRecDepth 100000 in
set_option maxHeartbeats 4000000 in
theorem pop_nil (t : Bool) (C : List PV) (hC : C = []) (c : Int) : PCalls Try.prog 16 [.agg [.lst t C, .int .i64 c]] (.tup [.agg [.lst t C, .int .i64 c], .int .i64 0, .int .i64 10]) := by
  subst hC
  refine pc_intro (N := 22) Try.func16 rfl rfl (Nat.le_of_ble_eq_true rfl) fun w0 imm0 => ?_
  refine pw_seq ?_
  refine pw_reg (by kernel_rfl) ?_
  refine x1 rfl (o_box (z := 2) (by conv => lhs; whnf) rfl rfl rfl (by conv => lhs; whnf)) rfl (fun q => nomatch q) (fun q => nomatch q) ?_
  refine x1 rfl (o_alloc (z := 2) rfl Ty.z24 (by conv => lhs; whnf) rfl rfl) rfl (fun q => nomatch q) (fun q => nomatch q) ?_
  refine x0 rfl (o_assign (by conv => lhs; whnf)) (fun q => nomatch q) ?_
  refine x0 rfl (o_assign (by conv => lhs; whnf)) (fun q => nomatch q) ?_
  refine x_nil ?_
  refine pw_seq ?_
  refine pw_reg (by kernel_rfl) ?_
  first | (refine x0 rfl (o_loadA (by rfl) (by conv => lhs; whnf) rfl Ty.a24 Ty.s24 (Nat.le_of_ble_eq_true rfl) (by conv => lhs; whnf)) (fun q => nomatch q) ?_) | (refine x0 rfl (o_loadRA (by rfl) Ty.a24 Ty.s24 (Nat.le_of_ble_eq_true rfl) (by conv => lhs; whnf)) (fun q => nomatch q) ?_)
  refine x_cal rfl (o_callF (ls := [])  rfl Try.func18 rfl (by decide) rfl rfl rfl (drain_ok t [] (fun _ q => nomatch q) c 1 0 rfl) rfl) (fun q => nomatch q) ?_
  refine x0 rfl (o_move (by conv => lhs; whnf)) (fun q => nomatch q) ?_
  refine x0 rfl (o_extract (by conv => lhs; whnf) (by conv => lhs; whnf)) (fun q => nomatch q) ?_
  refine x0 rfl (o_extract (by conv => lhs; whnf) (by conv => lhs; whnf)) (fun q => nomatch q) ?_
  refine x1 rfl (o_alloc (z := 2) rfl Ty.z24 (by conv => lhs; whnf) rfl rfl) rfl (fun q => nomatch q) (fun q => nomatch q) ?_
  refine x_sto rfl (o_store (by conv => lhs; whnf) (by conv => lhs; whnf) (by conv => lhs; whnf) rfl Ty.s24 (Nat.le_of_ble_eq_true rfl) rfl) (by conv => lhs; whnf) rfl (Nat.zero_le _) (Nat.le_of_ble_eq_true rfl) rfl (by conv => lhs; whnf) (by conv => lhs; whnf) (by conv => lhs; whnf) (fun q => nomatch q) (fun q => nomatch q) ?_
  refine x0 rfl (o_assign (by conv => lhs; whnf)) (fun q => nomatch q) ?_
  refine x_nil ?_
  refine pw_seq ?_
  refine pw_seq ?_
  refine pw_reg (by kernel_rfl) ?_
  refine x0 rfl (o_move (by conv => lhs; whnf)) (fun q => nomatch q) ?_
  first | (refine x0 rfl (o_lenL (by rfl) Ty.e22 rfl) (fun q => nomatch q) ?_) | (refine x0 rfl (o_lenR (by rfl) (by conv => lhs; whnf) Ty.e22 rfl) (fun q => nomatch q) ?_)
  first | (refine x0 rfl (o_cmp (by rfl) (by rfl) (c_eqT (by omega))) (fun q => nomatch q) ?_) | (refine x0 rfl (o_cmp (by rfl) (by rfl) (c_eqF (by omega))) (fun q => nomatch q) ?_) | (refine x0 rfl (o_cmp (by rfl) (by rfl) (c_eqT (by first | rfl | decide))) (fun q => nomatch q) ?_) | (refine x0 rfl (o_cmp (by rfl) (by rfl) (c_eqF (by first | decide | (simp; done) | (simp; omega)))) (fun q => nomatch q) ?_)
  refine x_nil ?_
  refine pw_cond true (by rfl) (fun _ => ?_) (fun q => nomatch q)
  refine pw_seq ?_
  refine pw_reg (by kernel_rfl) ?_
  refine x0 rfl (o_assign (by conv => lhs; whnf)) (fun q => nomatch q) ?_
  refine x_nil ?_
  refine pw_seq ?_
  refine pw_reg (by kernel_rfl) ?_
  first | (refine x0 rfl (o_loadA (by rfl) (by conv => lhs; whnf) rfl Ty.a24 Ty.s24 (Nat.le_of_ble_eq_true rfl) (by conv => lhs; whnf)) (fun q => nomatch q) ?_) | (refine x0 rfl (o_loadRA (by rfl) Ty.a24 Ty.s24 (Nat.le_of_ble_eq_true rfl) (by conv => lhs; whnf)) (fun q => nomatch q) ?_)
  refine x0 rfl (o_move (by conv => lhs; whnf)) (fun q => nomatch q) ?_
  refine x_sto rfl (o_store (by conv => lhs; whnf) (by conv => lhs; whnf) (by conv => lhs; whnf) rfl Ty.s24 (Nat.le_of_ble_eq_true rfl) rfl) (by conv => lhs; whnf) rfl (Nat.zero_le _) (Nat.le_of_ble_eq_true rfl) rfl (by conv => lhs; whnf) (by conv => lhs; whnf) (by conv => lhs; whnf) (fun q => nomatch q) (fun q => nomatch q) ?_
  refine x0 rfl (o_assign (by conv => lhs; whnf)) (fun q => nomatch q) ?_
  refine x0 rfl (o_assign (by conv => lhs; whnf)) (fun q => nomatch q) ?_
  refine x_nil ?_
  refine pw_ret ?_
  exact ⟨[_, _, _], ⟨o_loadA (by rfl) (by conv => lhs; whnf) rfl Ty.a24 Ty.s24 (Nat.le_of_ble_eq_true rfl) rfl, ⟨rfl, ⟨rfl, trivial⟩⟩⟩, rfl, by (first | exact .inl rfl | exact .inr rfl)⟩

set_option maxRecDepth 100000 in
set_option maxHeartbeats 4000000 in
theorem pop_ok (t : Bool) (x c : Int) (C M : List PV) (hC : C = .int .i64 x :: M) (hM : ∀ e ∈ M, e.cells.length = 1) : PCalls Try.prog 16 [.agg [.lst t C, .int .i64 c]] (.tup [.agg [.lst true M, .int .i64 c], .int .i64 x, .int .i64 0]) := by
  subst hC
  refine pc_intro (N := 22) Try.func16 rfl rfl (Nat.le_of_ble_eq_true rfl) fun w0 imm0 => ?_
  refine pw_seq ?_
  refine pw_reg (by kernel_rfl) ?_
  refine x1 rfl (o_box (z := 2) (by conv => lhs; whnf) rfl rfl rfl (by conv => lhs; whnf)) rfl (fun q => nomatch q) (fun q => nomatch q) ?_
  refine x1 rfl (o_alloc (z := 2) rfl Ty.z24 (by conv => lhs; whnf) rfl rfl) rfl (fun q => nomatch q) (fun q => nomatch q) ?_
  refine x0 rfl (o_assign (by conv => lhs; whnf)) (fun q => nomatch q) ?_
  refine x0 rfl (o_assign (by conv => lhs; whnf)) (fun q => nomatch q) ?_
  refine x_nil ?_
  refine pw_seq ?_
  refine pw_reg (by kernel_rfl) ?_
  first | (refine x0 rfl (o_loadA (by rfl) (by conv => lhs; whnf) rfl Ty.a24 Ty.s24 (Nat.le_of_ble_eq_true rfl) (by conv => lhs; whnf)) (fun q => nomatch q) ?_) | (refine x0 rfl (o_loadRA (by rfl) Ty.a24 Ty.s24 (Nat.le_of_ble_eq_true rfl) (by conv => lhs; whnf)) (fun q => nomatch q) ?_)
  refine x_cal rfl (o_callF (ls := [])  rfl Try.func18 rfl (by decide) rfl rfl rfl (drain_ok t (.int .i64 x :: M) (fun e he => (List.mem_cons.1 he).elim (fun q => by cases q; rfl) (hM e)) c 1 1 (by simp; omega)) rfl) (fun q => nomatch q) ?_
  refine x0 rfl (o_move (by conv => lhs; whnf)) (fun q => nomatch q) ?_
  refine x0 rfl (o_extract (by conv => lhs; whnf) (by conv => lhs; whnf)) (fun q => nomatch q) ?_
  refine x0 rfl (o_extract (by conv => lhs; whnf) (by conv => lhs; whnf)) (fun q => nomatch q) ?_
  refine x1 rfl (o_alloc (z := 2) rfl Ty.z24 (by conv => lhs; whnf) rfl rfl) rfl (fun q => nomatch q) (fun q => nomatch q) ?_
  refine x_sto rfl (o_store (by conv => lhs; whnf) (by conv => lhs; whnf) (by conv => lhs; whnf) rfl Ty.s24 (Nat.le_of_ble_eq_true rfl) rfl) (by conv => lhs; whnf) rfl (Nat.zero_le _) (Nat.le_of_ble_eq_true rfl) rfl (by conv => lhs; whnf) (by conv => lhs; whnf) (by conv => lhs; whnf) (fun q => nomatch q) (fun q => nomatch q) ?_
  refine x0 rfl (o_assign (by conv => lhs; whnf)) (fun q => nomatch q) ?_
  refine x_nil ?_
  refine pw_seq ?_
  refine pw_seq ?_
  refine pw_reg (by kernel_rfl) ?_
  refine x0 rfl (o_move (by conv => lhs; whnf)) (fun q => nomatch q) ?_
  first | (refine x0 rfl (o_lenL (by rfl) Ty.e22 rfl) (fun q => nomatch q) ?_) | (refine x0 rfl (o_lenR (by rfl) (by conv => lhs; whnf) Ty.e22 rfl) (fun q => nomatch q) ?_)
  first | (refine x0 rfl (o_cmp (by rfl) (by rfl) (c_eqT (by omega))) (fun q => nomatch q) ?_) | (refine x0 rfl (o_cmp (by rfl) (by rfl) (c_eqF (by omega))) (fun q => nomatch q) ?_) | (refine x0 rfl (o_cmp (by rfl) (by rfl) (c_eqT (by first | rfl | decide))) (fun q => nomatch q) ?_) | (refine x0 rfl (o_cmp (by rfl) (by rfl) (c_eqF (by first | decide | (simp; done) | (simp; omega)))) (fun q => nomatch q) ?_)
  refine x_nil ?_
  refine pw_cond false (by rfl) (fun q => nomatch q) (fun _ => ?_)
  refine pw_skip ?_
  refine pw_seq ?_
  refine pw_drw [2, 3] Ty.mix (by kernel_rfl) (by kernel_rfl) ?_
  first | (refine x0 rfl (o_loadA (by rfl) (by conv => lhs; whnf) rfl Ty.a24 Ty.s24 (Nat.le_of_ble_eq_true rfl) (by conv => lhs; whnf)) (fun _ => rfl) ?_) | (refine x0 rfl (o_loadRA (by rfl) Ty.a24 Ty.s24 (Nat.le_of_ble_eq_true rfl) (by conv => lhs; whnf)) (fun _ => rfl) ?_)
  refine x7 rfl (fun _ hN => o_move (by conv => lhs; whnf)) rfl ?_
  refine x7 rfl (fun _ hN => o_idxL (m := 0) (by rfl) (by rfl) (by rfl) (show _ = some (PV.int .i64 x) from rfl) Ty.e22 Ty.s3 (by rfl) (by conv => lhs; whnf)) rfl ?_
  first | (refine x7 rfl (fun _ hN => o_loadS (by rfl) (by conv => lhs; whnf) rfl Ty.a3 (by conv => lhs; whnf)) rfl ?_) | (refine x7 rfl (fun _ hN => o_loadRS (by rfl) Ty.a3 (by conv => lhs; whnf)) rfl ?_) | (refine x7 rfl (fun _ hN => n_loadS hN (by rfl) (by rfl) (by conv => lhs; whnf) rfl Ty.a3 (by conv => lhs; whnf)) rfl ?_)
  refine x_sto rfl (o_store (by conv => lhs; whnf) (by conv => lhs; whnf) (by conv => lhs; whnf) rfl Ty.s24 (Nat.le_of_ble_eq_true rfl) rfl) (by conv => lhs; whnf) rfl (Nat.zero_le _) (Nat.le_of_ble_eq_true rfl) rfl (by conv => lhs; whnf) (by conv => lhs; whnf) (by conv => lhs; whnf) (fun _ => by rfl) (fun _ => trivial) ?_
  refine x7 rfl (fun _ hN => o_assign (by conv => lhs; whnf)) rfl ?_
  refine x7 rfl (fun _ hN => o_assign (by conv => lhs; whnf)) rfl ?_
  refine x_nil ?_
  refine pw_ret ?_
  exact ⟨[_, _, _], ⟨o_loadA (by rfl) (by conv => lhs; whnf) rfl Ty.a24 Ty.s24 (Nat.le_of_ble_eq_true rfl) rfl, ⟨rfl, ⟨rfl, trivial⟩⟩⟩, rfl, by (first | exact .inl rfl | exact .inr rfl)⟩

set_option maxRecDepth 100000 in
set_option maxHeartbeats 4000000 in
theorem its_ok (t : Bool) (L : List PV) (c : Int) : PCalls Try.prog 15 [.agg [.lst t L, .int .i64 c]] (.agg [.lst t L, .int .i64 c]) := by
  refine pc_intro (N := 8) Try.func15 rfl rfl (Nat.le_of_ble_eq_true rfl) fun w0 imm0 => ?_
  refine pw_seq ?_
  refine pw_reg (by kernel_rfl) ?_
  refine x1 rfl (o_box (z := 2) (by conv => lhs; whnf) rfl rfl rfl (by conv => lhs; whnf)) rfl (fun q => nomatch q) (fun q => nomatch q) ?_
  refine x1 rfl (o_alloc (z := 2) rfl Ty.z29 (by conv => lhs; whnf) rfl rfl) rfl (fun q => nomatch q) (fun q => nomatch q) ?_
  refine x_nil ?_
  refine pw_seq ?_
  refine pw_reg (by kernel_rfl) ?_
  first | (refine x0 rfl (o_fieldAddrP (by rfl) Ty.f24_0 (by conv => lhs; whnf)) (fun q => nomatch q) ?_) | (refine x0 rfl (o_fieldAddrR (by rfl) Ty.f24_0 (by conv => lhs; whnf)) (fun q => nomatch q) ?_)
  first | (refine x0 rfl (o_loadS (by rfl) (by conv => lhs; whnf) rfl Ty.a22 (by conv => lhs; whnf)) (fun q => nomatch q) ?_) | (refine x0 rfl (o_loadRS (by rfl) Ty.a22 (by conv => lhs; whnf)) (fun q => nomatch q) ?_)
  first | (refine x0 rfl (o_fieldAddrP (by rfl) Ty.f24_1 (by conv => lhs; whnf)) (fun q => nomatch q) ?_) | (refine x0 rfl (o_fieldAddrR (by rfl) Ty.f24_1 (by conv => lhs; whnf)) (fun q => nomatch q) ?_)
  first | (refine x0 rfl (o_loadS (by rfl) (by conv => lhs; whnf) rfl Ty.a3 (by conv => lhs; whnf)) (fun q => nomatch q) ?_) | (refine x0 rfl (o_loadRS (by rfl) Ty.a3 (by conv => lhs; whnf)) (fun q => nomatch q) ?_)
  refine x0 rfl (o_build (by first | rfl | (conv => lhs; simp only [List.toList_toArray, List.map_cons, List.map_nil])) Ty.p29 Ty.z29 (by conv => lhs; whnf) (by conv => lhs; whnf) rfl) (fun q => nomatch q) ?_
  refine x_sto rfl (o_store (by conv => lhs; whnf) (by conv => lhs; whnf) (by conv => lhs; whnf) rfl Ty.s29 (Nat.le_of_ble_eq_true rfl) rfl) (by conv => lhs; whnf) rfl (Nat.zero_le _) (Nat.le_of_ble_eq_true rfl) rfl (by conv => lhs; whnf) (by conv => lhs; whnf) (by conv => lhs; whnf) (fun q => nomatch q) (fun q => nomatch q) ?_
  refine x_nil ?_
  refine pw_ret ?_
  exact ⟨[_], ⟨o_loadA (by rfl) (by conv => lhs; whnf) rfl Ty.a29 Ty.s29 (Nat.le_of_ble_eq_true rfl) rfl, trivial⟩, rfl, by (first | exact .inl rfl | exact .inr rfl)⟩

set_option maxRecDepth 100000 in
set_option maxHeartbeats 4000000 in
theorem rpush_full (t : Bool) (L M : List PV) (hM : L = M) (c x : Int) (hc : c ≤ L.length) : PCalls Try.prog 14 [.agg [.lst t L, .int .i64 c], .int .i64 x] (.tup [.agg [.lst t M, .int .i64 c], .int .i64 4]) := by
  subst hM
  refine pc_intro (N := 23) Try.func14 rfl rfl (Nat.le_of_ble_eq_true rfl) fun w0 imm0 => ?_
  refine pw_seq ?_
  refine pw_reg (by kernel_rfl) ?_
  refine x1 rfl (o_box (z := 2) (by conv => lhs; whnf) rfl rfl rfl (by conv => lhs; whnf)) rfl (fun q => nomatch q) (fun q => nomatch q) ?_
  refine x1 rfl (o_alloc (z := 2) rfl Ty.z29 (by conv => lhs; whnf) rfl rfl) rfl (fun q => nomatch q) (fun q => nomatch q) ?_
  refine x0 rfl (o_assign (by conv => lhs; whnf)) (fun q => nomatch q) ?_
  refine x_nil ?_
  refine pw_seq ?_
  refine pw_seq ?_
  refine pw_reg (by kernel_rfl) ?_
  first | (refine x0 rfl (o_fieldAddrP (by rfl) Ty.f29_0 (by conv => lhs; whnf)) (fun q => nomatch q) ?_) | (refine x0 rfl (o_fieldAddrR (by rfl) Ty.f29_0 (by conv => lhs; whnf)) (fun q => nomatch q) ?_)
  first | (refine x0 rfl (o_loadS (by rfl) (by conv => lhs; whnf) rfl Ty.a22 (by conv => lhs; whnf)) (fun q => nomatch q) ?_) | (refine x0 rfl (o_loadRS (by rfl) Ty.a22 (by conv => lhs; whnf)) (fun q => nomatch q) ?_)
  first | (refine x0 rfl (o_lenL (by rfl) Ty.e22 rfl) (fun q => nomatch q) ?_) | (refine x0 rfl (o_lenR (by rfl) (by conv => lhs; whnf) Ty.e22 rfl) (fun q => nomatch q) ?_)
  first | (refine x0 rfl (o_fieldAddrP (by rfl) Ty.f29_1 (by conv => lhs; whnf)) (fun q => nomatch q) ?_) | (refine x0 rfl (o_fieldAddrR (by rfl) Ty.f29_1 (by conv => lhs; whnf)) (fun q => nomatch q) ?_)
  first | (refine x0 rfl (o_loadS (by rfl) (by conv => lhs; whnf) rfl Ty.a3 (by conv => lhs; whnf)) (fun q => nomatch q) ?_) | (refine x0 rfl (o_loadRS (by rfl) Ty.a3 (by conv => lhs; whnf)) (fun q => nomatch q) ?_)
  first | (refine x0 rfl (o_cmp (by rfl) (by rfl) (c_geT (by omega))) (fun q => nomatch q) ?_) | (refine x0 rfl (o_cmp (by rfl) (by rfl) (c_geF (by omega))) (fun q => nomatch q) ?_) | (refine x0 rfl (o_cmp (by rfl) (by rfl) (c_geT (by first | rfl | decide))) (fun q => nomatch q) ?_) | (refine x0 rfl (o_cmp (by rfl) (by rfl) (c_geF (by first | decide | (simp; done) | (simp; omega)))) (fun q => nomatch q) ?_)
  refine x_nil ?_
  refine pw_cond true (by rfl) (fun _ => ?_) (fun q => nomatch q)
  refine pw_seq ?_
  refine pw_reg (by kernel_rfl) ?_
  first | (refine x0 rfl (o_loadA (by rfl) (by conv => lhs; whnf) rfl Ty.a29 Ty.s29 (Nat.le_of_ble_eq_true rfl) (by conv => lhs; whnf)) (fun q => nomatch q) ?_) | (refine x0 rfl (o_loadRA (by rfl) Ty.a29 Ty.s29 (Nat.le_of_ble_eq_true rfl) (by conv => lhs; whnf)) (fun q => nomatch q) ?_)
  refine x_sto rfl (o_store (by conv => lhs; whnf) (by conv => lhs; whnf) (by conv => lhs; whnf) rfl Ty.s29 (Nat.le_of_ble_eq_true rfl) rfl) (by conv => lhs; whnf) rfl (Nat.zero_le _) (Nat.le_of_ble_eq_true rfl) rfl (by conv => lhs; whnf) (by conv => lhs; whnf) (by conv => lhs; whnf) (fun q => nomatch q) (fun q => nomatch q) ?_
  refine x0 rfl (o_assign (by conv => lhs; whnf)) (fun q => nomatch q) ?_
  refine x_nil ?_
  refine pw_ret ?_
  exact ⟨[_, _], ⟨o_loadA (by rfl) (by conv => lhs; whnf) rfl Ty.a29 Ty.s29 (Nat.le_of_ble_eq_true rfl) rfl, ⟨rfl, trivial⟩⟩, rfl, by (first | exact .inl rfl | exact .inr rfl)⟩

set_option maxRecDepth 100000 in
set_option maxHeartbeats 4000000 in
theorem rpush_ok (t : Bool) (L M : List PV) (hL : ∀ e ∈ L, e.cells.length = 1) (c x : Int) (hM : L ++ [.int .i64 x] = M) (hc : L.length < c) (hfit : (L.length + 1) * 8 ≤ 140737488355328) : PCalls Try.prog 14 [.agg [.lst t L, .int .i64 c], .int .i64 x] (.tup [.agg [.lst false M, .int .i64 c], .int .i64 0]) := by
  subst hM
  refine pc_intro (N := 23) Try.func14 rfl rfl (Nat.le_of_ble_eq_true rfl) fun w0 imm0 => ?_
  refine pw_seq ?_
  refine pw_reg (by kernel_rfl) ?_
  refine x1 rfl (o_box (z := 2) (by conv => lhs; whnf) rfl rfl rfl (by conv => lhs; whnf)) rfl (fun q => nomatch q) (fun q => nomatch q) ?_
  refine x1 rfl (o_alloc (z := 2) rfl Ty.z29 (by conv => lhs; whnf) rfl rfl) rfl (fun q => nomatch q) (fun q => nomatch q) ?_
  refine x0 rfl (o_assign (by conv => lhs; whnf)) (fun q => nomatch q) ?_
  refine x_nil ?_
  refine pw_seq ?_
  refine pw_seq ?_
  refine pw_reg (by kernel_rfl) ?_
  first | (refine x0 rfl (o_fieldAddrP (by rfl) Ty.f29_0 (by conv => lhs; whnf)) (fun q => nomatch q) ?_) | (refine x0 rfl (o_fieldAddrR (by rfl) Ty.f29_0 (by conv => lhs; whnf)) (fun q => nomatch q) ?_)
  first | (refine x0 rfl (o_loadS (by rfl) (by conv => lhs; whnf) rfl Ty.a22 (by conv => lhs; whnf)) (fun q => nomatch q) ?_) | (refine x0 rfl (o_loadRS (by rfl) Ty.a22 (by conv => lhs; whnf)) (fun q => nomatch q) ?_)
  first | (refine x0 rfl (o_lenL (by rfl) Ty.e22 rfl) (fun q => nomatch q) ?_) | (refine x0 rfl (o_lenR (by rfl) (by conv => lhs; whnf) Ty.e22 rfl) (fun q => nomatch q) ?_)
  first | (refine x0 rfl (o_fieldAddrP (by rfl) Ty.f29_1 (by conv => lhs; whnf)) (fun q => nomatch q) ?_) | (refine x0 rfl (o_fieldAddrR (by rfl) Ty.f29_1 (by conv => lhs; whnf)) (fun q => nomatch q) ?_)
  first | (refine x0 rfl (o_loadS (by rfl) (by conv => lhs; whnf) rfl Ty.a3 (by conv => lhs; whnf)) (fun q => nomatch q) ?_) | (refine x0 rfl (o_loadRS (by rfl) Ty.a3 (by conv => lhs; whnf)) (fun q => nomatch q) ?_)
  first | (refine x0 rfl (o_cmp (by rfl) (by rfl) (c_geT (by omega))) (fun q => nomatch q) ?_) | (refine x0 rfl (o_cmp (by rfl) (by rfl) (c_geF (by omega))) (fun q => nomatch q) ?_) | (refine x0 rfl (o_cmp (by rfl) (by rfl) (c_geT (by first | rfl | decide))) (fun q => nomatch q) ?_) | (refine x0 rfl (o_cmp (by rfl) (by rfl) (c_geF (by first | decide | (simp; done) | (simp; omega)))) (fun q => nomatch q) ?_)
  refine x_nil ?_
  refine pw_cond false (by rfl) (fun q => nomatch q) (fun _ => ?_)
  refine pw_skip ?_
  refine pw_seq ?_
  refine pw_drw [] Ty.mix (by kernel_rfl) (by kernel_rfl) ?_
  refine x0 rfl (o_nslice rfl Ty.e22 Ty.s3) (fun _ => .inl rfl) ?_
  first | (refine x7 rfl (fun _ hN => o_fieldAddrP (by rfl) Ty.f29_0 (by conv => lhs; whnf)) rfl ?_) | (refine x7 rfl (fun _ hN => o_fieldAddrR (by rfl) Ty.f29_0 (by conv => lhs; whnf)) rfl ?_)
  first | (refine x0 rfl (o_loadS (by rfl) (by conv => lhs; whnf) rfl Ty.a22 (by conv => lhs; whnf)) (fun _ => rfl) ?_) | (refine x0 rfl (o_loadRS (by rfl) Ty.a22 (by conv => lhs; whnf)) (fun _ => rfl) ?_)
  refine x1 rfl (o_appT rfl (by conv => lhs; whnf) (by first | exact .inl ⟨_, rfl, rfl⟩ | exact .inr ⟨_, _, rfl, rfl, rfl, rfl⟩) Ty.e22 Ty.s3 Ty.b3 Ty.z3 rfl (fun e he => hL e (by simpa using he)) (by simp; omega) (by simp; omega) rfl rfl) rfl (fun _ => by rfl) (fun _ => .inl ⟨_, _, rfl⟩) ?_
  refine x7 rfl (fun _ hN => o_move (by conv => lhs; whnf)) rfl ?_
  refine x1 rfl (o_bslice (els := [.int .i64 x]) (cl := true) rfl (by first | rfl | (conv => lhs; simp only [List.toList_toArray, List.map_cons, List.map_nil])) Ty.e22 Ty.s3 Ty.z3 rfl rfl (Nat.le_of_ble_eq_true rfl) rfl (fun _ => rfl)) rfl (fun _ => by rfl) (fun _ => .inr ⟨_, _, rfl⟩) ?_
  refine x_app rfl (o_appR rfl (by conv => lhs; whnf) (by conv => lhs; whnf) (by first | exact .inl ⟨_, rfl, rfl⟩ | exact .inr ⟨_, _, rfl, rfl, rfl, rfl⟩) Ty.e22 Ty.s3 Ty.b3 Ty.z3 rfl (fun e he => (List.mem_append.1 he).elim (hL e) (fun q => by cases List.mem_singleton.1 q; rfl)) rfl (by simp; omega) (by simp; omega) rfl rfl (by conv => lhs; whnf)) rfl (by conv => lhs; whnf) rfl (fun _ => by rfl) (fun _ => .inr ⟨_, _, _, rfl⟩) ?_
  first | (refine x7 rfl (fun _ hN => o_fieldAddrP (by rfl) Ty.f29_1 (by conv => lhs; whnf)) rfl ?_) | (refine x7 rfl (fun _ hN => o_fieldAddrR (by rfl) Ty.f29_1 (by conv => lhs; whnf)) rfl ?_)
  first | (refine x0 rfl (o_loadS (by rfl) (by conv => lhs; whnf) rfl Ty.a3 (by conv => lhs; whnf)) (fun _ => rfl) ?_) | (refine x0 rfl (o_loadRS (by rfl) Ty.a3 (by conv => lhs; whnf)) (fun _ => rfl) ?_)
  refine x7 rfl (fun _ hN => o_build (by first | rfl | (conv => lhs; simp only [List.toList_toArray, List.map_cons, List.map_nil])) Ty.p29 Ty.z29 (by conv => lhs; whnf) (by conv => lhs; whnf) rfl) rfl ?_
  refine x_sto rfl (o_store (by conv => lhs; whnf) (by conv => lhs; whnf) (by conv => lhs; whnf) rfl Ty.s29 (Nat.le_of_ble_eq_true rfl) rfl) (by conv => lhs; whnf) rfl (Nat.zero_le _) (Nat.le_of_ble_eq_true rfl) rfl (by conv => lhs; whnf) (by conv => lhs; whnf) (by conv => lhs; whnf) (fun _ => by rfl) (fun _ => trivial) ?_
  refine x7 rfl (fun _ hN => o_assign (by conv => lhs; whnf)) rfl ?_
  refine x_nil ?_
  refine pw_ret ?_
  exact ⟨[_, _], ⟨o_loadA (by rfl) (by conv => lhs; whnf) rfl Ty.a29 Ty.s29 (Nat.le_of_ble_eq_true rfl) rfl, ⟨rfl, trivial⟩⟩, rfl, by (first | exact .inl rfl | exact .inr rfl)⟩

set_option maxRecDepth 100000 in
set_option maxHeartbeats 4000000 in
theorem rpop_nil (t : Bool) (C : List PV) (hC : C = []) (c : Int) : PCalls Try.prog 17 [.agg [.lst t C, .int .i64 c]] (.tup [.agg [.lst t C, .int .i64 c], .int .i64 0, .int .i64 10]) := by
  subst hC
  refine pc_intro (N := 20) Try.func17 rfl rfl (Nat.le_of_ble_eq_true rfl) fun w0 imm0 => ?_
  refine pw_seq ?_
  refine pw_reg (by kernel_rfl) ?_
  refine x1 rfl (o_box (z := 2) (by conv => lhs; whnf) rfl rfl rfl (by conv => lhs; whnf)) rfl (fun q => nomatch q) (fun q => nomatch q) ?_
  refine x1 rfl (o_alloc (z := 2) rfl Ty.z29 (by conv => lhs; whnf) rfl rfl) rfl (fun q => nomatch q) (fun q => nomatch q) ?_
  refine x0 rfl (o_assign (by conv => lhs; whnf)) (fun q => nomatch q) ?_
  refine x0 rfl (o_assign (by conv => lhs; whnf)) (fun q => nomatch q) ?_
  refine x_nil ?_
  refine pw_seq ?_
  refine pw_seq ?_
  refine pw_reg (by kernel_rfl) ?_
  first | (refine x0 rfl (o_fieldAddrP (by rfl) Ty.f29_0 (by conv => lhs; whnf)) (fun q => nomatch q) ?_) | (refine x0 rfl (o_fieldAddrR (by rfl) Ty.f29_0 (by conv => lhs; whnf)) (fun q => nomatch q) ?_)
  first | (refine x0 rfl (o_loadS (by rfl) (by conv => lhs; whnf) rfl Ty.a22 (by conv => lhs; whnf)) (fun q => nomatch q) ?_) | (refine x0 rfl (o_loadRS (by rfl) Ty.a22 (by conv => lhs; whnf)) (fun q => nomatch q) ?_)
  first | (refine x0 rfl (o_lenL (by rfl) Ty.e22 rfl) (fun q => nomatch q) ?_) | (refine x0 rfl (o_lenR (by rfl) (by conv => lhs; whnf) Ty.e22 rfl) (fun q => nomatch q) ?_)
  first | (refine x0 rfl (o_cmp (by rfl) (by rfl) (c_eqT (by omega))) (fun q => nomatch q) ?_) | (refine x0 rfl (o_cmp (by rfl) (by rfl) (c_eqF (by omega))) (fun q => nomatch q) ?_) | (refine x0 rfl (o_cmp (by rfl) (by rfl) (c_eqT (by first | rfl | decide))) (fun q => nomatch q) ?_) | (refine x0 rfl (o_cmp (by rfl) (by rfl) (c_eqF (by first | decide | (simp; done) | (simp; omega)))) (fun q => nomatch q) ?_)
  refine x_nil ?_
  refine pw_cond true (by rfl) (fun _ => ?_) (fun q => nomatch q)
  refine pw_seq ?_
  refine pw_reg (by kernel_rfl) ?_
  first | (refine x0 rfl (o_loadA (by rfl) (by conv => lhs; whnf) rfl Ty.a29 Ty.s29 (Nat.le_of_ble_eq_true rfl) (by conv => lhs; whnf)) (fun q => nomatch q) ?_) | (refine x0 rfl (o_loadRA (by rfl) Ty.a29 Ty.s29 (Nat.le_of_ble_eq_true rfl) (by conv => lhs; whnf)) (fun q => nomatch q) ?_)
  refine x_sto rfl (o_store (by conv => lhs; whnf) (by conv => lhs; whnf) (by conv => lhs; whnf) rfl Ty.s29 (Nat.le_of_ble_eq_true rfl) rfl) (by conv => lhs; whnf) rfl (Nat.zero_le _) (Nat.le_of_ble_eq_true rfl) rfl (by conv => lhs; whnf) (by conv => lhs; whnf) (by conv => lhs; whnf) (fun q => nomatch q) (fun q => nomatch q) ?_
  refine x0 rfl (o_assign (by conv => lhs; whnf)) (fun q => nomatch q) ?_
  refine x0 rfl (o_assign (by conv => lhs; whnf)) (fun q => nomatch q) ?_
  refine x_nil ?_
  refine pw_ret ?_
  exact ⟨[_, _, _], ⟨o_loadA (by rfl) (by conv => lhs; whnf) rfl Ty.a29 Ty.s29 (Nat.le_of_ble_eq_true rfl) rfl, ⟨rfl, ⟨rfl, trivial⟩⟩⟩, rfl, by (first | exact .inl rfl | exact .inr rfl)⟩

set_option maxRecDepth 100000 in
set_option maxHeartbeats 4000000 in
theorem rpop_ok (t : Bool) (x c : Int) (C M : List PV) (hC : C = .int .i64 x :: M) (hM : ∀ e ∈ M, e.cells.length = 1) : PCalls Try.prog 17 [.agg [.lst t C, .int .i64 c]] (.tup [.agg [.lst t M, .int .i64 c], .int .i64 x, .int .i64 0]) := by
  subst hC
  refine pc_intro (N := 20) Try.func17 rfl rfl (Nat.le_of_ble_eq_true rfl) fun w0 imm0 => ?_
  refine pw_seq ?_
  refine pw_reg (by kernel_rfl) ?_
  refine x1 rfl (o_box (z := 2) (by conv => lhs; whnf) rfl rfl rfl (by conv => lhs; whnf)) rfl (fun q => nomatch q) (fun q => nomatch q) ?_
  refine x1 rfl (o_alloc (z := 2) rfl Ty.z29 (by conv => lhs; whnf) rfl rfl) rfl (fun q => nomatch q) (fun q => nomatch q) ?_
  refine x0 rfl (o_assign (by conv => lhs; whnf)) (fun q => nomatch q) ?_
  refine x0 rfl (o_assign (by conv => lhs; whnf)) (fun q => nomatch q) ?_
  refine x_nil ?_
  refine pw_seq ?_
  refine pw_seq ?_
  refine pw_reg (by kernel_rfl) ?_
  first | (refine x0 rfl (o_fieldAddrP (by rfl) Ty.f29_0 (by conv => lhs; whnf)) (fun q => nomatch q) ?_) | (refine x0 rfl (o_fieldAddrR (by rfl) Ty.f29_0 (by conv => lhs; whnf)) (fun q => nomatch q) ?_)
  first | (refine x0 rfl (o_loadS (by rfl) (by conv => lhs; whnf) rfl Ty.a22 (by conv => lhs; whnf)) (fun q => nomatch q) ?_) | (refine x0 rfl (o_loadRS (by rfl) Ty.a22 (by conv => lhs; whnf)) (fun q => nomatch q) ?_)
  first | (refine x0 rfl (o_lenL (by rfl) Ty.e22 rfl) (fun q => nomatch q) ?_) | (refine x0 rfl (o_lenR (by rfl) (by conv => lhs; whnf) Ty.e22 rfl) (fun q => nomatch q) ?_)
  first | (refine x0 rfl (o_cmp (by rfl) (by rfl) (c_eqT (by omega))) (fun q => nomatch q) ?_) | (refine x0 rfl (o_cmp (by rfl) (by rfl) (c_eqF (by omega))) (fun q => nomatch q) ?_) | (refine x0 rfl (o_cmp (by rfl) (by rfl) (c_eqT (by first | rfl | decide))) (fun q => nomatch q) ?_) | (refine x0 rfl (o_cmp (by rfl) (by rfl) (c_eqF (by first | decide | (simp; done) | (simp; omega)))) (fun q => nomatch q) ?_)
  refine x_nil ?_
  refine pw_cond false (by rfl) (fun q => nomatch q) (fun _ => ?_)
  refine pw_skip ?_
  refine pw_seq ?_
  refine pw_drw [7, 8, 9, 1001] Ty.mix (by kernel_rfl) (by kernel_rfl) ?_
  first | (refine x7 rfl (fun _ hN => o_fieldAddrP (by rfl) Ty.f29_0 (by conv => lhs; whnf)) rfl ?_) | (refine x7 rfl (fun _ hN => o_fieldAddrR (by rfl) Ty.f29_0 (by conv => lhs; whnf)) rfl ?_)
  first | (refine x0 rfl (o_loadS (by rfl) (by conv => lhs; whnf) rfl Ty.a22 (by conv => lhs; whnf)) (fun _ => rfl) ?_) | (refine x0 rfl (o_loadRS (by rfl) Ty.a22 (by conv => lhs; whnf)) (fun _ => rfl) ?_)
  refine x0 rfl (o_slice (t' := t) (ys := M) (i := 1) (j := M.length + 1) (k := M.length + 1) (by conv => lhs; whnf) Ty.e22 Ty.s3 (fun e he => (List.mem_cons.1 he).elim (fun q => by cases q; rfl) (hM e)) ⟨_, rfl⟩ rfl rfl (by first | (intro _; rfl) | (intro q; cases q)) (by first | omega | (simp only [List.length_cons]; omega)) (by first | omega | (simp only [List.length_cons]; omega)) (by first | omega | (simp only [List.length_cons]; omega)) (by simp) (by simp)) (fun _ => rfl) ?_
  first | (refine x7 rfl (fun _ hN => o_fieldAddrP (by rfl) Ty.f29_1 (by conv => lhs; whnf)) rfl ?_) | (refine x7 rfl (fun _ hN => o_fieldAddrR (by rfl) Ty.f29_1 (by conv => lhs; whnf)) rfl ?_)
  first | (refine x0 rfl (o_loadS (by rfl) (by conv => lhs; whnf) rfl Ty.a3 (by conv => lhs; whnf)) (fun _ => rfl) ?_) | (refine x0 rfl (o_loadRS (by rfl) Ty.a3 (by conv => lhs; whnf)) (fun _ => rfl) ?_)
  refine x7 rfl (fun _ hN => o_build (by first | rfl | (conv => lhs; simp only [List.toList_toArray, List.map_cons, List.map_nil])) Ty.p29 Ty.z29 (by conv => lhs; whnf) (by conv => lhs; whnf) rfl) rfl ?_
  first | (refine x7 rfl (fun _ hN => o_fieldAddrP (by rfl) Ty.f29_0 (by conv => lhs; whnf)) rfl ?_) | (refine x7 rfl (fun _ hN => o_fieldAddrR (by rfl) Ty.f29_0 (by conv => lhs; whnf)) rfl ?_)
  first | (refine x7 rfl (fun _ hN => o_loadS (by rfl) (by conv => lhs; whnf) rfl Ty.a22 (by conv => lhs; whnf)) rfl ?_) | (refine x7 rfl (fun _ hN => o_loadRS (by rfl) Ty.a22 (by conv => lhs; whnf)) rfl ?_) | (refine x7 rfl (fun _ hN => n_loadS hN (by rfl) (by rfl) (by conv => lhs; whnf) rfl Ty.a22 (by conv => lhs; whnf)) rfl ?_)
  first | (refine x7 rfl (fun _ hN => o_idxL (m := 0) (by rfl) (by rfl) (by rfl) (by rfl) Ty.e22 Ty.s3 (by rfl) (by conv => lhs; whnf)) rfl ?_) | (refine x7 rfl (fun _ hN => o_idxR (m := 0) (by rfl) (by conv => lhs; whnf) (by rfl) (by rfl) (by rfl) Ty.e22 Ty.s3 rfl) rfl ?_)
  first | (refine x7 rfl (fun _ hN => o_loadS (by rfl) (by conv => lhs; whnf) rfl Ty.a3 (by conv => lhs; whnf)) rfl ?_) | (refine x7 rfl (fun _ hN => o_loadRS (by rfl) Ty.a3 (by conv => lhs; whnf)) rfl ?_) | (refine x7 rfl (fun _ hN => n_loadS hN (by rfl) (by rfl) (by conv => lhs; whnf) rfl Ty.a3 (by conv => lhs; whnf)) rfl ?_)
  refine x_sto rfl (o_store (by conv => lhs; whnf) (by conv => lhs; whnf) (by conv => lhs; whnf) rfl Ty.s29 (Nat.le_of_ble_eq_true rfl) rfl) (by conv => lhs; whnf) rfl (Nat.zero_le _) (Nat.le_of_ble_eq_true rfl) rfl (by conv => lhs; whnf) (by conv => lhs; whnf) (by conv => lhs; whnf) (fun _ => by rfl) (fun _ => trivial) ?_
  refine x7 rfl (fun _ hN => o_assign (by conv => lhs; whnf)) rfl ?_
  refine x7 rfl (fun _ hN => o_assign (by conv => lhs; whnf)) rfl ?_
  refine x_nil ?_
  refine pw_ret ?_
  exact ⟨[_, _, _], ⟨o_loadA (by rfl) (by conv => lhs; whnf) rfl Ty.a29 Ty.s29 (Nat.le_of_ble_eq_true rfl) rfl, ⟨rfl, ⟨rfl, trivial⟩⟩⟩, rfl, by (first | exact .inl rfl | exact .inr rfl)⟩

set_option maxRecDepth 100000 in
set_option maxHeartbeats 4000000 in
theorem rdrain_lo (t : Bool) (L : List PV) (hL : ∀ e ∈ L, e.cells.length = 1) (c : Int) (n : Int) (k : Nat) (hk : (k : Int) = max 0 (min n L.length)) (hn : n < 0) : PCalls Try.prog 19 [.agg [.lst t L, .int .i64 c], .int .i64 n] (.tup [.agg [.lst t (L.drop k), .int .i64 c], .lst (t && decide (k = L.length)) (L.take k)]) := by
  refine pc_intro (N := 27) Try.func19 rfl rfl (Nat.le_of_ble_eq_true rfl) fun w0 imm0 => ?_
  refine pw_seq ?_
  refine pw_reg (by kernel_rfl) ?_
  obtain rfl : k = 0 := by omega
  refine x1 rfl (o_box (z := 2) (by conv => lhs; whnf) rfl rfl rfl (by conv => lhs; whnf)) rfl (fun q => nomatch q) (fun q => nomatch q) ?_
  refine x1 rfl (o_alloc (z := 2) rfl Ty.z29 (by conv => lhs; whnf) rfl rfl) rfl (fun q => nomatch q) (fun q => nomatch q) ?_
  refine x0 rfl (o_assign (by conv => lhs; whnf)) (fun q => nomatch q) ?_
  refine x_nil ?_
  refine pw_seq ?_
  refine pw_seq ?_
  refine pw_reg (by kernel_rfl) ?_
  refine x0 rfl (o_move (by conv => lhs; whnf)) (fun q => nomatch q) ?_
  first | (refine x0 rfl (o_cmp (by rfl) (by rfl) (c_ltT (by omega))) (fun q => nomatch q) ?_) | (refine x0 rfl (o_cmp (by rfl) (by rfl) (c_ltF (by omega))) (fun q => nomatch q) ?_) | (refine x0 rfl (o_cmp (by rfl) (by rfl) (c_ltT (by first | rfl | decide))) (fun q => nomatch q) ?_) | (refine x0 rfl (o_cmp (by rfl) (by rfl) (c_ltF (by first | decide | (simp; done) | (simp; omega)))) (fun q => nomatch q) ?_)
  refine x_nil ?_
  refine pw_cond true (by rfl) (fun _ => ?_) (fun q => nomatch q)
  refine pw_reg (by kernel_rfl) ?_
  refine x0 rfl (o_assign (by conv => lhs; whnf)) (fun q => nomatch q) ?_
  refine x_nil ?_
  refine pw_seq ?_
  refine pw_seq ?_
  refine pw_reg (by kernel_rfl) ?_
  refine x0 rfl (o_move (by conv => lhs; whnf)) (fun q => nomatch q) ?_
  first | (refine x0 rfl (o_fieldAddrP (by rfl) Ty.f29_0 (by conv => lhs; whnf)) (fun q => nomatch q) ?_) | (refine x0 rfl (o_fieldAddrR (by rfl) Ty.f29_0 (by conv => lhs; whnf)) (fun q => nomatch q) ?_)
  first | (refine x0 rfl (o_loadS (by rfl) (by conv => lhs; whnf) rfl Ty.a22 (by conv => lhs; whnf)) (fun q => nomatch q) ?_) | (refine x0 rfl (o_loadRS (by rfl) Ty.a22 (by conv => lhs; whnf)) (fun q => nomatch q) ?_)
  first | (refine x0 rfl (o_lenL (by rfl) Ty.e22 rfl) (fun q => nomatch q) ?_) | (refine x0 rfl (o_lenR (by rfl) (by conv => lhs; whnf) Ty.e22 rfl) (fun q => nomatch q) ?_)
  first | (refine x0 rfl (o_cmp (by rfl) (by rfl) (c_gtT (by omega))) (fun q => nomatch q) ?_) | (refine x0 rfl (o_cmp (by rfl) (by rfl) (c_gtF (by omega))) (fun q => nomatch q) ?_) | (refine x0 rfl (o_cmp (by rfl) (by rfl) (c_gtT (by first | rfl | decide))) (fun q => nomatch q) ?_) | (refine x0 rfl (o_cmp (by rfl) (by rfl) (c_gtF (by first | decide | (simp; done) | (simp; omega)))) (fun q => nomatch q) ?_)
  refine x_nil ?_
  refine pw_cond false (by rfl) (fun q => nomatch q) (fun _ => ?_)
  refine pw_skip ?_
  refine pw_seq ?_
  refine pw_drw [8, 10, 1002] Ty.mix (by kernel_rfl) (by kernel_rfl) ?_
  first | (refine x7 rfl (fun _ hN => o_fieldAddrP (by rfl) Ty.f29_0 (by conv => lhs; whnf)) rfl ?_) | (refine x7 rfl (fun _ hN => o_fieldAddrR (by rfl) Ty.f29_0 (by conv => lhs; whnf)) rfl ?_)
  first | (refine x0 rfl (o_loadS (by rfl) (by conv => lhs; whnf) rfl Ty.a22 (by conv => lhs; whnf)) (fun _ => rfl) ?_) | (refine x0 rfl (o_loadRS (by rfl) Ty.a22 (by conv => lhs; whnf)) (fun _ => rfl) ?_)
  refine x7 rfl (fun _ hN => o_move (by conv => lhs; whnf)) rfl ?_
  refine x0 rfl (o_slice (t' := t) (ys := (L.drop (0))) (i := 0) (j := L.length) (k := L.length) (by conv => lhs; whnf) Ty.e22 Ty.s3 hL ⟨_, rfl⟩ rfl rfl (by first | (intro _; rfl) | (intro q; cases q)) (by first | omega | (simp only [List.length_cons]; omega)) (by first | omega | (simp only [List.length_cons]; omega)) (by first | omega | (simp only [List.length_cons]; omega)) (by simp) (by simp)) (fun _ => rfl) ?_
  first | (refine x7 rfl (fun _ hN => o_fieldAddrP (by rfl) Ty.f29_1 (by conv => lhs; whnf)) rfl ?_) | (refine x7 rfl (fun _ hN => o_fieldAddrR (by rfl) Ty.f29_1 (by conv => lhs; whnf)) rfl ?_)
  first | (refine x0 rfl (o_loadS (by rfl) (by conv => lhs; whnf) rfl Ty.a3 (by conv => lhs; whnf)) (fun _ => rfl) ?_) | (refine x0 rfl (o_loadRS (by rfl) Ty.a3 (by conv => lhs; whnf)) (fun _ => rfl) ?_)
  refine x7 rfl (fun _ hN => o_build (by first | rfl | (conv => lhs; simp only [List.toList_toArray, List.map_cons, List.map_nil])) Ty.p29 Ty.z29 (by conv => lhs; whnf) (by conv => lhs; whnf) rfl) rfl ?_
  first | (refine x7 rfl (fun _ hN => o_fieldAddrP (by rfl) Ty.f29_0 (by conv => lhs; whnf)) rfl ?_) | (refine x7 rfl (fun _ hN => o_fieldAddrR (by rfl) Ty.f29_0 (by conv => lhs; whnf)) rfl ?_)
  first | (refine x7 rfl (fun _ hN => o_loadS (by rfl) (by conv => lhs; whnf) rfl Ty.a22 (by conv => lhs; whnf)) rfl ?_) | (refine x7 rfl (fun _ hN => o_loadRS (by rfl) Ty.a22 (by conv => lhs; whnf)) rfl ?_) | (refine x7 rfl (fun _ hN => n_loadS hN (by rfl) (by rfl) (by conv => lhs; whnf) rfl Ty.a22 (by conv => lhs; whnf)) rfl ?_)
  refine x7 rfl (fun _ hN => o_move (by conv => lhs; whnf)) rfl ?_
  refine x7 rfl (fun _ hN => o_slice (t' := (t && decide (0 = L.length))) (ys := (L.take (0))) (i := 0) (j := 0) (k := L.length) (by conv => lhs; whnf) Ty.e22 Ty.s3 hL rfl ⟨_, rfl⟩ rfl (by first | (intro _; rfl) | (intro q; cases q)) (by first | omega | (simp only [List.length_cons]; omega)) (by first | omega | (simp only [List.length_cons]; omega)) (by first | omega | (simp only [List.length_cons]; omega)) (by simp) (by simp)) rfl ?_
  refine x_sto rfl (o_store (by conv => lhs; whnf) (by conv => lhs; whnf) (by conv => lhs; whnf) rfl Ty.s29 (Nat.le_of_ble_eq_true rfl) rfl) (by conv => lhs; whnf) rfl (Nat.zero_le _) (Nat.le_of_ble_eq_true rfl) rfl (by conv => lhs; whnf) (by conv => lhs; whnf) (by conv => lhs; whnf) (fun _ => by rfl) (fun _ => trivial) ?_
  refine x7 rfl (fun _ hN => o_assign (by conv => lhs; whnf)) rfl ?_
  refine x_nil ?_
  refine pw_ret ?_
  exact ⟨[_, _], ⟨o_loadA (by rfl) (by conv => lhs; whnf) rfl Ty.a29 Ty.s29 (Nat.le_of_ble_eq_true rfl) rfl, ⟨rfl, trivial⟩⟩, rfl, by (first | exact .inl rfl | exact .inr rfl)⟩

set_option maxRecDepth 100000 in
set_option maxHeartbeats 4000000 in
theorem rdrain_hi (t : Bool) (L : List PV) (hL : ∀ e ∈ L, e.cells.length = 1) (c : Int) (n : Int) (k : Nat) (hk : (k : Int) = max 0 (min n L.length)) (hn : L.length < n) : PCalls Try.prog 19 [.agg [.lst t L, .int .i64 c], .int .i64 n] (.tup [.agg [.lst t (L.drop k), .int .i64 c], .lst (t && decide (k = L.length)) (L.take k)]) := by
  refine pc_intro (N := 27) Try.func19 rfl rfl (Nat.le_of_ble_eq_true rfl) fun w0 imm0 => ?_
  refine pw_seq ?_
  refine pw_reg (by kernel_rfl) ?_
  obtain rfl : k = L.length := by omega
  refine x1 rfl (o_box (z := 2) (by conv => lhs; whnf) rfl rfl rfl (by conv => lhs; whnf)) rfl (fun q => nomatch q) (fun q => nomatch q) ?_
  refine x1 rfl (o_alloc (z := 2) rfl Ty.z29 (by conv => lhs; whnf) rfl rfl) rfl (fun q => nomatch q) (fun q => nomatch q) ?_
  refine x0 rfl (o_assign (by conv => lhs; whnf)) (fun q => nomatch q) ?_
  refine x_nil ?_
  refine pw_seq ?_
  refine pw_seq ?_
  refine pw_reg (by kernel_rfl) ?_
  refine x0 rfl (o_move (by conv => lhs; whnf)) (fun q => nomatch q) ?_
  first | (refine x0 rfl (o_cmp (by rfl) (by rfl) (c_ltT (by omega))) (fun q => nomatch q) ?_) | (refine x0 rfl (o_cmp (by rfl) (by rfl) (c_ltF (by omega))) (fun q => nomatch q) ?_) | (refine x0 rfl (o_cmp (by rfl) (by rfl) (c_ltT (by first | rfl | decide))) (fun q => nomatch q) ?_) | (refine x0 rfl (o_cmp (by rfl) (by rfl) (c_ltF (by first | decide | (simp; done) | (simp; omega)))) (fun q => nomatch q) ?_)
  refine x_nil ?_
  refine pw_cond false (by rfl) (fun q => nomatch q) (fun _ => ?_)
  refine pw_skip ?_
  refine pw_seq ?_
  refine pw_seq ?_
  refine pw_reg (by kernel_rfl) ?_
  refine x0 rfl (o_move (by conv => lhs; whnf)) (fun q => nomatch q) ?_
  first | (refine x0 rfl (o_fieldAddrP (by rfl) Ty.f29_0 (by conv => lhs; whnf)) (fun q => nomatch q) ?_) | (refine x0 rfl (o_fieldAddrR (by rfl) Ty.f29_0 (by conv => lhs; whnf)) (fun q => nomatch q) ?_)
  first | (refine x0 rfl (o_loadS (by rfl) (by conv => lhs; whnf) rfl Ty.a22 (by conv => lhs; whnf)) (fun q => nomatch q) ?_) | (refine x0 rfl (o_loadRS (by rfl) Ty.a22 (by conv => lhs; whnf)) (fun q => nomatch q) ?_)
  first | (refine x0 rfl (o_lenL (by rfl) Ty.e22 rfl) (fun q => nomatch q) ?_) | (refine x0 rfl (o_lenR (by rfl) (by conv => lhs; whnf) Ty.e22 rfl) (fun q => nomatch q) ?_)
  first | (refine x0 rfl (o_cmp (by rfl) (by rfl) (c_gtT (by omega))) (fun q => nomatch q) ?_) | (refine x0 rfl (o_cmp (by rfl) (by rfl) (c_gtF (by omega))) (fun q => nomatch q) ?_) | (refine x0 rfl (o_cmp (by rfl) (by rfl) (c_gtT (by first | rfl | decide))) (fun q => nomatch q) ?_) | (refine x0 rfl (o_cmp (by rfl) (by rfl) (c_gtF (by first | decide | (simp; done) | (simp; omega)))) (fun q => nomatch q) ?_)
  refine x_nil ?_
  refine pw_cond true (by rfl) (fun _ => ?_) (fun q => nomatch q)
  refine pw_reg (by kernel_rfl) ?_
  first | (refine x0 rfl (o_fieldAddrP (by rfl) Ty.f29_0 (by conv => lhs; whnf)) (fun q => nomatch q) ?_) | (refine x0 rfl (o_fieldAddrR (by rfl) Ty.f29_0 (by conv => lhs; whnf)) (fun q => nomatch q) ?_)
  first | (refine x0 rfl (o_loadS (by rfl) (by conv => lhs; whnf) rfl Ty.a22 (by conv => lhs; whnf)) (fun q => nomatch q) ?_) | (refine x0 rfl (o_loadRS (by rfl) Ty.a22 (by conv => lhs; whnf)) (fun q => nomatch q) ?_)
  first | (refine x0 rfl (o_lenL (by rfl) Ty.e22 rfl) (fun q => nomatch q) ?_) | (refine x0 rfl (o_lenR (by rfl) (by conv => lhs; whnf) Ty.e22 rfl) (fun q => nomatch q) ?_)
  refine x0 rfl (o_assign (by conv => lhs; whnf)) (fun q => nomatch q) ?_
  refine x_nil ?_
  refine pw_seq ?_
  refine pw_drw [8, 10, 1002] Ty.mix (by kernel_rfl) (by kernel_rfl) ?_
  first | (refine x7 rfl (fun _ hN => o_fieldAddrP (by rfl) Ty.f29_0 (by conv => lhs; whnf)) rfl ?_) | (refine x7 rfl (fun _ hN => o_fieldAddrR (by rfl) Ty.f29_0 (by conv => lhs; whnf)) rfl ?_)
  first | (refine x0 rfl (o_loadS (by rfl) (by conv => lhs; whnf) rfl Ty.a22 (by conv => lhs; whnf)) (fun _ => rfl) ?_) | (refine x0 rfl (o_loadRS (by rfl) Ty.a22 (by conv => lhs; whnf)) (fun _ => rfl) ?_)
  refine x7 rfl (fun _ hN => o_move (by conv => lhs; whnf)) rfl ?_
  refine x0 rfl (o_slice (t' := t) (ys := (L.drop (L.length))) (i := L.length) (j := L.length) (k := L.length) (by conv => lhs; whnf) Ty.e22 Ty.s3 hL ⟨_, rfl⟩ rfl rfl (by first | (intro _; rfl) | (intro q; cases q)) (by first | omega | (simp only [List.length_cons]; omega)) (by first | omega | (simp only [List.length_cons]; omega)) (by first | omega | (simp only [List.length_cons]; omega)) (by simp) (by simp)) (fun _ => rfl) ?_
  first | (refine x7 rfl (fun _ hN => o_fieldAddrP (by rfl) Ty.f29_1 (by conv => lhs; whnf)) rfl ?_) | (refine x7 rfl (fun _ hN => o_fieldAddrR (by rfl) Ty.f29_1 (by conv => lhs; whnf)) rfl ?_)
  first | (refine x0 rfl (o_loadS (by rfl) (by conv => lhs; whnf) rfl Ty.a3 (by conv => lhs; whnf)) (fun _ => rfl) ?_) | (refine x0 rfl (o_loadRS (by rfl) Ty.a3 (by conv => lhs; whnf)) (fun _ => rfl) ?_)
  refine x7 rfl (fun _ hN => o_build (by first | rfl | (conv => lhs; simp only [List.toList_toArray, List.map_cons, List.map_nil])) Ty.p29 Ty.z29 (by conv => lhs; whnf) (by conv => lhs; whnf) rfl) rfl ?_
  first | (refine x7 rfl (fun _ hN => o_fieldAddrP (by rfl) Ty.f29_0 (by conv => lhs; whnf)) rfl ?_) | (refine x7 rfl (fun _ hN => o_fieldAddrR (by rfl) Ty.f29_0 (by conv => lhs; whnf)) rfl ?_)
  first | (refine x7 rfl (fun _ hN => o_loadS (by rfl) (by conv => lhs; whnf) rfl Ty.a22 (by conv => lhs; whnf)) rfl ?_) | (refine x7 rfl (fun _ hN => o_loadRS (by rfl) Ty.a22 (by conv => lhs; whnf)) rfl ?_) | (refine x7 rfl (fun _ hN => n_loadS hN (by rfl) (by rfl) (by conv => lhs; whnf) rfl Ty.a22 (by conv => lhs; whnf)) rfl ?_)
  refine x7 rfl (fun _ hN => o_move (by conv => lhs; whnf)) rfl ?_
  refine x7 rfl (fun _ hN => o_slice (t' := (t && decide (L.length = L.length))) (ys := (L.take (L.length))) (i := 0) (j := L.length) (k := L.length) (by conv => lhs; whnf) Ty.e22 Ty.s3 hL rfl ⟨_, rfl⟩ rfl (by first | (intro _; rfl) | (intro q; cases q)) (by first | omega | (simp only [List.length_cons]; omega)) (by first | omega | (simp only [List.length_cons]; omega)) (by first | omega | (simp only [List.length_cons]; omega)) (by simp) (by simp)) rfl ?_
  refine x_sto rfl (o_store (by conv => lhs; whnf) (by conv => lhs; whnf) (by conv => lhs; whnf) rfl Ty.s29 (Nat.le_of_ble_eq_true rfl) rfl) (by conv => lhs; whnf) rfl (Nat.zero_le _) (Nat.le_of_ble_eq_true rfl) rfl (by conv => lhs; whnf) (by conv => lhs; whnf) (by conv => lhs; whnf) (fun _ => by rfl) (fun _ => trivial) ?_
  refine x7 rfl (fun _ hN => o_assign (by conv => lhs; whnf)) rfl ?_
  refine x_nil ?_
  refine pw_ret ?_
  exact ⟨[_, _], ⟨o_loadA (by rfl) (by conv => lhs; whnf) rfl Ty.a29 Ty.s29 (Nat.le_of_ble_eq_true rfl) rfl, ⟨rfl, trivial⟩⟩, rfl, by (first | exact .inl rfl | exact .inr rfl)⟩

set_option maxRecDepth 100000 in
set_option maxHeartbeats 4000000 in
theorem rdrain_mid (t : Bool) (L : List PV) (hL : ∀ e ∈ L, e.cells.length = 1) (c : Int) (n : Int) (k : Nat) (hk : (k : Int) = max 0 (min n L.length)) (h0 : 0 ≤ n) (hn : n ≤ L.length) : PCalls Try.prog 19 [.agg [.lst t L, .int .i64 c], .int .i64 n] (.tup [.agg [.lst t (L.drop k), .int .i64 c], .lst (t && decide (k = L.length)) (L.take k)]) := by
  refine pc_intro (N := 27) Try.func19 rfl rfl (Nat.le_of_ble_eq_true rfl) fun w0 imm0 => ?_
  refine pw_seq ?_
  refine pw_reg (by kernel_rfl) ?_
  obtain rfl : n = (k : Int) := by omega
  refine x1 rfl (o_box (z := 2) (by conv => lhs; whnf) rfl rfl rfl (by conv => lhs; whnf)) rfl (fun q => nomatch q) (fun q => nomatch q) ?_
  refine x1 rfl (o_alloc (z := 2) rfl Ty.z29 (by conv => lhs; whnf) rfl rfl) rfl (fun q => nomatch q) (fun q => nomatch q) ?_
  refine x0 rfl (o_assign (by conv => lhs; whnf)) (fun q => nomatch q) ?_
  refine x_nil ?_
  refine pw_seq ?_
  refine pw_seq ?_
  refine pw_reg (by kernel_rfl) ?_
  refine x0 rfl (o_move (by conv => lhs; whnf)) (fun q => nomatch q) ?_
  first | (refine x0 rfl (o_cmp (by rfl) (by rfl) (c_ltT (by omega))) (fun q => nomatch q) ?_) | (refine x0 rfl (o_cmp (by rfl) (by rfl) (c_ltF (by omega))) (fun q => nomatch q) ?_) | (refine x0 rfl (o_cmp (by rfl) (by rfl) (c_ltT (by first | rfl | decide))) (fun q => nomatch q) ?_) | (refine x0 rfl (o_cmp (by rfl) (by rfl) (c_ltF (by first | decide | (simp; done) | (simp; omega)))) (fun q => nomatch q) ?_)
  refine x_nil ?_
  refine pw_cond false (by rfl) (fun q => nomatch q) (fun _ => ?_)
  refine pw_skip ?_
  refine pw_seq ?_
  refine pw_seq ?_
  refine pw_reg (by kernel_rfl) ?_
  refine x0 rfl (o_move (by conv => lhs; whnf)) (fun q => nomatch q) ?_
  first | (refine x0 rfl (o_fieldAddrP (by rfl) Ty.f29_0 (by conv => lhs; whnf)) (fun q => nomatch q) ?_) | (refine x0 rfl (o_fieldAddrR (by rfl) Ty.f29_0 (by conv => lhs; whnf)) (fun q => nomatch q) ?_)
  first | (refine x0 rfl (o_loadS (by rfl) (by conv => lhs; whnf) rfl Ty.a22 (by conv => lhs; whnf)) (fun q => nomatch q) ?_) | (refine x0 rfl (o_loadRS (by rfl) Ty.a22 (by conv => lhs; whnf)) (fun q => nomatch q) ?_)
  first | (refine x0 rfl (o_lenL (by rfl) Ty.e22 rfl) (fun q => nomatch q) ?_) | (refine x0 rfl (o_lenR (by rfl) (by conv => lhs; whnf) Ty.e22 rfl) (fun q => nomatch q) ?_)
  first | (refine x0 rfl (o_cmp (by rfl) (by rfl) (c_gtT (by omega))) (fun q => nomatch q) ?_) | (refine x0 rfl (o_cmp (by rfl) (by rfl) (c_gtF (by omega))) (fun q => nomatch q) ?_) | (refine x0 rfl (o_cmp (by rfl) (by rfl) (c_gtT (by first | rfl | decide))) (fun q => nomatch q) ?_) | (refine x0 rfl (o_cmp (by rfl) (by rfl) (c_gtF (by first | decide | (simp; done) | (simp; omega)))) (fun q => nomatch q) ?_)
  refine x_nil ?_
  refine pw_cond false (by rfl) (fun q => nomatch q) (fun _ => ?_)
  refine pw_skip ?_
  refine pw_seq ?_
  refine pw_drw [8, 10, 1002] Ty.mix (by kernel_rfl) (by kernel_rfl) ?_
  first | (refine x7 rfl (fun _ hN => o_fieldAddrP (by rfl) Ty.f29_0 (by conv => lhs; whnf)) rfl ?_) | (refine x7 rfl (fun _ hN => o_fieldAddrR (by rfl) Ty.f29_0 (by conv => lhs; whnf)) rfl ?_)
  first | (refine x0 rfl (o_loadS (by rfl) (by conv => lhs; whnf) rfl Ty.a22 (by conv => lhs; whnf)) (fun _ => rfl) ?_) | (refine x0 rfl (o_loadRS (by rfl) Ty.a22 (by conv => lhs; whnf)) (fun _ => rfl) ?_)
  refine x7 rfl (fun _ hN => o_move (by conv => lhs; whnf)) rfl ?_
  refine x0 rfl (o_slice (t' := t) (ys := (L.drop (k))) (i := k) (j := L.length) (k := L.length) (by conv => lhs; whnf) Ty.e22 Ty.s3 hL ⟨_, rfl⟩ rfl rfl (by first | (intro _; rfl) | (intro q; cases q)) (by first | omega | (simp only [List.length_cons]; omega)) (by first | omega | (simp only [List.length_cons]; omega)) (by first | omega | (simp only [List.length_cons]; omega)) (by simp) (by simp)) (fun _ => rfl) ?_
  first | (refine x7 rfl (fun _ hN => o_fieldAddrP (by rfl) Ty.f29_1 (by conv => lhs; whnf)) rfl ?_) | (refine x7 rfl (fun _ hN => o_fieldAddrR (by rfl) Ty.f29_1 (by conv => lhs; whnf)) rfl ?_)
  first | (refine x0 rfl (o_loadS (by rfl) (by conv => lhs; whnf) rfl Ty.a3 (by conv => lhs; whnf)) (fun _ => rfl) ?_) | (refine x0 rfl (o_loadRS (by rfl) Ty.a3 (by conv => lhs; whnf)) (fun _ => rfl) ?_)
  refine x7 rfl (fun _ hN => o_build (by first | rfl | (conv => lhs; simp only [List.toList_toArray, List.map_cons, List.map_nil])) Ty.p29 Ty.z29 (by conv => lhs; whnf) (by conv => lhs; whnf) rfl) rfl ?_
  first | (refine x7 rfl (fun _ hN => o_fieldAddrP (by rfl) Ty.f29_0 (by conv => lhs; whnf)) rfl ?_) | (refine x7 rfl (fun _ hN => o_fieldAddrR (by rfl) Ty.f29_0 (by conv => lhs; whnf)) rfl ?_)
  first | (refine x7 rfl (fun _ hN => o_loadS (by rfl) (by conv => lhs; whnf) rfl Ty.a22 (by conv => lhs; whnf)) rfl ?_) | (refine x7 rfl (fun _ hN => o_loadRS (by rfl) Ty.a22 (by conv => lhs; whnf)) rfl ?_) | (refine x7 rfl (fun _ hN => n_loadS hN (by rfl) (by rfl) (by conv => lhs; whnf) rfl Ty.a22 (by conv => lhs; whnf)) rfl ?_)
  refine x7 rfl (fun _ hN => o_move (by conv => lhs; whnf)) rfl ?_
  refine x7 rfl (fun _ hN => o_slice (t' := (t && decide (k = L.length))) (ys := (L.take (k))) (i := 0) (j := k) (k := L.length) (by conv => lhs; whnf) Ty.e22 Ty.s3 hL rfl ⟨_, rfl⟩ rfl (by first | (intro _; rfl) | (intro q; cases q)) (by first | omega | (simp only [List.length_cons]; omega)) (by first | omega | (simp only [List.length_cons]; omega)) (by first | omega | (simp only [List.length_cons]; omega)) (by simp) (by simp)) rfl ?_
  refine x_sto rfl (o_store (by conv => lhs; whnf) (by conv => lhs; whnf) (by conv => lhs; whnf) rfl Ty.s29 (Nat.le_of_ble_eq_true rfl) rfl) (by conv => lhs; whnf) rfl (Nat.zero_le _) (Nat.le_of_ble_eq_true rfl) rfl (by conv => lhs; whnf) (by conv => lhs; whnf) (by conv => lhs; whnf) (fun _ => by rfl) (fun _ => trivial) ?_
  refine x7 rfl (fun _ hN => o_assign (by conv => lhs; whnf)) rfl ?_
  refine x_nil ?_
  refine pw_ret ?_
  exact ⟨[_, _], ⟨o_loadA (by rfl) (by conv => lhs; whnf) rfl Ty.a29 Ty.s29 (Nat.le_of_ble_eq_true rfl) rfl, ⟨rfl, trivial⟩⟩, rfl, by (first | exact .inl rfl | exact .inr rfl)⟩

set_option maxRecDepth 100000 in
set_option maxHeartbeats 4000000 in
theorem ints_ok (t t2 : Bool) (L : List PV) (hI : Ints L) (hb : L.length ≤ 1000000) : PCalls Try.prog 21 [.lst t L, .lst t2 L] (.bool true) := by
  refine pc_intro (N := 26) Try.func21 rfl rfl (Nat.le_of_ble_eq_true rfl) fun w0 imm0 => ?_
  refine pw_seq ?_
  refine pw_reg (by kernel_rfl) ?_
  refine x0 rfl (o_assign (by conv => lhs; whnf)) (fun q => nomatch q) ?_
  refine x_nil ?_
  refine pw_seq ?_
  refine pw_seq ?_
  refine pw_reg (by kernel_rfl) ?_
  refine x0 rfl (o_move (by conv => lhs; whnf)) (fun q => nomatch q) ?_
  first | (refine x0 rfl (o_lenL (by rfl) Ty.e22 rfl) (fun q => nomatch q) ?_) | (refine x0 rfl (o_lenR (by rfl) (by conv => lhs; whnf) Ty.e22 rfl) (fun q => nomatch q) ?_)
  refine x0 rfl (o_move (by conv => lhs; whnf)) (fun q => nomatch q) ?_
  first | (refine x0 rfl (o_lenL (by rfl) Ty.e22 rfl) (fun q => nomatch q) ?_) | (refine x0 rfl (o_lenR (by rfl) (by conv => lhs; whnf) Ty.e22 rfl) (fun q => nomatch q) ?_)
  first | (refine x0 rfl (o_cmp (by rfl) (by rfl) (c_neT (by omega))) (fun q => nomatch q) ?_) | (refine x0 rfl (o_cmp (by rfl) (by rfl) (c_neF (by omega))) (fun q => nomatch q) ?_) | (refine x0 rfl (o_cmp (by rfl) (by rfl) (c_neT (by first | rfl | decide))) (fun q => nomatch q) ?_) | (refine x0 rfl (o_cmp (by rfl) (by rfl) (c_neF (by first | decide | (simp; done) | (simp; omega)))) (fun q => nomatch q) ?_)
  refine x_nil ?_
  refine pw_cond false (by rfl) (fun q => nomatch q) (fun _ => ?_)
  refine pw_skip ?_
  refine pw_seq ?_
  refine pw_seq ?_
  refine pw_reg (by kernel_rfl) ?_
  refine x0 rfl (o_assign (by conv => lhs; whnf)) (fun q => nomatch q) ?_
  refine x_nil ?_
  refine pw_block ?_
  refine pw_loopW (fun m s => ∃ k : Nat, m = L.length - k ∧ (k ≤ L.length) ∧ s = St.of [(0, .lst t L), (1, .lst t2 L), (5, .int .i64 k)] []) (m := L.length - (0)) (wk_st [(0, .lst t L), (1, .lst t2 L), (5, .int .i64 (0))] [] ⟨rfl, rfl, rfl, rfl, rfl, rfl, rfl, rfl, rfl, trivial⟩ trivial) ⟨0, rfl, (Nat.zero_le _), rfl⟩ ?_
  · rintro _ _ ⟨k, rfl, hk, rfl⟩
    rcases Nat.lt_or_ge k L.length with hk2 | hk2
    · obtain ⟨v, hv⟩ := hI.get hk2
      refine pw_seq ?_
      refine pw_seq ?_
      refine pw_reg (by kernel_rfl) ?_
      refine x0 rfl (o_move (by conv => lhs; whnf)) (fun q => nomatch q) ?_
      refine x0 rfl (o_move (by conv => lhs; whnf)) (fun q => nomatch q) ?_
      first | (refine x0 rfl (o_lenL (by rfl) Ty.e22 rfl) (fun q => nomatch q) ?_) | (refine x0 rfl (o_lenR (by rfl) (by conv => lhs; whnf) Ty.e22 rfl) (fun q => nomatch q) ?_)
      first | (refine x0 rfl (o_cmp (by rfl) (by rfl) (c_ltT (by omega))) (fun q => nomatch q) ?_) | (refine x0 rfl (o_cmp (by rfl) (by rfl) (c_ltF (by omega))) (fun q => nomatch q) ?_) | (refine x0 rfl (o_cmp (by rfl) (by rfl) (c_ltT (by first | rfl | decide))) (fun q => nomatch q) ?_) | (refine x0 rfl (o_cmp (by rfl) (by rfl) (c_ltF (by first | decide | (simp; done) | (simp; omega)))) (fun q => nomatch q) ?_)
      refine x_nil ?_
      refine pw_cond true (by rfl) (fun _ => ?_) (fun q => nomatch q)
      refine pw_skip ?_
      refine pw_seq ?_
      refine pw_block ?_
      refine pw_seq ?_
      refine pw_drw [] Ty.mix (by kernel_rfl) (by kernel_rfl) ?_
      refine x7 rfl (fun _ hN => o_move (by conv => lhs; whnf)) rfl ?_
      refine x7 rfl (fun _ hN => o_move (by conv => lhs; whnf)) rfl ?_
      first | (refine x0 rfl (o_idxL (m := k) (by rfl) (by rfl) rfl hv Ty.e22 Ty.s3 (by rfl) (by conv => lhs; whnf)) (fun _ => rfl) ?_) | (refine x0 rfl (o_idxR (m := k) (by rfl) (by conv => lhs; whnf) (by rfl) rfl hv Ty.e22 Ty.s3 rfl) (fun _ => rfl) ?_)
      first | (refine x0 rfl (o_loadS (by rfl) (by conv => lhs; whnf) rfl Ty.a3 (by conv => lhs; whnf)) (fun _ => rfl) ?_) | (refine x0 rfl (o_loadRS (by rfl) Ty.a3 (by conv => lhs; whnf)) (fun _ => rfl) ?_)
      refine x7 rfl (fun _ hN => o_move (by conv => lhs; whnf)) rfl ?_
      refine x7 rfl (fun _ hN => o_move (by conv => lhs; whnf)) rfl ?_
      first | (refine x0 rfl (o_idxL (m := k) (by rfl) (by rfl) rfl hv Ty.e22 Ty.s3 (by rfl) (by conv => lhs; whnf)) (fun _ => rfl) ?_) | (refine x0 rfl (o_idxR (m := k) (by rfl) (by conv => lhs; whnf) (by rfl) rfl hv Ty.e22 Ty.s3 rfl) (fun _ => rfl) ?_)
      first | (refine x0 rfl (o_loadS (by rfl) (by conv => lhs; whnf) rfl Ty.a3 (by conv => lhs; whnf)) (fun _ => rfl) ?_) | (refine x0 rfl (o_loadRS (by rfl) Ty.a3 (by conv => lhs; whnf)) (fun _ => rfl) ?_)
      first | (refine x7 rfl (fun _ hN => o_cmp (by rfl) (by rfl) (c_neT (by omega))) rfl ?_) | (refine x7 rfl (fun _ hN => o_cmp (by rfl) (by rfl) (c_neF (by omega))) rfl ?_) | (refine x7 rfl (fun _ hN => o_cmp (by rfl) (by rfl) (c_neT (by first | rfl | decide))) rfl ?_) | (refine x7 rfl (fun _ hN => o_cmp (by rfl) (by rfl) (c_neF (by first | decide | (simp; done) | (simp; omega)))) rfl ?_)
      refine x_nil ?_
      refine pw_cond false (by rfl) (fun q => nomatch q) (fun _ => ?_)
      refine pw_skip ?_
      refine pw_reg (by kernel_rfl) ?_
      refine x0 rfl (o_move (by conv => lhs; whnf)) (fun q => nomatch q) ?_
      refine x0 rfl (o_ari (by rfl) (by rfl) (ari_add (by rfl) (by omega) (by omega))) (fun q => nomatch q) ?_
      refine x0 rfl (o_assign (by conv => lhs; whnf)) (fun q => nomatch q) ?_
      refine x_nil ?_
      exact ⟨_, _, (by omega), wk_st [(0, .lst t L), (1, .lst t2 L), (5, .int .i64 (k + 1))] [] ⟨rfl, rfl, rfl, rfl, rfl, rfl, rfl, rfl, rfl, trivial⟩ trivial, k + 1, rfl, (by omega), rfl⟩
    · skip
      refine pw_seq ?_
      refine pw_seq ?_
      refine pw_reg (by kernel_rfl) ?_
      refine x0 rfl (o_move (by conv => lhs; whnf)) (fun q => nomatch q) ?_
      refine x0 rfl (o_move (by conv => lhs; whnf)) (fun q => nomatch q) ?_
      first | (refine x0 rfl (o_lenL (by rfl) Ty.e22 rfl) (fun q => nomatch q) ?_) | (refine x0 rfl (o_lenR (by rfl) (by conv => lhs; whnf) Ty.e22 rfl) (fun q => nomatch q) ?_)
      first | (refine x0 rfl (o_cmp (by rfl) (by rfl) (c_ltT (by omega))) (fun q => nomatch q) ?_) | (refine x0 rfl (o_cmp (by rfl) (by rfl) (c_ltF (by omega))) (fun q => nomatch q) ?_) | (refine x0 rfl (o_cmp (by rfl) (by rfl) (c_ltT (by first | rfl | decide))) (fun q => nomatch q) ?_) | (refine x0 rfl (o_cmp (by rfl) (by rfl) (c_ltF (by first | decide | (simp; done) | (simp; omega)))) (fun q => nomatch q) ?_)
      refine x_nil ?_
      refine pw_cond false (by rfl) (fun q => nomatch q) (fun _ => ?_)
      refine pw_exit ?_
      refine thenQ_exit ?_
      refine thenQ_exit ?_
      refine blockQ_exit ?_
      refine pw_seq ?_
      refine pw_reg (by kernel_rfl) ?_
      refine x0 rfl (o_assign (by conv => lhs; whnf)) (fun q => nomatch q) ?_
      refine x_nil ?_
      refine pw_ret ?_
      exact ⟨[_], ⟨rfl, trivial⟩, rfl, by (first | exact .inl rfl | exact .inr rfl)⟩

set_option maxRecDepth 100000 in
set_option maxHeartbeats 4000000 in
theorem same_ok (t t2 : Bool) (L : List PV) (hI : Ints L) (hb : L.length ≤ 1000000) (c : Int) : PCalls Try.prog 20 [.agg [.lst t L, .int .i64 c], .agg [.lst t2 L, .int .i64 c]] (.bool true) := by
  refine pc_intro (N := 17) Try.func20 rfl rfl (Nat.le_of_ble_eq_true rfl) fun w0 imm0 => ?_
  refine pw_seq ?_
  refine pw_reg (by kernel_rfl) ?_
  refine x1 rfl (o_box (z := 2) (by conv => lhs; whnf) rfl rfl rfl (by conv => lhs; whnf)) rfl (fun q => nomatch q) (fun q => nomatch q) ?_
  refine x1 rfl (o_box (z := 2) (by conv => lhs; whnf) rfl rfl rfl (by conv => lhs; whnf)) rfl (fun q => nomatch q) (fun q => nomatch q) ?_
  refine x0 rfl (o_assign (by conv => lhs; whnf)) (fun q => nomatch q) ?_
  refine x_nil ?_
  refine pw_seq ?_
  refine pw_reg (by kernel_rfl) ?_
  first | (refine x0 rfl (o_fieldAddrP (by rfl) Ty.f29_1 (by conv => lhs; whnf)) (fun q => nomatch q) ?_) | (refine x0 rfl (o_fieldAddrR (by rfl) Ty.f29_1 (by conv => lhs; whnf)) (fun q => nomatch q) ?_)
  first | (refine x0 rfl (o_loadS (by rfl) (by conv => lhs; whnf) rfl Ty.a3 (by conv => lhs; whnf)) (fun q => nomatch q) ?_) | (refine x0 rfl (o_loadRS (by rfl) Ty.a3 (by conv => lhs; whnf)) (fun q => nomatch q) ?_)
  first | (refine x0 rfl (o_fieldAddrP (by rfl) Ty.f29_1 (by conv => lhs; whnf)) (fun q => nomatch q) ?_) | (refine x0 rfl (o_fieldAddrR (by rfl) Ty.f29_1 (by conv => lhs; whnf)) (fun q => nomatch q) ?_)
  first | (refine x0 rfl (o_loadS (by rfl) (by conv => lhs; whnf) rfl Ty.a3 (by conv => lhs; whnf)) (fun q => nomatch q) ?_) | (refine x0 rfl (o_loadRS (by rfl) Ty.a3 (by conv => lhs; whnf)) (fun q => nomatch q) ?_)
  first | (refine x0 rfl (o_cmp (by rfl) (by rfl) (c_eqT (by omega))) (fun q => nomatch q) ?_) | (refine x0 rfl (o_cmp (by rfl) (by rfl) (c_eqF (by omega))) (fun q => nomatch q) ?_) | (refine x0 rfl (o_cmp (by rfl) (by rfl) (c_eqT (by first | rfl | decide))) (fun q => nomatch q) ?_) | (refine x0 rfl (o_cmp (by rfl) (by rfl) (c_eqF (by first | decide | (simp; done) | (simp; omega)))) (fun q => nomatch q) ?_)
  refine x0 rfl (o_move (by conv => lhs; whnf)) (fun q => nomatch q) ?_
  first | (refine x0 rfl (o_fieldAddrP (by rfl) Ty.f29_0 (by conv => lhs; whnf)) (fun q => nomatch q) ?_) | (refine x0 rfl (o_fieldAddrR (by rfl) Ty.f29_0 (by conv => lhs; whnf)) (fun q => nomatch q) ?_) | (refine x_skip rfl ?_)
  first | (refine x0 rfl (o_loadS (by rfl) (by conv => lhs; whnf) rfl Ty.a22 (by conv => lhs; whnf)) (fun q => nomatch q) ?_) | (refine x0 rfl (o_loadRS (by rfl) Ty.a22 (by conv => lhs; whnf)) (fun q => nomatch q) ?_) | (refine x_skip rfl ?_)
  first | (refine x0 rfl (o_fieldAddrP (by rfl) Ty.f29_0 (by conv => lhs; whnf)) (fun q => nomatch q) ?_) | (refine x0 rfl (o_fieldAddrR (by rfl) Ty.f29_0 (by conv => lhs; whnf)) (fun q => nomatch q) ?_) | (refine x_skip rfl ?_)
  first | (refine x0 rfl (o_loadS (by rfl) (by conv => lhs; whnf) rfl Ty.a22 (by conv => lhs; whnf)) (fun q => nomatch q) ?_) | (refine x0 rfl (o_loadRS (by rfl) Ty.a22 (by conv => lhs; whnf)) (fun q => nomatch q) ?_) | (refine x_skip rfl ?_)
  first | (refine x0 rfl (o_call  rfl Try.func21 rfl (by decide) rfl rfl rfl (ints_ok t t2 L hI hb) rfl) (fun q => nomatch q) ?_) | (refine x_skip rfl ?_)
  first | (refine x0 rfl (o_pickT (by rfl) (by conv => lhs; whnf)) (fun q => nomatch q) ?_) | (refine x0 rfl (o_pickF (by rfl) (by conv => lhs; whnf)) (fun q => nomatch q) ?_)
  refine x0 rfl (o_assign (by conv => lhs; whnf)) (fun q => nomatch q) ?_
  refine x_nil ?_
  refine pw_ret ?_
  exact ⟨[_], ⟨rfl, trivial⟩, rfl, by (first | exact .inl rfl | exact .inr rfl)⟩

set_option maxRecDepth 100000 in
set_option maxHeartbeats 4000000 in
theorem shown_ok  : PCalls Try.prog 12 [] (.bool true) := by
  refine pc_intro (N := 101) Try.func12 rfl rfl (Nat.le_of_ble_eq_true rfl) fun w0 imm0 => ?_
  refine pw_seq ?_
  refine pw_reg (by kernel_rfl) ?_
  refine x0 rfl (o_assign (by conv => lhs; whnf)) (fun q => nomatch q) ?_
  refine x_nil ?_
  refine pw_seq ?_
  refine pw_reg (by kernel_rfl) ?_
  refine x_cal rfl (o_callF (ls := [])  rfl Try.func23 rfl (by decide) rfl rfl rfl (new_ok 2) rfl) (fun q => nomatch q) ?_
  refine x1 rfl (o_alloc (z := 2) rfl Ty.z24 (by conv => lhs; whnf) rfl rfl) rfl (fun q => nomatch q) (fun q => nomatch q) ?_
  refine x_sto rfl (o_store (by conv => lhs; whnf) (by conv => lhs; whnf) (by conv => lhs; whnf) rfl Ty.s24 (Nat.le_of_ble_eq_true rfl) rfl) (by conv => lhs; whnf) rfl (Nat.zero_le _) (Nat.le_of_ble_eq_true rfl) rfl (by conv => lhs; whnf) (by conv => lhs; whnf) (by conv => lhs; whnf) (fun q => nomatch q) (fun q => nomatch q) ?_
  refine x_nil ?_
  refine pw_seq ?_
  refine pw_reg (by kernel_rfl) ?_
  first | (refine x0 rfl (o_loadA (by rfl) (by conv => lhs; whnf) rfl Ty.a24 Ty.s24 (Nat.le_of_ble_eq_true rfl) (by conv => lhs; whnf)) (fun q => nomatch q) ?_) | (refine x0 rfl (o_loadRA (by rfl) Ty.a24 Ty.s24 (Nat.le_of_ble_eq_true rfl) (by conv => lhs; whnf)) (fun q => nomatch q) ?_)
  refine x_cal rfl (o_callF (ls := [])  rfl Try.func13 rfl (by decide) rfl rfl rfl (push_ok true [] [.int .i64 7] (by simp [PV.cells]) 2 7 rfl (by decide) (by decide)) rfl) (fun q => nomatch q) ?_
  refine x0 rfl (o_move (by conv => lhs; whnf)) (fun q => nomatch q) ?_
  refine x0 rfl (o_extract (by conv => lhs; whnf) (by conv => lhs; whnf)) (fun q => nomatch q) ?_
  refine x0 rfl (o_extract (by conv => lhs; whnf) (by conv => lhs; whnf)) (fun q => nomatch q) ?_
  refine x1 rfl (o_alloc (z := 2) rfl Ty.z24 (by conv => lhs; whnf) rfl rfl) rfl (fun q => nomatch q) (fun q => nomatch q) ?_
  refine x_sto rfl (o_store (by conv => lhs; whnf) (by conv => lhs; whnf) (by conv => lhs; whnf) rfl Ty.s24 (Nat.le_of_ble_eq_true rfl) rfl) (by conv => lhs; whnf) rfl (Nat.zero_le _) (Nat.le_of_ble_eq_true rfl) rfl (by conv => lhs; whnf) (by conv => lhs; whnf) (by conv => lhs; whnf) (fun q => nomatch q) (fun q => nomatch q) ?_
  refine x0 rfl (o_assign (by conv => lhs; whnf)) (fun q => nomatch q) ?_
  refine x_nil ?_
  refine pw_seq ?_
  refine pw_reg (by kernel_rfl) ?_
  first | (refine x0 rfl (o_loadA (by rfl) (by conv => lhs; whnf) rfl Ty.a24 Ty.s24 (Nat.le_of_ble_eq_true rfl) (by conv => lhs; whnf)) (fun q => nomatch q) ?_) | (refine x0 rfl (o_loadRA (by rfl) Ty.a24 Ty.s24 (Nat.le_of_ble_eq_true rfl) (by conv => lhs; whnf)) (fun q => nomatch q) ?_)
  refine x_cal rfl (o_callF (ls := [])  rfl Try.func13 rfl (by decide) rfl rfl rfl (push_ok false [.int .i64 7] [.int .i64 7, .int .i64 8] (by simp [PV.cells]) 2 8 rfl (by decide) (by decide)) rfl) (fun q => nomatch q) ?_
  refine x0 rfl (o_move (by conv => lhs; whnf)) (fun q => nomatch q) ?_
  refine x0 rfl (o_extract (by conv => lhs; whnf) (by conv => lhs; whnf)) (fun q => nomatch q) ?_
  refine x0 rfl (o_extract (by conv => lhs; whnf) (by conv => lhs; whnf)) (fun q => nomatch q) ?_
  refine x1 rfl (o_alloc (z := 2) rfl Ty.z24 (by conv => lhs; whnf) rfl rfl) rfl (fun q => nomatch q) (fun q => nomatch q) ?_
  refine x_sto rfl (o_store (by conv => lhs; whnf) (by conv => lhs; whnf) (by conv => lhs; whnf) rfl Ty.s24 (Nat.le_of_ble_eq_true rfl) rfl) (by conv => lhs; whnf) rfl (Nat.zero_le _) (Nat.le_of_ble_eq_true rfl) rfl (by conv => lhs; whnf) (by conv => lhs; whnf) (by conv => lhs; whnf) (fun q => nomatch q) (fun q => nomatch q) ?_
  refine x0 rfl (o_assign (by conv => lhs; whnf)) (fun q => nomatch q) ?_
  refine x_nil ?_
  refine pw_seq ?_
  refine pw_reg (by kernel_rfl) ?_
  first | (refine x0 rfl (o_loadA (by rfl) (by conv => lhs; whnf) rfl Ty.a24 Ty.s24 (Nat.le_of_ble_eq_true rfl) (by conv => lhs; whnf)) (fun q => nomatch q) ?_) | (refine x0 rfl (o_loadRA (by rfl) Ty.a24 Ty.s24 (Nat.le_of_ble_eq_true rfl) (by conv => lhs; whnf)) (fun q => nomatch q) ?_)
  refine x_cal rfl (o_callF (ls := [])  rfl Try.func13 rfl (by decide) rfl rfl rfl (push_full false [.int .i64 7, .int .i64 8] [.int .i64 7, .int .i64 8] rfl 2 9 (by decide)) rfl) (fun q => nomatch q) ?_
  refine x0 rfl (o_move (by conv => lhs; whnf)) (fun q => nomatch q) ?_
  refine x0 rfl (o_extract (by conv => lhs; whnf) (by conv => lhs; whnf)) (fun q => nomatch q) ?_
  refine x0 rfl (o_extract (by conv => lhs; whnf) (by conv => lhs; whnf)) (fun q => nomatch q) ?_
  refine x1 rfl (o_alloc (z := 2) rfl Ty.z24 (by conv => lhs; whnf) rfl rfl) rfl (fun q => nomatch q) (fun q => nomatch q) ?_
  refine x_sto rfl (o_store (by conv => lhs; whnf) (by conv => lhs; whnf) (by conv => lhs; whnf) rfl Ty.s24 (Nat.le_of_ble_eq_true rfl) rfl) (by conv => lhs; whnf) rfl (Nat.zero_le _) (Nat.le_of_ble_eq_true rfl) rfl (by conv => lhs; whnf) (by conv => lhs; whnf) (by conv => lhs; whnf) (fun q => nomatch q) (fun q => nomatch q) ?_
  refine x0 rfl (o_assign (by conv => lhs; whnf)) (fun q => nomatch q) ?_
  refine x_nil ?_
  refine pw_seq ?_
  refine pw_reg (by kernel_rfl) ?_
  first | (refine x0 rfl (o_loadA (by rfl) (by conv => lhs; whnf) rfl Ty.a24 Ty.s24 (Nat.le_of_ble_eq_true rfl) (by conv => lhs; whnf)) (fun q => nomatch q) ?_) | (refine x0 rfl (o_loadRA (by rfl) Ty.a24 Ty.s24 (Nat.le_of_ble_eq_true rfl) (by conv => lhs; whnf)) (fun q => nomatch q) ?_)
  refine x_cal rfl (o_callF (ls := [])  rfl Try.func16 rfl (by decide) rfl rfl rfl (pop_ok false 7 2 [.int .i64 7, .int .i64 8] [.int .i64 8] rfl (by simp [PV.cells])) rfl) (fun q => nomatch q) ?_
  refine x0 rfl (o_move (by conv => lhs; whnf)) (fun q => nomatch q) ?_
  refine x0 rfl (o_extract (by conv => lhs; whnf) (by conv => lhs; whnf)) (fun q => nomatch q) ?_
  refine x0 rfl (o_extract (by conv => lhs; whnf) (by conv => lhs; whnf)) (fun q => nomatch q) ?_
  refine x0 rfl (o_extract (by conv => lhs; whnf) (by conv => lhs; whnf)) (fun q => nomatch q) ?_
  refine x1 rfl (o_alloc (z := 2) rfl Ty.z24 (by conv => lhs; whnf) rfl rfl) rfl (fun q => nomatch q) (fun q => nomatch q) ?_
  refine x_sto rfl (o_store (by conv => lhs; whnf) (by conv => lhs; whnf) (by conv => lhs; whnf) rfl Ty.s24 (Nat.le_of_ble_eq_true rfl) rfl) (by conv => lhs; whnf) rfl (Nat.zero_le _) (Nat.le_of_ble_eq_true rfl) rfl (by conv => lhs; whnf) (by conv => lhs; whnf) (by conv => lhs; whnf) (fun q => nomatch q) (fun q => nomatch q) ?_
  refine x0 rfl (o_assign (by conv => lhs; whnf)) (fun q => nomatch q) ?_
  refine x0 rfl (o_assign (by conv => lhs; whnf)) (fun q => nomatch q) ?_
  refine x_nil ?_
  refine pw_seq ?_
  refine pw_reg (by kernel_rfl) ?_
  first | (refine x0 rfl (o_loadA (by rfl) (by conv => lhs; whnf) rfl Ty.a24 Ty.s24 (Nat.le_of_ble_eq_true rfl) (by conv => lhs; whnf)) (fun q => nomatch q) ?_) | (refine x0 rfl (o_loadRA (by rfl) Ty.a24 Ty.s24 (Nat.le_of_ble_eq_true rfl) (by conv => lhs; whnf)) (fun q => nomatch q) ?_)
  refine x_cal rfl (o_callF (ls := [])  rfl Try.func16 rfl (by decide) rfl rfl rfl (pop_nil true [] rfl 2) rfl) (fun q => nomatch q) ?_
  refine x0 rfl (o_move (by conv => lhs; whnf)) (fun q => nomatch q) ?_
  refine x0 rfl (o_extract (by conv => lhs; whnf) (by conv => lhs; whnf)) (fun q => nomatch q) ?_
  refine x0 rfl (o_extract (by conv => lhs; whnf) (by conv => lhs; whnf)) (fun q => nomatch q) ?_
  refine x0 rfl (o_extract (by conv => lhs; whnf) (by conv => lhs; whnf)) (fun q => nomatch q) ?_
  refine x1 rfl (o_alloc (z := 2) rfl Ty.z24 (by conv => lhs; whnf) rfl rfl) rfl (fun q => nomatch q) (fun q => nomatch q) ?_
  refine x_sto rfl (o_store (by conv => lhs; whnf) (by conv => lhs; whnf) (by conv => lhs; whnf) rfl Ty.s24 (Nat.le_of_ble_eq_true rfl) rfl) (by conv => lhs; whnf) rfl (Nat.zero_le _) (Nat.le_of_ble_eq_true rfl) rfl (by conv => lhs; whnf) (by conv => lhs; whnf) (by conv => lhs; whnf) (fun q => nomatch q) (fun q => nomatch q) ?_
  refine x0 rfl (o_assign (by conv => lhs; whnf)) (fun q => nomatch q) ?_
  refine x0 rfl (o_assign (by conv => lhs; whnf)) (fun q => nomatch q) ?_
  refine x_nil ?_
  refine pw_seq ?_
  refine pw_reg (by kernel_rfl) ?_
  first | (refine x0 rfl (o_loadA (by rfl) (by conv => lhs; whnf) rfl Ty.a24 Ty.s24 (Nat.le_of_ble_eq_true rfl) (by conv => lhs; whnf)) (fun q => nomatch q) ?_) | (refine x0 rfl (o_loadRA (by rfl) Ty.a24 Ty.s24 (Nat.le_of_ble_eq_true rfl) (by conv => lhs; whnf)) (fun q => nomatch q) ?_)
  refine x_cal rfl (o_callF (ls := [])  rfl Try.func18 rfl (by decide) rfl rfl rfl (drain_ok false [.int .i64 7, .int .i64 8] (by simp [PV.cells]) 2 5 2 rfl) rfl) (fun q => nomatch q) ?_
  refine x0 rfl (o_move (by conv => lhs; whnf)) (fun q => nomatch q) ?_
  refine x0 rfl (o_extract (by conv => lhs; whnf) (by conv => lhs; whnf)) (fun q => nomatch q) ?_
  refine x0 rfl (o_extract (by conv => lhs; whnf) (by conv => lhs; whnf)) (fun q => nomatch q) ?_
  refine x1 rfl (o_alloc (z := 2) rfl Ty.z24 (by conv => lhs; whnf) rfl rfl) rfl (fun q => nomatch q) (fun q => nomatch q) ?_
  refine x_sto rfl (o_store (by conv => lhs; whnf) (by conv => lhs; whnf) (by conv => lhs; whnf) rfl Ty.s24 (Nat.le_of_ble_eq_true rfl) rfl) (by conv => lhs; whnf) rfl (Nat.zero_le _) (Nat.le_of_ble_eq_true rfl) rfl (by conv => lhs; whnf) (by conv => lhs; whnf) (by conv => lhs; whnf) (fun q => nomatch q) (fun q => nomatch q) ?_
  refine x0 rfl (o_assign (by conv => lhs; whnf)) (fun q => nomatch q) ?_
  refine x_nil ?_
  refine pw_seq ?_
  refine pw_reg (by kernel_rfl) ?_
  refine x0 rfl (o_move (by conv => lhs; whnf)) (fun q => nomatch q) ?_
  first | (refine x0 rfl (o_cmp (by rfl) (by rfl) (c_eqT (by omega))) (fun q => nomatch q) ?_) | (refine x0 rfl (o_cmp (by rfl) (by rfl) (c_eqF (by omega))) (fun q => nomatch q) ?_) | (refine x0 rfl (o_cmp (by rfl) (by rfl) (c_eqT (by first | rfl | decide))) (fun q => nomatch q) ?_) | (refine x0 rfl (o_cmp (by rfl) (by rfl) (c_eqF (by first | decide | (simp; done) | (simp; omega)))) (fun q => nomatch q) ?_)
  refine x0 rfl (o_move (by conv => lhs; whnf)) (fun q => nomatch q) ?_
  first | (refine x0 rfl (o_move (by conv => lhs; whnf)) (fun q => nomatch q) ?_) | (refine x_skip rfl ?_)
  first | (refine x0 rfl (o_cmp (by rfl) (by rfl) (c_eqT (by omega))) (fun q => nomatch q) ?_) | (refine x0 rfl (o_cmp (by rfl) (by rfl) (c_eqF (by omega))) (fun q => nomatch q) ?_) | (refine x0 rfl (o_cmp (by rfl) (by rfl) (c_eqT (by first | rfl | decide))) (fun q => nomatch q) ?_) | (refine x0 rfl (o_cmp (by rfl) (by rfl) (c_eqF (by first | decide | (simp; done) | (simp; omega)))) (fun q => nomatch q) ?_) | (refine x_skip rfl ?_)
  first | (refine x0 rfl (o_pickT (by rfl) (by conv => lhs; whnf)) (fun q => nomatch q) ?_) | (refine x0 rfl (o_pickF (by rfl) (by conv => lhs; whnf)) (fun q => nomatch q) ?_)
  refine x0 rfl (o_move (by conv => lhs; whnf)) (fun q => nomatch q) ?_
  first | (refine x0 rfl (o_move (by conv => lhs; whnf)) (fun q => nomatch q) ?_) | (refine x_skip rfl ?_)
  first | (refine x0 rfl (o_cmp (by rfl) (by rfl) (c_eqT (by omega))) (fun q => nomatch q) ?_) | (refine x0 rfl (o_cmp (by rfl) (by rfl) (c_eqF (by omega))) (fun q => nomatch q) ?_) | (refine x0 rfl (o_cmp (by rfl) (by rfl) (c_eqT (by first | rfl | decide))) (fun q => nomatch q) ?_) | (refine x0 rfl (o_cmp (by rfl) (by rfl) (c_eqF (by first | decide | (simp; done) | (simp; omega)))) (fun q => nomatch q) ?_) | (refine x_skip rfl ?_)
  first | (refine x0 rfl (o_pickT (by rfl) (by conv => lhs; whnf)) (fun q => nomatch q) ?_) | (refine x0 rfl (o_pickF (by rfl) (by conv => lhs; whnf)) (fun q => nomatch q) ?_)
  refine x0 rfl (o_move (by conv => lhs; whnf)) (fun q => nomatch q) ?_
  first | (refine x0 rfl (o_move (by conv => lhs; whnf)) (fun q => nomatch q) ?_) | (refine x_skip rfl ?_)
  first | (refine x0 rfl (o_cmp (by rfl) (by rfl) (c_eqT (by omega))) (fun q => nomatch q) ?_) | (refine x0 rfl (o_cmp (by rfl) (by rfl) (c_eqF (by omega))) (fun q => nomatch q) ?_) | (refine x0 rfl (o_cmp (by rfl) (by rfl) (c_eqT (by first | rfl | decide))) (fun q => nomatch q) ?_) | (refine x0 rfl (o_cmp (by rfl) (by rfl) (c_eqF (by first | decide | (simp; done) | (simp; omega)))) (fun q => nomatch q) ?_) | (refine x_skip rfl ?_)
  first | (refine x0 rfl (o_pickT (by rfl) (by conv => lhs; whnf)) (fun q => nomatch q) ?_) | (refine x0 rfl (o_pickF (by rfl) (by conv => lhs; whnf)) (fun q => nomatch q) ?_)
  refine x0 rfl (o_move (by conv => lhs; whnf)) (fun q => nomatch q) ?_
  first | (refine x0 rfl (o_move (by conv => lhs; whnf)) (fun q => nomatch q) ?_) | (refine x_skip rfl ?_)
  first | (refine x0 rfl (o_cmp (by rfl) (by rfl) (c_eqT (by omega))) (fun q => nomatch q) ?_) | (refine x0 rfl (o_cmp (by rfl) (by rfl) (c_eqF (by omega))) (fun q => nomatch q) ?_) | (refine x0 rfl (o_cmp (by rfl) (by rfl) (c_eqT (by first | rfl | decide))) (fun q => nomatch q) ?_) | (refine x0 rfl (o_cmp (by rfl) (by rfl) (c_eqF (by first | decide | (simp; done) | (simp; omega)))) (fun q => nomatch q) ?_) | (refine x_skip rfl ?_)
  first | (refine x0 rfl (o_pickT (by rfl) (by conv => lhs; whnf)) (fun q => nomatch q) ?_) | (refine x0 rfl (o_pickF (by rfl) (by conv => lhs; whnf)) (fun q => nomatch q) ?_)
  refine x0 rfl (o_move (by conv => lhs; whnf)) (fun q => nomatch q) ?_
  first | (refine x0 rfl (o_loadA (by rfl) (by conv => lhs; whnf) rfl Ty.a24 Ty.s24 (Nat.le_of_ble_eq_true rfl) (by conv => lhs; whnf)) (fun q => nomatch q) ?_) | (refine x0 rfl (o_loadRA (by rfl) Ty.a24 Ty.s24 (Nat.le_of_ble_eq_true rfl) (by conv => lhs; whnf)) (fun q => nomatch q) ?_) | (refine x_skip rfl ?_)
  first | (refine x0 rfl (o_call  rfl Try.func22 rfl (by decide) rfl rfl rfl (len_ok true [.int .i64 8] 2) rfl) (fun q => nomatch q) ?_) | (refine x_skip rfl ?_)
  first | (refine x0 rfl (o_cmp (by rfl) (by rfl) (c_eqT (by omega))) (fun q => nomatch q) ?_) | (refine x0 rfl (o_cmp (by rfl) (by rfl) (c_eqF (by omega))) (fun q => nomatch q) ?_) | (refine x0 rfl (o_cmp (by rfl) (by rfl) (c_eqT (by first | rfl | decide))) (fun q => nomatch q) ?_) | (refine x0 rfl (o_cmp (by rfl) (by rfl) (c_eqF (by first | decide | (simp; done) | (simp; omega)))) (fun q => nomatch q) ?_) | (refine x_skip rfl ?_)
  first | (refine x0 rfl (o_pickT (by rfl) (by conv => lhs; whnf)) (fun q => nomatch q) ?_) | (refine x0 rfl (o_pickF (by rfl) (by conv => lhs; whnf)) (fun q => nomatch q) ?_)
  refine x0 rfl (o_move (by conv => lhs; whnf)) (fun q => nomatch q) ?_
  first | (refine x0 rfl (o_move (by conv => lhs; whnf)) (fun q => nomatch q) ?_) | (refine x_skip rfl ?_)
  first | (refine x0 rfl (o_cmp (by rfl) (by rfl) (c_eqT (by omega))) (fun q => nomatch q) ?_) | (refine x0 rfl (o_cmp (by rfl) (by rfl) (c_eqF (by omega))) (fun q => nomatch q) ?_) | (refine x0 rfl (o_cmp (by rfl) (by rfl) (c_eqT (by first | rfl | decide))) (fun q => nomatch q) ?_) | (refine x0 rfl (o_cmp (by rfl) (by rfl) (c_eqF (by first | decide | (simp; done) | (simp; omega)))) (fun q => nomatch q) ?_) | (refine x_skip rfl ?_)
  first | (refine x0 rfl (o_pickT (by rfl) (by conv => lhs; whnf)) (fun q => nomatch q) ?_) | (refine x0 rfl (o_pickF (by rfl) (by conv => lhs; whnf)) (fun q => nomatch q) ?_)
  refine x0 rfl (o_move (by conv => lhs; whnf)) (fun q => nomatch q) ?_
  first | (refine x0 rfl (o_move (by conv => lhs; whnf)) (fun q => nomatch q) ?_) | (refine x_skip rfl ?_)
  first | (refine x0 rfl (o_cmp (by rfl) (by rfl) (c_eqT (by omega))) (fun q => nomatch q) ?_) | (refine x0 rfl (o_cmp (by rfl) (by rfl) (c_eqF (by omega))) (fun q => nomatch q) ?_) | (refine x0 rfl (o_cmp (by rfl) (by rfl) (c_eqT (by first | rfl | decide))) (fun q => nomatch q) ?_) | (refine x0 rfl (o_cmp (by rfl) (by rfl) (c_eqF (by first | decide | (simp; done) | (simp; omega)))) (fun q => nomatch q) ?_) | (refine x_skip rfl ?_)
  first | (refine x0 rfl (o_pickT (by rfl) (by conv => lhs; whnf)) (fun q => nomatch q) ?_) | (refine x0 rfl (o_pickF (by rfl) (by conv => lhs; whnf)) (fun q => nomatch q) ?_)
  refine x0 rfl (o_move (by conv => lhs; whnf)) (fun q => nomatch q) ?_
  first | (refine x0 rfl (o_move (by conv => lhs; whnf)) (fun q => nomatch q) ?_) | (refine x_skip rfl ?_)
  first | (refine x0 rfl (o_lenL (by rfl) Ty.e22 (by rfl)) (fun q => nomatch q) ?_) | (refine x0 rfl (o_lenR (by rfl) (by conv => lhs; whnf) Ty.e22 (by rfl)) (fun q => nomatch q) ?_) | (refine x_skip rfl ?_)
  first | (refine x0 rfl (o_cmp (by rfl) (by rfl) (c_eqT (by omega))) (fun q => nomatch q) ?_) | (refine x0 rfl (o_cmp (by rfl) (by rfl) (c_eqF (by omega))) (fun q => nomatch q) ?_) | (refine x0 rfl (o_cmp (by rfl) (by rfl) (c_eqT (by first | rfl | decide))) (fun q => nomatch q) ?_) | (refine x0 rfl (o_cmp (by rfl) (by rfl) (c_eqF (by first | decide | (simp; done) | (simp; omega)))) (fun q => nomatch q) ?_) | (refine x_skip rfl ?_)
  first | (refine x0 rfl (o_pickT (by rfl) (by conv => lhs; whnf)) (fun q => nomatch q) ?_) | (refine x0 rfl (o_pickF (by rfl) (by conv => lhs; whnf)) (fun q => nomatch q) ?_)
  refine x0 rfl (o_move (by conv => lhs; whnf)) (fun q => nomatch q) ?_
  first | (refine x0 rfl (o_move (by conv => lhs; whnf)) (fun q => nomatch q) ?_) | (refine x_skip rfl ?_)
  first | (refine x0 rfl (o_idxL (m := 1) (by rfl) (by rfl) (by rfl) (by rfl) Ty.e22 Ty.s3 (by rfl) (by conv => lhs; whnf)) (fun q => nomatch q) ?_) | (refine x0 rfl (o_idxR (m := 1) (by rfl) (by conv => lhs; whnf) (by rfl) (by rfl) (by rfl) Ty.e22 Ty.s3 rfl) (fun q => nomatch q) ?_) | (refine x_skip rfl ?_)
  first | (refine x0 rfl (o_loadS (by rfl) (by conv => lhs; whnf) rfl Ty.a3 (by conv => lhs; whnf)) (fun q => nomatch q) ?_) | (refine x0 rfl (o_loadRS (by rfl) Ty.a3 (by conv => lhs; whnf)) (fun q => nomatch q) ?_) | (refine x_skip rfl ?_)
  first | (refine x0 rfl (o_cmp (by rfl) (by rfl) (c_eqT (by omega))) (fun q => nomatch q) ?_) | (refine x0 rfl (o_cmp (by rfl) (by rfl) (c_eqF (by omega))) (fun q => nomatch q) ?_) | (refine x0 rfl (o_cmp (by rfl) (by rfl) (c_eqT (by first | rfl | decide))) (fun q => nomatch q) ?_) | (refine x0 rfl (o_cmp (by rfl) (by rfl) (c_eqF (by first | decide | (simp; done) | (simp; omega)))) (fun q => nomatch q) ?_) | (refine x_skip rfl ?_)
  first | (refine x0 rfl (o_pickT (by rfl) (by conv => lhs; whnf)) (fun q => nomatch q) ?_) | (refine x0 rfl (o_pickF (by rfl) (by conv => lhs; whnf)) (fun q => nomatch q) ?_)
  refine x0 rfl (o_move (by conv => lhs; whnf)) (fun q => nomatch q) ?_
  first | (refine x0 rfl (o_loadA (by rfl) (by conv => lhs; whnf) rfl Ty.a24 Ty.s24 (Nat.le_of_ble_eq_true rfl) (by conv => lhs; whnf)) (fun q => nomatch q) ?_) | (refine x0 rfl (o_loadRA (by rfl) Ty.a24 Ty.s24 (Nat.le_of_ble_eq_true rfl) (by conv => lhs; whnf)) (fun q => nomatch q) ?_) | (refine x_skip rfl ?_)
  first | (refine x0 rfl (o_call  rfl Try.func22 rfl (by decide) rfl rfl rfl (len_ok true [] 2) rfl) (fun q => nomatch q) ?_) | (refine x_skip rfl ?_)
  first | (refine x0 rfl (o_cmp (by rfl) (by rfl) (c_eqT (by omega))) (fun q => nomatch q) ?_) | (refine x0 rfl (o_cmp (by rfl) (by rfl) (c_eqF (by omega))) (fun q => nomatch q) ?_) | (refine x0 rfl (o_cmp (by rfl) (by rfl) (c_eqT (by first | rfl | decide))) (fun q => nomatch q) ?_) | (refine x0 rfl (o_cmp (by rfl) (by rfl) (c_eqF (by first | decide | (simp; done) | (simp; omega)))) (fun q => nomatch q) ?_) | (refine x_skip rfl ?_)
  first | (refine x0 rfl (o_pickT (by rfl) (by conv => lhs; whnf)) (fun q => nomatch q) ?_) | (refine x0 rfl (o_pickF (by rfl) (by conv => lhs; whnf)) (fun q => nomatch q) ?_)
  refine x0 rfl (o_move (by conv => lhs; whnf)) (fun q => nomatch q) ?_
  first | (refine x0 rfl (o_loadA (by rfl) (by conv => lhs; whnf) rfl Ty.a24 Ty.s24 (Nat.le_of_ble_eq_true rfl) (by conv => lhs; whnf)) (fun q => nomatch q) ?_) | (refine x0 rfl (o_loadRA (by rfl) Ty.a24 Ty.s24 (Nat.le_of_ble_eq_true rfl) (by conv => lhs; whnf)) (fun q => nomatch q) ?_) | (refine x_skip rfl ?_)
  first | (refine x0 rfl (o_call  rfl Try.func22 rfl (by decide) rfl rfl rfl (len_ok false [.int .i64 7, .int .i64 8] 2) rfl) (fun q => nomatch q) ?_) | (refine x_skip rfl ?_)
  first | (refine x0 rfl (o_cmp (by rfl) (by rfl) (c_eqT (by omega))) (fun q => nomatch q) ?_) | (refine x0 rfl (o_cmp (by rfl) (by rfl) (c_eqF (by omega))) (fun q => nomatch q) ?_) | (refine x0 rfl (o_cmp (by rfl) (by rfl) (c_eqT (by first | rfl | decide))) (fun q => nomatch q) ?_) | (refine x0 rfl (o_cmp (by rfl) (by rfl) (c_eqF (by first | decide | (simp; done) | (simp; omega)))) (fun q => nomatch q) ?_) | (refine x_skip rfl ?_)
  first | (refine x0 rfl (o_pickT (by rfl) (by conv => lhs; whnf)) (fun q => nomatch q) ?_) | (refine x0 rfl (o_pickF (by rfl) (by conv => lhs; whnf)) (fun q => nomatch q) ?_)
  refine x0 rfl (o_assign (by conv => lhs; whnf)) (fun q => nomatch q) ?_
  refine x_nil ?_
  refine pw_ret ?_
  exact ⟨[_], ⟨rfl, trivial⟩, rfl, by (first | exact .inl rfl | exact .inr rfl)⟩

set_option maxRecDepth 100000 in
set_option maxHeartbeats 4000000 in
theorem order_big (c : Int) (n : Nat) (h0 : 0 ≤ c) (h1 : c < 256) (t : Bool) (L : List PV) (hL : 60 < L.length) : PCalls Try.prog 4 [.int .u8 c, .lst t L] (.bool true) := by
  refine pc_intro (N := 102) Try.func4 rfl rfl (Nat.le_of_ble_eq_true rfl) fun w0 imm0 => ?_
  refine pw_seq ?_
  refine pw_reg (by kernel_rfl) ?_
  refine x0 rfl (o_assign (by conv => lhs; whnf)) (fun q => nomatch q) ?_
  refine x_nil ?_
  refine pw_seq ?_
  refine pw_reg (by kernel_rfl) ?_
  refine x0 rfl (o_move (by conv => lhs; whnf)) (fun q => nomatch q) ?_
  refine x0 rfl (o_conv (by conv => lhs; whnf) Ty.u5 Ty.i3 (wrap_in (by omega) (by omega))) (fun q => nomatch q) ?_
  refine x0 rfl (o_ari (by rfl) (by rfl) (ari_rem (r := c % 20) (by omega) (by omega) (Int.tmod_eq_emod_of_nonneg h0) (by omega) (by omega))) (fun q => nomatch q) ?_
  refine x0 rfl (o_assign (by conv => lhs; whnf)) (fun q => nomatch q) ?_
  refine x_nil ?_
  refine pw_seq ?_
  refine pw_seq ?_
  refine pw_reg (by kernel_rfl) ?_
  refine x0 rfl (o_move (by conv => lhs; whnf)) (fun q => nomatch q) ?_
  first | (refine x0 rfl (o_lenL (by rfl) Ty.e22 rfl) (fun q => nomatch q) ?_) | (refine x0 rfl (o_lenR (by rfl) (by conv => lhs; whnf) Ty.e22 rfl) (fun q => nomatch q) ?_)
  first | (refine x0 rfl (o_cmp (by rfl) (by rfl) (c_gtT (by omega))) (fun q => nomatch q) ?_) | (refine x0 rfl (o_cmp (by rfl) (by rfl) (c_gtF (by omega))) (fun q => nomatch q) ?_) | (refine x0 rfl (o_cmp (by rfl) (by rfl) (c_gtT (by first | rfl | decide))) (fun q => nomatch q) ?_) | (refine x0 rfl (o_cmp (by rfl) (by rfl) (c_gtF (by first | decide | (simp; done) | (simp; omega)))) (fun q => nomatch q) ?_)
  refine x0 rfl (o_move (by conv => lhs; whnf)) (fun q => nomatch q) ?_
  refine x_skip rfl ?_
  first | (refine x0 rfl (o_not (by rfl) (by conv => lhs; whnf)) (fun q => nomatch q) ?_) | (refine x_skip rfl ?_)
  first | (refine x0 rfl (o_pickT (by rfl) (by conv => lhs; whnf)) (fun q => nomatch q) ?_) | (refine x0 rfl (o_pickF (by rfl) (by conv => lhs; whnf)) (fun q => nomatch q) ?_)
  refine x_nil ?_
  refine pw_cond true (by rfl) (fun _ => ?_) (fun q => nomatch q)
  refine pw_seq ?_
  refine pw_reg (by kernel_rfl) ?_
  refine x0 rfl (o_call  rfl Try.func12 rfl (by decide) rfl rfl rfl (shown_ok) rfl) (fun q => nomatch q) ?_
  refine x0 rfl (o_assign (by conv => lhs; whnf)) (fun q => nomatch q) ?_
  refine x_nil ?_
  refine pw_ret ?_
  exact ⟨[_], ⟨rfl, trivial⟩, rfl, by (first | exact .inl rfl | exact .inr rfl)⟩

set_option maxRecDepth 100000 in
set_option maxHeartbeats 4000000 in
theorem order_ok (c : Int) (n : Nat) (hn : (n : Int) = c % 20) (h0 : 0 ≤ c) (h1 : c < 256) (t : Bool) (L : List PV) (hI : Ints L) (hL : L.length ≤ 60) : PCalls Try.prog 4 [.int .u8 c, .lst t L] (.bool true) := by
  refine pc_intro (N := 102) Try.func4 rfl rfl (Nat.le_of_ble_eq_true rfl) fun w0 imm0 => ?_
  refine pw_seq ?_
  refine pw_reg (by kernel_rfl) ?_
  refine x0 rfl (o_assign (by conv => lhs; whnf)) (fun q => nomatch q) ?_
  refine x_nil ?_
  refine pw_seq ?_
  refine pw_reg (by kernel_rfl) ?_
  refine x0 rfl (o_move (by conv => lhs; whnf)) (fun q => nomatch q) ?_
  refine x0 rfl (o_conv (by conv => lhs; whnf) Ty.u5 Ty.i3 (wrap_in (by omega) (by omega))) (fun q => nomatch q) ?_
  refine x0 rfl (o_ari (by rfl) (by rfl) (ari_rem (r := (n : Int)) (by omega) (by omega) (by rw [Int.tmod_eq_emod_of_nonneg h0]; omega) (by omega) (by omega))) (fun q => nomatch q) ?_
  refine x0 rfl (o_assign (by conv => lhs; whnf)) (fun q => nomatch q) ?_
  refine x_nil ?_
  refine pw_seq ?_
  refine pw_seq ?_
  refine pw_reg (by kernel_rfl) ?_
  refine x0 rfl (o_move (by conv => lhs; whnf)) (fun q => nomatch q) ?_
  first | (refine x0 rfl (o_lenL (by rfl) Ty.e22 rfl) (fun q => nomatch q) ?_) | (refine x0 rfl (o_lenR (by rfl) (by conv => lhs; whnf) Ty.e22 rfl) (fun q => nomatch q) ?_)
  first | (refine x0 rfl (o_cmp (by rfl) (by rfl) (c_gtT (by omega))) (fun q => nomatch q) ?_) | (refine x0 rfl (o_cmp (by rfl) (by rfl) (c_gtF (by omega))) (fun q => nomatch q) ?_) | (refine x0 rfl (o_cmp (by rfl) (by rfl) (c_gtT (by first | rfl | decide))) (fun q => nomatch q) ?_) | (refine x0 rfl (o_cmp (by rfl) (by rfl) (c_gtF (by first | decide | (simp; done) | (simp; omega)))) (fun q => nomatch q) ?_)
  refine x0 rfl (o_move (by conv => lhs; whnf)) (fun q => nomatch q) ?_
  first | (refine x0 rfl (o_call  rfl Try.func12 rfl (by decide) rfl rfl rfl (shown_ok) rfl) (fun q => nomatch q) ?_) | (refine x_skip rfl ?_)
  first | (refine x0 rfl (o_not (by rfl) (by conv => lhs; whnf)) (fun q => nomatch q) ?_) | (refine x_skip rfl ?_)
  first | (refine x0 rfl (o_pickT (by rfl) (by conv => lhs; whnf)) (fun q => nomatch q) ?_) | (refine x0 rfl (o_pickF (by rfl) (by conv => lhs; whnf)) (fun q => nomatch q) ?_)
  refine x_nil ?_
  refine pw_cond false (by rfl) (fun q => nomatch q) (fun _ => ?_)
  refine pw_skip ?_
  refine pw_seq ?_
  refine pw_reg (by kernel_rfl) ?_
  refine x0 rfl (o_move (by conv => lhs; whnf)) (fun q => nomatch q) ?_
  refine x_cal rfl (o_callF (ls := [])  rfl Try.func23 rfl (by decide) rfl rfl rfl (new_ok n) rfl) (fun q => nomatch q) ?_
  refine x1 rfl (o_alloc (z := 2) rfl Ty.z24 (by conv => lhs; whnf) rfl rfl) rfl (fun q => nomatch q) (fun q => nomatch q) ?_
  refine x_sto rfl (o_store (by conv => lhs; whnf) (by conv => lhs; whnf) (by conv => lhs; whnf) rfl Ty.s24 (Nat.le_of_ble_eq_true rfl) rfl) (by conv => lhs; whnf) rfl (Nat.zero_le _) (Nat.le_of_ble_eq_true rfl) rfl (by conv => lhs; whnf) (by conv => lhs; whnf) (by conv => lhs; whnf) (fun q => nomatch q) (fun q => nomatch q) ?_
  refine x_nil ?_
  refine pw_seq ?_
  refine pw_seq ?_
  refine pw_reg (by kernel_rfl) ?_
  refine x0 rfl (o_assign (by conv => lhs; whnf)) (fun q => nomatch q) ?_
  refine x_nil ?_
  refine pw_block ?_
  refine pw_loopW (fun m s => ∃ k : Nat, ∃ tt : Bool, m = L.length - k ∧ (k ≤ L.length) ∧ s = St.of [(1, .lst t L), (5, .int .i64 n), (6, .ptr 6 0 0), (7, .int .i64 k)] [(6, ⟨[.agg [.lst tt (L.take (min k n)), .int .i64 n]], 0, false, 2, true⟩)]) (m := L.length - (0)) (wk_st [(1, .lst t L), (5, .int .i64 n), (6, .ptr 6 0 0), (7, .int .i64 (0))] [(6, ⟨[.agg [.lst (true) (L.take (min (0) n)), .int .i64 n]], 0, false, 2, true⟩)] ⟨rfl, rfl, rfl, rfl, rfl, rfl, rfl, rfl, rfl, rfl, rfl, rfl, trivial⟩ ⟨rowLe_same rfl rfl rfl (fun q => q) rfl rfl rfl, trivial⟩) ⟨0, true, rfl, (Nat.zero_le _), rfl⟩ ?_
  · rintro _ _ ⟨k, tt, rfl, hk, rfl⟩
    rcases Nat.lt_or_ge k L.length with hk2 | hk2
    · obtain ⟨v, hv⟩ := hI.get hk2
      rcases Nat.lt_or_ge k n with hn2 | hn2
      · skip
        refine pw_seq ?_
        refine pw_seq ?_
        refine pw_reg (by kernel_rfl) ?_
        refine x0 rfl (o_move (by conv => lhs; whnf)) (fun q => nomatch q) ?_
        refine x0 rfl (o_move (by conv => lhs; whnf)) (fun q => nomatch q) ?_
        first | (refine x0 rfl (o_lenL (by rfl) Ty.e22 rfl) (fun q => nomatch q) ?_) | (refine x0 rfl (o_lenR (by rfl) (by conv => lhs; whnf) Ty.e22 rfl) (fun q => nomatch q) ?_)
        first | (refine x0 rfl (o_cmp (by rfl) (by rfl) (c_ltT (by omega))) (fun q => nomatch q) ?_) | (refine x0 rfl (o_cmp (by rfl) (by rfl) (c_ltF (by omega))) (fun q => nomatch q) ?_) | (refine x0 rfl (o_cmp (by rfl) (by rfl) (c_ltT (by first | rfl | decide))) (fun q => nomatch q) ?_) | (refine x0 rfl (o_cmp (by rfl) (by rfl) (c_ltF (by first | decide | (simp; done) | (simp; omega)))) (fun q => nomatch q) ?_)
        refine x_nil ?_
        refine pw_cond true (by rfl) (fun _ => ?_) (fun q => nomatch q)
        refine pw_skip ?_
        refine pw_seq ?_
        refine pw_block ?_
        refine pw_seq ?_
        refine pw_drw [] Ty.mix (by kernel_rfl) (by kernel_rfl) ?_
        first | (refine x0 rfl (o_loadA (by rfl) (by conv => lhs; whnf) rfl Ty.a24 Ty.s24 (Nat.le_of_ble_eq_true rfl) (by conv => lhs; whnf)) (fun _ => rfl) ?_) | (refine x0 rfl (o_loadRA (by rfl) Ty.a24 Ty.s24 (Nat.le_of_ble_eq_true rfl) (by conv => lhs; whnf)) (fun _ => rfl) ?_)
        refine x7 rfl (fun _ hN => o_move (by conv => lhs; whnf)) rfl ?_
        refine x7 rfl (fun _ hN => o_move (by conv => lhs; whnf)) rfl ?_
        first | (refine x0 rfl (o_idxL (m := k) (by rfl) (by rfl) rfl hv Ty.e22 Ty.s3 (by rfl) (by conv => lhs; whnf)) (fun _ => rfl) ?_) | (refine x0 rfl (o_idxR (m := k) (by rfl) (by conv => lhs; whnf) (by rfl) rfl hv Ty.e22 Ty.s3 rfl) (fun _ => rfl) ?_)
        first | (refine x0 rfl (o_loadS (by rfl) (by conv => lhs; whnf) rfl Ty.a3 (by conv => lhs; whnf)) (fun _ => rfl) ?_) | (refine x0 rfl (o_loadRS (by rfl) Ty.a3 (by conv => lhs; whnf)) (fun _ => rfl) ?_)
        refine x_cal rfl (o_callF (ls := [])  rfl Try.func13 rfl (by decide) rfl rfl rfl (push_ok tt (L.take (min k n)) (L.take (min (k + 1) n)) (fun e he => hI.len e (List.mem_of_mem_take he)) n v (take_min hv hn2) (by simp; omega) (by simp; omega)) rfl) (fun _ => .inr (.inl rfl)) ?_
        refine x7 rfl (fun _ hN => o_move (by conv => lhs; whnf)) rfl ?_
        refine x7 rfl (fun _ hN => o_extract (by conv => lhs; whnf) (by conv => lhs; whnf)) rfl ?_
        refine x7 rfl (fun _ hN => o_extract (by conv => lhs; whnf) (by conv => lhs; whnf)) rfl ?_
        refine x1 rfl (o_alloc (z := 2) rfl Ty.z24 (by conv => lhs; whnf) rfl rfl) rfl (fun _ => by rfl) (fun _ => .inr ⟨_, _, rfl⟩) ?_
        refine x_sto rfl (o_store (by conv => lhs; whnf) (by conv => lhs; whnf) (by conv => lhs; whnf) rfl Ty.s24 (Nat.le_of_ble_eq_true rfl) rfl) (by conv => lhs; whnf) rfl (Nat.zero_le _) (Nat.le_of_ble_eq_true rfl) rfl (by conv => lhs; whnf) (by conv => lhs; whnf) (by conv => lhs; whnf) (fun _ => by rfl) (fun _ => trivial) ?_
        refine x7 rfl (fun _ hN => o_assign (by conv => lhs; whnf)) rfl ?_
        refine x_nil ?_
        refine pw_seq ?_
        refine pw_seq ?_
        refine pw_reg (by kernel_rfl) ?_
        refine x0 rfl (o_move (by conv => lhs; whnf)) (fun q => nomatch q) ?_
        first | (refine x0 rfl (o_cmp (by rfl) (by rfl) (c_eqT (by omega))) (fun q => nomatch q) ?_) | (refine x0 rfl (o_cmp (by rfl) (by rfl) (c_eqF (by omega))) (fun q => nomatch q) ?_) | (refine x0 rfl (o_cmp (by rfl) (by rfl) (c_eqT (by first | rfl | decide))) (fun q => nomatch q) ?_) | (refine x0 rfl (o_cmp (by rfl) (by rfl) (c_eqF (by first | decide | (simp; done) | (simp; omega)))) (fun q => nomatch q) ?_)
        refine x0 rfl (o_move (by conv => lhs; whnf)) (fun q => nomatch q) ?_
        refine x0 rfl (o_move (by conv => lhs; whnf)) (fun q => nomatch q) ?_
        first | (refine x0 rfl (o_cmp (by rfl) (by rfl) (c_ltT (by omega))) (fun q => nomatch q) ?_) | (refine x0 rfl (o_cmp (by rfl) (by rfl) (c_ltF (by omega))) (fun q => nomatch q) ?_) | (refine x0 rfl (o_cmp (by rfl) (by rfl) (c_ltT (by first | rfl | decide))) (fun q => nomatch q) ?_) | (refine x0 rfl (o_cmp (by rfl) (by rfl) (c_ltF (by first | decide | (simp; done) | (simp; omega)))) (fun q => nomatch q) ?_)
        refine x0 rfl (o_neB (by rfl) (by rfl) Ty.u4 (by conv => lhs; whnf)) (fun q => nomatch q) ?_
        refine x0 rfl (o_move (by conv => lhs; whnf)) (fun q => nomatch q) ?_
        first | (refine x0 rfl (o_loadA (by rfl) (by conv => lhs; whnf) rfl Ty.a24 Ty.s24 (Nat.le_of_ble_eq_true rfl) (by conv => lhs; whnf)) (fun q => nomatch q) ?_) | (refine x0 rfl (o_loadRA (by rfl) Ty.a24 Ty.s24 (Nat.le_of_ble_eq_true rfl) (by conv => lhs; whnf)) (fun q => nomatch q) ?_) | (refine x_skip rfl ?_)
        first | (refine x0 rfl (o_call  rfl Try.func22 rfl (by decide) rfl rfl rfl (len_ok false (L.take (min (k + 1) n)) n) rfl) (fun q => nomatch q) ?_) | (refine x_skip rfl ?_)
        first | (refine x0 rfl (o_move (by conv => lhs; whnf)) (fun q => nomatch q) ?_) | (refine x_skip rfl ?_)
        first | (refine x0 rfl (o_ari (by rfl) (by rfl) (ari_add (by rfl) (by omega) (by omega))) (fun q => nomatch q) ?_) | (refine x_skip rfl ?_)
        first | (refine x0 rfl (o_move (by conv => lhs; whnf)) (fun q => nomatch q) ?_) | (refine x_skip rfl ?_)
        first | (refine x0 rfl (o_min (r := ((min (k + 1) n : Nat) : Int)) (by conv => lhs; whnf) (by conv => lhs; whnf) (by split <;> omega)) (fun q => nomatch q) ?_) | (refine x_skip rfl ?_)
        first | (refine x0 rfl (o_cmp (by rfl) (by rfl) (c_neF (by simp; omega))) (fun q => nomatch q) ?_) | (refine x_skip rfl ?_)
        first | (refine x0 rfl (o_pickT (by rfl) (by conv => lhs; whnf)) (fun q => nomatch q) ?_) | (refine x0 rfl (o_pickF (by rfl) (by conv => lhs; whnf)) (fun q => nomatch q) ?_)
        refine x_nil ?_
        refine pw_cond false (by rfl) (fun q => nomatch q) (fun _ => ?_)
        refine pw_skip ?_
        refine pw_reg (by kernel_rfl) ?_
        first | (refine x0 rfl (o_loadA (by rfl) (by conv => lhs; whnf) rfl Ty.a24 Ty.s24 (Nat.le_of_ble_eq_true rfl) (by conv => lhs; whnf)) (fun q => nomatch q) ?_) | (refine x0 rfl (o_loadRA (by rfl) Ty.a24 Ty.s24 (Nat.le_of_ble_eq_true rfl) (by conv => lhs; whnf)) (fun q => nomatch q) ?_)
        refine x_sto rfl (o_store (by conv => lhs; whnf) (by conv => lhs; whnf) (by conv => lhs; whnf) rfl Ty.s24 (Nat.le_of_ble_eq_true rfl) rfl) (by conv => lhs; whnf) rfl (Nat.zero_le _) (Nat.le_of_ble_eq_true rfl) rfl (by conv => lhs; whnf) (by conv => lhs; whnf) (by conv => lhs; whnf) (fun q => nomatch q) (fun q => nomatch q) ?_
        refine x_nil ?_
        refine pw_reg (by kernel_rfl) ?_
        refine x0 rfl (o_move (by conv => lhs; whnf)) (fun q => nomatch q) ?_
        refine x0 rfl (o_ari (by rfl) (by rfl) (ari_add (by rfl) (by omega) (by omega))) (fun q => nomatch q) ?_
        refine x0 rfl (o_assign (by conv => lhs; whnf)) (fun q => nomatch q) ?_
        refine x_nil ?_
        exact ⟨_, _, (by omega), wk_st [(1, .lst t L), (5, .int .i64 n), (6, .ptr 6 0 0), (7, .int .i64 (k + 1))] [(6, ⟨[.agg [.lst (false) (L.take (min (k + 1) n)), .int .i64 n]], 0, false, 2, true⟩)] ⟨rfl, rfl, rfl, rfl, rfl, rfl, rfl, rfl, rfl, rfl, rfl, rfl, trivial⟩ ⟨rowLe_same rfl rfl rfl (fun q => q) rfl rfl rfl, trivial⟩, k + 1, false, rfl, (by omega), rfl⟩
      · skip
        refine pw_seq ?_
        refine pw_seq ?_
        refine pw_reg (by kernel_rfl) ?_
        refine x0 rfl (o_move (by conv => lhs; whnf)) (fun q => nomatch q) ?_
        refine x0 rfl (o_move (by conv => lhs; whnf)) (fun q => nomatch q) ?_
        first | (refine x0 rfl (o_lenL (by rfl) Ty.e22 rfl) (fun q => nomatch q) ?_) | (refine x0 rfl (o_lenR (by rfl) (by conv => lhs; whnf) Ty.e22 rfl) (fun q => nomatch q) ?_)
        first | (refine x0 rfl (o_cmp (by rfl) (by rfl) (c_ltT (by omega))) (fun q => nomatch q) ?_) | (refine x0 rfl (o_cmp (by rfl) (by rfl) (c_ltF (by omega))) (fun q => nomatch q) ?_) | (refine x0 rfl (o_cmp (by rfl) (by rfl) (c_ltT (by first | rfl | decide))) (fun q => nomatch q) ?_) | (refine x0 rfl (o_cmp (by rfl) (by rfl) (c_ltF (by first | decide | (simp; done) | (simp; omega)))) (fun q => nomatch q) ?_)
        refine x_nil ?_
        refine pw_cond true (by rfl) (fun _ => ?_) (fun q => nomatch q)
        refine pw_skip ?_
        refine pw_seq ?_
        refine pw_block ?_
        refine pw_seq ?_
        refine pw_drw [] Ty.mix (by kernel_rfl) (by kernel_rfl) ?_
        first | (refine x0 rfl (o_loadA (by rfl) (by conv => lhs; whnf) rfl Ty.a24 Ty.s24 (Nat.le_of_ble_eq_true rfl) (by conv => lhs; whnf)) (fun _ => rfl) ?_) | (refine x0 rfl (o_loadRA (by rfl) Ty.a24 Ty.s24 (Nat.le_of_ble_eq_true rfl) (by conv => lhs; whnf)) (fun _ => rfl) ?_)
        refine x7 rfl (fun _ hN => o_move (by conv => lhs; whnf)) rfl ?_
        refine x7 rfl (fun _ hN => o_move (by conv => lhs; whnf)) rfl ?_
        first | (refine x0 rfl (o_idxL (m := k) (by rfl) (by rfl) rfl hv Ty.e22 Ty.s3 (by rfl) (by conv => lhs; whnf)) (fun _ => rfl) ?_) | (refine x0 rfl (o_idxR (m := k) (by rfl) (by conv => lhs; whnf) (by rfl) rfl hv Ty.e22 Ty.s3 rfl) (fun _ => rfl) ?_)
        first | (refine x0 rfl (o_loadS (by rfl) (by conv => lhs; whnf) rfl Ty.a3 (by conv => lhs; whnf)) (fun _ => rfl) ?_) | (refine x0 rfl (o_loadRS (by rfl) Ty.a3 (by conv => lhs; whnf)) (fun _ => rfl) ?_)
        refine x_cal rfl (o_callF (ls := [])  rfl Try.func13 rfl (by decide) rfl rfl rfl (push_full tt (L.take (min k n)) (L.take (min (k + 1) n)) (by congr 1; omega) n v (by simp; omega)) rfl) (fun _ => .inr (.inl rfl)) ?_
        refine x7 rfl (fun _ hN => o_move (by conv => lhs; whnf)) rfl ?_
        refine x7 rfl (fun _ hN => o_extract (by conv => lhs; whnf) (by conv => lhs; whnf)) rfl ?_
        refine x7 rfl (fun _ hN => o_extract (by conv => lhs; whnf) (by conv => lhs; whnf)) rfl ?_
        refine x1 rfl (o_alloc (z := 2) rfl Ty.z24 (by conv => lhs; whnf) rfl rfl) rfl (fun _ => by rfl) (fun _ => .inr ⟨_, _, rfl⟩) ?_
        refine x_sto rfl (o_store (by conv => lhs; whnf) (by conv => lhs; whnf) (by conv => lhs; whnf) rfl Ty.s24 (Nat.le_of_ble_eq_true rfl) rfl) (by conv => lhs; whnf) rfl (Nat.zero_le _) (Nat.le_of_ble_eq_true rfl) rfl (by conv => lhs; whnf) (by conv => lhs; whnf) (by conv => lhs; whnf) (fun _ => by rfl) (fun _ => trivial) ?_
        refine x7 rfl (fun _ hN => o_assign (by conv => lhs; whnf)) rfl ?_
        refine x_nil ?_
        refine pw_seq ?_
        refine pw_seq ?_
        refine pw_reg (by kernel_rfl) ?_
        refine x0 rfl (o_move (by conv => lhs; whnf)) (fun q => nomatch q) ?_
        first | (refine x0 rfl (o_cmp (by rfl) (by rfl) (c_eqT (by omega))) (fun q => nomatch q) ?_) | (refine x0 rfl (o_cmp (by rfl) (by rfl) (c_eqF (by omega))) (fun q => nomatch q) ?_) | (refine x0 rfl (o_cmp (by rfl) (by rfl) (c_eqT (by first | rfl | decide))) (fun q => nomatch q) ?_) | (refine x0 rfl (o_cmp (by rfl) (by rfl) (c_eqF (by first | decide | (simp; done) | (simp; omega)))) (fun q => nomatch q) ?_)
        refine x0 rfl (o_move (by conv => lhs; whnf)) (fun q => nomatch q) ?_
        refine x0 rfl (o_move (by conv => lhs; whnf)) (fun q => nomatch q) ?_
        first | (refine x0 rfl (o_cmp (by rfl) (by rfl) (c_ltT (by omega))) (fun q => nomatch q) ?_) | (refine x0 rfl (o_cmp (by rfl) (by rfl) (c_ltF (by omega))) (fun q => nomatch q) ?_) | (refine x0 rfl (o_cmp (by rfl) (by rfl) (c_ltT (by first | rfl | decide))) (fun q => nomatch q) ?_) | (refine x0 rfl (o_cmp (by rfl) (by rfl) (c_ltF (by first | decide | (simp; done) | (simp; omega)))) (fun q => nomatch q) ?_)
        refine x0 rfl (o_neB (by rfl) (by rfl) Ty.u4 (by conv => lhs; whnf)) (fun q => nomatch q) ?_
        refine x0 rfl (o_move (by conv => lhs; whnf)) (fun q => nomatch q) ?_
        first | (refine x0 rfl (o_loadA (by rfl) (by conv => lhs; whnf) rfl Ty.a24 Ty.s24 (Nat.le_of_ble_eq_true rfl) (by conv => lhs; whnf)) (fun q => nomatch q) ?_) | (refine x0 rfl (o_loadRA (by rfl) Ty.a24 Ty.s24 (Nat.le_of_ble_eq_true rfl) (by conv => lhs; whnf)) (fun q => nomatch q) ?_) | (refine x_skip rfl ?_)
        first | (refine x0 rfl (o_call  rfl Try.func22 rfl (by decide) rfl rfl rfl (len_ok tt (L.take (min (k + 1) n)) n) rfl) (fun q => nomatch q) ?_) | (refine x_skip rfl ?_)
        first | (refine x0 rfl (o_move (by conv => lhs; whnf)) (fun q => nomatch q) ?_) | (refine x_skip rfl ?_)
        first | (refine x0 rfl (o_ari (by rfl) (by rfl) (ari_add (by rfl) (by omega) (by omega))) (fun q => nomatch q) ?_) | (refine x_skip rfl ?_)
        first | (refine x0 rfl (o_move (by conv => lhs; whnf)) (fun q => nomatch q) ?_) | (refine x_skip rfl ?_)
        first | (refine x0 rfl (o_min (r := ((min (k + 1) n : Nat) : Int)) (by conv => lhs; whnf) (by conv => lhs; whnf) (by split <;> omega)) (fun q => nomatch q) ?_) | (refine x_skip rfl ?_)
        first | (refine x0 rfl (o_cmp (by rfl) (by rfl) (c_neF (by simp; omega))) (fun q => nomatch q) ?_) | (refine x_skip rfl ?_)
        first | (refine x0 rfl (o_pickT (by rfl) (by conv => lhs; whnf)) (fun q => nomatch q) ?_) | (refine x0 rfl (o_pickF (by rfl) (by conv => lhs; whnf)) (fun q => nomatch q) ?_)
        refine x_nil ?_
        refine pw_cond false (by rfl) (fun q => nomatch q) (fun _ => ?_)
        refine pw_skip ?_
        refine pw_reg (by kernel_rfl) ?_
        first | (refine x0 rfl (o_loadA (by rfl) (by conv => lhs; whnf) rfl Ty.a24 Ty.s24 (Nat.le_of_ble_eq_true rfl) (by conv => lhs; whnf)) (fun q => nomatch q) ?_) | (refine x0 rfl (o_loadRA (by rfl) Ty.a24 Ty.s24 (Nat.le_of_ble_eq_true rfl) (by conv => lhs; whnf)) (fun q => nomatch q) ?_)
        refine x_sto rfl (o_store (by conv => lhs; whnf) (by conv => lhs; whnf) (by conv => lhs; whnf) rfl Ty.s24 (Nat.le_of_ble_eq_true rfl) rfl) (by conv => lhs; whnf) rfl (Nat.zero_le _) (Nat.le_of_ble_eq_true rfl) rfl (by conv => lhs; whnf) (by conv => lhs; whnf) (by conv => lhs; whnf) (fun q => nomatch q) (fun q => nomatch q) ?_
        refine x_nil ?_
        refine pw_reg (by kernel_rfl) ?_
        refine x0 rfl (o_move (by conv => lhs; whnf)) (fun q => nomatch q) ?_
        refine x0 rfl (o_ari (by rfl) (by rfl) (ari_add (by rfl) (by omega) (by omega))) (fun q => nomatch q) ?_
        refine x0 rfl (o_assign (by conv => lhs; whnf)) (fun q => nomatch q) ?_
        refine x_nil ?_
        exact ⟨_, _, (by omega), wk_st [(1, .lst t L), (5, .int .i64 n), (6, .ptr 6 0 0), (7, .int .i64 (k + 1))] [(6, ⟨[.agg [.lst (tt) (L.take (min (k + 1) n)), .int .i64 n]], 0, false, 2, true⟩)] ⟨rfl, rfl, rfl, rfl, rfl, rfl, rfl, rfl, rfl, rfl, rfl, rfl, trivial⟩ ⟨rowLe_same rfl rfl rfl (fun q => q) rfl rfl rfl, trivial⟩, k + 1, tt, rfl, (by omega), rfl⟩
    · obtain rfl : k = L.length := by omega
      refine pw_seq ?_
      refine pw_seq ?_
      refine pw_reg (by kernel_rfl) ?_
      refine x0 rfl (o_move (by conv => lhs; whnf)) (fun q => nomatch q) ?_
      refine x0 rfl (o_move (by conv => lhs; whnf)) (fun q => nomatch q) ?_
      first | (refine x0 rfl (o_lenL (by rfl) Ty.e22 rfl) (fun q => nomatch q) ?_) | (refine x0 rfl (o_lenR (by rfl) (by conv => lhs; whnf) Ty.e22 rfl) (fun q => nomatch q) ?_)
      first | (refine x0 rfl (o_cmp (by rfl) (by rfl) (c_ltT (by omega))) (fun q => nomatch q) ?_) | (refine x0 rfl (o_cmp (by rfl) (by rfl) (c_ltF (by omega))) (fun q => nomatch q) ?_) | (refine x0 rfl (o_cmp (by rfl) (by rfl) (c_ltT (by first | rfl | decide))) (fun q => nomatch q) ?_) | (refine x0 rfl (o_cmp (by rfl) (by rfl) (c_ltF (by first | decide | (simp; done) | (simp; omega)))) (fun q => nomatch q) ?_)
      refine x_nil ?_
      refine pw_cond false (by rfl) (fun q => nomatch q) (fun _ => ?_)
      refine pw_exit ?_
      refine thenQ_exit ?_
      refine thenQ_exit ?_
      refine blockQ_exit ?_
      refine pw_seq ?_
      refine pw_seq ?_
      refine pw_reg (by kernel_rfl) ?_
      refine x0 rfl (o_assign (by conv => lhs; whnf)) (fun q => nomatch q) ?_
      refine x_nil ?_
      refine pw_block ?_
      refine pw_loopW (fun m s => ∃ j : Nat, ∃ tt : Bool, m = min L.length n - j ∧ (j ≤ min L.length n) ∧ s = St.of [(1, .lst t L), (5, .int .i64 n), (6, .ptr 6 0 0), (10, .int .i64 j)] [(6, ⟨[.agg [.lst tt ((L.take (min L.length n)).drop j), .int .i64 n]], 0, false, 2, true⟩)]) (m := min L.length n - (0)) (wk_st [(1, .lst t L), (5, .int .i64 n), (6, .ptr 6 0 0), (10, .int .i64 (0))] [(6, ⟨[.agg [.lst (tt) ((L.take (min L.length n)).drop (0)), .int .i64 n]], 0, false, 2, true⟩)] ⟨rfl, rfl, rfl, rfl, rfl, rfl, rfl, rfl, rfl, rfl, rfl, rfl, trivial⟩ ⟨rowLe_same rfl rfl rfl (fun q => q) rfl rfl rfl, trivial⟩) ⟨0, tt, rfl, (Nat.zero_le _), rfl⟩ ?_
      · rintro _ _ ⟨j, tt, rfl, hj, rfl⟩
        rcases Nat.lt_or_ge j (min L.length n) with hj2 | hj2
        · obtain ⟨v, hv⟩ := hI.get (k := j) (by omega)
          refine pw_seq ?_
          refine pw_seq ?_
          refine pw_reg (by kernel_rfl) ?_
          refine x0 rfl (o_move (by conv => lhs; whnf)) (fun q => nomatch q) ?_
          refine x0 rfl (o_move (by conv => lhs; whnf)) (fun q => nomatch q) ?_
          first | (refine x0 rfl (o_lenL (by rfl) Ty.e22 rfl) (fun q => nomatch q) ?_) | (refine x0 rfl (o_lenR (by rfl) (by conv => lhs; whnf) Ty.e22 rfl) (fun q => nomatch q) ?_)
          first | (refine x0 rfl (o_cmp (by rfl) (by rfl) (c_ltT (by omega))) (fun q => nomatch q) ?_) | (refine x0 rfl (o_cmp (by rfl) (by rfl) (c_ltF (by omega))) (fun q => nomatch q) ?_) | (refine x0 rfl (o_cmp (by rfl) (by rfl) (c_ltT (by first | rfl | decide))) (fun q => nomatch q) ?_) | (refine x0 rfl (o_cmp (by rfl) (by rfl) (c_ltF (by first | decide | (simp; done) | (simp; omega)))) (fun q => nomatch q) ?_)
          refine x0 rfl (o_move (by conv => lhs; whnf)) (fun q => nomatch q) ?_
          first | (refine x0 rfl (o_move (by conv => lhs; whnf)) (fun q => nomatch q) ?_) | (refine x_skip rfl ?_)
          first | (refine x0 rfl (o_move (by conv => lhs; whnf)) (fun q => nomatch q) ?_) | (refine x_skip rfl ?_)
          first | (refine x0 rfl (o_cmp (by rfl) (by rfl) (c_ltT (by omega))) (fun q => nomatch q) ?_) | (refine x0 rfl (o_cmp (by rfl) (by rfl) (c_ltF (by omega))) (fun q => nomatch q) ?_) | (refine x0 rfl (o_cmp (by rfl) (by rfl) (c_ltT (by first | rfl | decide))) (fun q => nomatch q) ?_) | (refine x0 rfl (o_cmp (by rfl) (by rfl) (c_ltF (by first | decide | (simp; done) | (simp; omega)))) (fun q => nomatch q) ?_) | (refine x_skip rfl ?_)
          first | (refine x0 rfl (o_pickT (by rfl) (by conv => lhs; whnf)) (fun q => nomatch q) ?_) | (refine x0 rfl (o_pickF (by rfl) (by conv => lhs; whnf)) (fun q => nomatch q) ?_)
          refine x_nil ?_
          refine pw_cond true (by rfl) (fun _ => ?_) (fun q => nomatch q)
          refine pw_skip ?_
          refine pw_seq ?_
          refine pw_block ?_
          refine pw_seq ?_
          refine pw_reg (by kernel_rfl) ?_
          first | (refine x0 rfl (o_loadA (by rfl) (by conv => lhs; whnf) rfl Ty.a24 Ty.s24 (Nat.le_of_ble_eq_true rfl) (by conv => lhs; whnf)) (fun q => nomatch q) ?_) | (refine x0 rfl (o_loadRA (by rfl) Ty.a24 Ty.s24 (Nat.le_of_ble_eq_true rfl) (by conv => lhs; whnf)) (fun q => nomatch q) ?_)
          refine x_cal rfl (o_callF (ls := [])  rfl Try.func16 rfl (by decide) rfl rfl rfl (pop_ok tt v n ((L.take (min L.length n)).drop j) ((L.take (min L.length n)).drop (j + 1)) (take_drop hv hj2) (fun e he => hI.len e (List.mem_of_mem_take (List.mem_of_mem_drop he)))) rfl) (fun q => nomatch q) ?_
          refine x0 rfl (o_move (by conv => lhs; whnf)) (fun q => nomatch q) ?_
          refine x0 rfl (o_extract (by conv => lhs; whnf) (by conv => lhs; whnf)) (fun q => nomatch q) ?_
          refine x0 rfl (o_extract (by conv => lhs; whnf) (by conv => lhs; whnf)) (fun q => nomatch q) ?_
          refine x0 rfl (o_extract (by conv => lhs; whnf) (by conv => lhs; whnf)) (fun q => nomatch q) ?_
          refine x1 rfl (o_alloc (z := 2) rfl Ty.z24 (by conv => lhs; whnf) rfl rfl) rfl (fun q => nomatch q) (fun q => nomatch q) ?_
          refine x_sto rfl (o_store (by conv => lhs; whnf) (by conv => lhs; whnf) (by conv => lhs; whnf) rfl Ty.s24 (Nat.le_of_ble_eq_true rfl) rfl) (by conv => lhs; whnf) rfl (Nat.zero_le _) (Nat.le_of_ble_eq_true rfl) rfl (by conv => lhs; whnf) (by conv => lhs; whnf) (by conv => lhs; whnf) (fun q => nomatch q) (fun q => nomatch q) ?_
          refine x0 rfl (o_assign (by conv => lhs; whnf)) (fun q => nomatch q) ?_
          refine x0 rfl (o_assign (by conv => lhs; whnf)) (fun q => nomatch q) ?_
          refine x_nil ?_
          refine pw_seq ?_
          refine pw_seq ?_
          refine pw_reg (by kernel_rfl) ?_
          refine x0 rfl (o_move (by conv => lhs; whnf)) (fun q => nomatch q) ?_
          first | (refine x0 rfl (o_cmp (by rfl) (by rfl) (c_neT (by omega))) (fun q => nomatch q) ?_) | (refine x0 rfl (o_cmp (by rfl) (by rfl) (c_neF (by omega))) (fun q => nomatch q) ?_) | (refine x0 rfl (o_cmp (by rfl) (by rfl) (c_neT (by first | rfl | decide))) (fun q => nomatch q) ?_) | (refine x0 rfl (o_cmp (by rfl) (by rfl) (c_neF (by first | decide | (simp; done) | (simp; omega)))) (fun q => nomatch q) ?_)
          refine x0 rfl (o_move (by conv => lhs; whnf)) (fun q => nomatch q) ?_
          first | (refine x0 rfl (o_move (by conv => lhs; whnf)) (fun q => nomatch q) ?_) | (refine x_skip rfl ?_)
          first | (refine x0 rfl (o_move (by conv => lhs; whnf)) (fun q => nomatch q) ?_) | (refine x_skip rfl ?_)
          first | (refine x0 rfl (o_move (by conv => lhs; whnf)) (fun q => nomatch q) ?_) | (refine x_skip rfl ?_)
          first | (refine x0 rfl (o_idxL (m := j) (by rfl) (by rfl) rfl hv Ty.e22 Ty.s3 (by rfl) (by conv => lhs; whnf)) (fun q => nomatch q) ?_) | (refine x0 rfl (o_idxR (m := j) (by rfl) (by conv => lhs; whnf) (by rfl) rfl hv Ty.e22 Ty.s3 rfl) (fun q => nomatch q) ?_) | (refine x_skip rfl ?_)
          first | (refine x0 rfl (o_loadS (by rfl) (by conv => lhs; whnf) rfl Ty.a3 (by conv => lhs; whnf)) (fun q => nomatch q) ?_) | (refine x0 rfl (o_loadRS (by rfl) Ty.a3 (by conv => lhs; whnf)) (fun q => nomatch q) ?_) | (refine x_skip rfl ?_)
          first | (refine x0 rfl (o_cmp (by rfl) (by rfl) (c_neT (by omega))) (fun q => nomatch q) ?_) | (refine x0 rfl (o_cmp (by rfl) (by rfl) (c_neF (by omega))) (fun q => nomatch q) ?_) | (refine x0 rfl (o_cmp (by rfl) (by rfl) (c_neT (by first | rfl | decide))) (fun q => nomatch q) ?_) | (refine x0 rfl (o_cmp (by rfl) (by rfl) (c_neF (by first | decide | (simp; done) | (simp; omega)))) (fun q => nomatch q) ?_) | (refine x_skip rfl ?_)
          first | (refine x0 rfl (o_pickT (by rfl) (by conv => lhs; whnf)) (fun q => nomatch q) ?_) | (refine x0 rfl (o_pickF (by rfl) (by conv => lhs; whnf)) (fun q => nomatch q) ?_)
          refine x_nil ?_
          refine pw_cond false (by rfl) (fun q => nomatch q) (fun _ => ?_)
          refine pw_skip ?_
          refine pw_reg (by kernel_rfl) ?_
          first | (refine x0 rfl (o_loadA (by rfl) (by conv => lhs; whnf) rfl Ty.a24 Ty.s24 (Nat.le_of_ble_eq_true rfl) (by conv => lhs; whnf)) (fun q => nomatch q) ?_) | (refine x0 rfl (o_loadRA (by rfl) Ty.a24 Ty.s24 (Nat.le_of_ble_eq_true rfl) (by conv => lhs; whnf)) (fun q => nomatch q) ?_)
          refine x_sto rfl (o_store (by conv => lhs; whnf) (by conv => lhs; whnf) (by conv => lhs; whnf) rfl Ty.s24 (Nat.le_of_ble_eq_true rfl) rfl) (by conv => lhs; whnf) rfl (Nat.zero_le _) (Nat.le_of_ble_eq_true rfl) rfl (by conv => lhs; whnf) (by conv => lhs; whnf) (by conv => lhs; whnf) (fun q => nomatch q) (fun q => nomatch q) ?_
          refine x_nil ?_
          refine pw_reg (by kernel_rfl) ?_
          refine x0 rfl (o_move (by conv => lhs; whnf)) (fun q => nomatch q) ?_
          refine x0 rfl (o_ari (by rfl) (by rfl) (ari_add (by rfl) (by omega) (by omega))) (fun q => nomatch q) ?_
          refine x0 rfl (o_assign (by conv => lhs; whnf)) (fun q => nomatch q) ?_
          refine x_nil ?_
          exact ⟨_, _, (by omega), wk_st [(1, .lst t L), (5, .int .i64 n), (6, .ptr 6 0 0), (10, .int .i64 (j + 1))] [(6, ⟨[.agg [.lst (true) ((L.take (min L.length n)).drop (j + 1)), .int .i64 n]], 0, false, 2, true⟩)] ⟨rfl, rfl, rfl, rfl, rfl, rfl, rfl, rfl, rfl, rfl, rfl, rfl, trivial⟩ ⟨rowLe_same rfl rfl rfl (fun q => q) rfl rfl rfl, trivial⟩, j + 1, true, rfl, (by omega), rfl⟩
        · have hj3 : j = min L.length n := by omega
          rcases Nat.lt_or_ge n L.length with hq | hq
          · skip
            refine pw_seq ?_
            refine pw_seq ?_
            refine pw_reg (by kernel_rfl) ?_
            refine x0 rfl (o_move (by conv => lhs; whnf)) (fun q => nomatch q) ?_
            refine x0 rfl (o_move (by conv => lhs; whnf)) (fun q => nomatch q) ?_
            first | (refine x0 rfl (o_lenL (by rfl) Ty.e22 rfl) (fun q => nomatch q) ?_) | (refine x0 rfl (o_lenR (by rfl) (by conv => lhs; whnf) Ty.e22 rfl) (fun q => nomatch q) ?_)
            first | (refine x0 rfl (o_cmp (by rfl) (by rfl) (c_ltT (by omega))) (fun q => nomatch q) ?_) | (refine x0 rfl (o_cmp (by rfl) (by rfl) (c_ltF (by omega))) (fun q => nomatch q) ?_) | (refine x0 rfl (o_cmp (by rfl) (by rfl) (c_ltT (by first | rfl | decide))) (fun q => nomatch q) ?_) | (refine x0 rfl (o_cmp (by rfl) (by rfl) (c_ltF (by first | decide | (simp; done) | (simp; omega)))) (fun q => nomatch q) ?_)
            refine x0 rfl (o_move (by conv => lhs; whnf)) (fun q => nomatch q) ?_
            first | (refine x0 rfl (o_move (by conv => lhs; whnf)) (fun q => nomatch q) ?_) | (refine x_skip rfl ?_)
            first | (refine x0 rfl (o_move (by conv => lhs; whnf)) (fun q => nomatch q) ?_) | (refine x_skip rfl ?_)
            first | (refine x0 rfl (o_cmp (by rfl) (by rfl) (c_ltT (by omega))) (fun q => nomatch q) ?_) | (refine x0 rfl (o_cmp (by rfl) (by rfl) (c_ltF (by omega))) (fun q => nomatch q) ?_) | (refine x0 rfl (o_cmp (by rfl) (by rfl) (c_ltT (by first | rfl | decide))) (fun q => nomatch q) ?_) | (refine x0 rfl (o_cmp (by rfl) (by rfl) (c_ltF (by first | decide | (simp; done) | (simp; omega)))) (fun q => nomatch q) ?_) | (refine x_skip rfl ?_)
            first | (refine x0 rfl (o_pickT (by rfl) (by conv => lhs; whnf)) (fun q => nomatch q) ?_) | (refine x0 rfl (o_pickF (by rfl) (by conv => lhs; whnf)) (fun q => nomatch q) ?_)
            refine x_nil ?_
            refine pw_cond false (by rfl) (fun q => nomatch q) (fun _ => ?_)
            refine pw_exit ?_
            refine thenQ_exit ?_
            refine thenQ_exit ?_
            refine blockQ_exit ?_
            refine pw_seq ?_
            refine pw_reg (by kernel_rfl) ?_
            first | (refine x0 rfl (o_loadA (by rfl) (by conv => lhs; whnf) rfl Ty.a24 Ty.s24 (Nat.le_of_ble_eq_true rfl) (by conv => lhs; whnf)) (fun q => nomatch q) ?_) | (refine x0 rfl (o_loadRA (by rfl) Ty.a24 Ty.s24 (Nat.le_of_ble_eq_true rfl) (by conv => lhs; whnf)) (fun q => nomatch q) ?_)
            refine x_cal rfl (o_callF (ls := [])  rfl Try.func16 rfl (by decide) rfl rfl rfl (pop_nil tt ((L.take (min L.length n)).drop j) (by simp; omega) n) rfl) (fun q => nomatch q) ?_
            refine x0 rfl (o_move (by conv => lhs; whnf)) (fun q => nomatch q) ?_
            refine x0 rfl (o_extract (by conv => lhs; whnf) (by conv => lhs; whnf)) (fun q => nomatch q) ?_
            refine x0 rfl (o_extract (by conv => lhs; whnf) (by conv => lhs; whnf)) (fun q => nomatch q) ?_
            refine x0 rfl (o_extract (by conv => lhs; whnf) (by conv => lhs; whnf)) (fun q => nomatch q) ?_
            refine x1 rfl (o_alloc (z := 2) rfl Ty.z24 (by conv => lhs; whnf) rfl rfl) rfl (fun q => nomatch q) (fun q => nomatch q) ?_
            refine x_sto rfl (o_store (by conv => lhs; whnf) (by conv => lhs; whnf) (by conv => lhs; whnf) rfl Ty.s24 (Nat.le_of_ble_eq_true rfl) rfl) (by conv => lhs; whnf) rfl (Nat.zero_le _) (Nat.le_of_ble_eq_true rfl) rfl (by conv => lhs; whnf) (by conv => lhs; whnf) (by conv => lhs; whnf) (fun q => nomatch q) (fun q => nomatch q) ?_
            refine x0 rfl (o_assign (by conv => lhs; whnf)) (fun q => nomatch q) ?_
            refine x0 rfl (o_assign (by conv => lhs; whnf)) (fun q => nomatch q) ?_
            refine x_nil ?_
            refine pw_seq ?_
            refine pw_reg (by kernel_rfl) ?_
            refine x0 rfl (o_move (by conv => lhs; whnf)) (fun q => nomatch q) ?_
            first | (refine x0 rfl (o_cmp (by rfl) (by rfl) (c_eqT (by omega))) (fun q => nomatch q) ?_) | (refine x0 rfl (o_cmp (by rfl) (by rfl) (c_eqF (by omega))) (fun q => nomatch q) ?_) | (refine x0 rfl (o_cmp (by rfl) (by rfl) (c_eqT (by first | rfl | decide))) (fun q => nomatch q) ?_) | (refine x0 rfl (o_cmp (by rfl) (by rfl) (c_eqF (by first | decide | (simp; done) | (simp; omega)))) (fun q => nomatch q) ?_)
            refine x0 rfl (o_move (by conv => lhs; whnf)) (fun q => nomatch q) ?_
            first | (refine x0 rfl (o_loadA (by rfl) (by conv => lhs; whnf) rfl Ty.a24 Ty.s24 (Nat.le_of_ble_eq_true rfl) (by conv => lhs; whnf)) (fun q => nomatch q) ?_) | (refine x0 rfl (o_loadRA (by rfl) Ty.a24 Ty.s24 (Nat.le_of_ble_eq_true rfl) (by conv => lhs; whnf)) (fun q => nomatch q) ?_) | (refine x_skip rfl ?_)
            first | (refine x0 rfl (o_call  rfl Try.func22 rfl (by decide) rfl rfl rfl (len_ok tt ((L.take (min L.length n)).drop j) n) rfl) (fun q => nomatch q) ?_) | (refine x_skip rfl ?_)
            first | (refine x0 rfl (o_cmp (by rfl) (by rfl) (c_eqT (by simp; omega))) (fun q => nomatch q) ?_) | (refine x_skip rfl ?_)
            first | (refine x0 rfl (o_pickT (by rfl) (by conv => lhs; whnf)) (fun q => nomatch q) ?_) | (refine x0 rfl (o_pickF (by rfl) (by conv => lhs; whnf)) (fun q => nomatch q) ?_)
            refine x0 rfl (o_assign (by conv => lhs; whnf)) (fun q => nomatch q) ?_
            refine x_nil ?_
            refine pw_ret ?_
            exact ⟨[_], ⟨rfl, trivial⟩, rfl, by (first | exact .inl rfl | exact .inr rfl)⟩
          · skip
            refine pw_seq ?_
            refine pw_seq ?_
            refine pw_reg (by kernel_rfl) ?_
            refine x0 rfl (o_move (by conv => lhs; whnf)) (fun q => nomatch q) ?_
            refine x0 rfl (o_move (by conv => lhs; whnf)) (fun q => nomatch q) ?_
            first | (refine x0 rfl (o_lenL (by rfl) Ty.e22 rfl) (fun q => nomatch q) ?_) | (refine x0 rfl (o_lenR (by rfl) (by conv => lhs; whnf) Ty.e22 rfl) (fun q => nomatch q) ?_)
            first | (refine x0 rfl (o_cmp (by rfl) (by rfl) (c_ltT (by omega))) (fun q => nomatch q) ?_) | (refine x0 rfl (o_cmp (by rfl) (by rfl) (c_ltF (by omega))) (fun q => nomatch q) ?_) | (refine x0 rfl (o_cmp (by rfl) (by rfl) (c_ltT (by first | rfl | decide))) (fun q => nomatch q) ?_) | (refine x0 rfl (o_cmp (by rfl) (by rfl) (c_ltF (by first | decide | (simp; done) | (simp; omega)))) (fun q => nomatch q) ?_)
            refine x0 rfl (o_move (by conv => lhs; whnf)) (fun q => nomatch q) ?_
            first | (refine x0 rfl (o_move (by conv => lhs; whnf)) (fun q => nomatch q) ?_) | (refine x_skip rfl ?_)
            first | (refine x0 rfl (o_move (by conv => lhs; whnf)) (fun q => nomatch q) ?_) | (refine x_skip rfl ?_)
            first | (refine x0 rfl (o_cmp (by rfl) (by rfl) (c_ltT (by omega))) (fun q => nomatch q) ?_) | (refine x0 rfl (o_cmp (by rfl) (by rfl) (c_ltF (by omega))) (fun q => nomatch q) ?_) | (refine x0 rfl (o_cmp (by rfl) (by rfl) (c_ltT (by first | rfl | decide))) (fun q => nomatch q) ?_) | (refine x0 rfl (o_cmp (by rfl) (by rfl) (c_ltF (by first | decide | (simp; done) | (simp; omega)))) (fun q => nomatch q) ?_) | (refine x_skip rfl ?_)
            first | (refine x0 rfl (o_pickT (by rfl) (by conv => lhs; whnf)) (fun q => nomatch q) ?_) | (refine x0 rfl (o_pickF (by rfl) (by conv => lhs; whnf)) (fun q => nomatch q) ?_)
            refine x_nil ?_
            refine pw_cond false (by rfl) (fun q => nomatch q) (fun _ => ?_)
            refine pw_exit ?_
            refine thenQ_exit ?_
            refine thenQ_exit ?_
            refine blockQ_exit ?_
            refine pw_seq ?_
            refine pw_reg (by kernel_rfl) ?_
            first | (refine x0 rfl (o_loadA (by rfl) (by conv => lhs; whnf) rfl Ty.a24 Ty.s24 (Nat.le_of_ble_eq_true rfl) (by conv => lhs; whnf)) (fun q => nomatch q) ?_) | (refine x0 rfl (o_loadRA (by rfl) Ty.a24 Ty.s24 (Nat.le_of_ble_eq_true rfl) (by conv => lhs; whnf)) (fun q => nomatch q) ?_)
            refine x_cal rfl (o_callF (ls := [])  rfl Try.func16 rfl (by decide) rfl rfl rfl (pop_nil tt ((L.take (min L.length n)).drop j) (by simp; omega) n) rfl) (fun q => nomatch q) ?_
            refine x0 rfl (o_move (by conv => lhs; whnf)) (fun q => nomatch q) ?_
            refine x0 rfl (o_extract (by conv => lhs; whnf) (by conv => lhs; whnf)) (fun q => nomatch q) ?_
            refine x0 rfl (o_extract (by conv => lhs; whnf) (by conv => lhs; whnf)) (fun q => nomatch q) ?_
            refine x0 rfl (o_extract (by conv => lhs; whnf) (by conv => lhs; whnf)) (fun q => nomatch q) ?_
            refine x1 rfl (o_alloc (z := 2) rfl Ty.z24 (by conv => lhs; whnf) rfl rfl) rfl (fun q => nomatch q) (fun q => nomatch q) ?_
            refine x_sto rfl (o_store (by conv => lhs; whnf) (by conv => lhs; whnf) (by conv => lhs; whnf) rfl Ty.s24 (Nat.le_of_ble_eq_true rfl) rfl) (by conv => lhs; whnf) rfl (Nat.zero_le _) (Nat.le_of_ble_eq_true rfl) rfl (by conv => lhs; whnf) (by conv => lhs; whnf) (by conv => lhs; whnf) (fun q => nomatch q) (fun q => nomatch q) ?_
            refine x0 rfl (o_assign (by conv => lhs; whnf)) (fun q => nomatch q) ?_
            refine x0 rfl (o_assign (by conv => lhs; whnf)) (fun q => nomatch q) ?_
            refine x_nil ?_
            refine pw_seq ?_
            refine pw_reg (by kernel_rfl) ?_
            refine x0 rfl (o_move (by conv => lhs; whnf)) (fun q => nomatch q) ?_
            first | (refine x0 rfl (o_cmp (by rfl) (by rfl) (c_eqT (by omega))) (fun q => nomatch q) ?_) | (refine x0 rfl (o_cmp (by rfl) (by rfl) (c_eqF (by omega))) (fun q => nomatch q) ?_) | (refine x0 rfl (o_cmp (by rfl) (by rfl) (c_eqT (by first | rfl | decide))) (fun q => nomatch q) ?_) | (refine x0 rfl (o_cmp (by rfl) (by rfl) (c_eqF (by first | decide | (simp; done) | (simp; omega)))) (fun q => nomatch q) ?_)
            refine x0 rfl (o_move (by conv => lhs; whnf)) (fun q => nomatch q) ?_
            first | (refine x0 rfl (o_loadA (by rfl) (by conv => lhs; whnf) rfl Ty.a24 Ty.s24 (Nat.le_of_ble_eq_true rfl) (by conv => lhs; whnf)) (fun q => nomatch q) ?_) | (refine x0 rfl (o_loadRA (by rfl) Ty.a24 Ty.s24 (Nat.le_of_ble_eq_true rfl) (by conv => lhs; whnf)) (fun q => nomatch q) ?_) | (refine x_skip rfl ?_)
            first | (refine x0 rfl (o_call  rfl Try.func22 rfl (by decide) rfl rfl rfl (len_ok tt ((L.take (min L.length n)).drop j) n) rfl) (fun q => nomatch q) ?_) | (refine x_skip rfl ?_)
            first | (refine x0 rfl (o_cmp (by rfl) (by rfl) (c_eqT (by simp; omega))) (fun q => nomatch q) ?_) | (refine x_skip rfl ?_)
            first | (refine x0 rfl (o_pickT (by rfl) (by conv => lhs; whnf)) (fun q => nomatch q) ?_) | (refine x0 rfl (o_pickF (by rfl) (by conv => lhs; whnf)) (fun q => nomatch q) ?_)
            refine x0 rfl (o_assign (by conv => lhs; whnf)) (fun q => nomatch q) ?_
            refine x_nil ?_
            refine pw_ret ?_
            exact ⟨[_], ⟨rfl, trivial⟩, rfl, by (first | exact .inl rfl | exact .inr rfl)⟩

end Go.Proofs.Ytgleeglhdlnobaa.C2
