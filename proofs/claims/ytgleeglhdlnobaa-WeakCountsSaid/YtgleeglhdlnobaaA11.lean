/-
  Layer 9: the laws.
  Conditions: the premises of each.
-/
import Derived.Test.YtgleeglhdlnobaaA10
namespace Go.Proofs.Ytgleeglhdlnobaa.C9c
open Go Go.Pw Go.Proofs C9
set_option linter.unusedVariables false
def ixs (p : C → Bool) (l : List C) : List Nat := (List.range l.length).filter fun i => (l[i]?).any p
def clr (H : List Int) (c : C) : C := if hit H c then off c else c
theorem clm_ixs (p : C → Bool) (l : List C) : clm l (ixs p l) = l.map fun c => if p c then off c else c := by
  apply List.ext_getElem?
  intro i
  cases h : l[i]? with
  | none => simp [clm, h]
  | some c =>
    have hlt : i < l.length := (List.getElem?_eq_some_iff.1 h).1
    rw [clm_get h, List.getElem?_map, h]
    by_cases q : p c = true
    · have : i ∈ ixs p l := List.mem_filter.2 ⟨by simpa using hlt, by simp [h, q]⟩
      simp [this, q]
    · have : i ∉ ixs p l := fun m => by
        have := (List.mem_filter.1 m).2
        rw [h] at this
        exact q (by simpa using this)
      simp [this, q]
theorem clear_all (t t2 : Bool) (l : List C) (hl : l.length ≤ 1000) (H : List Int) (hH : H.length ≤ 1000000) : PCalls Try.prog 29 [.lst t (l.map cell), .lst t2 (H.map (PV.int .i64))] (.tup [.lst false ((l.map (clr H)).map cell), .lst false (cld l (ixs (hit H) l))]) := by
  have := clear_ok t t2 l (H.map (PV.int .i64)) hl (ixs (hit H) l) (fun w hw => by
    have hlt : w < l.length := by simpa using (List.mem_filter.1 hw).1
    exact ⟨_, List.getElem?_eq_getElem hlt⟩) (Nat.le_trans (List.length_filter_le ..) (by simpa using hl))
    (picked_ok t l hl (by simp) 39 (.lst t2 (H.map (PV.int .i64))) rfl _ _ Try.func39 rfl (by decide) (hit H) (c39_ok t2 _ H rfl (by simpa using hH)))
  rw [clm_ixs] at this
  exact this
theorem plc_count (p : C → Bool) (l : List C) : ∀ k, k ≤ l.length → (plc p l k).length = (l.take k).countP p
  | 0, _ => rfl
  | k + 1, h => by
    have hv : l[k]? = some l[k] := List.getElem?_eq_getElem (by omega)
    rw [plc_succ p hv, List.length_append, plc_count p l k (by omega), List.take_add_one, hv, List.countP_append]
    congr 1
    simp only [Option.toList_some, List.countP_singleton]
    split <;> rfl
theorem plc_all (p : C → Bool) (l : List C) : (plc p l l.length).length = l.countP p := by
  rw [plc_count p l _ (Nat.le_refl _), List.take_length]
theorem cld_le (l : List C) (H : List Int) : (cld l (ixs (hit H) l)).length ≤ l.length :=
  Nat.le_trans (cld_len ..) (Nat.le_trans (List.length_filter_le ..) (by simp))
theorem hit_clr (H : List Int) (c : C) : hit H (clr H c) = false := by
  unfold clr
  split
  · simp [hit, off]
  · rename_i h; simpa using h
theorem cld_none (l : List C) (H : List Int) : cld (l.map (clr H)) (ixs (hit H) (l.map (clr H))) = [] := by
  have : ixs (hit H) (l.map (clr H)) = [] := by
    apply List.filter_eq_nil_iff.2
    intro i hi
    rw [List.getElem?_map]
    cases l[i]? with
    | none => simp
    | some c => simp [hit_clr]
  rw [this]
  rfl
theorem naming_clr (h : Int) (H : List Int) (c : C) : naming h (clr H c) = naming h c := by
  unfold clr
  split <;> rfl
theorem intact_in (h : Int) (H : List Int) (h0 : h ≠ 0) (hh : h ∈ H) (c : C) : intact h (clr H c) = false := by
  unfold clr
  split
  · simp [intact, off]
  · rename_i q
    by_cases e : c.1 = h
    · subst e
      simp [hit, h0, hh] at q
      simp [intact, q]
    · simp [intact, e]
theorem intact_out (h : Int) (H : List Int) (hh : ¬ (h ≠ 0 ∧ h ∈ H)) (c : C) : intact h (clr H c) = intact h c := by
  unfold clr
  split
  · rename_i q
    simp only [hit, Bool.and_eq_true, decide_eq_true_eq] at q
    by_cases e : c.1 = h
    · subst e
      exact absurd q.2 hh
    · simp [intact, off, e]
  · rfl
theorem count_naming (h : Int) (H : List Int) (l : List C) : (plc (naming h) (l.map (clr H)) (l.map (clr H)).length).length = (plc (naming h) l l.length).length := by
  rw [plc_all, plc_all, List.countP_map]
  congr 1
  funext c
  exact naming_clr h H c
theorem count_in (h : Int) (H : List Int) (l : List C) (h0 : h ≠ 0) (hh : h ∈ H) : (plc (intact h) (l.map (clr H)) (l.map (clr H)).length).length = 0 := by
  rw [plc_all, List.countP_map, List.countP_eq_zero]
  intro c _
  simp [intact_in h H h0 hh]
theorem count_out (h : Int) (H : List Int) (l : List C) (hh : ¬ (h ≠ 0 ∧ h ∈ H)) : (plc (intact h) (l.map (clr H)) (l.map (clr H)).length).length = (plc (intact h) l l.length).length := by
  rw [plc_all, plc_all, List.countP_map]
  congr 1
  funext c
  exact intact_out h H hh c
theorem tms_pos (H : List Int) (h : Int) : 0 < C9b.tms (H.map (PV.int .i64)) (C9b.isH h) (H.map (PV.int .i64)).length ↔ (h ≠ 0 ∧ h ∈ H) := by
  unfold C9b.tms
  rw [List.take_length, List.countP_map, List.countP_pos_iff]
  constructor
  · rintro ⟨a, h1, h2⟩
    simp [C9b.isH] at h2
    exact ⟨by omega, by rw [← h2.1]; exact h1⟩
  · rintro ⟨h1, h2⟩
    exact ⟨h, h2, by simp [C9b.isH, h1]⟩
def z0 : C := (0, false, -1)
def l0 : List C := [z0, z0, z0]
def l1 : List C := [(3, true, 0), z0, z0]
def l2 : List C := [(3, true, 0), (4, true, 0), z0]
def l3 : List C := [(3, true, 0), (4, true, 0), (3, true, -1)]
def l4 : List C := [(3, false, 0), (4, true, 0), (3, false, -1)]
theorem clear_it : PCalls Try.prog 29 [.lst false (l3.map cell), .lst false [.int .i64 3, .int .i64 0]] (.tup [.lst false (l4.map cell), .lst false [.int .i64 0]]) := clear_all false false l3 (by decide) [3, 0] (by decide)
namespace Ty
theorem a3 : tagg Try.prog 3 = some false := by kernel_rfl
theorem e22 : telem Try.prog 22 = some 3 := by kernel_rfl
theorem e59 : telem Try.prog 59 = some 76 := by kernel_rfl
theorem s3 : tsize Try.prog 3 = some 1 := by kernel_rfl
theorem z3 : tzero Try.prog 3 = some ((.int .i64 0)) := by kernel_rfl
theorem mix : Try.prog.follows .mixedOrders = true := by kernel_rfl
end Ty
set_option maxRecDepth 100000 in
set_option maxHeartbeats 4000000 in
theorem shown_ok  : PCalls Try.prog 28 [] (.bool true) := by
  refine pc_intro (N := 108) Try.func28 rfl rfl (Nat.le_of_ble_eq_true rfl) fun w0 imm0 => ?_
  refine pw_seq ?_
  refine pw_reg (by kernel_rfl) ?_
  refine x0 rfl (o_assign (by conv => lhs; whnf)) (fun q => nomatch q) ?_
  refine x_nil ?_
  refine pw_seq ?_
  refine pw_reg (by kernel_rfl) ?_
  refine x_cal rfl (o_callF (ls := [])  rfl Try.func37 rfl (by decide) rfl rfl rfl (C9b.new_ok 3 (by omega)) rfl) (fun q => nomatch q) ?_
  refine x_cal rfl (o_callF (ls := [])  rfl Try.func33 rfl (by decide) rfl rfl rfl (set_ok false (l0.map cell) (l1.map cell) (cel_map _) (by decide) 0 (3) (0) (0) false (-1) true (by decide) rfl (by decide) rfl) rfl) (fun q => nomatch q) ?_
  refine x0 rfl (o_move (by conv => lhs; whnf)) (fun q => nomatch q) ?_
  refine x0 rfl (o_extract (by conv => lhs; whnf) (by conv => lhs; whnf)) (fun q => nomatch q) ?_
  refine x0 rfl (o_extract (by conv => lhs; whnf) (by conv => lhs; whnf)) (fun q => nomatch q) ?_
  refine x0 rfl (o_extract (by conv => lhs; whnf) (by conv => lhs; whnf)) (fun q => nomatch q) ?_
  refine x0 rfl (o_assign (by conv => lhs; whnf)) (fun q => nomatch q) ?_
  refine x0 rfl (o_assign (by conv => lhs; whnf)) (fun q => nomatch q) ?_
  refine x0 rfl (o_assign (by conv => lhs; whnf)) (fun q => nomatch q) ?_
  refine x_nil ?_
  refine pw_seq ?_
  refine pw_reg (by kernel_rfl) ?_
  refine x0 rfl (o_move (by conv => lhs; whnf)) (fun q => nomatch q) ?_
  refine x_cal rfl (o_callF (ls := [])  rfl Try.func33 rfl (by decide) rfl rfl rfl (set_ok false (l1.map cell) (l2.map cell) (cel_map _) (by decide) 1 (4) (0) (0) false (-1) true (by decide) rfl (by decide) rfl) rfl) (fun q => nomatch q) ?_
  refine x0 rfl (o_move (by conv => lhs; whnf)) (fun q => nomatch q) ?_
  refine x0 rfl (o_extract (by conv => lhs; whnf) (by conv => lhs; whnf)) (fun q => nomatch q) ?_
  refine x0 rfl (o_extract (by conv => lhs; whnf) (by conv => lhs; whnf)) (fun q => nomatch q) ?_
  refine x0 rfl (o_extract (by conv => lhs; whnf) (by conv => lhs; whnf)) (fun q => nomatch q) ?_
  refine x0 rfl (o_assign (by conv => lhs; whnf)) (fun q => nomatch q) ?_
  refine x_nil ?_
  refine pw_seq ?_
  refine pw_reg (by kernel_rfl) ?_
  refine x0 rfl (o_move (by conv => lhs; whnf)) (fun q => nomatch q) ?_
  refine x_cal rfl (o_callF (ls := [])  rfl Try.func33 rfl (by decide) rfl rfl rfl (set_ok false (l2.map cell) (l3.map cell) (cel_map _) (by decide) 2 (3) (-1) (0) false (-1) true (by decide) rfl (by decide) rfl) rfl) (fun q => nomatch q) ?_
  refine x0 rfl (o_move (by conv => lhs; whnf)) (fun q => nomatch q) ?_
  refine x0 rfl (o_extract (by conv => lhs; whnf) (by conv => lhs; whnf)) (fun q => nomatch q) ?_
  refine x0 rfl (o_extract (by conv => lhs; whnf) (by conv => lhs; whnf)) (fun q => nomatch q) ?_
  refine x0 rfl (o_extract (by conv => lhs; whnf) (by conv => lhs; whnf)) (fun q => nomatch q) ?_
  refine x0 rfl (o_assign (by conv => lhs; whnf)) (fun q => nomatch q) ?_
  refine x0 rfl (o_assign (by conv => lhs; whnf)) (fun q => nomatch q) ?_
  refine x0 rfl (o_assign (by conv => lhs; whnf)) (fun q => nomatch q) ?_
  refine x_nil ?_
  refine pw_seq ?_
  refine pw_reg (by kernel_rfl) ?_
  refine x0 rfl (o_move (by conv => lhs; whnf)) (fun q => nomatch q) ?_
  refine x_cal rfl (o_callF (ls := [])  rfl Try.func34 rfl (by decide) rfl rfl rfl (load_ok false (l3.map cell) 0 3 0 (by decide) (by decide) rfl) rfl) (fun q => nomatch q) ?_
  refine x0 rfl (o_move (by conv => lhs; whnf)) (fun q => nomatch q) ?_
  refine x0 rfl (o_extract (by conv => lhs; whnf) (by conv => lhs; whnf)) (fun q => nomatch q) ?_
  refine x0 rfl (o_extract (by conv => lhs; whnf) (by conv => lhs; whnf)) (fun q => nomatch q) ?_
  refine x0 rfl (o_assign (by conv => lhs; whnf)) (fun q => nomatch q) ?_
  refine x0 rfl (o_assign (by conv => lhs; whnf)) (fun q => nomatch q) ?_
  refine x_nil ?_
  refine pw_seq ?_
  refine pw_reg (by kernel_rfl) ?_
  refine x0 rfl (o_move (by conv => lhs; whnf)) (fun q => nomatch q) ?_
  refine x1 rfl (o_bslice (els := [.int .i64 3, .int .i64 0]) (cl := true) rfl (by first | rfl | (conv => lhs; simp only [List.toList_toArray, List.map_cons, List.map_nil])) Ty.e22 Ty.s3 Ty.z3 rfl rfl (Nat.le_of_ble_eq_true rfl) rfl (fun _ => rfl)) rfl (fun q => nomatch q) (fun q => nomatch q) ?_
  refine x_cal1 rfl (o_callF (ls := [40])  rfl Try.func29 rfl (by decide) rfl rfl rfl (clear_it) rfl) (by conv => lhs; whnf) (fun q => nomatch q) ?_
  refine x0 rfl (o_move (by conv => lhs; whnf)) (fun q => nomatch q) ?_
  refine x0 rfl (o_extract (by conv => lhs; whnf) (by conv => lhs; whnf)) (fun q => nomatch q) ?_
  refine x0 rfl (o_extract (by conv => lhs; whnf) (by conv => lhs; whnf)) (fun q => nomatch q) ?_
  refine x0 rfl (o_assign (by conv => lhs; whnf)) (fun q => nomatch q) ?_
  refine x0 rfl (o_assign (by conv => lhs; whnf)) (fun q => nomatch q) ?_
  refine x_nil ?_
  refine pw_seq ?_
  refine pw_reg (by kernel_rfl) ?_
  refine x0 rfl (o_move (by conv => lhs; whnf)) (fun q => nomatch q) ?_
  refine x_cal rfl (o_callF (ls := [])  rfl Try.func34 rfl (by decide) rfl rfl rfl (load_dead false (l4.map cell) 0 3 0 (by decide) (by decide) rfl) rfl) (fun q => nomatch q) ?_
  refine x0 rfl (o_move (by conv => lhs; whnf)) (fun q => nomatch q) ?_
  refine x0 rfl (o_extract (by conv => lhs; whnf) (by conv => lhs; whnf)) (fun q => nomatch q) ?_
  refine x0 rfl (o_extract (by conv => lhs; whnf) (by conv => lhs; whnf)) (fun q => nomatch q) ?_
  refine x0 rfl (o_assign (by conv => lhs; whnf)) (fun q => nomatch q) ?_
  refine x0 rfl (o_assign (by conv => lhs; whnf)) (fun q => nomatch q) ?_
  refine x_nil ?_
  refine pw_seq ?_
  refine pw_reg (by kernel_rfl) ?_
  refine x0 rfl (o_move (by conv => lhs; whnf)) (fun q => nomatch q) ?_
  refine x_cal rfl (o_callF (ls := [])  rfl Try.func33 rfl (by decide) rfl rfl rfl (set_no false (l3.map cell) 3 1 0 (by decide)) rfl) (fun q => nomatch q) ?_
  refine x0 rfl (o_move (by conv => lhs; whnf)) (fun q => nomatch q) ?_
  refine x0 rfl (o_extract (by conv => lhs; whnf) (by conv => lhs; whnf)) (fun q => nomatch q) ?_
  refine x0 rfl (o_extract (by conv => lhs; whnf) (by conv => lhs; whnf)) (fun q => nomatch q) ?_
  refine x0 rfl (o_extract (by conv => lhs; whnf) (by conv => lhs; whnf)) (fun q => nomatch q) ?_
  refine x0 rfl (o_assign (by conv => lhs; whnf)) (fun q => nomatch q) ?_
  refine x0 rfl (o_assign (by conv => lhs; whnf)) (fun q => nomatch q) ?_
  refine x0 rfl (o_assign (by conv => lhs; whnf)) (fun q => nomatch q) ?_
  refine x_nil ?_
  refine pw_seq ?_
  refine pw_reg (by kernel_rfl) ?_
  refine x0 rfl (o_move (by conv => lhs; whnf)) (fun q => nomatch q) ?_
  first | (refine x0 rfl (o_cmp (by rfl) (by rfl) (c_eqT (by omega))) (fun q => nomatch q) ?_) | (refine x0 rfl (o_cmp (by rfl) (by rfl) (c_eqF (by omega))) (fun q => nomatch q) ?_) | (refine x0 rfl (o_cmp (by rfl) (by rfl) (c_eqT (by first | rfl | decide))) (fun q => nomatch q) ?_) | (refine x0 rfl (o_cmp (by rfl) (by rfl) (c_eqF (by first | decide | (simp; done) | (simp; omega)))) (fun q => nomatch q) ?_)
  refine x0 rfl (o_move (by conv => lhs; whnf)) (fun q => nomatch q) ?_
  first | (refine x0 rfl (o_move (by conv => lhs; whnf)) (fun q => nomatch q) ?_) | (refine x_skip rfl ?_)
  first | (refine x0 rfl (o_cmp (by rfl) (by rfl) (c_eqT (by omega))) (fun q => nomatch q) ?_) | (refine x0 rfl (o_cmp (by rfl) (by rfl) (c_eqF (by omega))) (fun q => nomatch q) ?_) | (refine x0 rfl (o_cmp (by rfl) (by rfl) (c_eqT (by first | rfl | decide))) (fun q => nomatch q) ?_) | (refine x0 rfl (o_cmp (by rfl) (by rfl) (c_eqF (by first | decide | (simp; done) | (simp; omega)))) (fun q => nomatch q) ?_) | (refine x_skip rfl ?_)
  first | (refine x0 rfl (o_pickT (by rfl) (by conv => lhs; whnf)) (fun q => nomatch q) ?_) | (refine x0 rfl (o_pickF (by rfl) (by conv => lhs; whnf)) (fun q => nomatch q) ?_)
  refine x0 rfl (o_move (by conv => lhs; whnf)) (fun q => nomatch q) ?_
  first | (refine x0 rfl (o_move (by conv => lhs; whnf)) (fun q => nomatch q) ?_) | (refine x_skip rfl ?_)
  first | (refine x0 rfl (o_cmp (by rfl) (by rfl) (c_eqT (by omega))) (fun q => nomatch q) ?_) | (refine x0 rfl (o_cmp (by rfl) (by rfl) (c_eqF (by omega))) (fun q => nomatch q) ?_) | (refine x0 rfl (o_cmp (by rfl) (by rfl) (c_eqT (by first | rfl | decide))) (fun q => nomatch q) ?_) | (refine x0 rfl (o_cmp (by rfl) (by rfl) (c_eqF (by first | decide | (simp; done) | (simp; omega)))) (fun q => nomatch q) ?_) | (refine x_skip rfl ?_)
  first | (refine x0 rfl (o_pickT (by rfl) (by conv => lhs; whnf)) (fun q => nomatch q) ?_) | (refine x0 rfl (o_pickF (by rfl) (by conv => lhs; whnf)) (fun q => nomatch q) ?_)
  refine x0 rfl (o_move (by conv => lhs; whnf)) (fun q => nomatch q) ?_
  first | (refine x0 rfl (o_move (by conv => lhs; whnf)) (fun q => nomatch q) ?_) | (refine x_skip rfl ?_)
  first | (refine x0 rfl (o_cmp (by rfl) (by rfl) (c_eqT (by omega))) (fun q => nomatch q) ?_) | (refine x0 rfl (o_cmp (by rfl) (by rfl) (c_eqF (by omega))) (fun q => nomatch q) ?_) | (refine x0 rfl (o_cmp (by rfl) (by rfl) (c_eqT (by first | rfl | decide))) (fun q => nomatch q) ?_) | (refine x0 rfl (o_cmp (by rfl) (by rfl) (c_eqF (by first | decide | (simp; done) | (simp; omega)))) (fun q => nomatch q) ?_) | (refine x_skip rfl ?_)
  first | (refine x0 rfl (o_pickT (by rfl) (by conv => lhs; whnf)) (fun q => nomatch q) ?_) | (refine x0 rfl (o_pickF (by rfl) (by conv => lhs; whnf)) (fun q => nomatch q) ?_)
  refine x0 rfl (o_move (by conv => lhs; whnf)) (fun q => nomatch q) ?_
  first | (refine x0 rfl (o_move (by conv => lhs; whnf)) (fun q => nomatch q) ?_) | (refine x_skip rfl ?_)
  first | (refine x0 rfl (o_lenL (by rfl) Ty.e22 rfl) (fun q => nomatch q) ?_) | (refine x0 rfl (o_lenR (by rfl) (by conv => lhs; whnf) Ty.e22 rfl) (fun q => nomatch q) ?_) | (refine x_skip rfl ?_)
  first | (refine x0 rfl (o_cmp (by rfl) (by rfl) (c_eqT (by omega))) (fun q => nomatch q) ?_) | (refine x0 rfl (o_cmp (by rfl) (by rfl) (c_eqF (by omega))) (fun q => nomatch q) ?_) | (refine x0 rfl (o_cmp (by rfl) (by rfl) (c_eqT (by first | rfl | decide))) (fun q => nomatch q) ?_) | (refine x0 rfl (o_cmp (by rfl) (by rfl) (c_eqF (by first | decide | (simp; done) | (simp; omega)))) (fun q => nomatch q) ?_) | (refine x_skip rfl ?_)
  first | (refine x0 rfl (o_pickT (by rfl) (by conv => lhs; whnf)) (fun q => nomatch q) ?_) | (refine x0 rfl (o_pickF (by rfl) (by conv => lhs; whnf)) (fun q => nomatch q) ?_)
  refine x0 rfl (o_move (by conv => lhs; whnf)) (fun q => nomatch q) ?_
  first | (refine x0 rfl (o_move (by conv => lhs; whnf)) (fun q => nomatch q) ?_) | (refine x_skip rfl ?_)
  first | (refine x0 rfl (o_idxL (m := 0) (by rfl) (by rfl) (by rfl) (by rfl) Ty.e22 Ty.s3 (by rfl) (by conv => lhs; whnf)) (fun q => nomatch q) ?_) | (refine x0 rfl (o_idxR (m := 0) (by rfl) (by conv => lhs; whnf) (by rfl) (by rfl) (by rfl) Ty.e22 Ty.s3 rfl) (fun q => nomatch q) ?_)
  first | (refine x0 rfl (o_loadS (by rfl) (by conv => lhs; whnf) rfl Ty.a3 (by conv => lhs; whnf)) (fun q => nomatch q) ?_) | (refine x0 rfl (o_loadRS (by rfl) Ty.a3 (by conv => lhs; whnf)) (fun q => nomatch q) ?_) | (refine x_skip rfl ?_)
  first | (refine x0 rfl (o_cmp (by rfl) (by rfl) (c_eqT (by omega))) (fun q => nomatch q) ?_) | (refine x0 rfl (o_cmp (by rfl) (by rfl) (c_eqF (by omega))) (fun q => nomatch q) ?_) | (refine x0 rfl (o_cmp (by rfl) (by rfl) (c_eqT (by first | rfl | decide))) (fun q => nomatch q) ?_) | (refine x0 rfl (o_cmp (by rfl) (by rfl) (c_eqF (by first | decide | (simp; done) | (simp; omega)))) (fun q => nomatch q) ?_) | (refine x_skip rfl ?_)
  first | (refine x0 rfl (o_pickT (by rfl) (by conv => lhs; whnf)) (fun q => nomatch q) ?_) | (refine x0 rfl (o_pickF (by rfl) (by conv => lhs; whnf)) (fun q => nomatch q) ?_)
  refine x0 rfl (o_move (by conv => lhs; whnf)) (fun q => nomatch q) ?_
  first | (refine x0 rfl (o_move (by conv => lhs; whnf)) (fun q => nomatch q) ?_) | (refine x_skip rfl ?_)
  first | (refine x0 rfl (o_cmp (by rfl) (by rfl) (c_eqT (by omega))) (fun q => nomatch q) ?_) | (refine x0 rfl (o_cmp (by rfl) (by rfl) (c_eqF (by omega))) (fun q => nomatch q) ?_) | (refine x0 rfl (o_cmp (by rfl) (by rfl) (c_eqT (by first | rfl | decide))) (fun q => nomatch q) ?_) | (refine x0 rfl (o_cmp (by rfl) (by rfl) (c_eqF (by first | decide | (simp; done) | (simp; omega)))) (fun q => nomatch q) ?_) | (refine x_skip rfl ?_)
  first | (refine x0 rfl (o_pickT (by rfl) (by conv => lhs; whnf)) (fun q => nomatch q) ?_) | (refine x0 rfl (o_pickF (by rfl) (by conv => lhs; whnf)) (fun q => nomatch q) ?_)
  refine x0 rfl (o_move (by conv => lhs; whnf)) (fun q => nomatch q) ?_
  first | (refine x0 rfl (o_move (by conv => lhs; whnf)) (fun q => nomatch q) ?_) | (refine x_skip rfl ?_)
  first | (refine x0 rfl (o_cmp (by rfl) (by rfl) (c_eqT (by omega))) (fun q => nomatch q) ?_) | (refine x0 rfl (o_cmp (by rfl) (by rfl) (c_eqF (by omega))) (fun q => nomatch q) ?_) | (refine x0 rfl (o_cmp (by rfl) (by rfl) (c_eqT (by first | rfl | decide))) (fun q => nomatch q) ?_) | (refine x0 rfl (o_cmp (by rfl) (by rfl) (c_eqF (by first | decide | (simp; done) | (simp; omega)))) (fun q => nomatch q) ?_) | (refine x_skip rfl ?_)
  first | (refine x0 rfl (o_pickT (by rfl) (by conv => lhs; whnf)) (fun q => nomatch q) ?_) | (refine x0 rfl (o_pickF (by rfl) (by conv => lhs; whnf)) (fun q => nomatch q) ?_)
  refine x0 rfl (o_move (by conv => lhs; whnf)) (fun q => nomatch q) ?_
  first | (refine x0 rfl (o_move (by conv => lhs; whnf)) (fun q => nomatch q) ?_) | (refine x_skip rfl ?_)
  refine x0 rfl (o_call  rfl Try.func32 rfl (by decide) rfl rfl rfl (naming_ok false l4 (by decide) 3) rfl) (fun q => nomatch q) ?_
  first | (refine x0 rfl (o_cmp (by rfl) (by rfl) (c_eqT (by omega))) (fun q => nomatch q) ?_) | (refine x0 rfl (o_cmp (by rfl) (by rfl) (c_eqF (by omega))) (fun q => nomatch q) ?_) | (refine x0 rfl (o_cmp (by rfl) (by rfl) (c_eqT (by first | rfl | decide))) (fun q => nomatch q) ?_) | (refine x0 rfl (o_cmp (by rfl) (by rfl) (c_eqF (by first | decide | (simp; done) | (simp; omega)))) (fun q => nomatch q) ?_) | (refine x_skip rfl ?_)
  first | (refine x0 rfl (o_pickT (by rfl) (by conv => lhs; whnf)) (fun q => nomatch q) ?_) | (refine x0 rfl (o_pickF (by rfl) (by conv => lhs; whnf)) (fun q => nomatch q) ?_)
  refine x0 rfl (o_move (by conv => lhs; whnf)) (fun q => nomatch q) ?_
  first | (refine x0 rfl (o_move (by conv => lhs; whnf)) (fun q => nomatch q) ?_) | (refine x_skip rfl ?_)
  refine x0 rfl (o_call  rfl Try.func30 rfl (by decide) rfl rfl rfl (intact_ok false l4 (by decide) 3) rfl) (fun q => nomatch q) ?_
  first | (refine x0 rfl (o_cmp (by rfl) (by rfl) (c_eqT (by omega))) (fun q => nomatch q) ?_) | (refine x0 rfl (o_cmp (by rfl) (by rfl) (c_eqF (by omega))) (fun q => nomatch q) ?_) | (refine x0 rfl (o_cmp (by rfl) (by rfl) (c_eqT (by first | rfl | decide))) (fun q => nomatch q) ?_) | (refine x0 rfl (o_cmp (by rfl) (by rfl) (c_eqF (by first | decide | (simp; done) | (simp; omega)))) (fun q => nomatch q) ?_) | (refine x_skip rfl ?_)
  first | (refine x0 rfl (o_pickT (by rfl) (by conv => lhs; whnf)) (fun q => nomatch q) ?_) | (refine x0 rfl (o_pickF (by rfl) (by conv => lhs; whnf)) (fun q => nomatch q) ?_)
  refine x0 rfl (o_move (by conv => lhs; whnf)) (fun q => nomatch q) ?_
  first | (refine x0 rfl (o_move (by conv => lhs; whnf)) (fun q => nomatch q) ?_) | (refine x_skip rfl ?_)
  refine x0 rfl (o_call  rfl Try.func30 rfl (by decide) rfl rfl rfl (intact_ok false l3 (by decide) 3) rfl) (fun q => nomatch q) ?_
  first | (refine x0 rfl (o_cmp (by rfl) (by rfl) (c_eqT (by omega))) (fun q => nomatch q) ?_) | (refine x0 rfl (o_cmp (by rfl) (by rfl) (c_eqF (by omega))) (fun q => nomatch q) ?_) | (refine x0 rfl (o_cmp (by rfl) (by rfl) (c_eqT (by first | rfl | decide))) (fun q => nomatch q) ?_) | (refine x0 rfl (o_cmp (by rfl) (by rfl) (c_eqF (by first | decide | (simp; done) | (simp; omega)))) (fun q => nomatch q) ?_) | (refine x_skip rfl ?_)
  first | (refine x0 rfl (o_pickT (by rfl) (by conv => lhs; whnf)) (fun q => nomatch q) ?_) | (refine x0 rfl (o_pickF (by rfl) (by conv => lhs; whnf)) (fun q => nomatch q) ?_)
  refine x0 rfl (o_move (by conv => lhs; whnf)) (fun q => nomatch q) ?_
  refine x_cal rfl (o_callF (ls := [])  rfl Try.func37 rfl (by decide) rfl rfl rfl (C9b.new_no 7 (by omega)) rfl) (fun q => nomatch q) ?_
  first | (refine x0 rfl (o_lenL (by rfl) Ty.e59 rfl) (fun q => nomatch q) ?_) | (refine x0 rfl (o_lenR (by rfl) (by conv => lhs; whnf) Ty.e59 rfl) (fun q => nomatch q) ?_) | (refine x_skip rfl ?_)
  first | (refine x0 rfl (o_cmp (by rfl) (by rfl) (c_eqT (by omega))) (fun q => nomatch q) ?_) | (refine x0 rfl (o_cmp (by rfl) (by rfl) (c_eqF (by omega))) (fun q => nomatch q) ?_) | (refine x0 rfl (o_cmp (by rfl) (by rfl) (c_eqT (by first | rfl | decide))) (fun q => nomatch q) ?_) | (refine x0 rfl (o_cmp (by rfl) (by rfl) (c_eqF (by first | decide | (simp; done) | (simp; omega)))) (fun q => nomatch q) ?_) | (refine x_skip rfl ?_)
  first | (refine x0 rfl (o_pickT (by rfl) (by conv => lhs; whnf)) (fun q => nomatch q) ?_) | (refine x0 rfl (o_pickF (by rfl) (by conv => lhs; whnf)) (fun q => nomatch q) ?_)
  refine x0 rfl (o_assign (by conv => lhs; whnf)) (fun q => nomatch q) ?_
  refine x_nil ?_
  refine pw_ret ?_
  exact ⟨[_], ⟨rfl, trivial⟩, rfl, by (first | exact .inl rfl | exact .inr rfl)⟩

set_option maxRecDepth 100000 in
set_option maxHeartbeats 4000000 in
theorem clears_big (t t2 : Bool) (l : List C) (HS : List PV) (h : Int) (hl : 50 < (l.map cell).length) : PCalls Try.prog 9 [.lst t (l.map cell), .lst t2 HS, .int .i64 h] (.bool true) := by
  refine pc_intro (N := 70) Try.func9 rfl rfl (Nat.le_of_ble_eq_true rfl) fun w0 imm0 => ?_
  refine pw_seq ?_
  refine pw_reg (by kernel_rfl) ?_
  refine x0 rfl (o_assign (by conv => lhs; whnf)) (fun q => nomatch q) ?_
  refine x_nil ?_
  refine pw_seq ?_
  refine pw_seq ?_
  refine pw_reg (by kernel_rfl) ?_
  refine x0 rfl (o_move (by conv => lhs; whnf)) (fun q => nomatch q) ?_
  first | (refine x0 rfl (o_lenL (by rfl) Ty.e59 rfl) (fun q => nomatch q) ?_) | (refine x0 rfl (o_lenR (by rfl) (by conv => lhs; whnf) Ty.e59 rfl) (fun q => nomatch q) ?_)
  first | (refine x0 rfl (o_cmp (by rfl) (by rfl) (c_gtT (by omega))) (fun q => nomatch q) ?_) | (refine x0 rfl (o_cmp (by rfl) (by rfl) (c_gtF (by omega))) (fun q => nomatch q) ?_) | (refine x0 rfl (o_cmp (by rfl) (by rfl) (c_gtT (by first | rfl | decide))) (fun q => nomatch q) ?_) | (refine x0 rfl (o_cmp (by rfl) (by rfl) (c_gtF (by first | decide | (simp; done) | (simp; omega)))) (fun q => nomatch q) ?_)
  refine x0 rfl (o_move (by conv => lhs; whnf)) (fun q => nomatch q) ?_
  first | (refine x0 rfl (o_move (by conv => lhs; whnf)) (fun q => nomatch q) ?_) | (refine x_skip rfl ?_)
  first | (refine x0 rfl (o_lenL (by rfl) Ty.e22 rfl) (fun q => nomatch q) ?_) | (refine x0 rfl (o_lenR (by rfl) (by conv => lhs; whnf) Ty.e22 rfl) (fun q => nomatch q) ?_) | (refine x_skip rfl ?_)
  first | (refine x0 rfl (o_cmp (by rfl) (by rfl) (c_gtT (by omega))) (fun q => nomatch q) ?_) | (refine x0 rfl (o_cmp (by rfl) (by rfl) (c_gtF (by omega))) (fun q => nomatch q) ?_) | (refine x0 rfl (o_cmp (by rfl) (by rfl) (c_gtT (by first | rfl | decide))) (fun q => nomatch q) ?_) | (refine x0 rfl (o_cmp (by rfl) (by rfl) (c_gtF (by first | decide | (simp; done) | (simp; omega)))) (fun q => nomatch q) ?_) | (refine x_skip rfl ?_)
  first | (refine x0 rfl (o_pickT (by rfl) (by conv => lhs; whnf)) (fun q => nomatch q) ?_) | (refine x0 rfl (o_pickF (by rfl) (by conv => lhs; whnf)) (fun q => nomatch q) ?_)
  refine x0 rfl (o_move (by conv => lhs; whnf)) (fun q => nomatch q) ?_
  refine x_skip rfl ?_
  first | (refine x0 rfl (o_not (by rfl) (by conv => lhs; whnf)) (fun q => nomatch q) ?_) | (refine x_skip rfl ?_)
  first | (refine x0 rfl (o_pickT (by rfl) (by conv => lhs; whnf)) (fun q => nomatch q) ?_) | (refine x0 rfl (o_pickF (by rfl) (by conv => lhs; whnf)) (fun q => nomatch q) ?_)
  refine x_nil ?_
  refine pw_cond true (by rfl) (fun _ => ?_) (fun q => nomatch q)
  refine pw_seq ?_
  refine pw_reg (by kernel_rfl) ?_
  refine x0 rfl (o_call  rfl Try.func28 rfl (by decide) rfl rfl rfl (shown_ok) rfl) (fun q => nomatch q) ?_
  refine x0 rfl (o_assign (by conv => lhs; whnf)) (fun q => nomatch q) ?_
  refine x_nil ?_
  refine pw_ret ?_
  exact ⟨[_], ⟨rfl, trivial⟩, rfl, by (first | exact .inl rfl | exact .inr rfl)⟩

set_option maxRecDepth 100000 in
set_option maxHeartbeats 4000000 in
theorem clears_big2 (t t2 : Bool) (l : List C) (HS : List PV) (h : Int) (hl : (l.map cell).length ≤ 50) (hH : 50 < HS.length) : PCalls Try.prog 9 [.lst t (l.map cell), .lst t2 HS, .int .i64 h] (.bool true) := by
  refine pc_intro (N := 70) Try.func9 rfl rfl (Nat.le_of_ble_eq_true rfl) fun w0 imm0 => ?_
  refine pw_seq ?_
  refine pw_reg (by kernel_rfl) ?_
  refine x0 rfl (o_assign (by conv => lhs; whnf)) (fun q => nomatch q) ?_
  refine x_nil ?_
  refine pw_seq ?_
  refine pw_seq ?_
  refine pw_reg (by kernel_rfl) ?_
  refine x0 rfl (o_move (by conv => lhs; whnf)) (fun q => nomatch q) ?_
  first | (refine x0 rfl (o_lenL (by rfl) Ty.e59 rfl) (fun q => nomatch q) ?_) | (refine x0 rfl (o_lenR (by rfl) (by conv => lhs; whnf) Ty.e59 rfl) (fun q => nomatch q) ?_)
  first | (refine x0 rfl (o_cmp (by rfl) (by rfl) (c_gtT (by omega))) (fun q => nomatch q) ?_) | (refine x0 rfl (o_cmp (by rfl) (by rfl) (c_gtF (by omega))) (fun q => nomatch q) ?_) | (refine x0 rfl (o_cmp (by rfl) (by rfl) (c_gtT (by first | rfl | decide))) (fun q => nomatch q) ?_) | (refine x0 rfl (o_cmp (by rfl) (by rfl) (c_gtF (by first | decide | (simp; done) | (simp; omega)))) (fun q => nomatch q) ?_)
  refine x0 rfl (o_move (by conv => lhs; whnf)) (fun q => nomatch q) ?_
  first | (refine x0 rfl (o_move (by conv => lhs; whnf)) (fun q => nomatch q) ?_) | (refine x_skip rfl ?_)
  first | (refine x0 rfl (o_lenL (by rfl) Ty.e22 rfl) (fun q => nomatch q) ?_) | (refine x0 rfl (o_lenR (by rfl) (by conv => lhs; whnf) Ty.e22 rfl) (fun q => nomatch q) ?_) | (refine x_skip rfl ?_)
  first | (refine x0 rfl (o_cmp (by rfl) (by rfl) (c_gtT (by omega))) (fun q => nomatch q) ?_) | (refine x0 rfl (o_cmp (by rfl) (by rfl) (c_gtF (by omega))) (fun q => nomatch q) ?_) | (refine x0 rfl (o_cmp (by rfl) (by rfl) (c_gtT (by first | rfl | decide))) (fun q => nomatch q) ?_) | (refine x0 rfl (o_cmp (by rfl) (by rfl) (c_gtF (by first | decide | (simp; done) | (simp; omega)))) (fun q => nomatch q) ?_) | (refine x_skip rfl ?_)
  first | (refine x0 rfl (o_pickT (by rfl) (by conv => lhs; whnf)) (fun q => nomatch q) ?_) | (refine x0 rfl (o_pickF (by rfl) (by conv => lhs; whnf)) (fun q => nomatch q) ?_)
  refine x0 rfl (o_move (by conv => lhs; whnf)) (fun q => nomatch q) ?_
  refine x_skip rfl ?_
  first | (refine x0 rfl (o_not (by rfl) (by conv => lhs; whnf)) (fun q => nomatch q) ?_) | (refine x_skip rfl ?_)
  first | (refine x0 rfl (o_pickT (by rfl) (by conv => lhs; whnf)) (fun q => nomatch q) ?_) | (refine x0 rfl (o_pickF (by rfl) (by conv => lhs; whnf)) (fun q => nomatch q) ?_)
  refine x_nil ?_
  refine pw_cond true (by rfl) (fun _ => ?_) (fun q => nomatch q)
  refine pw_seq ?_
  refine pw_reg (by kernel_rfl) ?_
  refine x0 rfl (o_call  rfl Try.func28 rfl (by decide) rfl rfl rfl (shown_ok) rfl) (fun q => nomatch q) ?_
  refine x0 rfl (o_assign (by conv => lhs; whnf)) (fun q => nomatch q) ?_
  refine x_nil ?_
  refine pw_ret ?_
  exact ⟨[_], ⟨rfl, trivial⟩, rfl, by (first | exact .inl rfl | exact .inr rfl)⟩

set_option maxRecDepth 100000 in
set_option maxHeartbeats 4000000 in
theorem clears_in (t t2 : Bool) (l l2 l3 : List C) (HS CL : List PV) (h m n m2 q : Int) (hl : (l.map cell).length ≤ 50) (hH : HS.length ≤ 50) (hCL : CL.length ≤ (l.map cell).length)
    (h1 : PCalls Try.prog 29 [.lst t (l.map cell), .lst t2 HS] (.tup [.lst false (l2.map cell), .lst false CL])) (h2 : PCalls Try.prog 29 [.lst false (l2.map cell), .lst t2 HS] (.tup [.lst false (l3.map cell), .lst false []]))
    (h3 : PCalls Try.prog 30 [.lst t (l.map cell), .int .i64 h] (.int .i64 m)) (h4 : PCalls Try.prog 31 [.lst t2 HS, .int .i64 h] (.int .i64 n)) (h5 : PCalls Try.prog 30 [.lst false (l2.map cell), .int .i64 h] (.int .i64 m2))
    (h6 : PCalls Try.prog 32 [.lst false (l2.map cell), .int .i64 h] (.int .i64 q)) (h7 : PCalls Try.prog 32 [.lst t (l.map cell), .int .i64 h] (.int .i64 q)) (hn : 0 < n) (hm : m2 = 0) : PCalls Try.prog 9 [.lst t (l.map cell), .lst t2 HS, .int .i64 h] (.bool true) := by
  refine pc_intro (N := 70) Try.func9 rfl rfl (Nat.le_of_ble_eq_true rfl) fun w0 imm0 => ?_
  refine pw_seq ?_
  refine pw_reg (by kernel_rfl) ?_
  refine x0 rfl (o_assign (by conv => lhs; whnf)) (fun q => nomatch q) ?_
  refine x_nil ?_
  refine pw_seq ?_
  refine pw_seq ?_
  refine pw_reg (by kernel_rfl) ?_
  refine x0 rfl (o_move (by conv => lhs; whnf)) (fun q => nomatch q) ?_
  first | (refine x0 rfl (o_lenL (by rfl) Ty.e59 rfl) (fun q => nomatch q) ?_) | (refine x0 rfl (o_lenR (by rfl) (by conv => lhs; whnf) Ty.e59 rfl) (fun q => nomatch q) ?_)
  first | (refine x0 rfl (o_cmp (by rfl) (by rfl) (c_gtT (by omega))) (fun q => nomatch q) ?_) | (refine x0 rfl (o_cmp (by rfl) (by rfl) (c_gtF (by omega))) (fun q => nomatch q) ?_) | (refine x0 rfl (o_cmp (by rfl) (by rfl) (c_gtT (by first | rfl | decide))) (fun q => nomatch q) ?_) | (refine x0 rfl (o_cmp (by rfl) (by rfl) (c_gtF (by first | decide | (simp; done) | (simp; omega)))) (fun q => nomatch q) ?_)
  refine x0 rfl (o_move (by conv => lhs; whnf)) (fun q => nomatch q) ?_
  first | (refine x0 rfl (o_move (by conv => lhs; whnf)) (fun q => nomatch q) ?_) | (refine x_skip rfl ?_)
  first | (refine x0 rfl (o_lenL (by rfl) Ty.e22 rfl) (fun q => nomatch q) ?_) | (refine x0 rfl (o_lenR (by rfl) (by conv => lhs; whnf) Ty.e22 rfl) (fun q => nomatch q) ?_) | (refine x_skip rfl ?_)
  first | (refine x0 rfl (o_cmp (by rfl) (by rfl) (c_gtT (by omega))) (fun q => nomatch q) ?_) | (refine x0 rfl (o_cmp (by rfl) (by rfl) (c_gtF (by omega))) (fun q => nomatch q) ?_) | (refine x0 rfl (o_cmp (by rfl) (by rfl) (c_gtT (by first | rfl | decide))) (fun q => nomatch q) ?_) | (refine x0 rfl (o_cmp (by rfl) (by rfl) (c_gtF (by first | decide | (simp; done) | (simp; omega)))) (fun q => nomatch q) ?_) | (refine x_skip rfl ?_)
  first | (refine x0 rfl (o_pickT (by rfl) (by conv => lhs; whnf)) (fun q => nomatch q) ?_) | (refine x0 rfl (o_pickF (by rfl) (by conv => lhs; whnf)) (fun q => nomatch q) ?_)
  refine x0 rfl (o_move (by conv => lhs; whnf)) (fun q => nomatch q) ?_
  refine x0 rfl (o_call  rfl Try.func28 rfl (by decide) rfl rfl rfl (shown_ok) rfl) (fun q => nomatch q) ?_
  first | (refine x0 rfl (o_not (by rfl) (by conv => lhs; whnf)) (fun q => nomatch q) ?_) | (refine x_skip rfl ?_)
  first | (refine x0 rfl (o_pickT (by rfl) (by conv => lhs; whnf)) (fun q => nomatch q) ?_) | (refine x0 rfl (o_pickF (by rfl) (by conv => lhs; whnf)) (fun q => nomatch q) ?_)
  refine x_nil ?_
  refine pw_cond false (by rfl) (fun q => nomatch q) (fun _ => ?_)
  refine pw_skip ?_
  refine pw_seq ?_
  refine pw_reg (by kernel_rfl) ?_
  refine x0 rfl (o_move (by conv => lhs; whnf)) (fun q => nomatch q) ?_
  refine x0 rfl (o_move (by conv => lhs; whnf)) (fun q => nomatch q) ?_
  refine x_cal rfl (o_callF (ls := [])  rfl Try.func29 rfl (by decide) rfl rfl rfl (h1) rfl) (fun q => nomatch q) ?_
  refine x0 rfl (o_move (by conv => lhs; whnf)) (fun q => nomatch q) ?_
  refine x0 rfl (o_extract (by conv => lhs; whnf) (by conv => lhs; whnf)) (fun q => nomatch q) ?_
  refine x0 rfl (o_extract (by conv => lhs; whnf) (by conv => lhs; whnf)) (fun q => nomatch q) ?_
  refine x0 rfl (o_assign (by conv => lhs; whnf)) (fun q => nomatch q) ?_
  refine x0 rfl (o_assign (by conv => lhs; whnf)) (fun q => nomatch q) ?_
  refine x_nil ?_
  refine pw_seq ?_
  refine pw_reg (by kernel_rfl) ?_
  refine x0 rfl (o_move (by conv => lhs; whnf)) (fun q => nomatch q) ?_
  refine x0 rfl (o_move (by conv => lhs; whnf)) (fun q => nomatch q) ?_
  refine x_cal rfl (o_callF (ls := [])  rfl Try.func29 rfl (by decide) rfl rfl rfl (h2) rfl) (fun q => nomatch q) ?_
  refine x0 rfl (o_move (by conv => lhs; whnf)) (fun q => nomatch q) ?_
  refine x0 rfl (o_extract (by conv => lhs; whnf) (by conv => lhs; whnf)) (fun q => nomatch q) ?_
  refine x0 rfl (o_extract (by conv => lhs; whnf) (by conv => lhs; whnf)) (fun q => nomatch q) ?_
  refine x0 rfl (o_assign (by conv => lhs; whnf)) (fun q => nomatch q) ?_
  refine x0 rfl (o_assign (by conv => lhs; whnf)) (fun q => nomatch q) ?_
  refine x_nil ?_
  refine pw_seq ?_
  refine pw_reg (by kernel_rfl) ?_
  refine x0 rfl (o_move (by conv => lhs; whnf)) (fun q => nomatch q) ?_
  refine x0 rfl (o_move (by conv => lhs; whnf)) (fun q => nomatch q) ?_
  refine x0 rfl (o_call  rfl Try.func30 rfl (by decide) rfl rfl rfl (h3) rfl) (fun q => nomatch q) ?_
  refine x0 rfl (o_assign (by conv => lhs; whnf)) (fun q => nomatch q) ?_
  refine x_nil ?_
  refine pw_seq ?_
  refine pw_seq ?_
  refine pw_reg (by kernel_rfl) ?_
  refine x0 rfl (o_move (by conv => lhs; whnf)) (fun q => nomatch q) ?_
  refine x0 rfl (o_move (by conv => lhs; whnf)) (fun q => nomatch q) ?_
  refine x0 rfl (o_call  rfl Try.func31 rfl (by decide) rfl rfl rfl (h4) rfl) (fun q => nomatch q) ?_
  first | (refine x0 rfl (o_cmp (by rfl) (by rfl) (c_gtT (by omega))) (fun q => nomatch q) ?_) | (refine x0 rfl (o_cmp (by rfl) (by rfl) (c_gtF (by omega))) (fun q => nomatch q) ?_) | (refine x0 rfl (o_cmp (by rfl) (by rfl) (c_gtT (by first | rfl | decide))) (fun q => nomatch q) ?_) | (refine x0 rfl (o_cmp (by rfl) (by rfl) (c_gtF (by first | decide | (simp; done) | (simp; omega)))) (fun q => nomatch q) ?_)
  refine x_nil ?_
  refine pw_cond true (by rfl) (fun _ => ?_) (fun q => nomatch q)
  refine pw_reg (by kernel_rfl) ?_
  refine x0 rfl (o_assign (by conv => lhs; whnf)) (fun q => nomatch q) ?_
  refine x_nil ?_
  refine pw_seq ?_
  refine pw_reg (by kernel_rfl) ?_
  refine x0 rfl (o_move (by conv => lhs; whnf)) (fun q => nomatch q) ?_
  refine x0 rfl (o_move (by conv => lhs; whnf)) (fun q => nomatch q) ?_
  refine x0 rfl (o_call  rfl Try.func30 rfl (by decide) rfl rfl rfl (h5) rfl) (fun q => nomatch q) ?_
  refine x0 rfl (o_move (by conv => lhs; whnf)) (fun q => nomatch q) ?_
  refine x0 rfl (o_cmp (by rfl) (by rfl) (c_eqT hm)) (fun q => nomatch q) ?_
  refine x0 rfl (o_move (by conv => lhs; whnf)) (fun q => nomatch q) ?_
  first | (refine x0 rfl (o_move (by conv => lhs; whnf)) (fun q => nomatch q) ?_) | (refine x_skip rfl ?_)
  first | (refine x0 rfl (o_move (by conv => lhs; whnf)) (fun q => nomatch q) ?_) | (refine x_skip rfl ?_)
  refine x0 rfl (o_call  rfl Try.func32 rfl (by decide) rfl rfl rfl (h6) rfl) (fun q => nomatch q) ?_
  first | (refine x0 rfl (o_move (by conv => lhs; whnf)) (fun q => nomatch q) ?_) | (refine x_skip rfl ?_)
  first | (refine x0 rfl (o_move (by conv => lhs; whnf)) (fun q => nomatch q) ?_) | (refine x_skip rfl ?_)
  refine x0 rfl (o_call  rfl Try.func32 rfl (by decide) rfl rfl rfl (h7) rfl) (fun q => nomatch q) ?_
  refine x0 rfl (o_cmp (by rfl) (by rfl) (c_eqT rfl)) (fun q => nomatch q) ?_
  first | (refine x0 rfl (o_pickT (by rfl) (by conv => lhs; whnf)) (fun q => nomatch q) ?_) | (refine x0 rfl (o_pickF (by rfl) (by conv => lhs; whnf)) (fun q => nomatch q) ?_)
  refine x0 rfl (o_move (by conv => lhs; whnf)) (fun q => nomatch q) ?_
  first | (refine x0 rfl (o_move (by conv => lhs; whnf)) (fun q => nomatch q) ?_) | (refine x_skip rfl ?_)
  first | (refine x0 rfl (o_lenL (by rfl) Ty.e22 (by rfl)) (fun q => nomatch q) ?_) | (refine x0 rfl (o_lenR (by rfl) (by conv => lhs; whnf) Ty.e22 (by rfl)) (fun q => nomatch q) ?_)
  first | (refine x0 rfl (o_cmp (by rfl) (by rfl) (c_eqT (by omega))) (fun q => nomatch q) ?_) | (refine x0 rfl (o_cmp (by rfl) (by rfl) (c_eqF (by omega))) (fun q => nomatch q) ?_) | (refine x0 rfl (o_cmp (by rfl) (by rfl) (c_eqT (by first | rfl | decide))) (fun q => nomatch q) ?_) | (refine x0 rfl (o_cmp (by rfl) (by rfl) (c_eqF (by first | decide | (simp; done) | (simp; omega)))) (fun q => nomatch q) ?_) | (refine x_skip rfl ?_)
  first | (refine x0 rfl (o_pickT (by rfl) (by conv => lhs; whnf)) (fun q => nomatch q) ?_) | (refine x0 rfl (o_pickF (by rfl) (by conv => lhs; whnf)) (fun q => nomatch q) ?_)
  refine x0 rfl (o_move (by conv => lhs; whnf)) (fun q => nomatch q) ?_
  first | (refine x0 rfl (o_move (by conv => lhs; whnf)) (fun q => nomatch q) ?_) | (refine x_skip rfl ?_)
  first | (refine x0 rfl (o_lenL (by rfl) Ty.e22 rfl) (fun q => nomatch q) ?_) | (refine x0 rfl (o_lenR (by rfl) (by conv => lhs; whnf) Ty.e22 rfl) (fun q => nomatch q) ?_) | (refine x_skip rfl ?_)
  first | (refine x0 rfl (o_move (by conv => lhs; whnf)) (fun q => nomatch q) ?_) | (refine x_skip rfl ?_)
  first | (refine x0 rfl (o_lenL (by rfl) Ty.e59 rfl) (fun q => nomatch q) ?_) | (refine x0 rfl (o_lenR (by rfl) (by conv => lhs; whnf) Ty.e59 rfl) (fun q => nomatch q) ?_) | (refine x_skip rfl ?_)
  first | (refine x0 rfl (o_cmp (by rfl) (by rfl) (c_leT (by omega))) (fun q => nomatch q) ?_) | (refine x0 rfl (o_cmp (by rfl) (by rfl) (c_leF (by omega))) (fun q => nomatch q) ?_) | (refine x0 rfl (o_cmp (by rfl) (by rfl) (c_leT (by first | rfl | decide))) (fun q => nomatch q) ?_) | (refine x0 rfl (o_cmp (by rfl) (by rfl) (c_leF (by first | decide | (simp; done) | (simp; omega)))) (fun q => nomatch q) ?_) | (refine x_skip rfl ?_)
  first | (refine x0 rfl (o_pickT (by rfl) (by conv => lhs; whnf)) (fun q => nomatch q) ?_) | (refine x0 rfl (o_pickF (by rfl) (by conv => lhs; whnf)) (fun q => nomatch q) ?_)
  refine x0 rfl (o_assign (by conv => lhs; whnf)) (fun q => nomatch q) ?_
  refine x_nil ?_
  refine pw_ret ?_
  exact ⟨[_], ⟨rfl, trivial⟩, rfl, by (first | exact .inl rfl | exact .inr rfl)⟩

set_option maxRecDepth 100000 in
set_option maxHeartbeats 4000000 in
theorem clears_out (t t2 : Bool) (l l2 l3 : List C) (HS CL : List PV) (h m n m2 q : Int) (hl : (l.map cell).length ≤ 50) (hH : HS.length ≤ 50) (hCL : CL.length ≤ (l.map cell).length)
    (h1 : PCalls Try.prog 29 [.lst t (l.map cell), .lst t2 HS] (.tup [.lst false (l2.map cell), .lst false CL])) (h2 : PCalls Try.prog 29 [.lst false (l2.map cell), .lst t2 HS] (.tup [.lst false (l3.map cell), .lst false []]))
    (h3 : PCalls Try.prog 30 [.lst t (l.map cell), .int .i64 h] (.int .i64 m)) (h4 : PCalls Try.prog 31 [.lst t2 HS, .int .i64 h] (.int .i64 n)) (h5 : PCalls Try.prog 30 [.lst false (l2.map cell), .int .i64 h] (.int .i64 m2))
    (h6 : PCalls Try.prog 32 [.lst false (l2.map cell), .int .i64 h] (.int .i64 q)) (h7 : PCalls Try.prog 32 [.lst t (l.map cell), .int .i64 h] (.int .i64 q)) (hn : n ≤ 0) (hm : m2 = m) : PCalls Try.prog 9 [.lst t (l.map cell), .lst t2 HS, .int .i64 h] (.bool true) := by
  refine pc_intro (N := 70) Try.func9 rfl rfl (Nat.le_of_ble_eq_true rfl) fun w0 imm0 => ?_
  refine pw_seq ?_
  refine pw_reg (by kernel_rfl) ?_
  refine x0 rfl (o_assign (by conv => lhs; whnf)) (fun q => nomatch q) ?_
  refine x_nil ?_
  refine pw_seq ?_
  refine pw_seq ?_
  refine pw_reg (by kernel_rfl) ?_
  refine x0 rfl (o_move (by conv => lhs; whnf)) (fun q => nomatch q) ?_
  first | (refine x0 rfl (o_lenL (by rfl) Ty.e59 rfl) (fun q => nomatch q) ?_) | (refine x0 rfl (o_lenR (by rfl) (by conv => lhs; whnf) Ty.e59 rfl) (fun q => nomatch q) ?_)
  first | (refine x0 rfl (o_cmp (by rfl) (by rfl) (c_gtT (by omega))) (fun q => nomatch q) ?_) | (refine x0 rfl (o_cmp (by rfl) (by rfl) (c_gtF (by omega))) (fun q => nomatch q) ?_) | (refine x0 rfl (o_cmp (by rfl) (by rfl) (c_gtT (by first | rfl | decide))) (fun q => nomatch q) ?_) | (refine x0 rfl (o_cmp (by rfl) (by rfl) (c_gtF (by first | decide | (simp; done) | (simp; omega)))) (fun q => nomatch q) ?_)
  refine x0 rfl (o_move (by conv => lhs; whnf)) (fun q => nomatch q) ?_
  first | (refine x0 rfl (o_move (by conv => lhs; whnf)) (fun q => nomatch q) ?_) | (refine x_skip rfl ?_)
  first | (refine x0 rfl (o_lenL (by rfl) Ty.e22 rfl) (fun q => nomatch q) ?_) | (refine x0 rfl (o_lenR (by rfl) (by conv => lhs; whnf) Ty.e22 rfl) (fun q => nomatch q) ?_) | (refine x_skip rfl ?_)
  first | (refine x0 rfl (o_cmp (by rfl) (by rfl) (c_gtT (by omega))) (fun q => nomatch q) ?_) | (refine x0 rfl (o_cmp (by rfl) (by rfl) (c_gtF (by omega))) (fun q => nomatch q) ?_) | (refine x0 rfl (o_cmp (by rfl) (by rfl) (c_gtT (by first | rfl | decide))) (fun q => nomatch q) ?_) | (refine x0 rfl (o_cmp (by rfl) (by rfl) (c_gtF (by first | decide | (simp; done) | (simp; omega)))) (fun q => nomatch q) ?_) | (refine x_skip rfl ?_)
  first | (refine x0 rfl (o_pickT (by rfl) (by conv => lhs; whnf)) (fun q => nomatch q) ?_) | (refine x0 rfl (o_pickF (by rfl) (by conv => lhs; whnf)) (fun q => nomatch q) ?_)
  refine x0 rfl (o_move (by conv => lhs; whnf)) (fun q => nomatch q) ?_
  refine x0 rfl (o_call  rfl Try.func28 rfl (by decide) rfl rfl rfl (shown_ok) rfl) (fun q => nomatch q) ?_
  first | (refine x0 rfl (o_not (by rfl) (by conv => lhs; whnf)) (fun q => nomatch q) ?_) | (refine x_skip rfl ?_)
  first | (refine x0 rfl (o_pickT (by rfl) (by conv => lhs; whnf)) (fun q => nomatch q) ?_) | (refine x0 rfl (o_pickF (by rfl) (by conv => lhs; whnf)) (fun q => nomatch q) ?_)
  refine x_nil ?_
  refine pw_cond false (by rfl) (fun q => nomatch q) (fun _ => ?_)
  refine pw_skip ?_
  refine pw_seq ?_
  refine pw_reg (by kernel_rfl) ?_
  refine x0 rfl (o_move (by conv => lhs; whnf)) (fun q => nomatch q) ?_
  refine x0 rfl (o_move (by conv => lhs; whnf)) (fun q => nomatch q) ?_
  refine x_cal rfl (o_callF (ls := [])  rfl Try.func29 rfl (by decide) rfl rfl rfl (h1) rfl) (fun q => nomatch q) ?_
  refine x0 rfl (o_move (by conv => lhs; whnf)) (fun q => nomatch q) ?_
  refine x0 rfl (o_extract (by conv => lhs; whnf) (by conv => lhs; whnf)) (fun q => nomatch q) ?_
  refine x0 rfl (o_extract (by conv => lhs; whnf) (by conv => lhs; whnf)) (fun q => nomatch q) ?_
  refine x0 rfl (o_assign (by conv => lhs; whnf)) (fun q => nomatch q) ?_
  refine x0 rfl (o_assign (by conv => lhs; whnf)) (fun q => nomatch q) ?_
  refine x_nil ?_
  refine pw_seq ?_
  refine pw_reg (by kernel_rfl) ?_
  refine x0 rfl (o_move (by conv => lhs; whnf)) (fun q => nomatch q) ?_
  refine x0 rfl (o_move (by conv => lhs; whnf)) (fun q => nomatch q) ?_
  refine x_cal rfl (o_callF (ls := [])  rfl Try.func29 rfl (by decide) rfl rfl rfl (h2) rfl) (fun q => nomatch q) ?_
  refine x0 rfl (o_move (by conv => lhs; whnf)) (fun q => nomatch q) ?_
  refine x0 rfl (o_extract (by conv => lhs; whnf) (by conv => lhs; whnf)) (fun q => nomatch q) ?_
  refine x0 rfl (o_extract (by conv => lhs; whnf) (by conv => lhs; whnf)) (fun q => nomatch q) ?_
  refine x0 rfl (o_assign (by conv => lhs; whnf)) (fun q => nomatch q) ?_
  refine x0 rfl (o_assign (by conv => lhs; whnf)) (fun q => nomatch q) ?_
  refine x_nil ?_
  refine pw_seq ?_
  refine pw_reg (by kernel_rfl) ?_
  refine x0 rfl (o_move (by conv => lhs; whnf)) (fun q => nomatch q) ?_
  refine x0 rfl (o_move (by conv => lhs; whnf)) (fun q => nomatch q) ?_
  refine x0 rfl (o_call  rfl Try.func30 rfl (by decide) rfl rfl rfl (h3) rfl) (fun q => nomatch q) ?_
  refine x0 rfl (o_assign (by conv => lhs; whnf)) (fun q => nomatch q) ?_
  refine x_nil ?_
  refine pw_seq ?_
  refine pw_seq ?_
  refine pw_reg (by kernel_rfl) ?_
  refine x0 rfl (o_move (by conv => lhs; whnf)) (fun q => nomatch q) ?_
  refine x0 rfl (o_move (by conv => lhs; whnf)) (fun q => nomatch q) ?_
  refine x0 rfl (o_call  rfl Try.func31 rfl (by decide) rfl rfl rfl (h4) rfl) (fun q => nomatch q) ?_
  first | (refine x0 rfl (o_cmp (by rfl) (by rfl) (c_gtT (by omega))) (fun q => nomatch q) ?_) | (refine x0 rfl (o_cmp (by rfl) (by rfl) (c_gtF (by omega))) (fun q => nomatch q) ?_) | (refine x0 rfl (o_cmp (by rfl) (by rfl) (c_gtT (by first | rfl | decide))) (fun q => nomatch q) ?_) | (refine x0 rfl (o_cmp (by rfl) (by rfl) (c_gtF (by first | decide | (simp; done) | (simp; omega)))) (fun q => nomatch q) ?_)
  refine x_nil ?_
  refine pw_cond false (by rfl) (fun q => nomatch q) (fun _ => ?_)
  refine pw_skip ?_
  refine pw_seq ?_
  refine pw_reg (by kernel_rfl) ?_
  refine x0 rfl (o_move (by conv => lhs; whnf)) (fun q => nomatch q) ?_
  refine x0 rfl (o_move (by conv => lhs; whnf)) (fun q => nomatch q) ?_
  refine x0 rfl (o_call  rfl Try.func30 rfl (by decide) rfl rfl rfl (h5) rfl) (fun q => nomatch q) ?_
  refine x0 rfl (o_move (by conv => lhs; whnf)) (fun q => nomatch q) ?_
  refine x0 rfl (o_cmp (by rfl) (by rfl) (c_eqT hm)) (fun q => nomatch q) ?_
  refine x0 rfl (o_move (by conv => lhs; whnf)) (fun q => nomatch q) ?_
  first | (refine x0 rfl (o_move (by conv => lhs; whnf)) (fun q => nomatch q) ?_) | (refine x_skip rfl ?_)
  first | (refine x0 rfl (o_move (by conv => lhs; whnf)) (fun q => nomatch q) ?_) | (refine x_skip rfl ?_)
  refine x0 rfl (o_call  rfl Try.func32 rfl (by decide) rfl rfl rfl (h6) rfl) (fun q => nomatch q) ?_
  first | (refine x0 rfl (o_move (by conv => lhs; whnf)) (fun q => nomatch q) ?_) | (refine x_skip rfl ?_)
  first | (refine x0 rfl (o_move (by conv => lhs; whnf)) (fun q => nomatch q) ?_) | (refine x_skip rfl ?_)
  refine x0 rfl (o_call  rfl Try.func32 rfl (by decide) rfl rfl rfl (h7) rfl) (fun q => nomatch q) ?_
  refine x0 rfl (o_cmp (by rfl) (by rfl) (c_eqT rfl)) (fun q => nomatch q) ?_
  first | (refine x0 rfl (o_pickT (by rfl) (by conv => lhs; whnf)) (fun q => nomatch q) ?_) | (refine x0 rfl (o_pickF (by rfl) (by conv => lhs; whnf)) (fun q => nomatch q) ?_)
  refine x0 rfl (o_move (by conv => lhs; whnf)) (fun q => nomatch q) ?_
  first | (refine x0 rfl (o_move (by conv => lhs; whnf)) (fun q => nomatch q) ?_) | (refine x_skip rfl ?_)
  first | (refine x0 rfl (o_lenL (by rfl) Ty.e22 (by rfl)) (fun q => nomatch q) ?_) | (refine x0 rfl (o_lenR (by rfl) (by conv => lhs; whnf) Ty.e22 (by rfl)) (fun q => nomatch q) ?_)
  first | (refine x0 rfl (o_cmp (by rfl) (by rfl) (c_eqT (by omega))) (fun q => nomatch q) ?_) | (refine x0 rfl (o_cmp (by rfl) (by rfl) (c_eqF (by omega))) (fun q => nomatch q) ?_) | (refine x0 rfl (o_cmp (by rfl) (by rfl) (c_eqT (by first | rfl | decide))) (fun q => nomatch q) ?_) | (refine x0 rfl (o_cmp (by rfl) (by rfl) (c_eqF (by first | decide | (simp; done) | (simp; omega)))) (fun q => nomatch q) ?_) | (refine x_skip rfl ?_)
  first | (refine x0 rfl (o_pickT (by rfl) (by conv => lhs; whnf)) (fun q => nomatch q) ?_) | (refine x0 rfl (o_pickF (by rfl) (by conv => lhs; whnf)) (fun q => nomatch q) ?_)
  refine x0 rfl (o_move (by conv => lhs; whnf)) (fun q => nomatch q) ?_
  first | (refine x0 rfl (o_move (by conv => lhs; whnf)) (fun q => nomatch q) ?_) | (refine x_skip rfl ?_)
  first | (refine x0 rfl (o_lenL (by rfl) Ty.e22 rfl) (fun q => nomatch q) ?_) | (refine x0 rfl (o_lenR (by rfl) (by conv => lhs; whnf) Ty.e22 rfl) (fun q => nomatch q) ?_) | (refine x_skip rfl ?_)
  first | (refine x0 rfl (o_move (by conv => lhs; whnf)) (fun q => nomatch q) ?_) | (refine x_skip rfl ?_)
  first | (refine x0 rfl (o_lenL (by rfl) Ty.e59 rfl) (fun q => nomatch q) ?_) | (refine x0 rfl (o_lenR (by rfl) (by conv => lhs; whnf) Ty.e59 rfl) (fun q => nomatch q) ?_) | (refine x_skip rfl ?_)
  first | (refine x0 rfl (o_cmp (by rfl) (by rfl) (c_leT (by omega))) (fun q => nomatch q) ?_) | (refine x0 rfl (o_cmp (by rfl) (by rfl) (c_leF (by omega))) (fun q => nomatch q) ?_) | (refine x0 rfl (o_cmp (by rfl) (by rfl) (c_leT (by first | rfl | decide))) (fun q => nomatch q) ?_) | (refine x0 rfl (o_cmp (by rfl) (by rfl) (c_leF (by first | decide | (simp; done) | (simp; omega)))) (fun q => nomatch q) ?_) | (refine x_skip rfl ?_)
  first | (refine x0 rfl (o_pickT (by rfl) (by conv => lhs; whnf)) (fun q => nomatch q) ?_) | (refine x0 rfl (o_pickF (by rfl) (by conv => lhs; whnf)) (fun q => nomatch q) ?_)
  refine x0 rfl (o_assign (by conv => lhs; whnf)) (fun q => nomatch q) ?_
  refine x_nil ?_
  refine pw_ret ?_
  exact ⟨[_], ⟨rfl, trivial⟩, rfl, by (first | exact .inl rfl | exact .inr rfl)⟩

end Go.Proofs.Ytgleeglhdlnobaa.C9c
