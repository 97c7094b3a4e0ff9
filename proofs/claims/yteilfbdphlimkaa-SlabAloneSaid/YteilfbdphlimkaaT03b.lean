/-
  Slabs: what the laws ask.
-/
import Derived.Test.YteilfbdphlimkaaT03
namespace Go.Sh
set_option linter.unusedVariables false
set_option linter.unusedSimpArgs false

theorem r01_Pack_same (i g : Int) : r01_Pack i g = handle_Pack i g := by
  rw [r01_Pack_eq]
  split <;> rename_i q
  · rw [handle_Pack_eq q.1 q.2.1 q.2.2.1 q.2.2.2]
  · unfold handle_Pack
    rw [if_pos (by simp; omega)]

theorem sc_ix (s : slab_Slab_int) (i : Int) : ix (sc s).Cells i = (ix s.Cells i).map cc := ix_map' cc s.Cells i
theorem sc_len (s : slab_Slab_int) : (sc s).Cells.length = s.Cells.length := by simp [sc]

theorem r_with (s : slab_Slab_int) (i : Int) (c : slab_Cell_int) : r03_with (sc s) i (cc c) = (slab_with_int s i c).map sc := by
  unfold r03_with slab_with_int slices_Clone_slab_Cell_int_slab_Cell_int
  have e : app 24 [] (sc s).Cells = (app 24 [] s.Cells).map (List.map cc) := app_map' cc 24 [] s.Cells
  rw [e, bind_map', map_bind']
  congr 1
  funext v
  rw [ix_map', bind_map', map_bind']
  congr 1
  funext x
  simp [sc]

theorem r_take (s : slab_Slab_int) (v : Int) : r03_Take (sc s) v = (slab_Take_int s v).map (fun p => (sc p.1, p.2.1, p.2.2)) := by
  unfold r03_Take slab_Take_int
  simp only [jn, slab_free_int, Option.bind_some, map_bind']
  refine lpb_map id (Sum.map (fun p => (sc p.1, p.2.1, p.2.2)) id) (fun _ => True) trivial rfl (fun k _ => ⟨?_, fun _ _ => trivial⟩) (fun e => by cases e <;> rfl)
  simp only [id, sc_len, sc_ix]
  split
  · cases hx : ix s.Cells k with
    | none => rfl
    | some x =>
      simp only [Option.map_some, Option.bind_some, cc]
      split <;> rename_i q
      · rw [if_pos (by simpa using q)]
        have := r_with s k ⟨1, x.Gen, v⟩
        simp only [cc] at this
        rw [this, bind_map', map_bind']
        congr 1
        funext y
        rw [r01_Pack_same, map_bind']
        rfl
      · rw [if_neg (by simpa using q)]
        rfl
  · rfl

theorem r_find (s : slab_Slab_int) {h : Int} (hh : h ≤ 9223372036854775807) : r03_Find (sc s) h = slab_Find_int s h := by
  unfold r03_Find slab_Find_int
  rw [r01_Slot_eq, handle_Slot_eq hh, r01_Gen_eq, handle_Gen_eq hh]
  simp only [Option.bind_some, sc_len, sc_ix, bind_map']
  rfl
theorem r_get (s : slab_Slab_int) {h : Int} (hh : h ≤ 9223372036854775807) : r03_Get (sc s) h = slab_Get_int s h := by
  unfold r03_Get slab_Get_int
  rw [r_find s hh]
  simp only [sc_ix, bind_map']
  rfl
theorem r_set (s : slab_Slab_int) {h v : Int} (hh : h ≤ 9223372036854775807) : r03_Set (sc s) h v = (slab_Set_int s h v).map (fun p => (sc p.1, p.2)) := by
  unfold r03_Set slab_Set_int
  rw [r_find s hh, map_bind']
  congr 1
  funext p
  rw [ite_map, sc_ix, bind_map', map_bind']
  split
  · rfl
  · congr 1
    funext x
    have := r_with s p.1 ⟨x.State, x.Gen, v⟩
    simp only [cc] at this ⊢
    rw [this, bind_map', map_bind']
    rfl

theorem r_kill {s : slab_Slab_int} (hl : s.Cells.length ≤ 24) {h : Int} (hh : h ≤ 9223372036854775807) : r03_Kill (sc s) h = (slab_Kill_int s h).map (fun p => (sc p.1, p.2)) := by
  unfold r03_Kill
  rw [r_get s hh, r_find s hh]
  by_cases q : ∃ i, Fnd s h i
  · obtain ⟨i, hf⟩ := q
    obtain ⟨hi, hg⟩ := get_of hf
    obtain ⟨_, hk⟩ := kill_of hl hf
    rw [hg, hk, find_of hf]
    split
    · rfl
    · rw [Option.bind_some, if_neg (by simp), Option.bind_some, sc_ix, ix_at hi, Option.map_some, Option.bind_some]
      have := r_with s i ⟨2, s.Cells[i].Gen, s.Cells[i].Val⟩
      simp only [cc] at this ⊢
      rw [this, with_eq rfl hi hl]
      rfl
  · have q : ∀ i, ¬ Fnd s h i := fun i hi => q ⟨i, hi⟩
    rw [get_no hh q, kill_no hh q, Option.bind_some, if_pos (by simpa using err_ne h)]
    rfl

theorem r_give {s : slab_Slab_int} (hR : SlR s) {h : Int} (hh : h ≤ 9223372036854775807) : r03_Give (sc s) h = (slab_Give_int s h).map (fun p => (sc p.1, p.2)) := by
  unfold r03_Give
  rw [r_find s hh]
  by_cases q : ∃ i, Fnd s h i
  · obtain ⟨i, hf⟩ := q
    obtain ⟨hi, hg⟩ := give_of hR hf
    have hc := hR.cell i hi
    have h9 := hR.l9
    rw [hg, find_of hf, Option.bind_some, if_neg (by simp), sc_ix, ix_at hi, Option.map_some, Option.bind_some]
    by_cases e : s.Cells[i].Gen = s.Last
    · rw [if_pos (by simp [cc, sc, e]), if_pos e]
      have := r_with s i ⟨3, s.Cells[i].Gen, 0⟩
      simp only [cc] at this ⊢
      rw [this, with_eq rfl hi hR.len]
      rfl
    · rw [if_neg (by simp [cc, sc]; omega), if_neg e]
      have := r_with s i ⟨0, s.Cells[i].Gen + 1, 0⟩
      simp only [cc] at this ⊢
      rw [w64_in (n := s.Cells[i].Gen + 1), this, with_eq rfl hi hR.len]
      rfl
  · have q : ∀ i, ¬ Fnd s h i := fun i hi => q ⟨i, hi⟩
    rw [find_no hh q, give_no hh q, Option.bind_some, if_pos (by simpa using err_ne h)]
    rfl

theorem band3 {n : Int} (h0 : 0 ≤ n) (h3 : n ≤ 3) : bitand .i64 n 3 = n := by
  have : n = 0 ∨ n = 1 ∨ n = 2 ∨ n = 3 := by omega
  rcases this with rfl | rfl | rfl | rfl <;> decide

theorem r_tally {s : slab_Slab_int} (hR : SlR s) : r03_Tally (sc s) = slab_Tally_int s := by
  unfold r03_Tally slab_Tally_int
  simp only [jn]
  refine lpb_map id id (fun x => 0 ≤ x.1) (Int.le_refl 0) rfl (fun k hk => ⟨?_, fun s' hs => ?_⟩) (fun e => rfl)
  · simp only [id, sc_len, sc_ix]
    split <;> rename_i q
    · have q : k.1 < s.Cells.length := by simpa using q
      have hk' : k.1.toNat < s.Cells.length := by omega
      rw [ix_of hk hk', Option.map_some, Option.bind_some, Option.bind_some]
      have hc := hR.cell k.1.toNat hk'
      rw [show bitand .i64 (cc s.Cells[k.1.toNat]).State 3 = s.Cells[k.1.toNat].State from band3 hc.1 hc.2.1, map_bind']
      rfl
    · rfl
  · split at hs
    · rename_i q
      have q : k.1 < s.Cells.length := by simpa using q
      have hk' : k.1.toNat < s.Cells.length := by omega
      rw [ix_of hk hk', Option.bind_some, Option.bind_eq_some_iff] at hs
      obtain ⟨y, _, hy⟩ := hs
      cases hy
      have := hR.len
      show 0 ≤ w64 (k.1 + 1)
      rw [w64_def]; omega
    · cases hs

theorem same_refl {s : r03_Slab} (h : s.Cells.length ≤ 24) : r03_Same s s = some true := by
  unfold r03_Same
  rw [if_neg (by simp)]
  simp only [jn]
  refine lpb_up s.Cells.length (fun _ => True) (by omega) trivial (fun k hk _ => .inl ⟨?_, trivial⟩) (fun _ => ⟨.inr (), by simp, rfl⟩)
  simp only [Int.ofNat_lt, hk, decide_true, if_true, ix_at hk, Option.bind_some]
  rw [if_neg (by simp), w64_nat]

theorem tally_some {s : slab_Slab_int} (hR : SlR s) : ∃ t, slab_Tally_int s = some t := by
  have key : ∀ f : Int × A4 → Option ((Int × A4) ⊕ A4), (∀ (k : Nat) t, k < s.Cells.length → ∃ t', f ((k : Int), t) = some (.inl (((k + 1 : Nat) : Int), t'))) → (∀ t, f ((s.Cells.length : Int), t) = some (.inr t)) → ∃ t, (lp f (0, (⟨0, 0, 0, 0⟩ : A4))).bind some = some t := by
    intro f h1 h2
    obtain ⟨e, h3, _⟩ := lp_upS (f := f) (t0 := (⟨0, 0, 0, 0⟩ : A4)) s.Cells.length (fun _ _ => True) (fun _ => True) (by have := hR.len; omega) trivial (fun k t hk _ => .inl (by obtain ⟨t', q⟩ := h1 k t hk; exact ⟨t', q, trivial⟩)) (fun t _ => ⟨_, h2 t, trivial⟩)
    exact ⟨e, by rw [h3]; rfl⟩
  unfold slab_Tally_int
  simp only [jn]
  refine key _ (fun k t hk => ?_) (fun t => by simp)
  have hc := hR.cell k hk
  have hl := hR.len
  simp only [Int.ofNat_lt, hk, decide_true, if_true, ix_at hk, Option.bind_some]
  have : ∃ v, A4.ix t s.Cells[k].State = some v := by
    unfold A4.ix
    exact ⟨_, ix_of hc.1 (by simp [A4.l]; omega)⟩
  obtain ⟨v, hv⟩ := this
  rw [hv, Option.bind_some, w64_nat]
  exact ⟨_, rfl⟩

theorem upd_len (s : slab_Slab_int) (i : Nat) (c : slab_Cell_int) (l : Int) (h : s.Cells.length ≤ 24) : (slab_Slab_int.mk (s.Cells.set i c) l).Cells.length ≤ 24 := by simpa using h

theorem take_some {s : slab_Slab_int} (hR : SlR s) (v : Int) : ∃ a h e, slab_Take_int s v = some (a, h, e) ∧ a.Cells.length ≤ 24 := by
  rcases take_cases hR v with ⟨i, hi, _, _, h⟩ | ⟨_, h⟩
  · exact ⟨_, _, _, h, upd_len s _ _ _ hR.len⟩
  · exact ⟨_, _, _, h, hR.len⟩
theorem set_some {s : slab_Slab_int} (hR : SlR s) {h : Int} (v : Int) (hh : h ≤ 9223372036854775807) : ∃ a e, slab_Set_int s h v = some (a, e) ∧ a.Cells.length ≤ 24 := by
  by_cases q : ∃ i, Fnd s h i
  · obtain ⟨i, hf⟩ := q
    obtain ⟨hi, hk⟩ := set_of (v := v) hR.len hf
    exact ⟨_, _, hk, upd_len s _ _ _ hR.len⟩
  · exact ⟨_, _, set_no hh fun i hi => q ⟨i, hi⟩, hR.len⟩
theorem kill_some {s : slab_Slab_int} (hR : SlR s) {h : Int} (hh : h ≤ 9223372036854775807) : ∃ a e, slab_Kill_int s h = some (a, e) ∧ a.Cells.length ≤ 24 := by
  by_cases q : ∃ i, Fnd s h i
  · obtain ⟨i, hf⟩ := q
    obtain ⟨hi, hk⟩ := kill_of hR.len hf
    split at hk
    · exact ⟨_, _, hk, hR.len⟩
    · exact ⟨_, _, hk, upd_len s _ _ _ hR.len⟩
  · exact ⟨_, _, kill_no hh fun i hi => q ⟨i, hi⟩, hR.len⟩
theorem give_some {s : slab_Slab_int} (hR : SlR s) {h : Int} (hh : h ≤ 9223372036854775807) : ∃ a e, slab_Give_int s h = some (a, e) ∧ a.Cells.length ≤ 24 := by
  by_cases q : ∃ i, Fnd s h i
  · obtain ⟨i, hf⟩ := q
    obtain ⟨hi, hk⟩ := give_of hR hf
    exact ⟨_, _, hk, upd_len s _ _ _ hR.len⟩
  · exact ⟨_, _, give_no hh fun i hi => q ⟨i, hi⟩, hR.len⟩
theorem find_some (s : slab_Slab_int) {h : Int} (hh : h ≤ 9223372036854775807) : ∃ i e, slab_Find_int s h = some (i, e) := by
  rcases find_cases s hh with ⟨i, _, h⟩ | ⟨_, h⟩ <;> exact ⟨_, _, h⟩
theorem get_some (s : slab_Slab_int) {h : Int} (hh : h ≤ 9223372036854775807) : ∃ i e, slab_Get_int s h = some (i, e) := by
  by_cases q : ∃ i, Fnd s h i
  · obtain ⟨i, hf⟩ := q
    obtain ⟨hi, hk⟩ := get_of hf
    split at hk <;> exact ⟨_, _, hk⟩
  · exact ⟨_, _, get_no hh fun i hi => q ⟨i, hi⟩⟩

theorem slabActs (s : slab_Slab_int) {h : Int} (v : Int) (hh : h ≤ 9223372036854775807) : w03_SlabActs s h v = some true := by
  unfold w03_SlabActs
  obtain ⟨b, hb, hbR⟩ := right_eq s
  rw [hb, Option.bind_some, shown]
  cases b with
  | false => simp [onlyIf]
  | true =>
    have hR := hbR.1 rfl
    have hl := hR.len
    rw [show onlyIf ((!true) == false) false (some true) = some true from rfl, Option.bind_some, if_neg (by decide), its_eq s hl, Option.bind_some, r_take, r_find s hh, r_get s hh]
    obtain ⟨a, h1, e1, e, la⟩ := take_some hR v
    obtain ⟨i2, e2, k2⟩ := find_some s hh
    obtain ⟨i3, e3, k3⟩ := get_some s hh
    obtain ⟨a4, e4, k4, l4⟩ := set_some hR v hh
    obtain ⟨a5, e5, k5, l5⟩ := kill_some hR hh
    obtain ⟨a6, e6, k6, l6⟩ := give_some hR hh
    obtain ⟨t, ht⟩ := tally_some hR
    have s1 : r03_Same (sc a) (sc a) = some true := same_refl (by rw [sc_len]; exact la)
    have s4 : r03_Same (sc a4) (sc a4) = some true := same_refl (by rw [sc_len]; exact l4)
    have s5 : r03_Same (sc a5) (sc a5) = some true := same_refl (by rw [sc_len]; exact l5)
    have s6 : r03_Same (sc a6) (sc a6) = some true := same_refl (by rw [sc_len]; exact l6)
    simp only [e, k2, k3, Option.map_some, Option.bind_some, its_eq _ la, s1]
    rw [if_neg (by simp)]
    simp only [r_set s hh, r_kill hl hh, r_give hR hh, r_tally hR, k4, k5, k6, ht, Option.map_some, Option.bind_some, its_eq _ l4, its_eq _ l5, its_eq _ l6, s4, s5, s6]
    simp [onlyIf, s5, s6]

theorem slabNew (n last : Int) : w03_SlabNew n last = some true := by
  unfold w03_SlabNew slab_New_int r03_New
  split
  · rename_i q
    have e : w03_its ⟨[], 0⟩ = some (sc ⟨[], 0⟩) := its_eq _ (Nat.zero_le _)
    have e2 : r03_Same (sc ⟨[], 0⟩) ⟨[], 0⟩ = some true := same_refl (s := ⟨[], 0⟩) (Nat.zero_le _)
    rw [shown]
    simp only [Option.bind_some, List.length_nil, Int.natCast_zero, show decide ((0 : Int) ≤ 24) = true from rfl, onlyIf, beq_self_eq_true, if_true, e, e2, Bool.and_self]
  · rename_i q
    have q : 0 ≤ n ∧ n ≤ 24 := by simp at q; omega
    obtain ⟨k, rfl⟩ : ∃ k : Nat, n = k := ⟨n.toNat, by omega⟩
    rw [mk_ok (by omega) (by omega), Option.bind_some, Option.bind_some]
    have hk : k ≤ 24 := by omega
    have hd : decide (((slab_Slab_int.mk (List.replicate k ⟨0, 0, 0⟩) last).Cells.length : Int) ≤ 24) = true := by simp; omega
    rw [hd, mk_ok (by omega) (by omega)]
    simp only [onlyIf, beq_self_eq_true, if_true, Option.bind_some]
    rw [its_eq _ (by simpa using hk), Option.bind_some]
    have : sc (slab_Slab_int.mk (List.replicate k ⟨0, 0, 0⟩) last) = r03_Slab.mk (List.replicate k ⟨0, 0, 0⟩) last := by simp [sc, cc]
    rw [this, same_refl (by simpa using hk), shown]
    simp
end Go.Sh
