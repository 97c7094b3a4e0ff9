/-
  Stores: those that live are got, and no others.
-/
import Derived.Test.YtpnajadblhkomaaT06g
namespace Go.Sh
set_option linter.unusedVariables false
set_option linter.unusedSimpArgs false

theorem rt_len {s : store_Store} (h : RtR (sO s)) : s.S.Cells.length ≤ 24 := by have := h.len; rwa [sO_len] at this

theorem rt_cell {s : store_Store} (h : RtR (sO s)) (i : Nat) (hi : i < s.S.Cells.length) : 0 ≤ s.S.Cells[i].State ∧ s.S.Cells[i].State ≤ 3 ∧ 0 ≤ s.S.Cells[i].Gen ∧ s.S.Cells[i].Gen ≤ s.S.Last := by
  have := h.cell i (by rw [sO_len]; exact hi)
  simpa [sO, cO] using this

theorem rt_slb {s : store_Store} (h : RtR (sO s)) : Slb s.S.Cells := ⟨rt_len h, fun i hi => by have := rt_cell h i hi; have h9 : s.S.Last ≤ 9 := h.l9; omega⟩

theorem rt_ok {s : store_Store} (h : RtR (sO s)) (i : Nat) (hi : i < s.S.Cells.length) (ht : s.S.Cells[i].State = 1 ∨ s.S.Cells[i].State = 2) : ObOK (sO s) (oo s.S.Cells[i].Val) := by
  have := h.ok i (by rw [sO_len]; exact hi)
  simp only [sO, List.getElem_map, cO, Thr] at this
  exact this ht

theorem rt_dif {s : store_Store} (h : RtR (sO s)) {i j : Nat} (hi : i < s.S.Cells.length) (hj : j < s.S.Cells.length) (a : s.S.Cells[i].State = 1 ∨ s.S.Cells[i].State = 2) (b : s.S.Cells[j].State = 1 ∨ s.S.Cells[j].State = 2) (e : s.S.Cells[i].Val.Serial = s.S.Cells[j].Val.Serial) : i = j := by
  have key : ∀ i (hi : i < s.S.Cells.length) j (hj : j < i), (s.S.Cells[i].State = 1 ∨ s.S.Cells[i].State = 2) → (s.S.Cells[j].State = 1 ∨ s.S.Cells[j].State = 2) → s.S.Cells[j].Val.Serial ≠ s.S.Cells[i].Val.Serial := fun i hi j hj a b => by
    have := h.dif i (by rw [sO_len]; exact hi) j hj
    simp only [sO, List.getElem_map, cO, Thr, oo] at this
    exact this a b
  rcases Nat.lt_trichotomy i j with q | q | q
  · exact absurd e (key j hj i q b a)
  · exact q
  · exact absurd e.symm (key i hi j q a b)

/-- What a handle of one that lives is. -/
theorem hnds_fnd {s : store_Store} (hR : RtR (sO s)) {x : Int} (hx : x ∈ hnds 0 s.S.Cells) : ∃ i, ∃ hi : i < s.S.Cells.length, s.S.Cells[i].State = 1 ∧ x = 1 + (i : Int) + 32 * s.S.Cells[i].Gen ∧ FndO s.S x i ∧ sk s.S.Cells x = s.S.Cells[i].Val.Serial ∧ store_Get s x = some (s.S.Cells[i].Val, 0) := by
  obtain ⟨i, hi, h1, h2⟩ := hnds_mem.1 hx
  rw [Nat.zero_add] at h2
  have hl := (rt_len hR)
  have hc := (rt_slb hR).gen i hi
  have hf : FndO s.S x i := ⟨hi, by unfold Hnd; omega, by omega, by omega, .inl h1⟩
  refine ⟨i, hi, h1, h2, hf, by rw [h2]; exact sk_hd hi (by omega), ?_⟩
  obtain ⟨_, e⟩ := get_of_o hf
  unfold store_Get
  rw [e, if_neg (by omega)]
  rfl

theorem fnd_hnds {s : store_Store} {x : Int} {i : Nat} (hf : FndO s.S x i) (h1 : ∀ hi : i < s.S.Cells.length, s.S.Cells[i].State = 1) : x ∈ hnds 0 s.S.Cells := by
  obtain ⟨hi, q1, q2, q3, _⟩ := hf
  refine hnds_mem.2 ⟨i, hi, h1 hi, ?_⟩
  unfold Hnd at q1
  rw [Nat.zero_add]
  omega

theorem sk_inj {s : store_Store} (hR : RtR (sO s)) {x y : Int} (hx : x ∈ hnds 0 s.S.Cells) (hy : y ∈ hnds 0 s.S.Cells) (e : sk s.S.Cells x = sk s.S.Cells y) : x = y := by
  obtain ⟨i, hi, a1, a2, _, a4, _⟩ := hnds_fnd hR hx
  obtain ⟨j, hj, b1, b2, _, b4, _⟩ := hnds_fnd hR hy
  have := (rt_dif hR) hi hj (.inl a1) (.inl b1) (by rw [← a4, ← b4]; exact e)
  subst this
  rw [a2, b2]

theorem hnds_nodup : ∀ (k : Nat) (cs : List slab_Cell_store_Obj), k + cs.length ≤ 32 → (hnds k cs).Nodup
  | _, [], _ => List.nodup_nil
  | k, c :: r, h => by
    simp only [List.length_cons] at h
    unfold hnds
    rw [List.nodup_append]
    refine ⟨by split <;> simp, hnds_nodup (k + 1) r (by omega), fun a ha b hb e => ?_⟩
    split at ha
    · simp only [List.mem_singleton] at ha
      subst ha; subst e
      obtain ⟨i, hi, h1, h2⟩ := hnds_mem.1 hb
      have : ((1 + (k : Int) + 32 * c.Gen) - 1) % 32 = ((1 + ((k + 1 + i : Nat) : Int) + 32 * r[i].Gen) - 1) % 32 := by rw [h2]
      omega
    · cases ha

/-- Those that live, in order. -/
theorem live_of {s : store_Store} (hR : RtR (sO s)) : ∃ l, store_Live s = some l ∧ l.Perm (hnds 0 s.S.Cells) ∧ l.Pairwise (fun a b => sk s.S.Cells a < sk s.S.Cells b) := by
  obtain ⟨l, h1, h2, h3⟩ := live_spec (rt_slb hR)
  refine ⟨l, h1, h2, ?_⟩
  have hn : l.Nodup := h2.nodup_iff.2 (hnds_nodup 0 _ (by have := (rt_len hR); omega))
  have := List.Pairwise.and h3 hn
  refine this.imp_of_mem fun {a b} ha hb ⟨q1, q2⟩ => ?_
  rcases Int.lt_or_eq_of_le q1 with q | q
  · exact q
  · exact absurd (sk_inj hR (h2.mem_iff.1 ha) (h2.mem_iff.1 hb) q) q2

theorem storeLive (s : store_Store) {h : Int} (hh : h ≤ 9223372036854775807) : w06_StoreLive s h = some true := by
  unfold w06_StoreLive
  obtain ⟨b, hb, hR⟩ := right06 s
  rw [hb, Option.bind_some, shown06]
  cases b with
  | false => simp [onlyIf]
  | true =>
    have hR := (hR.1 rfl).rt
    have hl := (rt_len hR)
    simp only [Bool.not_true, beq_self_eq_true, onlyT, Option.bind_some, Bool.or_self, Bool.false_eq_true, if_false]
    obtain ⟨l, l1, l2, l3⟩ := live_of hR
    have ll2 : l.length ≤ s.S.Cells.length := by rw [l2.length_eq]; exact hnds_len 0 s.S.Cells
    have ll : l.length ≤ 24 := by omega
    rw [l1, Option.bind_some]
    simp only [jn]
    refine lpb_road (p := fun k => ((if k = 0 then 0 else sk s.S.Cells (l.getD (k - 1) 0) : Int), decide (h ∈ l.take k), (k : Int))) (by simp) l.length (fun _ => True) (by omega) trivial (fun k hk _ => .inl ⟨?_, trivial⟩) (fun _ => ?_)
    · have hc : ((decide ((k : Int) < (l.length : Int))) && (decide ((k : Int) < 30))) = true := by simp; omega
      simp only
      rw [hc]
      simp only [if_true, ix_at hk, Option.bind_some]
      obtain ⟨i, hi, a1, a2, a3, a4, a5⟩ := hnds_fnd hR (l2.mem_iff.1 (List.getElem_mem hk))
      rw [a5, Option.bind_some]
      have hs : (if k = 0 then 0 else sk s.S.Cells (l.getD (k - 1) 0) : Int) < s.S.Cells[i].Val.Serial := by
        split
        · have := ((rt_ok hR) i hi (.inl a1)).1
          simp only [oo] at this
          omega
        · rw [← a4]
          have e : l.getD (k - 1) 0 = l[k - 1] := by simp [List.getD, List.getElem?_eq_getElem (show k - 1 < l.length by omega)]
          rw [e]
          exact List.pairwise_iff_getElem.1 l3 (k - 1) k (by omega) hk (by omega)
      rw [if_neg (by simp only [bne_self_eq_false, Bool.false_or, decide_eq_true_eq, Int.not_le]; exact hs), w64_nat]
      have e1 : l.getD (k + 1 - 1) 0 = l[k] := by simp [List.getD, List.getElem?_eq_getElem hk]
      have e2 : (decide (h ∈ l.take k) || (l[k] == h)) = decide (h ∈ l.take (k + 1)) := by
        rw [List.take_add_one, List.getElem?_eq_getElem hk, Bool.eq_iff_iff]
        simp only [Bool.or_eq_true, decide_eq_true_eq, beq_iff_eq, Option.toList_some, List.mem_append, List.mem_singleton]
        exact or_congr Iff.rfl eq_comm
      rw [e2, if_neg (by omega), e1, a4]
    · have hc : ((decide ((l.length : Int) < (l.length : Int))) && (decide ((l.length : Int) < 30))) = false := by simp
      simp only
      rw [hc]
      refine ⟨.inr (decide (h ∈ l)), by simp, ?_⟩
      simp only
      rcases find_cases_o s.S hh with ⟨i, hf, _⟩ | ⟨hf, _⟩
      · obtain ⟨hi, e⟩ := get_of_o hf
        unfold store_Get
        rw [e]
        by_cases h2 : s.S.Cells[i].State = 2
        · rw [if_pos h2]
          have : ¬ h ∈ l := fun q => by
            obtain ⟨j, hj, b1, b2, b3, _⟩ := hnds_fnd hR (l2.mem_iff.1 q)
            have : i = j := by obtain ⟨_, _, x1, _⟩ := hf; obtain ⟨_, _, x2, _⟩ := b3; omega
            subst this
            omega
          rw [decide_eq_false this]
          simp; omega
        · rw [if_neg h2]
          have : h ∈ l := l2.mem_iff.2 (fnd_hnds hf fun _ => hf.2.2.2.2.resolve_right h2)
          rw [decide_eq_true this]
          simp; omega
      · unfold store_Get
        rw [get_no_o hh hf]
        have : ¬ h ∈ l := fun q => by
          obtain ⟨j, hj, b1, b2, b3, _⟩ := hnds_fnd hR (l2.mem_iff.1 q)
          exact hf j b3
        rw [decide_eq_false this]
        have hne : ((if h = 0 then 2 else 3 : Int) == 0) = false := by simpa using err_ne_o h
        simp only [Option.bind_some, hne]
        simp; omega

end Go.Sh
