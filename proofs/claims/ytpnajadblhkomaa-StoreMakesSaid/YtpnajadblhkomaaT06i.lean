/-
  Stores: an object that is made.
-/
import Derived.Test.YtpnajadblhkomaaT06h
namespace Go.Sh
set_option linter.unusedVariables false
set_option linter.unusedSimpArgs false

theorem hnds_set_same : ∀ (k : Nat) (cs : List slab_Cell_store_Obj) (i : Nat) (c : slab_Cell_store_Obj) (hi : i < cs.length), (c.State = 1 ↔ cs[i].State = 1) → c.Gen = cs[i].Gen → hnds k (cs.set i c) = hnds k cs
  | _, [], i, _, hi, _, _ => by simp at hi
  | k, d :: r, 0, c, hi, h1, h2 => by
    simp only [List.getElem_cons_zero] at h1 h2
    simp only [List.set_cons_zero, hnds, h2]
    by_cases q : d.State = 1
    · rw [if_pos q, if_pos (h1.2 q)]
    · rw [if_neg q, if_neg (fun h => q (h1.1 h))]
  | k, d :: r, i + 1, c, hi, h1, h2 => by
    simp only [List.getElem_cons_succ] at h1 h2
    simp only [List.set_cons_succ, hnds]
    rw [hnds_set_same (k + 1) r i c (by simpa using hi) h1 h2]

theorem hnds_set_new : ∀ (k : Nat) (cs : List slab_Cell_store_Obj) (i : Nat) (c : slab_Cell_store_Obj) (hi : i < cs.length), cs[i].State ≠ 1 → c.State = 1 → (hnds k (cs.set i c)).Perm ((1 + ((k + i : Nat) : Int) + 32 * c.Gen) :: hnds k cs)
  | _, [], i, _, hi, _, _ => by simp at hi
  | k, d :: r, 0, c, hi, h1, h2 => by
    simp only [List.getElem_cons_zero] at h1
    simp only [List.set_cons_zero, hnds, if_pos h2, if_neg h1, List.nil_append, Nat.add_zero]
    exact List.Perm.refl _
  | k, d :: r, i + 1, c, hi, h1, h2 => by
    simp only [List.getElem_cons_succ] at h1
    simp only [List.set_cons_succ, hnds]
    have := hnds_set_new (k + 1) r i c (by simpa using hi) h1 h2
    rw [show k + 1 + i = k + (i + 1) by omega] at this
    exact (List.Perm.append_left _ this).trans List.perm_middle

theorem sk_set {cs : List slab_Cell_store_Obj} {i : Nat} {c : slab_Cell_store_Obj} {x : Int} (h : ((x - 1) % 32).toNat ≠ i) : sk (cs.set i c) x = sk cs x := by
  unfold sk
  rw [List.getElem?_set_ne (by omega)]

/-- What an object that is made comes to. -/
theorem make_cases {s : store_Store} (hR : RtR (sO s)) (hb : s.Serial < 1000000000) (arity prog : Int) :
    (∃ e, e ≠ 0 ∧ store_Make s arity prog = some (s, 0, e)) ∨
    (0 ≤ arity ∧ arity ≤ 4 ∧ -1 ≤ prog ∧ prog ≤ 5 ∧ ∃ i, ∃ hi : i < s.S.Cells.length, s.S.Cells[i].State = 0 ∧
      store_Make s arity prog = some (⟨⟨s.S.Cells.set i ⟨1, s.S.Cells[i].Gen, ⟨s.Serial + 1, 0, 0, prog, false, List.replicate arity.toNat 0⟩⟩, s.S.Last⟩, s.Serial + 1⟩, 1 + (i : Int) + 32 * s.S.Cells[i].Gen, 0)) := by
  have hs := hR.ser
  have hs' : 0 ≤ s.Serial := hs
  unfold store_Make vec_New
  by_cases ha : 0 ≤ arity ∧ arity ≤ 4
  · obtain ⟨ha1, ha2⟩ := ha
    obtain ⟨n, rfl⟩ : ∃ n : Nat, arity = n := ⟨arity.toNat, by omega⟩
    rw [if_neg (by simp; omega), mk_ok (by omega) (by omega)]
    simp only [Option.bind_some]
    by_cases hp : -1 ≤ prog ∧ prog ≤ 5
    · unfold store_programFits
      simp only [Option.bind_some]
      have e1 : (decide (prog ≥ -1) && decide (prog < 6)) = true := by simp; omega
      rw [e1]
      have hl : SlO s.S := ⟨rt_len hR, hR.l0, hR.l9, fun i hi => rt_cell hR i hi⟩
      rcases take_cases_o hl ⟨s.Serial + 1, 0, 0, prog, false, List.replicate n 0⟩ with ⟨i, hi, h0, _, e⟩ | ⟨_, e⟩
      · right
        refine ⟨by omega, by omega, hp.1, hp.2, i, hi, h0, ?_⟩
        simp only [bne_self_eq_false, Bool.false_eq_true, if_false, Bool.not_true]
        rw [show w64 (s.Serial + 1) = s.Serial + 1 from w64_in (by omega) (by omega), e]
        simp
      · left
        refine ⟨4, by decide, ?_⟩
        simp only [bne_self_eq_false, Bool.false_eq_true, if_false, Bool.not_true]
        rw [show w64 (s.Serial + 1) = s.Serial + 1 from w64_in (by omega) (by omega), e]
        simp
    · left
      unfold store_programFits
      simp only [Option.bind_some]
      have e1 : (decide (prog ≥ -1) && decide (prog < 6)) = false := by rw [Bool.eq_false_iff]; simp; omega
      rw [e1]
      exact ⟨13, by decide, by simp⟩
  · left
    rw [if_pos (by simp; omega)]
    exact ⟨1, by decide, by simp⟩

theorem makes_live {s : store_Store} (hR : RtR (sO s)) {i : Nat} (hi : i < s.S.Cells.length) (h0 : s.S.Cells[i].State = 0) (o : store_Obj) (ho : o.Serial = s.Serial + 1) {l : List Int} (hl : store_Live s = some l) :
    store_Live ⟨⟨s.S.Cells.set i ⟨1, s.S.Cells[i].Gen, o⟩, s.S.Last⟩, s.Serial + 1⟩ = some (l ++ [1 + (i : Int) + 32 * s.S.Cells[i].Gen]) := by
  obtain ⟨l', e, l1, l2⟩ := live_of hR
  rw [hl] at e
  cases e
  have hlen := rt_len hR
  have hsl : Slb (s.S.Cells.set i ⟨1, s.S.Cells[i].Gen, o⟩) := ⟨by simpa using hlen, fun j hj => by
    rw [List.getElem_set]
    have := (rt_slb hR).gen
    split
    · exact this i hi
    · exact this j (by simpa using hj)⟩
  obtain ⟨m, m1, m2, m3⟩ := live_spec (s := ⟨⟨s.S.Cells.set i ⟨1, s.S.Cells[i].Gen, o⟩, s.S.Last⟩, s.Serial + 1⟩) hsl
  have hp := hnds_set_new 0 s.S.Cells i ⟨1, s.S.Cells[i].Gen, o⟩ hi (by omega) rfl
  rw [Nat.zero_add] at hp
  have hold : ∀ x ∈ l, sk (s.S.Cells.set i ⟨1, s.S.Cells[i].Gen, o⟩) x = sk s.S.Cells x ∧ sk s.S.Cells x ≤ s.Serial := fun x hx => by
    obtain ⟨j, hj, a1, a2, a3, a4, _⟩ := hnds_fnd hR (l1.mem_iff.1 hx)
    refine ⟨sk_set ?_, ?_⟩
    · obtain ⟨_, _, q, _⟩ := a3
      intro e
      have : j = i := by omega
      subst this
      omega
    · rw [a4]
      exact (rt_ok hR j hj (.inl a1)).2.1
  have hnew : sk (s.S.Cells.set i ⟨1, s.S.Cells[i].Gen, o⟩) (1 + (i : Int) + 32 * s.S.Cells[i].Gen) = s.Serial + 1 := by
    rw [sk_hd (by simpa using hi) (by simp; omega)]
    simp [ho]
  rw [m1]
  congr 1
  refine sorted_one (key := sk (s.S.Cells.set i ⟨1, s.S.Cells[i].Gen, o⟩)) ?_ m3 ?_ ?_
  · refine m2.trans (hp.trans ?_)
    refine List.Perm.trans (List.Perm.cons _ l1.symm) ?_
    exact (List.perm_append_singleton _ _).symm
  · rw [List.pairwise_append]
    refine ⟨l2.imp_of_mem fun {a b} ha hb hab => ?_, by simp, fun a ha b hb => ?_⟩
    · rw [(hold a ha).1, (hold b hb).1]; omega
    · rw [List.mem_singleton] at hb
      subst hb
      rw [hnew, (hold a ha).1]
      have := (hold a ha).2
      omega
  · have hm : ∀ a ∈ m, a ∈ l ∨ a = 1 + (i : Int) + 32 * s.S.Cells[i].Gen := fun a ha => by
      have := hp.mem_iff.1 (m2.mem_iff.1 ha)
      rcases List.mem_cons.1 this with q | q
      · exact .inr q
      · exact .inl (l1.mem_iff.2 q)
    intro a ha b hb hab
    rcases hm a ha with qa | rfl <;> rcases hm b hb with qb | rfl
    · rw [(hold a qa).1, (hold b qb).1] at hab
      exact sk_inj hR (l1.mem_iff.1 qa) (l1.mem_iff.1 qb) hab
    · rw [(hold a qa).1, hnew] at hab
      have := (hold a qa).2
      omega
    · rw [(hold b qb).1, hnew] at hab
      have := (hold b qb).2
      omega
    · rfl

theorem storeMakes (s : store_Store) (arity prog : Int) : w06_StoreMakes s arity prog = some true := by
  unfold w06_StoreMakes
  obtain ⟨b, hb, hR⟩ := right06 s
  rw [hb, Option.bind_some, shown06]
  cases b with
  | false => simp [onlyIf]
  | true =>
    have hS := hR.1 rfl
    have hR := hS.rt
    have hl := (rt_len hR)
    have hser : 0 ≤ s.Serial := hR.ser
    have hbig := hS.big
    simp only [Bool.not_true, beq_self_eq_true, onlyT, Option.bind_some, Bool.or_self, Bool.false_eq_true, if_false]
    obtain ⟨l, l1, l2, l3⟩ := live_of hR
    have ll : l.length ≤ 24 := by rw [l2.length_eq]; exact Nat.le_trans (hnds_len 0 s.S.Cells) hl
    rw [l1, Option.bind_some]
    rcases make_cases hR hbig arity prog with ⟨e, he, h1⟩ | ⟨a1, a2, p1, p2, i, hi, h0, h1⟩
    · rw [h1]
      simp only [Option.bind_some]
      rw [show store_Live s = _ from l1, Option.bind_some]
      have : (e != 0) = true := by simpa using he
      simp only [this, if_true, beq_self_eq_true, onlyT, its06 s (by omega), Option.bind_some]
      rw [Same_refl _ (by rw [sO_len]; omega) (fun i hi => by
        have := hS.fl i (by simpa [sO] using hi)
        simp only [sO, List.getElem_map, cO, oo]
        omega)]
      rfl
    · rw [h1]
      simp only [Option.bind_some]
      rw [makes_live hR hi h0 _ rfl l1, Option.bind_some]
      have hc := (rt_slb hR).gen i hi
      have hf : FndO ⟨s.S.Cells.set i ⟨1, s.S.Cells[i].Gen, ⟨s.Serial + 1, 0, 0, prog, false, List.replicate arity.toNat 0⟩⟩, s.S.Last⟩ (1 + (i : Int) + 32 * s.S.Cells[i].Gen) i := by
        refine ⟨by simpa using hi, by unfold Hnd; omega, by omega, ?_, ?_⟩
        · simp; omega
        · simp
      obtain ⟨_, hg⟩ := get_of_o hf
      unfold store_Get
      rw [hg]
      have hw : w64 ((l.length : Int) + 1) = ((l.length + 1 : Nat) : Int) := w64_nat
      have e11 : ix (l ++ [1 + (i : Int) + 32 * s.S.Cells[i].Gen]) (l.length : Int) = some (1 + (i : Int) + 32 * s.S.Cells[i].Gen) := by
        rw [ix_nat]; simp
      have e12 : cut (l ++ [1 + (i : Int) + 32 * s.S.Cells[i].Gen]) 0 (l.length : Int) = some l := by
        have := cut_ok (xs := l ++ [1 + (i : Int) + 32 * s.S.Cells[i].Gen]) (i := 0) (j := l.length) (by omega) (by simp)
        simpa using this
      have hw2 : w64 (s.Serial + 1) = s.Serial + 1 := w64_in (by omega) (by omega)
      simp only [bne_self_eq_false, Bool.false_eq_true, if_false, Option.bind_some, List.getElem_set_self, hw, List.length_append, List.length_singleton, beq_self_eq_true, onlyT, e11, e12, Bool.and_self, hw2,
        show ((1 : Int) = 2) = False by simp, if_false]
      rw [Ints_eq _ _ (by omega), Option.bind_some, decide_eq_true rfl]
      simp only [Bool.and_true, Bool.true_and, List.length_replicate]
      rw [show ((arity.toNat : Int) == arity) = true by simp; omega]
end Go.Sh
