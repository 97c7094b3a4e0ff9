/-
  Slabs: tallies; what is taken and given back again and again.
-/
import Derived.Test.YteilfbdphlimkaaT03c
namespace Go.Sh
set_option linter.unusedVariables false
set_option linter.unusedSimpArgs false

/-- How many cells are in a state. -/
def cnt (l : List slab_Cell_int) (k : Int) : Nat := l.countP fun c => c.State == k

theorem cnt_snoc (l : List slab_Cell_int) (c : slab_Cell_int) (k : Int) : cnt (l ++ [c]) k = cnt l k + if c.State = k then 1 else 0 := by
  unfold cnt
  rw [List.countP_append]
  simp [List.countP_cons]

theorem tally_eq {s : slab_Slab_int} (hR : SlR s) : slab_Tally_int s = some ⟨cnt s.Cells 0, cnt s.Cells 1, cnt s.Cells 2, cnt s.Cells 3⟩ := by
  unfold slab_Tally_int
  simp only [jn]
  have hlen := hR.len
  refine lpb_upS s.Cells.length (fun k t => t = ⟨cnt (s.Cells.take k) 0, cnt (s.Cells.take k) 1, cnt (s.Cells.take k) 2, cnt (s.Cells.take k) 3⟩) (by omega) (by simp [cnt]) (fun k t hk ht => .inl ?_) (fun t ht => ⟨_, by simp; rfl, by rw [ht, List.take_length]⟩)
  have hc := hR.cell k hk
  subst ht
  simp only [Int.ofNat_lt, hk, decide_true, if_true, ix_at hk, Option.bind_some]
  have hle : ∀ j, cnt (s.Cells.take k) j ≤ 24 := fun j => Nat.le_trans List.countP_le_length (by simp; omega)
  have h0 := hle 0
  have h1 := hle 1
  have h2 := hle 2
  have h3 := hle 3
  rw [List.take_succ_eq_append_getElem hk]
  simp only [cnt_snoc]
  refine ⟨_, ?_, rfl⟩
  have hst : s.Cells[k].State = 0 ∨ s.Cells[k].State = 1 ∨ s.Cells[k].State = 2 ∨ s.Cells[k].State = 3 := by omega
  rcases hst with e | e | e | e <;> rw [e] <;> simp [A4.ix, A4.l, A4.st, ix] <;> rw [w64_nat, w64_nat] <;> simp

theorem cnt_sum {l : List slab_Cell_int} (h : ∀ c ∈ l, 0 ≤ c.State ∧ c.State ≤ 3) : cnt l 0 + cnt l 1 + cnt l 2 + cnt l 3 = l.length := by
  induction l with
  | nil => rfl
  | cons c l ih =>
    have h1 := ih fun x hx => h x (List.mem_cons_of_mem _ hx)
    have h2 := h c (List.mem_cons_self ..)
    unfold cnt at h1 ⊢
    simp only [List.countP_cons, List.length_cons]
    have : c.State = 0 ∨ c.State = 1 ∨ c.State = 2 ∨ c.State = 3 := by omega
    rcases this with e | e | e | e <;> rw [e] <;> simp <;> omega

theorem cnt_set {l : List slab_Cell_int} {i : Nat} (h : i < l.length) (c : slab_Cell_int) (k : Int) : cnt (l.set i c) k + (if l[i].State = k then 1 else 0) = cnt l k + if c.State = k then 1 else 0 := by
  unfold cnt
  rw [List.countP_set h]
  simp only [beq_iff_eq]
  have : (if l[i].State = k then 1 else 0) ≤ l.countP fun c => c.State == k := by
    split
    · rename_i e
      exact List.countP_pos_iff.2 ⟨l[i], List.getElem_mem h, by simpa using e⟩
    · exact Nat.zero_le _
  omega

theorem SlR.set {s : slab_Slab_int} (hR : SlR s) {i : Nat} {c : slab_Cell_int} (hc : 0 ≤ c.State ∧ c.State ≤ 3 ∧ 0 ≤ c.Gen ∧ c.Gen ≤ s.Last) : SlR ⟨s.Cells.set i c, s.Last⟩ := by
  refine ⟨by simpa using hR.len, hR.l0, hR.l9, fun j hj => ?_⟩
  simp only [List.length_set] at hj
  simp only [List.getElem_set]
  split
  · exact hc
  · exact hR.cell j hj

theorem slabTallies (s : slab_Slab_int) {h : Int} (v : Int) (hh : h ≤ 9223372036854775807) : w03_SlabTallies s h v = some true := by
  unfold w03_SlabTallies
  obtain ⟨b, hb, hbR⟩ := right_eq s
  rw [hb, Option.bind_some, shown]
  cases b with
  | false => simp [onlyIf]
  | true =>
    have hR := hbR.1 rfl
    have hl := hR.len
    have hmem : ∀ c ∈ s.Cells, 0 ≤ c.State ∧ c.State ≤ 3 := fun c hc => by
      obtain ⟨i, hi, rfl⟩ := List.getElem_of_mem hc
      exact ⟨(hR.cell i hi).1, (hR.cell i hi).2.1⟩
    have hsum := cnt_sum hmem
    rw [show onlyIf ((!true) == false) false (some true) = some true from rfl, Option.bind_some, if_neg (by decide), tally_eq hR, Option.bind_some]
    -- what is taken
    obtain ⟨a, ah, ae, hta, hRa, hca⟩ : ∃ a ah ae, slab_Take_int s v = some (a, ah, ae) ∧ SlR a ∧ ((ae = 0 ∧ cnt a.Cells 0 + 1 = cnt s.Cells 0 ∧ cnt a.Cells 1 = cnt s.Cells 1 + 1) ∨ (ae ≠ 0 ∧ a = s ∧ cnt s.Cells 0 = 0)) := by
      rcases take_cases hR v with ⟨i, hi, h0, _, ht⟩ | ⟨hno, ht⟩
      · have hc := hR.cell i hi
        refine ⟨_, _, _, ht, hR.set ⟨by simp, by simp, hc.2.2⟩, .inl ⟨rfl, ?_, ?_⟩⟩
        · have := cnt_set hi ⟨1, s.Cells[i].Gen, v⟩ 0
          simp [h0] at this; exact this
        · have := cnt_set hi ⟨1, s.Cells[i].Gen, v⟩ 1
          simp [h0] at this; exact this
      · refine ⟨_, _, _, ht, hR, .inr ⟨by omega, rfl, ?_⟩⟩
        unfold cnt
        rw [List.countP_eq_zero]
        intro c hc
        obtain ⟨i, hi, rfl⟩ := List.getElem_of_mem hc
        simpa using hno i hi
    obtain ⟨k, ke, hk, hRk, hck⟩ : ∃ k ke, slab_Kill_int s h = some (k, ke) ∧ SlR k ∧ ((ke = 0 ∧ cnt k.Cells 1 + 1 = cnt s.Cells 1 ∧ cnt k.Cells 2 = cnt s.Cells 2 + 1 ∧ cnt k.Cells 0 = cnt s.Cells 0) ∨ (ke ≠ 0 ∧ k = s)) := by
      by_cases q : ∃ i, Fnd s h i
      · obtain ⟨i, hf⟩ := q
        obtain ⟨hi, hk⟩ := kill_of hl hf
        split at hk
        · exact ⟨_, _, hk, hR, .inr ⟨by omega, rfl⟩⟩
        · rename_i h2
          have h1 : s.Cells[i].State = 1 := by
            rcases hf.2.2.2.2 with e | e
            · exact e
            · exact absurd e h2
          have hc := hR.cell i hi
          refine ⟨_, _, hk, hR.set ⟨by simp, by simp, hc.2.2⟩, .inl ⟨rfl, ?_, ?_, ?_⟩⟩
          · have := cnt_set hi ⟨2, s.Cells[i].Gen, s.Cells[i].Val⟩ 1
            simp [h1] at this; exact this
          · have := cnt_set hi ⟨2, s.Cells[i].Gen, s.Cells[i].Val⟩ 2
            simp [h1] at this; exact this
          · have := cnt_set hi ⟨2, s.Cells[i].Gen, s.Cells[i].Val⟩ 0
            simp [h1] at this; exact this
      · exact ⟨_, _, kill_no hh fun i hi => q ⟨i, hi⟩, hR, .inr ⟨err_ne h, rfl⟩⟩
    obtain ⟨g, ge, hg, hRg, hcg⟩ : ∃ g ge, slab_Give_int s h = some (g, ge) ∧ SlR g ∧ g.Cells.length = s.Cells.length ∧ ((ge = 0 ∧ cnt g.Cells 1 + cnt g.Cells 2 + 1 = cnt s.Cells 1 + cnt s.Cells 2) ∨ (ge ≠ 0 ∧ g = s)) := by
      by_cases q : ∃ i, Fnd s h i
      · obtain ⟨i, hf⟩ := q
        obtain ⟨hi, hk⟩ := give_of hR hf
        have hc := hR.cell i hi
        have h9 := hR.l9
        refine ⟨_, _, hk, hR.set (by split <;> simp <;> omega), by simp, .inl ⟨rfl, ?_⟩⟩
        have a1 := cnt_set hi (if s.Cells[i].Gen = s.Last then ⟨3, s.Cells[i].Gen, 0⟩ else ⟨0, s.Cells[i].Gen + 1, 0⟩) 1
        have a2 := cnt_set hi (if s.Cells[i].Gen = s.Last then ⟨3, s.Cells[i].Gen, 0⟩ else ⟨0, s.Cells[i].Gen + 1, 0⟩) 2
        have e1 : ((if s.Cells[i].Gen = s.Last then ⟨3, s.Cells[i].Gen, 0⟩ else ⟨0, s.Cells[i].Gen + 1, 0⟩ : slab_Cell_int).State = 0) ∨ ((if s.Cells[i].Gen = s.Last then ⟨3, s.Cells[i].Gen, 0⟩ else ⟨0, s.Cells[i].Gen + 1, 0⟩ : slab_Cell_int).State = 3) := by split <;> simp
        rcases hf.2.2.2.2 with e | e <;> rcases e1 with e1 | e1 <;> simp [e, e1] at a1 a2 <;> simp only <;> omega
      · exact ⟨_, _, give_no hh fun i hi => q ⟨i, hi⟩, hR, rfl, .inr ⟨err_ne h, rfl⟩⟩
    have hsg := cnt_sum (l := g.Cells) (fun c hc => by
      obtain ⟨i, hi, rfl⟩ := List.getElem_of_mem hc
      exact ⟨(hRg.cell i hi).1, (hRg.cell i hi).2.1⟩)
    rw [hta, hk, hg]
    simp only [Option.bind_some]
    rw [tally_eq hRa, tally_eq hRk, tally_eq hRg]
    simp only [Option.bind_some]
    have := hRg.len
    have b0 := cnt_sum (l := a.Cells) (fun c hc => by
      obtain ⟨i, hi, rfl⟩ := List.getElem_of_mem hc
      exact ⟨(hRa.cell i hi).1, (hRa.cell i hi).2.1⟩)
    have b1 := cnt_sum (l := k.Cells) (fun c hc => by
      obtain ⟨i, hi, rfl⟩ := List.getElem_of_mem hc
      exact ⟨(hRk.cell i hi).1, (hRk.cell i hi).2.1⟩)
    have la := hRa.len
    have lk := hRk.len
    simp (disch := omega) only [w64_sm]
    rw [if_neg]
    · rw [if_neg]
      · rcases hcg with ⟨hlg, ⟨rfl, q⟩ | ⟨q1, rfl⟩⟩
        · simp; omega
        · have e1 : (ge == 0) = false := by simpa using q1
          have e2 : (((cnt g.Cells 1 : Nat) : Int) + ((cnt g.Cells 2 : Nat) : Int) == ((cnt g.Cells 1 : Nat) : Int) + ((cnt g.Cells 2 : Nat) : Int) - 1) = false := by rw [beq_eq_false_iff_ne]; omega
          simp only [e1, e2, beq_self_eq_true, Bool.true_and, Option.some.injEq, beq_iff_eq]
          omega
      · rcases hck with ⟨rfl, q1, q2, q3⟩ | ⟨q1, rfl⟩
        · simp; omega
        · simp [q1]
    · rcases hca with ⟨rfl, q1, q2⟩ | ⟨q1, rfl, q2⟩
      · simp; omega
      · simp [q1, q2]; omega
end Go.Sh
