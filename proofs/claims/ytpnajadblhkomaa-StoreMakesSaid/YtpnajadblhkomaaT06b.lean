/-
  Stores: what the plain functions come to.
-/
import Derived.Test.YtpnajadblhkomaaT06a
namespace Go.Sh
set_option linter.unusedVariables false
set_option linter.unusedSimpArgs false

def oo (o : store_Obj) : r06_Obj := ⟨o.Serial, o.Strong, o.Weak, o.Prog, o.Started, o.Fields⟩
def cO (c : slab_Cell_store_Obj) : r06_Cell := ⟨c.State, c.Gen, oo c.Val⟩
def sO (s : store_Store) : r06_Store := ⟨s.S.Cells.map cO, s.S.Last, s.Serial⟩

theorem its06 (s : store_Store) (h : s.S.Cells.length ≤ 30) : w06_its s = some (sO s) := by
  unfold w06_its
  simp only [jn, w06_obj, Option.bind_some]
  have e := lp_collect (b := 80) cO s.S.Cells (by omega) (by omega)
  simp only [cO, oo] at e
  rw [e]
  rfl

def Sm (s : store_Store) : Prop := s.S.Cells.length ≤ 30 ∧ ∀ i (h : i < s.S.Cells.length), s.S.Cells[i].Val.Fields.length ≤ 10
instance (s : store_Store) : Decidable (Sm s) := by unfold Sm; infer_instance

theorem small06 (s : store_Store) : w06_small s = some (decide (Sm s)) := by
  unfold w06_small
  simp only [jn]
  refine lpb_up (min s.S.Cells.length 30) (fun k => ∀ j (h : j < s.S.Cells.length), j < k → s.S.Cells[j].Val.Fields.length ≤ 10) (by omega) (fun _ _ h => by omega) (fun k hk hP => ?_) (fun hP => ?_)
  · have hk1 : k < s.S.Cells.length := by omega
    have hk2 : k < 30 := by omega
    have hc : ((decide ((k : Int) < (s.S.Cells.length : Int))) && (decide ((k : Int) < 30))) = true := by simp; omega
    by_cases g : s.S.Cells[k].Val.Fields.length ≤ 10
    · refine .inl ⟨?_, fun j h hj => ?_⟩
      · rw [hc]
        simp only [if_true, ix_at hk1, Option.bind_some]
        rw [if_neg (by simp; omega), w64_nat]
      · rcases Nat.lt_or_ge j k with q | q
        · exact hP j h q
        · have : j = k := by omega
          subst this; exact g
    · refine .inr ⟨.inl false, ?_, ?_⟩
      · rw [hc]
        simp only [if_true, ix_at hk1, Option.bind_some]
        rw [if_pos (by simp; omega)]
      · simp only
        rw [decide_eq_false (fun q : Sm s => g (q.2 k hk1))]
  · refine ⟨.inr (), ?_, ?_⟩
    · rw [show ((decide (((min s.S.Cells.length 30 : Nat) : Int) < (s.S.Cells.length : Int))) && (decide (((min s.S.Cells.length 30 : Nat) : Int) < 30))) = false by
        rcases Nat.lt_or_ge s.S.Cells.length 30 with q | q
        · simp; omega
        · simp; omega]
      rfl
    · simp only
      congr 1
      rw [decide_eq_decide]
      constructor
      · intro q
        exact ⟨by omega, fun i h => hP i h (by omega)⟩
      · intro q
        have := q.1
        omega

def plc (i : Nat) (c : r06_Cell) : r03_Cell := ⟨c.State, c.Gen, (i : Int)⟩
def pl (t : r06_Store) : r03_Slab := ⟨t.Cells.mapIdx plc, t.Last⟩

theorem plain06 (t : r06_Store) (h : t.Cells.length ≤ 1000) : r06_Plain t = some (pl t) := by
  unfold r06_Plain
  simp only [jn]
  refine lpb_upS t.Cells.length (fun k acc => acc = (t.Cells.mapIdx plc).take k) (by omega) (by simp) (fun k acc hk hP => ?_) (fun acc hP => ?_)
  · subst hP
    refine .inl ⟨_, ?_, rfl⟩
    simp only [Int.ofNat_lt, hk, decide_true, if_true, ix_at hk, Option.bind_some]
    rw [app_ok (by omega) (by simp; omega), Option.bind_some, w64_nat]
    have e : (t.Cells.mapIdx plc).take (k + 1) = (t.Cells.mapIdx plc).take k ++ [plc k t.Cells[k]] := by
      rw [List.take_add_one, List.getElem?_eq_getElem (by simpa using hk)]
      simp
    rw [e]
    rfl
  · subst hP
    rw [List.take_of_length_le (by simp)]
    exact ⟨t.Cells.mapIdx plc, by simp only [Int.lt_irrefl, decide_false, Bool.false_eq_true, if_false], rfl⟩

theorem Right03 (s : r03_Slab) : r03_Right s = some (decide (s.Cells.length ≤ 24 ∧ 0 ≤ s.Last ∧ s.Last ≤ 9 ∧ ∀ i (h : i < s.Cells.length), 0 ≤ s.Cells[i].State ∧ s.Cells[i].State ≤ 3 ∧ 0 ≤ s.Cells[i].Gen ∧ s.Cells[i].Gen ≤ s.Last)) := by
  unfold r03_Right
  split
  · rename_i q
    rw [decide_eq_false (by simp at q; omega)]
  · rename_i q
    have q : s.Cells.length ≤ 24 ∧ 0 ≤ s.Last ∧ s.Last ≤ 9 := by simp at q; omega
    simp only [jn]
    refine lpb_up s.Cells.length (fun k => ∀ j (h : j < s.Cells.length), j < k → 0 ≤ s.Cells[j].State ∧ s.Cells[j].State ≤ 3 ∧ 0 ≤ s.Cells[j].Gen ∧ s.Cells[j].Gen ≤ s.Last) (by omega) (fun _ _ h => by omega) (fun k hk hP => ?_) (fun hP => ?_)
    · by_cases g : 0 ≤ s.Cells[k].State ∧ s.Cells[k].State ≤ 3 ∧ 0 ≤ s.Cells[k].Gen ∧ s.Cells[k].Gen ≤ s.Last
      · refine .inl ⟨?_, fun j h hj => ?_⟩
        · simp only [Int.ofNat_lt, hk, decide_true, if_true, ix_at hk, Option.bind_some]
          rw [if_neg (by simp; omega), w64_nat]
        · rcases Nat.lt_or_ge j k with q' | q'
          · exact hP j h q'
          · have : j = k := by omega
            subst this; exact g
      · refine .inr ⟨.inl false, ?_, ?_⟩
        · simp only [Int.ofNat_lt, hk, decide_true, if_true, ix_at hk, Option.bind_some]
          rw [if_pos (by simp; omega)]
        · simp only
          rw [decide_eq_false (fun q' => g (q'.2.2.2 k hk))]
    · refine ⟨.inr (), by simp, ?_⟩
      simp only
      rw [decide_eq_true ⟨q.1, q.2.1, q.2.2, fun i h => hP i h h⟩]


/-- A place that holds an object. -/
def Thr (c : r06_Cell) : Prop := c.State = 1 ∨ c.State = 2
instance (c : r06_Cell) : Decidable (Thr c) := by unfold Thr; infer_instance

theorem there06 (c : r06_Cell) : r06_there c = some (decide (Thr c)) := by
  unfold r06_there
  congr 1
  rw [Bool.eq_iff_iff, decide_eq_true_iff, Bool.or_eq_true, beq_iff_eq, beq_iff_eq]
  rfl

def ObOK (t : r06_Store) (o : r06_Obj) : Prop := 1 ≤ o.Serial ∧ o.Serial ≤ t.Serial ∧ 0 ≤ o.Strong ∧ 0 ≤ o.Weak ∧ -1 ≤ o.Prog ∧ o.Prog ≤ 5 ∧ o.Fields.length ≤ 4
def ObNo (o : r06_Obj) : Prop := o.Serial = 0 ∧ o.Strong = 0 ∧ o.Weak = 0 ∧ o.Prog = 0 ∧ o.Started = false ∧ o.Fields.length = 0

/-- A store that is right, as the document has it. -/
structure RtR (t : r06_Store) : Prop where
  len : t.Cells.length ≤ 24
  l0 : 0 ≤ t.Last
  l9 : t.Last ≤ 9
  ser : 0 ≤ t.Serial
  cell : ∀ i (h : i < t.Cells.length), 0 ≤ t.Cells[i].State ∧ t.Cells[i].State ≤ 3 ∧ 0 ≤ t.Cells[i].Gen ∧ t.Cells[i].Gen ≤ t.Last
  no : ∀ i (h : i < t.Cells.length), ¬ Thr t.Cells[i] → ObNo t.Cells[i].Val
  ok : ∀ i (h : i < t.Cells.length), Thr t.Cells[i] → ObOK t t.Cells[i].Val
  dif : ∀ i (h : i < t.Cells.length) k (hk : k < i), Thr t.Cells[i] → Thr t.Cells[k] → t.Cells[k].Val.Serial ≠ t.Cells[i].Val.Serial

/-- One cell of it. -/
def CeOK (t : r06_Store) (i : Nat) (h : i < t.Cells.length) : Prop :=
  (¬ Thr t.Cells[i] → ObNo t.Cells[i].Val) ∧ (Thr t.Cells[i] → ObOK t t.Cells[i].Val) ∧ ∀ k (hk : k < i), Thr t.Cells[i] → Thr t.Cells[k] → t.Cells[k].Val.Serial ≠ t.Cells[i].Val.Serial

theorem Right06 (t : r06_Store) (hl : t.Cells.length ≤ 1000) : ∃ b, r06_Right t = some b ∧ (b = true ↔ RtR t) := by
  unfold r06_Right
  rw [plain06 t hl, Option.bind_some, Right03, Option.bind_some]
  by_cases hR : (pl t).Cells.length ≤ 24 ∧ 0 ≤ (pl t).Last ∧ (pl t).Last ≤ 9 ∧ ∀ i (h : i < (pl t).Cells.length), 0 ≤ (pl t).Cells[i].State ∧ (pl t).Cells[i].State ≤ 3 ∧ 0 ≤ (pl t).Cells[i].Gen ∧ (pl t).Cells[i].Gen ≤ (pl t).Last
  · by_cases hs : 0 ≤ t.Serial
    · rw [decide_eq_true hR]
      rw [if_neg (by simp; omega)]
      simp only [jn]
      have hcell : ∀ i (h : i < t.Cells.length), 0 ≤ t.Cells[i].State ∧ t.Cells[i].State ≤ 3 ∧ 0 ≤ t.Cells[i].Gen ∧ t.Cells[i].Gen ≤ t.Last := fun i h => by
        have := hR.2.2.2 i (by simpa [pl] using h)
        simpa [pl, plc] using this
      have key : (∀ i (h : i < t.Cells.length), CeOK t i h) ↔ RtR t := by
        constructor
        · intro q
          exact ⟨by simpa [pl] using hR.1, hR.2.1, hR.2.2.1, hs, hcell, fun i h => (q i h).1, fun i h => (q i h).2.1, fun i h => (q i h).2.2⟩
        · intro q i h
          exact ⟨q.no i h, q.ok i h, q.dif i h⟩
      by_cases hall : ∀ i (h : i < t.Cells.length), CeOK t i h
      · refine ⟨true, ?_, by simpa using key.1 hall⟩
        refine lpb_up t.Cells.length (fun _ => True) (by omega) trivial (fun k hk _ => .inl ⟨?_, trivial⟩) (fun _ => ⟨.inr (), by simp, rfl⟩)
        obtain ⟨q1, q2, q3⟩ := hall k hk
        simp only [Int.ofNat_lt, hk, decide_true, if_true, ix_at hk, Option.bind_some, there06]
        by_cases ht : Thr t.Cells[k]
        · rw [decide_eq_true ht]
          obtain ⟨o1, o2, o3, o4, o5, o6, o7⟩ := q2 ht
          rw [if_neg (by simp), if_neg (by simp; omega)]
          refine lpb_up k (fun _ => True) (by omega) trivial (fun j hj _ => .inl ⟨?_, trivial⟩) (fun _ => ⟨.inr (), by simp, by rw [w64_nat]⟩)
          have hj' : j < t.Cells.length := by omega
          simp only [Int.ofNat_lt, hj, decide_true, if_true, ix_at hj', Option.bind_some, there06]
          rw [if_neg (by simp only [Bool.and_eq_true, decide_eq_true_eq, beq_iff_eq, not_and]; exact fun a => q3 j hj ht a), w64_nat]
        · rw [decide_eq_false ht]
          obtain ⟨o1, o2, o3, o4, o5, o6⟩ := q1 ht
          rw [if_pos (by simp), if_neg (by simp [o1, o2, o3, o4, o5, o6]), w64_nat]
      · refine ⟨false, ?_, by simpa using fun q => hall (key.2 q)⟩
        obtain ⟨i, ⟨hi, hbad⟩, hmin⟩ := exists_min (p := fun i => ∃ h : i < t.Cells.length, ¬ CeOK t i h) (by
          have := Classical.not_forall.1 hall
          obtain ⟨i, q⟩ := this
          obtain ⟨h, q⟩ := Classical.not_forall.1 q
          exact ⟨i, h, q⟩)
        refine lpb_up t.Cells.length (fun k => k ≤ i) (by omega) (by omega) (fun k hk hP => ?_) (fun hP => by omega)
        simp only [Int.ofNat_lt, hk, decide_true, if_true, ix_at hk, Option.bind_some, there06]
        rcases Nat.lt_or_ge k i with g | g
        · refine .inl ⟨?_, g⟩
          have hok : CeOK t k hk := Classical.byContradiction fun q => by have := hmin k ⟨hk, q⟩; omega
          obtain ⟨q1, q2, q3⟩ := hok
          by_cases ht : Thr t.Cells[k]
          · rw [decide_eq_true ht]
            obtain ⟨o1, o2, o3, o4, o5, o6, o7⟩ := q2 ht
            rw [if_neg (by simp), if_neg (by simp; omega)]
            refine lpb_up k (fun _ => True) (by omega) trivial (fun j hj _ => .inl ⟨?_, trivial⟩) (fun _ => ⟨.inr (), by simp, by rw [w64_nat]⟩)
            have hj' : j < t.Cells.length := by omega
            simp only [Int.ofNat_lt, hj, decide_true, if_true, ix_at hj', Option.bind_some, there06]
            rw [if_neg (by simp only [Bool.and_eq_true, decide_eq_true_eq, beq_iff_eq, not_and]; exact fun a => q3 j hj ht a), w64_nat]
          · rw [decide_eq_false ht]
            obtain ⟨o1, o2, o3, o4, o5, o6⟩ := q1 ht
            rw [if_pos (by simp), if_neg (by simp [o1, o2, o3, o4, o5, o6]), w64_nat]
        · have : k = i := by omega
          subst this
          refine .inr ⟨.inl false, ?_, rfl⟩
          by_cases ht : Thr t.Cells[k]
          · rw [decide_eq_true ht]
            rw [if_neg (by simp)]
            by_cases ho : ObOK t t.Cells[k].Val
            · have ho' := ho
              obtain ⟨o1, o2, o3, o4, o5, o6, o7⟩ := ho'
              rw [if_neg (by simp; omega)]
              -- an earlier one has the serial
              have : ∃ j, j < k ∧ ∃ h : j < t.Cells.length, Thr t.Cells[j] ∧ t.Cells[j].Val.Serial = t.Cells[k].Val.Serial := Classical.byContradiction fun q => hbad ⟨fun n => absurd ht n, fun _ => ho, fun j hj _ h2 h3 => q ⟨j, hj, by omega, h2, h3⟩⟩
              obtain ⟨j, ⟨hj, hj', h2, h3⟩, hjm⟩ := exists_min this
              refine lpb_up k (fun m => m ≤ j) (by omega) (by omega) (fun m hm hP2 => ?_) (fun hP2 => by omega)
              have hm' : m < t.Cells.length := by omega
              simp only [Int.ofNat_lt, hm, decide_true, if_true, ix_at hm', Option.bind_some, there06]
              rcases Nat.lt_or_ge m j with g2 | g2
              · refine .inl ⟨?_, g2⟩
                rw [if_neg (by
                  simp only [Bool.and_eq_true, decide_eq_true_eq, beq_iff_eq, not_and]
                  intro a b
                  have := hjm m ⟨by omega, hm', a, b⟩
                  omega), w64_nat]
              · have : m = j := by omega
                subst this
                refine .inr ⟨.inl false, ?_, rfl⟩
                rw [if_pos (by simp only [Bool.and_eq_true, decide_eq_true_eq, beq_iff_eq]; exact ⟨h2, h3⟩)]
            · rw [if_pos (by
                unfold ObOK at ho
                simp only [Bool.or_eq_true, decide_eq_true_eq]
                omega)]
          · rw [decide_eq_false ht]
            rw [if_pos (by simp)]
            have hno : ¬ ObNo t.Cells[k].Val := fun q => hbad ⟨fun _ => q, fun n => absurd n ht, fun j hj h1 _ => absurd h1 ht⟩
            rw [if_pos (by
              unfold ObNo at hno
              simp only [Bool.or_eq_true, bne_iff_ne, ne_eq]
              cases hst : t.Cells[k].Val.Started
              · simp only [hst, true_and, Bool.false_eq_true, or_false] at hno ⊢
                omega
              · simp)]
    · refine ⟨false, ?_, by simp; exact fun q => hs q.ser⟩
      rw [if_pos (by simp; omega)]
  · refine ⟨false, ?_, ?_⟩
    · rw [decide_eq_false hR, if_pos (by simp)]
    · simp only [Bool.false_eq_true, false_iff]
      intro q
      exact hR ⟨by simpa [pl] using q.len, q.l0, q.l9, fun i h => by have := q.cell i (by simpa [pl] using h); simpa [pl, plc] using this⟩

/-- A store that is right, and small. -/
structure StR (s : store_Store) : Prop where
  rt : RtR (sO s)
  big : s.Serial < 1000000000
  fl : ∀ i (h : i < s.S.Cells.length), s.S.Cells[i].Val.Fields.length ≤ 10

theorem right06 (s : store_Store) : ∃ b, w06_right s = some b ∧ (b = true ↔ StR s) := by
  unfold w06_right
  rw [small06, Option.bind_some]
  by_cases h : Sm s ∧ s.Serial < 1000000000
  · rw [show (decide (Sm s) && decide (s.Serial < 1000000000)) = true by simp [h.1, h.2]]
    simp only [beq_self_eq_true, onlyT, its06 s h.1.1, Option.bind_some, Bool.true_and]
    obtain ⟨b, h1, h2⟩ := Right06 (sO s) (by have := h.1.1; simp [sO]; omega)
    rw [h1, Option.bind_some]
    refine ⟨b, rfl, h2.trans ⟨fun q => ⟨q, h.2, h.1.2⟩, fun q => q.rt⟩⟩
  · rw [show (decide (Sm s) && decide (s.Serial < 1000000000)) = false by
      rw [Bool.and_eq_false_iff, decide_eq_false_iff_not, decide_eq_false_iff_not]; exact Decidable.not_and_iff_or_not.1 h]
    refine ⟨false, by simp [onlyIf], ?_⟩
    simp only [Bool.false_eq_true, false_iff]
    intro q
    exact h ⟨⟨by have := q.rt.len; simp [sO] at this; omega, q.fl⟩, q.big⟩

end Go.Sh
