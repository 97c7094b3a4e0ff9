/-
  A region whose order is drawn, with one operation that waits for all ahead of it and for which all behind it wait.
-/
import Derived.Test.YtpnajadblhkomaaPw26
namespace Go.Pw
open Go.RowKit Go.Sh
set_option linter.unusedVariables false

/-- All from here on wait for all ahead. -/
def cutOK (M : Array Nat) (n m : Nat) : Bool := (List.range n).all fun x => decide (x < m) || (List.range m).all fun j => (M.getD x 0).testBit j

theorem cutOK_spec {M : Array Nat} {n m : Nat} (h : cutOK M n m = true) {x j : Nat} (hx : x < n) (hm : m ≤ x) (hj : j < m) : (M.getD x 0).testBit j = true := by
  have := List.all_eq_true.1 h x (by simpa using hx)
  rw [Bool.or_eq_true] at this
  rcases this with q | q
  · have : x < m := by simpa using q
    omega
  · exact List.all_eq_true.1 q j (by simpa using hj)

section
variable {X : Ctx} {ops : Array Oper} {n : Nat} {ρ : Option Nat} {Q : Exit → Act → World → Prop}

/-- What is listed has all that it waits for ahead of it. -/
def Down (ops : Array Oper) (listed : Array Bool) : Prop := ∀ i o, listed.getD i false = true → ops[i]? = some o → ∀ e ∈ o.after, Region.binds .any e = true → listed.getD e.on false = true

theorem ready_first {bar : List Nat} {M : Array Nat} (hr : regOK ops bar M = true) {listed : Array Bool} (hsz : listed.size = ops.size) {i : Nat} {c : List Nat} (h : remL ops.size listed = i :: c) : i ∈ Region.ready .any ops listed := by
  have hmem : i ∈ remL ops.size listed := by rw [h]; simp
  obtain ⟨hi1, hi2⟩ := List.mem_filter.1 hmem
  have hi : i < ops.size := by simpa using hi1
  refine List.mem_filter.2 ⟨hi1, ?_⟩
  rw [hi2, Bool.true_and, Array.getElem?_eq_getElem hi]
  simp only [Option.map_some, Option.getD_some]
  rw [Array.all_eq_true_iff_forall_mem]
  intro e he
  cases hb : Region.binds .any e with
  | false => rfl
  | true =>
  have hlt := (regOK_spec hr (Array.getElem?_eq_getElem hi)).2.1 e he hb
  show (!true || _) = true
  rw [Bool.or_eq_true]
  right
  cases hq : listed.getD e.on false with
  | true => rfl
  | false =>
    exfalso
    have hon : e.on ∈ remL ops.size listed := List.mem_filter.2 ⟨by simp; omega, by
      have : listed.getD e.on true = false := by
        have hlt' : e.on < listed.size := by omega
        simp [Array.getD_eq_getD_getElem?, hlt'] at hq ⊢
        exact hq
      rw [this]; rfl⟩
    have hs := remL_sorted ops.size listed
    rw [h] at hs hon
    rw [List.pairwise_cons] at hs
    rcases List.mem_cons.1 hon with q | q
    · omega
    · have := hs.1 _ q; omega

theorem ready_spec {listed : Array Bool} {i : Nat} (hi : i ∈ Region.ready .any ops listed) : i < ops.size ∧ i ∈ remL ops.size listed ∧ ∀ o, ops[i]? = some o → ∀ e ∈ o.after, Region.binds .any e = true → listed.getD e.on false = true := by
  obtain ⟨k1, k2⟩ := List.mem_filter.1 hi
  rw [Bool.and_eq_true] at k2
  have hil : i < ops.size := by simpa using k1
  refine ⟨hil, List.mem_filter.2 ⟨k1, k2.1⟩, fun o ho e he hb => ?_⟩
  have := k2.2
  rw [ho] at this
  simp only [Option.map_some, Option.getD_some] at this
  rw [Array.all_eq_true_iff_forall_mem] at this
  have := this e he
  rw [hb] at this
  simpa using this

theorem wait_listed {bar : List Nat} {M : Array Nat} (hr : regOK ops bar M = true) {listed : Array Bool} (hdown : Down ops listed) {i : Nat} {o : Oper} (ho : ops[i]? = some o) (haf : ∀ e ∈ o.after, Region.binds .any e = true → listed.getD e.on false = true) :
    ∀ j, (M.getD i 0).testBit j = true → listed.getD j false = true := by
  have key : ∀ (m k : Nat) (o : Oper), k < m → ops[k]? = some o → (∀ e ∈ o.after, Region.binds .any e = true → listed.getD e.on false = true) → ∀ j, (M.getD k 0).testBit j = true → listed.getD j false = true := by
    intro m
    induction m with
    | zero => intro k o hk; omega
    | succ m ihm =>
      intro k o hk ho haf j hj
      obtain ⟨e, he1, he2, he3⟩ := (regOK_spec hr ho).1 j hj
      have hl := haf e he1 he2
      rcases he3 with rfl | he3
      · exact hl
      · have hlt := (regOK_spec hr ho).2.1 e he1 he2
        have hklt : k < ops.size := by
          rcases Nat.lt_or_ge k ops.size with q | q
          · exact q
          · rw [Array.getElem?_eq_none q] at ho; cases ho
        exact ihm e.on _ (by omega) (Array.getElem?_eq_getElem (show e.on < ops.size by omega)) (fun e' h1 h2 => hdown e.on _ hl (Array.getElem?_eq_getElem (show e.on < ops.size by omega)) e' h1 h2) j he3
  exact key (i + 1) i o (by omega) ho haf

theorem not_listed {listed : Array Bool} {j : Nat} (h : j ∈ remL ops.size listed) : listed.getD j false = false := by
  obtain ⟨q1, q2⟩ := List.mem_filter.1 h
  have q2' : listed.getD j true = false := by simpa using q2
  rw [Array.getD_eq_getD_getElem?] at q2' ⊢
  cases hq : listed[j]? with
  | none => rfl
  | some b => rw [hq] at q2'; exact q2'

theorem Down.set {listed : Array Bool} (hd : Down ops listed) {i : Nat} (haf : ∀ o, ops[i]? = some o → ∀ e ∈ o.after, Region.binds .any e = true → listed.getD e.on false = true) : Down ops (listed.setIfInBounds i true) := by
  intro k o hk ho e he hb
  by_cases q : k = i
  · subst q
    exact getD_set_true (haf o ho e he hb)
  · rw [getD_set_ne (listed := listed) (i := i) (j := k) false (Ne.symm q)] at hk
    exact getD_set_true (hd k o hk ho e he hb)

/-- What stands ahead of a cut, in whatever order. -/
theorem any_front {bar : List Nat} {M : Array Nat} {m : Nat} {stM : St} (hd : dstOK X.N ops = true) (hr : regOK ops bar M = true) (hc : cutOK M ops.size m = true) {N : Nat}
    {tail : List Nat} (ht : ∀ x ∈ tail, m ≤ x)
    (hK : ∀ listed g' a' w', listed.size = ops.size → remL ops.size listed = tail → Down ops listed → Sim X g' stM a' w' → wpAnyIn (FX ρ) n X.P .any ops Q N listed a' w') :
    ∀ (k : Nat) (c : List Nat) (listed : Array Bool) (g : Gh) (st : St) (a : Act) (w : World), c.length = k → Sim X g st a w → listed.size = ops.size → remL ops.size listed = c ++ tail → (∀ j ∈ c, j < m) → Down ops listed → Runs X.P ops bar true c st stM →
      wpAnyIn (FX ρ) n X.P .any ops Q (k + N) listed a w := by
  intro k
  induction k with
  | zero =>
    intro c listed g st a w hk h hsz hrem hcm hdown hrun
    have : c = [] := List.eq_nil_of_length_eq_zero hk
    subst this
    have : st = stM := hrun
    subst this
    rw [Nat.zero_add]
    exact hK listed g a w hsz (by simpa using hrem) hdown h
  | succ k ih =>
    intro c listed g st a w hk h hsz hrem hcm hdown hrun
    rw [Nat.succ_add]
    refine ⟨fun hnil => ?_, fun i hi => ?_⟩
    · exfalso
      cases c with
      | nil => simp at hk
      | cons j c =>
        have := ready_first hr hsz hrem
        rw [hnil] at this
        cases this
    · obtain ⟨hil, hirem, hafter⟩ := ready_spec hi
      have hget := Array.getElem?_eq_getElem hil
      have hwait := wait_listed hr hdown hget (hafter _ hget)
      have hic : i ∈ c := by
        rw [hrem] at hirem
        rcases List.mem_append.1 hirem with q | q
        · exact q
        · exfalso
          obtain ⟨j, hj⟩ : ∃ j, j ∈ c := by
            cases c with
            | nil => simp at hk
            | cons j c => exact ⟨j, List.mem_cons_self ..⟩
          have h1 := hwait j (cutOK_spec hc hil (ht i q) (hcm j hj))
          rw [not_listed (ops := ops) (listed := listed) (j := j) (by rw [hrem]; exact List.mem_append_left _ hj)] at h1
          cases h1
      obtain ⟨c1, c2, hcc⟩ := List.append_of_mem hic
      have hs := remL_sorted ops.size listed
      rw [hrem, hcc] at hs
      rw [hcc] at hrun
      have hs' : (c1 ++ i :: (c2 ++ tail)).Pairwise (· < ·) := by simpa using hs
      rw [List.pairwise_append] at hs'
      have hind : ∀ j ∈ c1, ∀ oj, ops[j]? = some oj → oj.apart ops ops[i] = true ∧ allowed (cls bar j oj.op) (cls bar i ops[i].op) = true := by
        intro j hj oj hoj
        have hji := hs'.2.2 j hj i (List.mem_cons_self ..)
        rcases (regOK_spec hr hget).2.2 j oj hji hoj with q | q
        · have := hwait j q
          rw [not_listed (ops := ops) (listed := listed) (j := j) (by rw [hrem, hcc]; simp [hj])] at this
          cases this
        · exact q
      obtain ⟨σF, st', hst, hrest⟩ := runs_first hget c1 c2 st stM hind hrun
      refine stp_sound hget h hst (dstOK_spec hd hget) fun g' a' w' h' => ?_
      have hrem' := remL_set (c1 := c1) (c2 := c2 ++ tail) hsz hil (by rw [hrem, hcc]; simp)
      refine ih (c1 ++ c2) _ g' st' a' w' ?_ h' (by simpa using hsz) (by rw [hrem']; simp) (fun j hj => hcm j (by rw [hcc]; rcases List.mem_append.1 hj with q | q <;> simp [q])) (hdown.set hafter) hrest
      rw [hcc] at hk
      simp at hk ⊢
      omega

/-- The one that stands at a cut, with another cut behind it. -/
theorem any_one {bar : List Nat} {M : Array Nat} {m : Nat} (hr : regOK ops bar M = true) (hc : cutOK M ops.size (m + 1) = true) {tail : List Nat} (ht : ∀ x ∈ tail, m + 1 ≤ x) {N : Nat} {listed : Array Bool} {a : Act} {w : World} (hsz : listed.size = ops.size)
    (hrem : remL ops.size listed = m :: tail) (hdown : Down ops listed)
    (h : ∀ listed', listed'.size = ops.size → remL ops.size listed' = tail → Down ops listed' → wpOpIn (FX ρ) n X.P ops Q m (wpAnyIn (FX ρ) n X.P .any ops Q N listed') a w) : wpAnyIn (FX ρ) n X.P .any ops Q (N + 1) listed a w := by
  refine ⟨fun hnil => ?_, fun i hi => ?_⟩
  · have := ready_first hr hsz hrem
    rw [hnil] at this
    cases this
  · obtain ⟨hil, hirem, hafter⟩ := ready_spec hi
    have hget := Array.getElem?_eq_getElem hil
    have hwait := wait_listed hr hdown hget (hafter _ hget)
    rw [hrem] at hirem
    rcases List.mem_cons.1 hirem with rfl | q
    · exact h _ (by simpa using hsz) (by simpa using remL_set (c1 := []) hsz hil (by simpa using hrem)) (hdown.set hafter)
    · exfalso
      have h1 := hwait m (cutOK_spec hc hil (ht i q) (Nat.lt_succ_self m))
      rw [not_listed (ops := ops) (listed := listed) (j := m) (by rw [hrem]; exact List.mem_cons_self ..)] at h1
      cases h1
end

theorem runs_of_exP {P : Program} {bar : List Nat} {dr : Bool} {K : St → Prop} {ops : Array Oper} : ∀ (os : List Oper) (i : Nat) (st : St), (∀ j, j < os.length → os[j]? = ops[i + j]?) → Ex P ops bar dr i os st K → ∃ s, Runs P ops bar dr (List.range' i os.length) st s ∧ K s
  | [], _, st, _, h => ⟨st, rfl, h⟩
  | o :: os, i, st, hi, h => by
    obtain ⟨s, h1, h2⟩ := h
    obtain ⟨s', k1, k2⟩ := runs_of_exP os (i + 1) s (fun j hj => by
      have := hi (j + 1) (by simpa using hj)
      rwa [List.getElem?_cons_succ, show i + (j + 1) = i + 1 + j by omega] at this) h2
    have h0 := hi 0 (by simp)
    exact ⟨s', ⟨o, s, by simpa using h0.symm, h1, k1⟩, k2⟩

section
variable {X : Ctx} {Q : PX → Ctx → St → Prop} {st : St}

theorem opq_wk {ops : Array Oper} {i : Nat} {K : Ctx → St → Prop} {st' : St} (h : Wk st st') (k : Opq X ops i K st') : Opq X ops i K st := fun hd n g a w next Qo hs hq => by
  obtain ⟨g', hs'⟩ := h X g a w hs
  exact k hd n g' a w next Qo hs' hq

theorem jmpE {id : Nat} {s : St} (h : Q (.exit id) X s) : jumpQ Q (.exit id) X s := h
theorem jmpR {s : St} (h : Q .ret X s) : jumpQ Q .ret X s := h

theorem cut_end {M : Array Nat} {n : Nat} : cutOK M n n = true := List.all_eq_true.2 fun x hx => by
  have : x < n := by simpa using hx
  simp [this]

/-- A region in whatever order, with one operation that all others wait for, or that waits for them. -/
theorem drY {id : Nat} {l : List Oper} {y : Code} (bar : List Nat) (m : Nat) (hm : X.P.follows .mixedOrders = true) (hd : dstOK X.N l.toArray = true) (hr : regOK l.toArray bar (Region.before l.toArray) = true)
    (hc : cutOK (Region.before l.toArray) l.length m = true) (hc1 : cutOK (Region.before l.toArray) l.length (m + 1) = true) (hlt : m < l.length)
    (h : Ex X.P l.toArray bar true 0 (l.take m) st (fun s => Opq X l.toArray m (fun X' s' => ∃ s2, Wk s' s2 ∧ Ex X'.P l.toArray bar true (m + 1) (l.drop (m + 1)) s2 (fun s'' => Pwp X' y Q s'')) s)) : Pwp X (.seq (.region id l.toArray true) y) Q st := by
  intro n g a w hs
  refine wpIn_seq (wpIn_region_any hm ?_)
  have hsize : l.toArray.size = l.length := by simp
  obtain ⟨stM, hrun1, hop⟩ := runs_of_exP (ops := l.toArray) (l.take m) 0 st (fun j hj => by
    have : j < m := by simp at hj; omega
    simp [List.getElem?_take_of_lt this]) h
  have hlen : (l.take m).length = m := by simp; omega
  rw [hlen] at hrun1
  have hrem : remL l.toArray.size (Array.replicate l.toArray.size false) = List.range' 0 m ++ (m :: List.range' (m + 1) (l.length - (m + 1))) := by
    have e1 : remL l.toArray.size (Array.replicate l.toArray.size false) = List.range l.toArray.size := List.filter_eq_self.2 fun i hi => by
      have : i < l.length := by simpa using hi
      simp [Array.getD_eq_getD_getElem?, this]
    have e2 : (m :: List.range' (m + 1) (l.length - (m + 1))) = List.range' (0 + m) (l.length - m) := by
      rw [show l.length - m = (l.length - (m + 1)) + 1 by omega, Nat.zero_add]; rfl
    rw [e1, e2, hsize, List.range_eq_range', List.range'_append_1, show m + (l.length - m) = l.length by omega]
  have hdown0 : Down l.toArray (Array.replicate l.toArray.size false) := fun i o hi => by
    exfalso
    rw [Array.getD_eq_getD_getElem?, Array.getElem?_replicate] at hi
    split at hi <;> cases hi
  have hfuel : l.toArray.size = m + ((l.length - (m + 1)) + 1) := by rw [hsize]; omega
  have hc' : cutOK (Region.before l.toArray) l.toArray.size m = true := by rw [hsize]; exact hc
  have hc1' : cutOK (Region.before l.toArray) l.toArray.size (m + 1) = true := by rw [hsize]; exact hc1
  have goal := any_front (X := X) (ρ := X.ρ) (n := n) (Q := Exit.then (fun a w => y.wpIn (FX X.ρ) n X.P (lift X Q) a w) (lift X Q)) (N := (l.length - (m + 1)) + 1) hd hr hc' (tail := m :: List.range' (m + 1) (l.length - (m + 1))) (fun x hx => by
      rcases List.mem_cons.1 hx with rfl | hx
      · exact Nat.le_refl _
      · have := List.mem_range'_1.1 hx; omega) (stM := stM) (fun listed g1 a1 w1 hsz1 hrem1 hdown1 hs1 => ?_) m (List.range' 0 m) _ g st a _ (by simp) hs.drew (by simp) hrem (fun j hj => by have := List.mem_range'_1.1 hj; omega) hdown0 hrun1
  · rw [← hfuel] at goal
    exact goal
  refine any_one (X := X) hr hc1' (fun x hx => by have := List.mem_range'_1.1 hx; omega) hsz1 hrem1 hdown1 fun listed2 hsz2 hrem2 hdown2 => ?_
  refine hop hd n g1 a1 w1 _ _ hs1 fun X' g2' s2' a2 w2 hs2' hX hex' => ?_
  obtain ⟨s2, hw2, hex⟩ := hex'
  obtain ⟨g2, hs2⟩ := hw2 X' g2' a2 w2 hs2'
  obtain ⟨⟨hXP, hXρ⟩, hXN⟩ := hX
  obtain ⟨sE, hrun2, hk⟩ := runs_of_exP (ops := l.toArray) (l.drop (m + 1)) (m + 1) s2 (fun j _ => by simp [List.getElem?_drop]) hex
  have hlen2 : (l.drop (m + 1)).length = l.length - (m + 1) := by simp
  rw [hlen2] at hrun2
  have goal2 := any_front (X := X') (ρ := X.ρ) (n := n) (Q := Exit.then (fun a w => y.wpIn (FX X.ρ) n X.P (lift X Q) a w) (lift X Q)) (N := 0) (by rw [hXN]; exact hd) hr (m := l.toArray.size) cut_end (tail := []) (fun x hx => by cases hx) (stM := sE) (fun listed g3 a3 w3 hsz3 hrem3 hdown3 hs3 => ⟨?_, ?_⟩) (l.length - (m + 1)) (List.range' (m + 1) (l.length - (m + 1))) listed2 g2 s2 a2 w2 (by simp) hs2 hsz2 (by simpa using hrem2) (fun j hj => by have := List.mem_range'_1.1 hj; rw [hsize]; omega) hdown2 hrun2
  · rw [hXP] at goal2
    exact goal2
  · cases hq : Region.ready .any l.toArray listed with
    | nil => rfl
    | cons i r =>
      have := (ready_spec (ops := l.toArray) (listed := listed) (i := i) (by rw [hq]; exact List.mem_cons_self ..)).2.1
      rw [hrem3] at this
      cases this
  · have := hk n g3 a3 w3 hs3
    rw [lift_of ⟨hXP, hXρ⟩, hXP, hXρ] at this
    exact this
end
end Go.Pw
