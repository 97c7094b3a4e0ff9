/-
  Regions, whatever order is drawn (II): the law.
-/
import Derived.Test.YtpnajadblhkomaaPw15
namespace Go.Pw
open Go.RowKit
set_option linter.unusedVariables false

section
variable {X : Ctx} {g : Gh} {st : St} {a : Act} {w : World} {n : Nat} {K : Act → World → Prop} {Q : Exit → Act → World → Prop} {ρ : Option Nat} {ops : Array Oper}

theorem want_sound (h : Sim X g st a w) {o : Oper} {b : Bool} (hw : wantP ops st.env o = some b) : Region.wanted o (yielded ops a.tmps) = b := by
  unfold wantP at hw
  unfold Region.wanted
  cases hg : o.guard with
  | none => rw [hg] at hw; simpa using hw
  | some p =>
    obtain ⟨j, want⟩ := p
    rw [hg] at hw
    simp only at hw ⊢
    cases hd : (ops[j]?).bind (·.dst) with
    | none => rw [hd] at hw; cases hw
    | some t =>
      rw [hd] at hw
      simp only at hw
      have ht := h.envE t
      cases he : evP st.env (.tmp t) <;> rw [he] at hw ht <;> first | (cases hw; done) | skip
      case bool b' =>
        simp only [Option.some.injEq] at hw
        have hv := ht.bool_inv
        have : a.tmps[t]? = some (.bool b') := by
          rw [Array.getD_eq_getD_getElem?] at hv
          cases hq : a.tmps[t]? with
          | none => rw [hq] at hv; cases hv
          | some v => rw [hq] at hv; simp only [Option.getD_some] at hv; rw [hv]
        have hy : yielded ops a.tmps j = some b' := by
          unfold yielded
          rw [hd]
          simp only [Option.bind_some, this]
        rw [hy, ← hw]
        rfl
      case tup vs =>
        cases vs with
        | cons _ _ => cases hw
        | nil =>
          simp only [Option.some.injEq] at hw
          subst hw
          obtain ⟨us, hv, _⟩ := ht.tup_inv
          have hy : yielded ops a.tmps j = none := by
            unfold yielded
            rw [hd]
            simp only [Option.bind_some]
            rw [Array.getD_eq_getD_getElem?] at hv
            cases hq : a.tmps[t]? with
            | none => rfl
            | some v => rw [hq] at hv; simp only [Option.getD_some] at hv; rw [hv]
          rw [hy]
          rfl

theorem stp_sound {c : Nat} {T : List Nat} {dr : Bool} {σF : Nat → Option Row} {o : Oper} {st' : St} {i : Nat} (hi : ops[i]? = some o) (h : Sim X g st a w) (hs : StpF X.P ops dr T c σF o st st') (hdst : ∀ t, o.dst = some t → t < X.N)
    (hK : ∀ g' a' w', Sim X g' st' a' w' → K a' w') : wpOpIn (FX ρ) n X.P ops Q i K a w := by
  unfold wpOpIn
  rw [hi]
  simp only
  cases hs with
  | run d e hw ho hsame hok ht hc =>
    rw [if_pos (want_sound h hw)]
    exact op_sound h ho hsame.1 hok hdst hK
  | skip hw =>
    rw [if_neg (by rw [want_sound h hw]; simp)]
    exact ⟨fun _ _ => trivial, hK g _ w (h.put hdst (.cl (.tup #[] [] rfl fun i v c _ hc => by simp at hc)))⟩

/-- All that is written is there. -/
def dstOK (N : Nat) (ops : Array Oper) : Bool := ops.toList.all fun o => match o.dst with | some t => decide (t < N) | none => true

theorem dstOK_spec {N : Nat} (h : dstOK N ops = true) {i : Nat} {o : Oper} (hi : ops[i]? = some o) : ∀ t, o.dst = some t → t < N := by
  intro t ht
  have hm : o ∈ ops.toList := by
    have : ops.toList[i]? = some o := by simpa using hi
    exact List.mem_of_getElem? this
  have := List.all_eq_true.1 h o hm
  rw [ht] at this
  simpa using this

/-- A region in the order of the text. -/
theorem runs_sound {dr : Bool} {bar : List Nat} {stF : St} (hd : dstOK X.N ops = true) (hQ : ∀ g' a' w', Sim X g' stF a' w' → Q .normal a' w') : ∀ (is : List Nat) (g : Gh) (st : St) (a : Act) (w : World), Sim X g st a w → Runs X.P ops bar dr is st stF →
    wpOpsIn (FX ρ) n X.P ops Q is a w := by
  intro is
  induction is with
  | nil =>
    intro g st a w h hr
    have : st = stF := hr
    subst this
    exact hQ g a w h
  | cons i is ih =>
    intro g st a w h hr
    obtain ⟨o, s, ho, hs, hr'⟩ := hr
    rw [wpOpsIn_cons]
    exact stp_sound ho h hs (dstOK_spec hd ho) fun g' a' w' h' => ih g' s a' w' h' hr'

def maskF (M : Array Nat) (es : List Edge) : Nat := es.foldl (fun s e => if Region.binds .any e then s ||| (2 ^ e.on ||| M.getD e.on 0) else s) 0

theorem maskF_bit (M : Array Nat) (j : Nat) : ∀ (es : List Edge) (s : Nat), (es.foldl (fun s e => if Region.binds .any e then s ||| (2 ^ e.on ||| M.getD e.on 0) else s) s).testBit j = true →
    s.testBit j = true ∨ ∃ e ∈ es, Region.binds .any e = true ∧ (e.on = j ∨ (M.getD e.on 0).testBit j = true)
  | [], s, h => .inl h
  | e :: es, s, h => by
    rw [List.foldl_cons] at h
    rcases maskF_bit M j es _ h with q | ⟨e', q1, q2⟩
    · split at q
      · rename_i hb
        rw [Nat.testBit_or, Nat.testBit_or, Bool.or_eq_true, Bool.or_eq_true] at q
        rcases q with q | q | q
        · exact .inl q
        · refine .inr ⟨e, List.mem_cons_self .., hb, .inl ?_⟩
          rw [Nat.testBit_two_pow] at q
          simpa using q
        · exact .inr ⟨e, List.mem_cons_self .., hb, .inr q⟩
      · exact .inl q
    · exact .inr ⟨e', List.mem_cons_of_mem _ q1, q2⟩

/-- May the operations come in whatever order their edges allow? -/
def regOK (ops : Array Oper) (bar : List Nat) (M : Array Nat) : Bool :=
  (List.range ops.size).all fun x => match ops[x]? with
    | some ox => (M.getD x 0 == maskF M ox.after.toList) && (ox.after.toList.all fun e => !Region.binds .any e || decide (e.on < x)) &&
      ((List.range x).all fun j => (M.getD x 0).testBit j || (match ops[j]? with
        | some oj => oj.apart ops ox && allowed (cls bar j oj.op) (cls bar x ox.op)
        | none => true))
    | none => true

theorem regOK_spec {bar : List Nat} {M : Array Nat} (h : regOK ops bar M = true) {x : Nat} {ox : Oper} (hx : ops[x]? = some ox) :
    (∀ j, (M.getD x 0).testBit j = true → ∃ e ∈ ox.after, Region.binds .any e = true ∧ (e.on = j ∨ (M.getD e.on 0).testBit j = true)) ∧ (∀ e ∈ ox.after, Region.binds .any e = true → e.on < x) ∧
    (∀ j oj, j < x → ops[j]? = some oj → (M.getD x 0).testBit j = true ∨ (oj.apart ops ox = true ∧ allowed (cls bar j oj.op) (cls bar x ox.op) = true)) := by
  have hlt : x < ops.size := by
    rcases Nat.lt_or_ge x ops.size with q | q
    · exact q
    · rw [Array.getElem?_eq_none q] at hx; cases hx
  have := List.all_eq_true.1 h x (by simpa using hlt)
  rw [hx] at this
  simp only [Bool.and_eq_true, beq_iff_eq] at this
  obtain ⟨⟨h1, h2⟩, h3⟩ := this
  refine ⟨fun j hj => ?_, fun e he hb => ?_, fun j oj hj hoj => ?_⟩
  · rw [h1] at hj
    rcases maskF_bit M j _ _ hj with q | ⟨e, q1, q2⟩
    · simp at q
    · exact ⟨e, by simpa using q1, q2⟩
  · simpa [hb] using List.all_eq_true.1 h2 e (by simpa using he)
  · have := List.all_eq_true.1 h3 j (by simpa using hj)
    rw [hoj] at this
    simp only [Bool.or_eq_true, Bool.and_eq_true] at this
    exact this

def remL (n : Nat) (listed : Array Bool) : List Nat := (List.range n).filter fun i => !listed.getD i true

theorem remL_sorted (n : Nat) (listed : Array Bool) : (remL n listed).Pairwise (· < ·) := List.Pairwise.filter _ List.pairwise_lt_range

theorem remL_set {n : Nat} {listed : Array Bool} {i : Nat} {c1 c2 : List Nat} (hsz : listed.size = n) (hi : i < n) (h : remL n listed = c1 ++ i :: c2) : remL n (listed.setIfInBounds i true) = c1 ++ c2 := by
  have hs := remL_sorted n listed
  rw [h] at hs
  rw [List.pairwise_append] at hs
  obtain ⟨h1, h2, h3⟩ := hs
  rw [List.pairwise_cons] at h2
  have e : remL n (listed.setIfInBounds i true) = (remL n listed).filter fun j => decide (j ≠ i) := by
    unfold remL
    rw [List.filter_filter]
    refine List.filter_congr fun j hj => ?_
    have hj' : j < n := by simpa using hj
    by_cases q : j = i
    · subst q
      simp [Array.getD_eq_getD_getElem?, hsz, hj']
    · rw [getD_set_ne (listed := listed) (i := i) (j := j) true (Ne.symm q)]
      simp [q]
  rw [e, h, List.filter_append, List.filter_cons, if_neg (by simp)]
  congr 1
  · exact List.filter_eq_self.2 fun j hj => by have := h3 j hj i (List.mem_cons_self ..); simp; omega
  · exact List.filter_eq_self.2 fun j hj => by have := h2.1 j hj; simp; omega

/-- A region in whatever order is drawn. -/
theorem any_sound {bar : List Nat} {M : Array Nat} {stF : St} (hd : dstOK X.N ops = true) (hr : regOK ops bar M = true) (hQ : ∀ g' a' w', Sim X g' stF a' w' → Q .normal a' w') :
    ∀ (fuel : Nat) (listed : Array Bool) (g : Gh) (st : St) (a : Act) (w : World), Sim X g st a w → listed.size = ops.size → (remL ops.size listed).length = fuel →
      (∀ i o, listed.getD i false = true → ops[i]? = some o → ∀ e ∈ o.after, Region.binds .any e = true → listed.getD e.on false = true) →
      Runs X.P ops bar true (remL ops.size listed) st stF → wpAnyIn (FX ρ) n X.P .any ops Q fuel listed a w := by
  intro fuel
  -- what stands first may come
  have hfirst : ∀ (listed : Array Bool), listed.size = ops.size → ∀ i c, remL ops.size listed = i :: c → i ∈ Region.ready .any ops listed := by
    intro listed hsz i c h
    have hmem : i ∈ remL ops.size listed := by rw [h]; simp
    obtain ⟨hi1, hi2⟩ := List.mem_filter.1 hmem
    have hi : i < ops.size := by simpa using hi1
    refine List.mem_filter.2 ⟨hi1, ?_⟩
    rw [hi2, Bool.true_and, Array.getElem?_eq_getElem hi]
    simp only [Option.map_some, Option.getD_some]
    rw [Array.all_eq_true_iff_forall_mem]
    intro e he
    cases hb : Region.binds .any e with
    | false => rfl
    | true =>
    have hlt := (regOK_spec hr (Array.getElem?_eq_getElem hi)).2.1 e he hb
    show (!true || _) = true
    rw [Bool.or_eq_true]
    right
    cases hq : listed.getD e.on false with
    | true => rfl
    | false =>
      exfalso
      have hon : e.on ∈ remL ops.size listed := List.mem_filter.2 ⟨by simp; omega, by
        have : listed.getD e.on true = false := by
          have hlt' : e.on < listed.size := by omega
          simp [Array.getD_eq_getD_getElem?, hlt'] at hq ⊢
          exact hq
        rw [this]; rfl⟩
      have hs := remL_sorted ops.size listed
      rw [h] at hs hon
      rw [List.pairwise_cons] at hs
      rcases List.mem_cons.1 hon with q | q
      · omega
      · have := hs.1 _ q; omega
  induction fuel with
  | zero =>
    intro listed g st a w h hsz hf _ hrun
    have hnil : remL ops.size listed = [] := List.eq_nil_of_length_eq_zero hf
    rw [hnil] at hrun
    have : st = stF := hrun
    subst this
    refine ⟨?_, hQ g a w h⟩
    cases hq : Region.ready .any ops listed with
    | nil => rfl
    | cons i l =>
      exfalso
      have hm : i ∈ Region.ready .any ops listed := by rw [hq]; simp
      obtain ⟨k1, k2⟩ := List.mem_filter.1 hm
      rw [Bool.and_eq_true] at k2
      have : i ∈ remL ops.size listed := List.mem_filter.2 ⟨k1, k2.1⟩
      rw [hnil] at this
      cases this
  | succ fuel ih =>
    intro listed g st a w h hsz hf hdown hrun
    refine ⟨fun hnil => ?_, fun i hi => ?_⟩
    · exfalso
      cases hq : remL ops.size listed with
      | nil => rw [hq] at hf; simp at hf
      | cons j c =>
        have := hfirst listed hsz j c hq
        rw [hnil] at this
        cases this
    · obtain ⟨k1, k2⟩ := List.mem_filter.1 hi
      rw [Bool.and_eq_true] at k2
      have hil : i < ops.size := by simpa using k1
      have hget := Array.getElem?_eq_getElem hil
      have hirem : i ∈ remL ops.size listed := List.mem_filter.2 ⟨k1, k2.1⟩
      obtain ⟨c1, c2, hc⟩ := List.append_of_mem hirem
      have hs := remL_sorted ops.size listed
      rw [hc] at hs hrun
      rw [List.pairwise_append] at hs
      have hafter : ∀ e ∈ ops[i].after, Region.binds .any e = true → listed.getD e.on false = true := by
        have := k2.2
        rw [hget] at this
        simp only [Option.map_some, Option.getD_some] at this
        rw [Array.all_eq_true_iff_forall_mem] at this
        intro e he hb
        have := this e he
        rw [hb] at this
        simpa using this
      have hnotl : ∀ j ∈ c1, listed.getD j false = false := by
        intro j hj
        have : j ∈ remL ops.size listed := by rw [hc]; simp [hj]
        obtain ⟨q1, q2⟩ := List.mem_filter.1 this
        have q2' : listed.getD j true = false := by simpa using q2
        rw [Array.getD_eq_getD_getElem?] at q2' ⊢
        cases hq : listed[j]? with
        | none => rfl
        | some b => rw [hq] at q2'; exact q2'
      -- no operation ahead of it is one that it waits for
      have hwait : ∀ j, (M.getD i 0).testBit j = true → listed.getD j false = true := by
        have key : ∀ (m k : Nat) (o : Oper), k < m → ops[k]? = some o → (∀ e ∈ o.after, Region.binds .any e = true → listed.getD e.on false = true) → ∀ j, (M.getD k 0).testBit j = true → listed.getD j false = true := by
          intro m
          induction m with
          | zero => intro k o hk; omega
          | succ m ihm =>
            intro k o hk ho haf j hj
            obtain ⟨e, he1, he2, he3⟩ := (regOK_spec hr ho).1 j hj
            have hl := haf e he1 he2
            rcases he3 with rfl | he3
            · exact hl
            · have hlt := (regOK_spec hr ho).2.1 e he1 he2
              have hklt : k < ops.size := by
                rcases Nat.lt_or_ge k ops.size with q | q
                · exact q
                · rw [Array.getElem?_eq_none q] at ho; cases ho
              exact ihm e.on _ (by omega) (Array.getElem?_eq_getElem (show e.on < ops.size by omega)) (fun e' h1 h2 => hdown e.on _ hl (Array.getElem?_eq_getElem (show e.on < ops.size by omega)) e' h1 h2) j he3
        exact key (i + 1) i _ (by omega) hget hafter
      have hind : ∀ j ∈ c1, ∀ oj, ops[j]? = some oj → oj.apart ops ops[i] = true ∧ allowed (cls bar j oj.op) (cls bar i ops[i].op) = true := by
        intro j hj oj hoj
        have hji := hs.2.2 j hj i (List.mem_cons_self ..)
        rcases (regOK_spec hr hget).2.2 j oj hji hoj with q | q
        · have := hwait j q
          rw [hnotl j hj] at this
          cases this
        · exact q
      obtain ⟨σF, st', hst, hrest⟩ := runs_first hget c1 c2 st stF hind hrun
      refine stp_sound hget h hst (dstOK_spec hd hget) fun g' a' w' h' => ?_
      have hrem := remL_set hsz hil hc
      refine ih _ g' st' a' w' h' (by simpa using hsz) ?_ ?_ (by rw [hrem]; exact hrest)
      · rw [hrem]
        rw [hc] at hf
        simp at hf ⊢
        omega
      · intro k o hk ho e he hb
        by_cases q : k = i
        · subst q
          rw [hget] at ho
          cases ho
          exact getD_set_true (hafter e he hb)
        · rw [getD_set_ne (listed := listed) (i := i) (j := k) false (Ne.symm q)] at hk
          exact getD_set_true (hdown k o hk ho e he hb)

end
end Go.Pw
