/-
  Values of keys: the laws.
-/
import Derived.Test.YtkjilddlbaibfaaT11
namespace Go.Sh
set_option linter.unusedVariables false
set_option linter.unusedSimpArgs false

theorem fk_del {t : Tb} (hR : HR t) {k : Int} {i : Nat} (hi : Fk t k i) (k' : Int) : (∃ j, Fk (t.set i ⟨2, 0, 0⟩) k' j) ↔ k' ≠ k ∧ ∃ j, Fk t k' j := by
  have h := drop_has hR hi k'
  constructor
  · rintro ⟨j, hj⟩
    obtain ⟨h1, j', h2, _⟩ := (h _).1 ⟨j, hj, rfl⟩
    exact ⟨h1, j', h2⟩
  · rintro ⟨h1, j, hj⟩
    obtain ⟨j', h2, _⟩ := (h _).2 ⟨h1, j, hj, rfl⟩
    exact ⟨j', h2⟩

theorem ephemBack (t : Tb) (k a b : Int) : w11_EphemBack t k a b = some true := by
  unfold w11_EphemBack
  obtain ⟨bb, hb, hbR⟩ := right11 t
  rw [hb, Option.bind_some, shown11]
  by_cases c : bb = true ∧ k ≠ 0 ∧ a ≠ 0 ∧ b ≠ 0
  · obtain ⟨rfl, hk, ha, hb0⟩ := c
    have hR := hbR.1 rfl
    rw [show ((((!true) || (k == 0)) || (a == 0)) || (b == 0)) = false by simp [hk, ha, hb0]]
    rw [show onlyIf (false == false) false (some true) = some true from rfl, Option.bind_some, if_neg (by decide)]
    -- behind what has been put
    have back : ∀ (x : Tb) (o : Int), HR x → Has x k a → (
        (ephem_Get x k).bind fun v6 =>
        (ephem_Set x k b).bind fun v7 =>
        (ephem_Set v7.1 k 0).bind fun v8 =>
        (ephem_Get v8.1 k).bind fun v9 =>
        some (((((((v6.1 == a) && (v6.2 == 0)) && (v7.2.1 == a)) && (v7.2.2 == 0)) && (v8.2.1 == b)) && (v8.2.2 == 0)) && (v9.2 == 9))) = some true := by
      intro x o hx ⟨i, hi, hiv⟩
      have g1 : ephem_Get x k = some (a, 0) := by
        unfold ephem_Get
        rw [get_of hx hi, hiv]; rfl
      rw [g1, Option.bind_some]
      obtain ⟨y, hy, hRy, hyl, _, hc⟩ := set_cases hx k b
      have hy' : y = (x.set i ⟨1, k, b⟩, a, 0) := by
        rcases hc with ⟨q, _⟩ | ⟨_, q, _⟩ | ⟨_, _, ⟨j, hj, rfl⟩ | ⟨d, hn, _⟩ | ⟨hn, _⟩⟩
        · exact absurd q hk
        · exact absurd q hb0
        · rw [hx.uq j i hj.1 hi.1 hj.2.1 hi.2.1 (hj.2.2.trans hi.2.2.symm), hiv]
        · exact absurd hi (hn i)
        · exact absurd hi (hn i)
      subst hy'
      rw [hy, Option.bind_some]
      have hiy : Fk (x.set i ⟨1, k, b⟩) k i := ⟨by simpa using hi.1, by rw [pt_set hi.1, if_pos rfl], by rw [pt_set hi.1, if_pos rfl]⟩
      obtain ⟨z, hz, hRz, hzl, _, hc⟩ := set_cases hRy k 0
      have hz' : z = ((x.set i ⟨1, k, b⟩).set i ⟨2, 0, 0⟩, b, 0) := by
        rcases hc with ⟨q, _⟩ | ⟨_, _, ⟨j, hj, rfl⟩ | ⟨hn, _⟩⟩ | ⟨_, q, _⟩
        · exact absurd q hk
        · have : j = i := hRy.uq j i hj.1 hiy.1 hj.2.1 hiy.2.1 (hj.2.2.trans hiy.2.2.symm)
          subst this
          dsimp only
          rw [pt_set hi.1, if_pos rfl]
        · exact absurd hiy (hn i)
        · exact absurd rfl q
      subst hz'
      rw [hz, Option.bind_some]
      have g2 : ephem_Get ((x.set i ⟨1, k, b⟩).set i ⟨2, 0, 0⟩) k = some (0, 9) := by
        unfold ephem_Get
        rw [get_no hRz (fun j hj => ((fk_del hRy hiy k).1 ⟨j, hj⟩).1 rfl)]; rfl
      rw [g2]
      simp
    obtain ⟨r, hr, hRr, hl, _, hc⟩ := set_cases hR k a
    rw [hr, Option.bind_some]
    rcases hc with ⟨q, _⟩ | ⟨_, q, _⟩ | ⟨_, _, ⟨i, hi, rfl⟩ | ⟨d, hn, hd, hf, hp, rfl⟩ | ⟨hn, hall, rfl⟩⟩
    · exact absurd q hk
    · exact absurd q ha
    · rw [if_neg (by simp)]
      exact back _ 0 hRr ⟨i, ⟨by simpa using hi.1, by rw [pt_set hi.1, if_pos rfl], by rw [pt_set hi.1, if_pos rfl]⟩, by rw [pt_set hi.1, if_pos rfl]⟩
    · rw [if_neg (by simp)]
      exact back _ 0 hRr ⟨d, ⟨by simpa using hd, by rw [pt_set hd, if_pos rfl], by rw [pt_set hd, if_pos rfl]⟩, by rw [pt_set hd, if_pos rfl]⟩
    · rw [if_pos (by simp), pairs_eq hR, show onlyIf (((8 : Int) == 8) == true) [] (some (prs t)) = some (prs t) from rfl, Option.bind_some, prs_len, keys_full hall]
      simp
  · have : ((((!bb) || (k == 0)) || (a == 0)) || (b == 0)) = true := by
      cases bb with
      | false => rfl
      | true =>
        simp only [true_and, ne_eq, Decidable.not_and_iff_not_or_not, Decidable.not_not] at c
        rcases c with rfl | rfl | rfl <;> simp
    rw [this]
    rfl

/-- What goes when some keys go. -/
theorem without_eq {t : Tb} (hR : HR t) (ks : List Int) (hks : ks.length ≤ 1000) : ∃ a had, ephem_Without t ks = some (a, had) ∧ HR a ∧ a.length = t.length ∧ had.length ≤ ks.length ∧ r11_Without (t.map pl) ks = some (a.map pl, had) ∧
    (∀ k v, Has a k v ↔ k ∉ ks ∧ Has t k v) ∧ (keys a).length + had.length = (keys t).length ∧ (∀ k v, k ∈ ks → Has t k v → v ∈ had) := by
  -- step by step
  have key : ∀ n, n ≤ ks.length → ∃ a had, HR a ∧ a.length = t.length ∧ had.length ≤ n ∧ (∀ k v, Has a k v ↔ k ∉ ks.take n ∧ Has t k v) ∧ (keys a).length + had.length = (keys t).length ∧ (∀ k v, k ∈ ks.take n → Has t k v → v ∈ had) ∧
      ∃ f : Nat → Tb × List Int, f 0 = (t, []) ∧ f n = (a, had) ∧ ∀ j, (hj : j < n) → HR (f j).1 ∧ (f j).2.length ≤ j ∧ ((∃ i, ∃ hjk : j < ks.length, Fk (f j).1 ks[j] i ∧ f (j + 1) = ((f j).1.set i ⟨2, 0, 0⟩, (f j).2 ++ [(pt (f j).1 i).Val])) ∨ ((∀ i, ∀ hjk : j < ks.length, ¬ Fk (f j).1 ks[j] i) ∧ f (j + 1) = f j)) := by
    intro n
    induction n with
    | zero => exact fun _ => ⟨t, [], hR, rfl, by simp, by simp, by simp, by simp, fun _ => (t, []), rfl, rfl, fun j hj => by omega⟩
    | succ n ih =>
      intro hn
      obtain ⟨a, had, h1, h2, h3, h4, h5, h6, f, f0, fn, fs⟩ := ih (by omega)
      have hlt : n < ks.length := by omega
      have htk : ∀ k, k ∈ ks.take (n + 1) ↔ k ∈ ks.take n ∨ k = ks[n] := fun k => by
        rw [List.take_succ_eq_append_getElem hlt, List.mem_append, List.mem_singleton]
      rcases fk_or a ks[n] with ⟨i, hi⟩ | hno
      · have hd := drop_has h1 hi
        refine ⟨a.set i ⟨2, 0, 0⟩, had ++ [(pt a i).Val], dropR_right h1 hi.1, by simpa using h2, by simp; omega, fun k v => ?_, ?_, fun k v hk hv => ?_, fun j => if j = n + 1 then (a.set i ⟨2, 0, 0⟩, had ++ [(pt a i).Val]) else f j, by simp [f0], by simp, fun j hj => ?_⟩
        · rw [hd, h4, htk]
          constructor
          · rintro ⟨q1, q2, q3⟩; exact ⟨fun q => q.elim q2 q1, q3⟩
          · rintro ⟨q1, q2⟩; exact ⟨fun q => q1 (.inr q), fun q => q1 (.inl q), q2⟩
        · have := keys_set hi.1 ⟨2, 0, 0⟩
          rw [if_pos hi.2.1, if_neg (by decide)] at this
          simp only [List.length_append, List.length_cons, List.length_nil]
          omega
        · rw [List.mem_append]
          rcases (htk k).1 hk with q | q
          · exact .inl (h6 k v q hv)
          · subst q
            by_cases q' : ks[n] ∈ ks.take n
            · exact .inl (h6 _ v q' hv)
            · have := (h4 _ _).2 ⟨q', hv⟩
              rw [this.fn h1 ⟨i, hi, rfl⟩]
              exact .inr (by simp)
        · rcases Nat.lt_or_ge j n with q | q
          · have := fs j q
            dsimp only
            rw [if_neg (by omega), if_neg (by omega)]
            exact this
          · have : j = n := by omega
            subst this
            dsimp only
            rw [if_neg (by omega), if_pos rfl, fn]
            exact ⟨h1, h3, .inl ⟨i, hlt, hi, rfl⟩⟩
      · refine ⟨a, had, h1, h2, by omega, fun k v => ?_, h5, fun k v hk hv => ?_, fun j => if j = n + 1 then (a, had) else f j, by simp [f0], by simp, fun j hj => ?_⟩
        · rw [h4, htk]
          constructor
          · rintro ⟨q1, q2⟩
            refine ⟨fun q => q.elim q1 fun q => ?_, q2⟩
            subst q
            obtain ⟨i, hi, _⟩ := (h4 _ _).2 ⟨q1, q2⟩
            exact hno i hi
          · rintro ⟨q1, q2⟩; exact ⟨fun q => q1 (.inl q), q2⟩
        · rcases (htk k).1 hk with q | q
          · exact h6 k v q hv
          · subst q
            by_cases q' : ks[n] ∈ ks.take n
            · exact h6 _ v q' hv
            · obtain ⟨i, hi, _⟩ := (h4 _ _).2 ⟨q', hv⟩
              exact absurd hi (hno i)
        · rcases Nat.lt_or_ge j n with q | q
          · have := fs j q
            dsimp only
            rw [if_neg (by omega), if_neg (by omega)]
            exact this
          · have : j = n := by omega
            subst this
            dsimp only
            rw [if_neg (by omega), if_pos rfl, fn]
            exact ⟨h1, h3, .inr ⟨fun i _ => hno i, rfl⟩⟩
  obtain ⟨a, had, h1, h2, h3, h4, h5, h6, f, f0, fn, fs⟩ := key ks.length (Nat.le_refl _)
  rw [List.take_length] at h4 h6
  refine ⟨a, had, ?_, h1, h2, h3, ?_, h4, h5, h6⟩
  · unfold ephem_Without
    simp only [jn]
    refine lpb_road (fun j => ((f j).1, (j : Int), (f j).2)) (by rw [f0]; rfl) ks.length (fun _ => True) (by omega) trivial (fun j hj _ => ?_) (fun _ => ⟨(a, had), by dsimp only; rw [if_neg (by simp), fn], rfl⟩)
    obtain ⟨g1, g2, g3⟩ := fs j hj
    left
    refine ⟨?_, trivial⟩
    dsimp only
    rw [if_pos (by simpa using hj), ix_at hj, Option.bind_some, w64_nat (by omega)]
    rcases g3 with ⟨i, _, hi, e⟩ | ⟨hno, e⟩
    · rw [drop_of g1 hi, Option.bind_some, e]
      dsimp only
      rw [if_pos (by decide), app_ok (by omega) (by simp; omega), Option.bind_some]
    · rw [drop_no g1 (fun i => hno i hj), Option.bind_some, e]
      dsimp only
      rw [if_neg (by decide)]
  · unfold r11_Without
    simp only [jn]
    refine lpb_road (fun j => ((f j).1.map pl, (j : Int), (f j).2)) (by rw [f0]; rfl) ks.length (fun _ => True) (by omega) trivial (fun j hj _ => ?_) (fun _ => ⟨(a.map pl, had), by dsimp only; rw [if_neg (by simp), fn], rfl⟩)
    obtain ⟨g1, g2, g3⟩ := fs j hj
    left
    refine ⟨?_, trivial⟩
    dsimp only
    rw [if_pos (by simpa using hj), ix_at hj, Option.bind_some, w64_nat (by omega), rdropR g1]
    rcases g3 with ⟨i, _, hi, e⟩ | ⟨hno, e⟩
    · rw [drop_of g1 hi, Option.map_some, Option.bind_some, e]
      dsimp only
      rw [if_pos (by decide), app_ok (by omega) (by simp; omega), Option.bind_some]
    · rw [drop_no g1 (fun i => hno i hj), Option.map_some, Option.bind_some, e]
      dsimp only
      rw [if_neg (by decide)]

theorem same11_refl {l : List r11_Pair} (h : l.length ≤ 100000) : r11_Same l l = some true := by
  unfold r11_Same
  rw [if_neg (by simp)]
  simp only [jn]
  refine lpb_up l.length (fun _ => True) (by omega) trivial (fun k hk _ => .inl ⟨?_, trivial⟩) (fun _ => ⟨.inr (), by simp, rfl⟩)
  rw [if_pos (by simpa using hk), ix_at hk, Option.bind_some, Option.bind_some, if_neg (by simp), w64_nat (by omega)]
theorem pairs11 (l : List ephem_Pair) (h : l.length ≤ 1000) : w11_pairs l = some (l.map pp) := by
  unfold w11_pairs
  simp only [jn]
  have e := lp_collect (b := 16) pp l (by omega) (by omega)
  simp only [pp] at e
  rw [e]
  rfl

theorem ephemActs (t : Tb) (k v : Int) (ks : List Int) : w11_EphemActs t k v ks = some true := by
  unfold w11_EphemActs
  obtain ⟨b, hb, hbR⟩ := right11 t
  rw [hb, Option.bind_some, shown11]
  by_cases c : b = true ∧ ¬ (ks.length : Int) > 30
  · obtain ⟨rfl, hlen⟩ := c
    have hR := hbR.1 rfl
    have h8 := hR.l8
    rw [show ((!true) || decide ((ks.length : Int) > 30)) = false by simpa using hlen]
    rw [show onlyIf (false == false) false (some true) = some true from rfl, Option.bind_some, if_neg (by decide)]
    obtain ⟨r, hr, hRr, hl, hrr, _⟩ := set_cases hR k v
    obtain ⟨a, had, ha, hRa, hal, hhl, hra, _⟩ := without_eq hR ks (by omega)
    obtain ⟨g, hg⟩ : ∃ g, hash_Get t k = some g := by
      rcases fk_or t k with ⟨i, hi⟩ | hn
      · exact ⟨_, get_of hR hi⟩
      · exact ⟨_, get_no hR hn⟩
    have hg1 : ephem_Get t k = some g := by unfold ephem_Get; rw [hg]; rfl
    have hg2 : r11_Get (t.map pl) k = some g := by unfold r11_Get; rw [rgetR hR, hg]; rfl
    have hpl := prs_le h8
    rw [its11 t (by omega), Option.bind_some, hr, Option.bind_some, hrr, Option.bind_some, hg1, Option.bind_some, hg2, Option.bind_some, ha, Option.bind_some, hra, Option.bind_some, its11 r.1 (by omega), Option.bind_some,
      same_refl (l := r.1.map pl) (by simp; omega), Option.bind_some]
    have c1 : ((((true && (r.2.1 == r.2.1)) && (r.2.2 == r.2.2)) && (g.1 == g.1)) && (g.2 == g.2)) = true := by simp
    dsimp only
    rw [c1, show (true == true) = true from rfl, onlyT, its11 a (by omega), Option.bind_some, onlyT, same_refl (l := a.map pl) (by simp; omega), Option.bind_some]
    rw [show ((true && true) == true) = true from rfl, onlyT, ints_refl' (l := had) (by omega), Option.bind_some]
    rw [show ((true && true && true) == true) = true from rfl, onlyT, pairs_eq hR, Option.bind_some, onlyT, pairs11 _ (by omega), Option.bind_some, onlyT, rpairs_eq hR, Option.bind_some, onlyT, same11_refl (by simp; omega), Option.bind_some]
    rw [show ((true && true && true && true) == true) = true from rfl, onlyT, owned_eq hR, Option.bind_some, onlyT, rowned_eq hR, Option.bind_some]
    simp
  · have : ((!b) || decide ((ks.length : Int) > 30)) = true := by
      cases b with
      | false => rfl
      | true => simp at c ⊢; omega
    rw [this]
    rfl

theorem times_pos {l : List Int} (hl : l.length ≤ 1000) {v : Int} (hv : v ≠ 0) (h : v ∈ l) : ∃ n, r07_Times l v = some n ∧ n ≠ 0 := by
  refine ⟨((l.countP fun x => (x == v) && (v != 0) : Nat) : Int), ?_, ?_⟩
  · unfold r07_Times
    simp only [jn]
    refine lpb_ind (fun s => ∃ k : Nat, k ≤ l.length ∧ s.2 = (k : Int) ∧ s.1 = (((l.take k).countP fun x => (x == v) && (v != 0) : Nat) : Int)) (fun s => l.length + 1 - s.2.toNat) ⟨0, by omega, rfl, by simp⟩ (by simp; omega) ?_
    rintro ⟨_, _⟩ ⟨k, hk, rfl, rfl⟩
    dsimp only
    by_cases hlt : k < l.length
    · left
      rw [if_pos (by simpa using hlt), ix_at hlt, Option.bind_some, w64_nat (n := k) (by omega)]
      have hle : ((l.take k).countP fun x => (x == v) && (v != 0)) ≤ 1000 := Nat.le_trans List.countP_le_length (by simp; omega)
      have hstep : ((l.take (k + 1)).countP fun x => (x == v) && (v != 0)) = ((l.take k).countP fun x => (x == v) && (v != 0)) + if ((l[k] == v) && (v != 0)) = true then 1 else 0 := by
        rw [List.take_succ_eq_append_getElem hlt, List.countP_append, List.countP_cons, List.countP_nil, Nat.zero_add]
      by_cases c : ((l[k] == v) && (v != 0)) = true
      · rw [if_pos c, w64_nat (by omega)]
        rw [if_pos c] at hstep
        exact ⟨_, rfl, ⟨k + 1, by omega, rfl, by rw [hstep]⟩, by simp; omega⟩
      · rw [if_neg c]
        rw [if_neg c] at hstep
        exact ⟨_, rfl, ⟨k + 1, by omega, rfl, by rw [hstep]; rfl⟩, by simp; omega⟩
    · right
      have : k = l.length := by omega
      subst this
      exact ⟨_, by rw [if_neg (by simp)], by rw [List.take_length]⟩
  · have : 0 < l.countP fun x => (x == v) && (v != 0) := List.countP_pos_iff.2 ⟨v, h, by simpa using hv⟩
    omega

theorem ephemGoes (t : Tb) (ks : List Int) : w11_EphemGoes t ks = some true := by
  unfold w11_EphemGoes
  obtain ⟨b, hb, hbR⟩ := right11 t
  rw [hb, Option.bind_some, shown11]
  by_cases c : b = true ∧ ¬ (ks.length : Int) > 30
  · obtain ⟨rfl, hlen⟩ := c
    have hR := hbR.1 rfl
    have h8 := hR.l8
    rw [show ((!true) || decide ((ks.length : Int) > 30)) = false by simpa using hlen]
    rw [show onlyIf (false == false) false (some true) = some true from rfl, Option.bind_some, if_neg (by decide)]
    obtain ⟨a, had, ha, hRa, hal, hhl, _, hhas, hcnt, hin⟩ := without_eq hR ks (by omega)
    have hpl := prs_le h8
    have hpa := prs_le (t := a) (by omega)
    obtain ⟨b', hb', hbR'⟩ := right11 a
    rw [ha, Option.bind_some, its11 t (by omega), Option.bind_some, rpairs_eq hR, Option.bind_some, hb', hbR'.2 hRa, Option.bind_some, show ((!true) == false) = true from rfl, onlyT, pairs_eq hRa, Option.bind_some]
    have e1 : w64 (((prs a).length : Int) + (had.length : Int)) = (((prs t).map pp).length : Int) := by
      rw [w64_in (by omega) (by omega), List.length_map]
      have := prs_len a
      have := prs_len t
      omega
    dsimp only
    rw [e1, if_neg (by simp)]
    simp only [jn]
    refine lpb_up ((prs t).map pp).length (fun _ => True) (by simp; omega) trivial (fun j hj _ => ?_) (fun _ => ⟨.inr (), by simp, rfl⟩)
    have hj' : j < (prs t).length := by simpa using hj
    rw [if_pos (by simpa using hj'), w64_nat (by omega)]
    -- is the key among those that go?
    have inner : (lp (S := Bool × Int) (E := Bool) (fun ((s91, s92) : Bool × Int) =>
              if (decide (s92 < (ks.length : Int))) then
                (onlyIf (s91 == false) (0 : Int) (ix ks s92)).bind fun v95 =>
                (onlyIf (s91 == false) (⟨0, 0⟩ : r11_Pair) (ix ((prs t).map pp) (j : Int))).bind fun v96 =>
                some (.inl ((s91 || (v95 == v96.Key)), w64 (s92 + 1)))
              else
              some (.inr s91)) (false, 0)) = some (decide ((prs t)[j].Key ∈ ks)) := by
      refine some_of (lp_road (fun m => (decide ((prs t)[j].Key ∈ ks.take m), (m : Int))) ks.length (fun _ => True) _ (by omega) trivial (fun m hm _ => .inl ⟨?_, trivial⟩) (fun _ => ⟨_, by dsimp only; rw [if_neg (by simp), List.take_length], rfl⟩))
      have e : decide ((prs t)[j].Key ∈ ks.take (m + 1)) = (decide ((prs t)[j].Key ∈ ks.take m) || (ks[m] == (prs t)[j].Key)) := by
        rw [List.take_succ_eq_append_getElem hm]
        by_cases q : (prs t)[j].Key ∈ ks.take m
        · rw [decide_eq_true q, decide_eq_true (List.mem_append_left _ q), Bool.true_or]
        · rw [decide_eq_false q, Bool.false_or]
          by_cases q' : ks[m] = (prs t)[j].Key
          · rw [decide_eq_true (List.mem_append_right _ (by rw [q']; exact List.mem_singleton.2 rfl))]
            simp [q']
          · rw [decide_eq_false (fun h => (List.mem_append.1 h).elim q fun h => q' (List.mem_singleton.1 h).symm)]
            simp [q']
      dsimp only
      rw [if_pos (by simpa using hm), w64_nat (by omega), e]
      cases hq : decide ((prs t)[j].Key ∈ ks.take m) with
      | true => rfl
      | false => rw [show (false == false) = true from rfl, onlyT, onlyT, ix_at hm, Option.bind_some, ix_map', ix_at hj', Option.map_some, Option.bind_some]
    refine .inl ⟨?_, trivial⟩
    have inner' : lp _ (false, (0 : Int)) = some (decide ((prs t)[j].Key ∈ ks)) := inner
    rw [inner', Option.bind_some, ix_map', ix_at hj', Option.map_some, Option.bind_some]
    have hT := mem_prs.1 (List.getElem_mem hj')
    dsimp only
    by_cases q : (prs t)[j].Key ∈ ks
    · have hg : ephem_Get a (prs t)[j].Key = some (0, 9) := by
        unfold ephem_Get
        rw [get_hasno hRa (fun v hv => ((hhas _ _).1 hv).1 q)]; rfl
      rw [hg, Option.bind_some, decide_eq_true q]
      by_cases z : (prs t)[j].Val = 0
      · have z' : ((prs t)[j].Val != 0) = false := by simp [z]
        rw [z']
        rw [show onlyIf ((((true != ((9 : Int) == 9)) || ((!true) && ((0 : Int) != (prs t)[j].Val))) == false) && ((true && false) == true)) 0 (r07_Times had (prs t)[j].Val) = some 0 from rfl, Option.bind_some]
        rfl
      · obtain ⟨n, hn, hn0⟩ := times_pos (l := had) (by omega) z (hin _ _ q hT)
        have z' : ((prs t)[j].Val != 0) = true := by simpa using z
        rw [z', hn]
        rw [show onlyIf ((((true != ((9 : Int) == 9)) || ((!true) && ((0 : Int) != (prs t)[j].Val))) == false) && ((true && true) == true)) 0 (some n) = some n from rfl, Option.bind_some]
        rw [if_neg (by simp [hn0])]
    · have hg : ephem_Get a (prs t)[j].Key = some ((prs t)[j].Val, 0) := by
        unfold ephem_Get
        rw [get_has hRa ((hhas _ _).2 ⟨q, hT⟩)]; rfl
      rw [hg, Option.bind_some, decide_eq_false q]
      rw [show ((false != ((0 : Int) == 9)) || ((!false) && ((prs t)[j].Val != (prs t)[j].Val))) = false by simp]
      rfl
  · have : ((!b) || decide ((ks.length : Int) > 30)) = true := by
      cases b with
      | false => rfl
      | true => simp at c ⊢; omega
    rw [this]
    rfl

/-- How many of all have a value that stands among those. -/
def among (l : List ephem_Pair) (k : Nat) : Nat := l.countP fun p => (p.Val != 0) && ((l.take k).any fun q => q.Val == p.Val)

theorem ephemSum (t : Tb) : w11_EphemSum t = some true := by
  unfold w11_EphemSum
  obtain ⟨b, hb, hbR⟩ := right11 t
  rw [hb, Option.bind_some, shown11]
  cases b with
  | false => rfl
  | true =>
    have hR := hbR.1 rfl
    have h8 := hR.l8
    have hpl := prs_le h8
    rw [show onlyIf ((!true) == false) false (some true) = some true from rfl, Option.bind_some, if_neg (by decide), pairs_eq hR, Option.bind_some]
    simp only [jn]
    generalize hL : prs t = L at *
    have hown : ∀ v, v ≠ 0 → own t v = L.countP fun p => p.Val == v := fun v hv => by
      unfold own
      rw [hL]
      congr 1
      funext p
      have : (v != 0) = true := by simpa using hv
      rw [this, Bool.true_and]
    refine lpb_ind (fun s => ∃ k : Nat, k ≤ L.length ∧ s.2.2 = (k : Int) ∧ s.1 = (((L.take k).countP fun p => p.Val != 0 : Nat) : Int) ∧ s.2.1 = (among L k : Int)) (fun s => L.length + 1 - s.2.2.toNat) ⟨0, by omega, rfl, by simp, by simp [among]⟩ (by simp; omega) ?_
    rintro ⟨_, _, _⟩ ⟨k, hk, rfl, rfl, rfl⟩
    dsimp only
    by_cases hlt : k < L.length
    · left
      rw [if_pos (by simp; omega), ix_at hlt, Option.bind_some, w64_nat (n := k) (by omega)]
      have hc1 : ((L.take (k + 1)).countP fun p => p.Val != 0) = ((L.take k).countP fun p => p.Val != 0) + if (L[k].Val != 0) = true then 1 else 0 := by
        rw [List.take_succ_eq_append_getElem hlt, List.countP_append, List.countP_cons, List.countP_nil, Nat.zero_add]
      have hle1 : ((L.take k).countP fun p => p.Val != 0) ≤ 8 := Nat.le_trans List.countP_le_length (by simp; omega)
      have hle2 : among L k ≤ 8 := Nat.le_trans List.countP_le_length hpl
      have hany : ∀ p : ephem_Pair, ((L.take (k + 1)).any fun q => q.Val == p.Val) = (((L.take k).any fun q => q.Val == p.Val) || (L[k].Val == p.Val)) := fun p => by
        rw [List.take_succ_eq_append_getElem hlt, List.any_append]; simp
      by_cases z : L[k].Val = 0
      · rw [if_pos (by simpa using z)]
        rw [if_neg (by simpa using z)] at hc1
        refine ⟨_, rfl, ⟨k + 1, by omega, rfl, by rw [hc1]; rfl, ?_⟩, by simp; omega⟩
        have : among L (k + 1) = among L k := by
          unfold among
          congr 1
          funext p
          rw [hany, z]
          by_cases e : p.Val = 0
          · simp [e]
          · have : ((0 : Int) == p.Val) = false := by simp; omega
            rw [this, Bool.or_false]
        rw [this]
      · rw [if_neg (by simpa using z)]
        rw [if_pos (by simpa using z)] at hc1
        have inner : (lp (S := Bool × Int) (E := Bool) (fun ((s88, s89) : Bool × Int) =>
              if (decide (s89 < (k : Int))) then
                (onlyIf (s88 == true) (⟨0, 0⟩ : ephem_Pair) (ix L s89)).bind fun v92 =>
                some (.inl ((s88 && (v92.Val != L[k].Val)), w64 (s89 + 1)))
              else
              some (.inr s88)) (true, 0)) = some (!((L.take k).any fun q => q.Val == L[k].Val)) := by
          refine some_of (lp_road (fun m => (!((L.take m).any fun q => q.Val == L[k].Val), (m : Int))) k (fun _ => True) _ (by omega) trivial (fun m hm _ => .inl ⟨?_, trivial⟩) (fun _ => ⟨_, by dsimp only; rw [if_neg (by simp)], rfl⟩))
          have hml : m < L.length := by omega
          dsimp only
          rw [if_pos (by simpa using hm), w64_nat (by omega)]
          have e : ((L.take (m + 1)).any fun q => q.Val == L[k].Val) = (((L.take m).any fun q => q.Val == L[k].Val) || (L[m].Val == L[k].Val)) := by
            rw [List.take_succ_eq_append_getElem hml, List.any_append]; simp
          rw [e]
          cases hq : ((L.take m).any fun q => q.Val == L[k].Val) with
          | true => rfl
          | false =>
            rw [show ((!false) == true) = true from rfl, onlyT, ix_at hml, Option.bind_some]
            simp [bne]
        have inner' : lp _ (true, (0 : Int)) = some (!((L.take k).any fun q => q.Val == L[k].Val)) := inner
        rw [inner', Option.bind_some]
        cases hq : ((L.take k).any fun q => q.Val == L[k].Val) with
        | true =>
          rw [if_neg (by decide), w64_nat (by omega)]
          refine ⟨_, rfl, ⟨k + 1, by omega, rfl, by rw [hc1], ?_⟩, by simp; omega⟩
          have : among L (k + 1) = among L k := by
            unfold among
            congr 1
            funext p
            rw [hany]
            by_cases e : L[k].Val = p.Val
            · rw [← e, hq]; simp
            · have : (L[k].Val == p.Val) = false := by simpa using e
              rw [this, Bool.or_false]
          rw [this]
        | false =>
          have hstep : among L (k + 1) = among L k + L.countP fun p => p.Val == L[k].Val := by
            unfold among
            have e : ∀ p : ephem_Pair, ((p.Val != 0) && ((L.take (k + 1)).any fun q => q.Val == p.Val)) = (((p.Val != 0) && ((L.take k).any fun q => q.Val == p.Val)) || (p.Val == L[k].Val)) := fun p => by
              rw [hany]
              by_cases e : p.Val = L[k].Val
              · rw [e, hq]; simp [z]
              · have e1 : (L[k].Val == p.Val) = false := by simpa using fun q => e q.symm
                have e2 : (p.Val == L[k].Val) = false := by simpa using e
                rw [e1, e2, Bool.or_false, Bool.or_false]
            rw [List.countP_congr (q := fun p => (((p.Val != 0) && ((L.take k).any fun q => q.Val == p.Val)) || (p.Val == L[k].Val))) (fun p _ => by rw [e p])]
            have dis : ∀ l : List ephem_Pair, l.countP (fun p => (((p.Val != 0) && ((L.take k).any fun q => q.Val == p.Val)) || (p.Val == L[k].Val))) = l.countP (fun p => ((p.Val != 0) && ((L.take k).any fun q => q.Val == p.Val))) + l.countP fun p => p.Val == L[k].Val := by
              intro l
              induction l with
              | nil => rfl
              | cons p l ih =>
                rw [List.countP_cons, List.countP_cons, List.countP_cons, ih]
                by_cases e : p.Val = L[k].Val
                · have : ((L.take k).any fun q => q.Val == p.Val) = false := by rw [e]; exact hq
                  have e3 : (p.Val == L[k].Val) = true := by simpa using e
                  rw [this, e3, Bool.and_false, Bool.false_or, if_pos rfl, if_neg (by decide)]
                  omega
                · have e2 : (p.Val == L[k].Val) = false := by simpa using e
                  simp [e2]
                  omega
            exact dis L
          have hle3 : among L (k + 1) ≤ 8 := Nat.le_trans List.countP_le_length hpl
          rw [if_pos (by decide), owned_eq hR, hown _ z, Option.bind_some, w64_nat (by omega), w64_in (n := (among L k : Int) + ((L.countP fun p => p.Val == L[k].Val : Nat) : Int)) (by omega) (by omega)]
          refine ⟨_, rfl, ⟨k + 1, by omega, rfl, by rw [hc1], ?_⟩, by simp; omega⟩
          rw [hstep]
          simp
    · right
      have : k = L.length := by omega
      subst this
      refine ⟨_, by rw [if_neg (by simp)], ?_⟩
      dsimp only
      rw [List.take_length]
      have e : among L L.length = L.countP fun p => p.Val != 0 := by
        unfold among
        rw [List.take_length]
        refine List.countP_congr fun p hp => ?_
        have : (L.any fun q => q.Val == p.Val) = true := List.any_eq_true.2 ⟨p, hp, by simp⟩
        rw [this, Bool.and_true]
      rw [e]
      simp
      omega
end Go.Sh
