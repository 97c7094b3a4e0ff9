/-
  Queues of tasks: what the laws ask.
-/
import Derived.Test.YteofjcfbjnfnkaaT14
namespace Go.Sh
set_option linter.unusedVariables false
set_option linter.unusedSimpArgs false

def tkR (t : task_Task) : r14_Task := ⟨t.Kind, t.At, t.Prog⟩
def tqR (q : TQ) : r14_Queue := ⟨q.L.map tkR, q.Cap⟩

theorem t_its (q : TQ) (h : q.L.length ≤ 1000) : w14_its q = some (tqR q) := by
  unfold w14_its
  simp only [jn]
  have e := lp_collect (b := 24) tkR q.L (by omega) (by omega)
  simp only [tkR] at e
  rw [e]
  rfl

theorem r_add {q : TQ} (t : task_Task) (h : q.L.length ≤ 1000) : r14_Add (tqR q) (tkR t) = some (tqR (tad q t).1, (tad q t).2) := by
  unfold r14_Add tad
  have hl : (tqR q).L.length = q.L.length := by simp [tqR]
  by_cases c : q.Cap ≤ q.L.length
  · rw [if_pos (by simp [hl]; exact c), if_pos c]
  · rw [if_neg (by simp [hl]; exact Int.not_le.1 c), if_neg c, app_nil (by omega) (by rw [hl]; omega), Option.bind_some, app_ok (by omega) (by simp [hl]; omega), Option.bind_some]
    simp [tqR]

theorem r_next {q : TQ} : r14_Next (tqR q) = some (tqR (tnx q).1, tkR (tnx q).2.1, (tnx q).2.2) := by
  unfold r14_Next tnx
  obtain ⟨L, C⟩ := q
  cases L with
  | nil => simp [tqR, tkR]
  | cons t l =>
    rw [if_neg (by simp [tqR]; omega)]
    have e : cut (tqR ⟨t :: l, C⟩).L 1 (((tqR ⟨t :: l, C⟩).L.length : Nat) : Int) = some (l.map tkR) := by
      have := cut_ok (xs := (tqR ⟨t :: l, C⟩).L) (i := 1) (j := (tqR ⟨t :: l, C⟩).L.length) (by simp [tqR]) (Nat.le_refl _)
      rw [show (1 : Int) = ((1 : Nat) : Int) from rfl, this, List.take_length]; simp [tqR]
    rw [e]
    simp [ix, tqR]

theorem q_same {q : TQ} (h : q.L.length ≤ 1000) : r14_Same (tqR q) (tqR q) = some true := by
  unfold r14_Same
  have hl : (tqR q).L.length = q.L.length := by simp [tqR]
  rw [if_neg (by simp)]
  simp only [jn]
  refine lpb_up (tqR q).L.length (fun _ => True) (by omega) trivial (fun k hk _ => .inl ⟨?_, trivial⟩) (fun _ => ⟨.inr (), by simp, rfl⟩)
  simp only [Int.ofNat_lt, hk, decide_true, if_true, ix_at hk, Option.bind_some]
  rw [if_neg (by simp), w64_nat (n := k) (by omega)]

theorem r_held {q : TQ} (h : q.L.length ≤ 1000) : r14_Held (tqR q) = some ((q.L.filter (·.Kind == 1)).map (·.At)) := by
  unfold r14_Held
  have hl : (tqR q).L.length = q.L.length := by simp [tqR]
  simp only [jn, hl]
  refine lpb_upS q.L.length (fun k l => l = ((q.L.take k).filter (·.Kind == 1)).map (·.At)) (by omega) (by simp) ?_ (fun l hl => ⟨_, by simp; rfl, by rw [hl, List.take_length]⟩)
  rintro k l hk rfl
  left
  rw [filt_snoc _ _ _ _ hk]
  have e : ix (tqR q).L (k : Int) = some (tkR q.L[k]) := by rw [show (tqR q).L = q.L.map tkR from rfl, ix_map', ix_at hk]; rfl
  simp only [Int.ofNat_lt, hk, decide_true, if_true, e, Option.bind_some]
  have hle : (List.map (·.At) (List.filter (·.Kind == 1) (List.take k q.L))).length ≤ 1000 := by
    rw [List.length_map]
    exact Nat.le_trans (List.length_filter_le ..) (by simp; omega)
  by_cases c : (q.L[k].Kind == 1) = true
  · rw [show ((tkR q.L[k]).Kind == 1) = true from c, if_pos rfl, app_ok (by omega) (by simp only [List.length_cons, List.length_nil]; omega), Option.bind_some, w64_nat, if_pos c]
    exact ⟨_, rfl, rfl⟩
  · have c : (q.L[k].Kind == 1) = false := by simpa using c
    rw [show ((tkR q.L[k]).Kind == 1) = false from c, if_neg (by decide), w64_nat, if_neg (by simp [c])]
    exact ⟨_, rfl, by simp⟩

theorem r_waits {q : TQ} {w : Int} (h : q.L.length ≤ 1000) : r14_Waits (tqR q) w = some (q.L.any fun t => t.Kind == 2 && t.At == w) := by
  unfold r14_Waits
  have hl : (tqR q).L.length = q.L.length := by simp [tqR]
  simp only [jn, hl]
  refine lpb_up q.L.length (fun k => (q.L.take k).any (fun t => t.Kind == 2 && t.At == w) = false) (by omega) (by simp) ?_ (fun hl => ⟨.inr (), by simp, by rw [List.take_length] at hl; rw [hl]⟩)
  intro k hk hP
  have e : ix (tqR q).L (k : Int) = some (tkR q.L[k]) := by rw [show (tqR q).L = q.L.map tkR from rfl, ix_map', ix_at hk]; rfl
  simp only [Int.ofNat_lt, hk, decide_true, if_true, e, Option.bind_some]
  rw [List.take_succ_eq_append_getElem hk, List.any_append, hP, Bool.false_or]
  by_cases c : (q.L[k].Kind == 2 && q.L[k].At == w) = true
  · right
    rw [show ((tkR q.L[k]).Kind == 2 && (tkR q.L[k]).At == w) = true from c, if_pos rfl]
    refine ⟨.inl true, rfl, ?_⟩
    simp only [Option.some.injEq]
    symm
    rw [List.any_eq_true]
    exact ⟨_, List.getElem_mem hk, c⟩
  · have c : (q.L[k].Kind == 2 && q.L[k].At == w) = false := by simpa using c
    left
    rw [show ((tkR q.L[k]).Kind == 2 && (tkR q.L[k]).At == w) = false from c, if_neg (by decide), w64_nat]
    exact ⟨rfl, by simp [c]⟩

theorem r_count {q : TQ} {w : Int} (h : q.L.length ≤ 1000) : r14_Count (tqR q) w = some ((q.L.countP fun t => t.Kind == w : Nat) : Int) := by
  unfold r14_Count
  have hl : (tqR q).L.length = q.L.length := by simp [tqR]
  simp only [jn, hl]
  refine lpb_ind (fun (s : Int × Int) => ∃ k : Nat, k ≤ q.L.length ∧ s = ((((q.L.take k).countP fun t => t.Kind == w : Nat) : Int), (k : Int))) (fun s => q.L.length - s.2.toNat) ⟨0, Nat.zero_le _, by simp⟩ (by show q.L.length - _ < _; omega) ?_
  rintro _ ⟨k, hk, rfl⟩
  rcases Nat.lt_or_ge k q.L.length with hk | hk
  · left
    have e : ix (tqR q).L (k : Int) = some (tkR q.L[k]) := by rw [show (tqR q).L = q.L.map tkR from rfl, ix_map', ix_at hk]; rfl
    simp only [Int.ofNat_lt, hk, decide_true, if_true, e, Option.bind_some]
    have hle : (List.countP (fun t => t.Kind == w) (List.take k q.L)) ≤ 1000 := Nat.le_trans List.countP_le_length (by simp; omega)
    by_cases c : (q.L[k].Kind == w) = true
    · rw [show ((tkR q.L[k]).Kind == w) = true from c, if_pos rfl, w64_nat, w64_nat]
      refine ⟨_, rfl, ⟨k + 1, hk, ?_⟩, by simp; omega⟩
      rw [List.take_succ_eq_append_getElem hk, List.countP_append]
      simp [c]
    · have c : (q.L[k].Kind == w) = false := by simpa using c
      rw [show ((tkR q.L[k]).Kind == w) = false from c, if_neg (by decide), w64_nat]
      refine ⟨_, rfl, ⟨k + 1, hk, ?_⟩, by simp; omega⟩
      rw [List.take_succ_eq_append_getElem hk, List.countP_append]
      simp [c]
  · right
    have : k = q.L.length := by omega
    subst this
    exact ⟨_, by simp; rfl, by simp⟩

theorem taskActs (q : TQ) (t : task_Task) (n : Int) : w14_TaskActs q t n = some true := by
  unfold w14_TaskActs
  rw [w14_shown_eq]
  by_cases hlen : (q.L.length : Int) > 60
  · rw [decide_eq_true hlen]; simp [onlyIf]
  rw [decide_eq_false hlen, show onlyIf (false == false) false (some true) = some true from rfl, Option.bind_some, if_neg (by decide)]
  have hq : q.L.length ≤ 1000 := by omega
  rw [t_its q hq, Option.bind_some, t_add t hq, Option.bind_some]
  have hr := r_add t hq
  simp only [tkR] at hr
  rw [hr, Option.bind_some, t_next, Option.bind_some, r_next, Option.bind_some, t_held hq, r_held hq, t_waits hq, r_waits hq, t_count hq, r_count hq]
  have la : (tad q t).1.L.length ≤ 1000 := Nat.le_trans (tad_len (n := 60) (by omega)) (by omega)
  have lb : (tnx q).1.L.length ≤ 1000 := tnx_len hq
  have hh : ((q.L.filter (·.Kind == 1)).map (·.At)).length ≤ 100000 := by
    rw [List.length_map]
    exact Nat.le_trans (List.length_filter_le ..) (by omega)
  have oT : ∀ {α : Type} (d : α) (x : Option α), onlyIf (true == true) d x = x := fun d x => rfl
  have b1 : ∀ x : Int, (x == x) = true := fun x => beq_self_eq_true x
  have b2 : ∀ x : Bool, (x == x) = true := fun x => beq_self_eq_true x
  rw [t_its _ la, Option.bind_some, q_same la, Option.bind_some, b1, Bool.and_self, oT, t_its _ lb, Option.bind_some, oT, q_same lb, Option.bind_some]
  have c : (true && true && ((tnx q).2.1.Kind == (tkR (tnx q).2.1).Kind && ((tnx q).2.1.At == (tkR (tnx q).2.1).At && ((tnx q).2.1.Prog == (tkR (tnx q).2.1).Prog && true))) && ((tnx q).2.2 == (tnx q).2.2)) = true := by
    simp [tkR]
  rw [c, oT, Option.bind_some, Option.bind_some, oT, ints_refl hh, Option.bind_some, Bool.and_self, oT, Option.bind_some, Option.bind_some, b2, Bool.and_self, oT, Option.bind_some, Option.bind_some, b1]
  rfl

theorem taskOwn (q : TQ) (t u : task_Task) : w14_TaskOwn q t u = some true := by
  unfold w14_TaskOwn
  rw [w14_shown_eq]
  by_cases hlen : (q.L.length : Int) > 60
  · rw [decide_eq_true hlen]; simp [onlyIf]
  rw [decide_eq_false hlen, show onlyIf (false == false) false (some true) = some true from rfl, Option.bind_some, if_neg (by decide)]
  have hq : q.L.length ≤ 1000 := by omega
  rw [t_add t hq, t_add u hq, Option.bind_some, Option.bind_some]
  unfold tad
  by_cases c : q.Cap ≤ q.L.length
  · rw [if_pos c, if_pos c]
    simp
  · rw [if_neg c, if_neg c]
    simp only [show ((0 : Int) != 0) = false from rfl, Bool.false_eq_true, if_false]
    have e : ∀ x : task_Task, ix (q.L ++ [x]) (q.L.length : Int) = some x := fun x => by rw [ix_nat]; simp
    rw [e, e]
    rw [w64_nat (by omega)]
    simp [onlyIf]

theorem taskCounts (q : TQ) (t : task_Task) (n : Int) : w14_TaskCounts q t n = some true := by
  unfold w14_TaskCounts
  rw [w14_shown_eq]
  by_cases hlen : (q.L.length : Int) > 60
  · rw [decide_eq_true hlen]; simp [onlyIf]
  rw [decide_eq_false hlen, show onlyIf (false == false) false (some true) = some true from rfl, Option.bind_some, if_neg (by decide)]
  have hq : q.L.length ≤ 1000 := by omega
  rw [t_add t hq, Option.bind_some]
  unfold tad
  by_cases c : q.Cap ≤ q.L.length
  · rw [if_pos c]
    simp [t_count hq]
  · rw [if_neg c]
    simp only [show ((0 : Int) != 0) = false from rfl, Bool.false_eq_true, if_false, jn]
    have hq' : (queue_Queue_task_Task.mk (q.L ++ [t]) q.Cap).L.length ≤ 1000 := by simp; omega
    rw [t_held hq', t_count hq', t_count hq, t_waits hq', t_count hq']
    simp only [Option.bind_some, List.countP_append, List.filter_append, List.map_append, List.any_append]
    have hle : ∀ k, (List.countP (fun t => t.Kind == k) q.L) ≤ 60 := fun k => Nat.le_trans List.countP_le_length (by omega)
    have hcf : List.countP (fun (t : task_Task) => t.Kind == 1) q.L = ((List.filter (fun (t : task_Task) => t.Kind == 1) q.L).map (·.At)).length := by rw [List.length_map]; exact List.countP_eq_length_filter
    have hn := hle n
    have h1 := hle 1
    rw [hcf] at h1 ⊢
    generalize (List.filter (fun (t : task_Task) => t.Kind == 1) q.L).map (·.At) = F at h1 ⊢
    generalize List.countP (fun t => t.Kind == n) q.L = cn at hn ⊢
    have hw0 : w64 ((cn : Int) + 0) = cn := w64_sm (by omega) (by omega)
    have hw1 : w64 ((cn : Int) + 1) = ((cn + 1 : Nat) : Int) := w64_nat
    have hA : (t.Kind == n) = true → (((cn + List.countP (fun t => t.Kind == n) [t] : Nat) : Int) == w64 ((cn : Int) + 1)) = true := fun e => by
      rw [hw1]; simp [e]
    have hB : ¬ (t.Kind == n) = true → (((cn + List.countP (fun t => t.Kind == n) [t] : Nat) : Int) == w64 ((cn : Int) + 0)) = true := fun e => by
      have e : (t.Kind == n) = false := by simpa using e
      rw [hw0]; simp [e]
    split <;> rename_i e <;> first | simp only [hA e] | simp only [hB e]
    all_goals
      by_cases k1 : t.Kind = 1
      · have b1 : (t.Kind == 1) = true := by simpa using k1
        have b2 : (t.Kind != 1) = false := by simp [k1]
        have b3 : (t.Kind != 2) = true := by simp [k1]
        have e1 : List.filter (fun (x : task_Task) => x.Kind == 1) [t] = [t] := by simp [b1]
        have e2 : w64 (((F ++ [t.At]).length : Int) - 1) = (F.length : Int) := by
          have : ((F ++ [t.At]).length : Int) = (F.length : Int) + 1 := by simp
          rw [this, w64_sm (by omega) (by omega)]; omega
        have e3 : ix (F ++ [t.At]) (F.length : Int) = some t.At := by rw [ix_nat]; simp
        have e4 : decide (((F ++ [t.At]).length : Int) > 0) = true := by
          have : ((F ++ [t.At]).length : Int) = (F.length : Int) + 1 := by simp
          exact decide_eq_true (by omega)
        simp only [e1, List.map_cons, List.map_nil, b2, b3, e4, e2, e3]
        simp [onlyIf, b1]
      · have b1 : (t.Kind == 1) = false := by simpa using k1
        have b2 : (t.Kind != 1) = true := by simp [k1]
        have e1 : List.filter (fun (x : task_Task) => x.Kind == 1) [t] = [] := by simp [b1]
        simp only [e1, List.map_nil, List.append_nil, b2]
        by_cases k2 : t.Kind = 2
        · have b3 : (t.Kind != 2) = false := by simp [k2]
          have b4 : (t.Kind == 2) = true := by simp [k2]
          simp [onlyIf, b1, b3, b4]
        · have b3 : (t.Kind != 2) = true := by simp [k2]
          simp [onlyIf, b1, b3]

theorem tad_take {l : List task_Task} {i : Nat} (hi : i < l.length) : tad ⟨l.take (min i 30), 30⟩ l[i] = (⟨l.take (min (i + 1) 30), 30⟩, if i < 30 then 0 else 4) := by
  unfold tad
  by_cases c : i < 30
  · rw [if_neg (by simp; omega), if_pos c]
    simp only [show min i 30 = i by omega, show min (i + 1) 30 = i + 1 by omega]
    rw [List.take_succ_eq_append_getElem hi]
  · rw [if_pos (by simp; omega), if_neg c]
    simp only [show min i 30 = min (i + 1) 30 by omega]

theorem task_new : task_New = some ⟨[], 30⟩ := rfl

theorem taskOrder (l : List task_Task) : w14_TaskOrder l = some true := by
  unfold w14_TaskOrder
  rw [w14_shown_eq]
  by_cases hlen : (l.length : Int) > 60
  · rw [decide_eq_true hlen]; simp [onlyIf]
  rw [decide_eq_false hlen, show onlyIf (false == false) false (some true) = some true from rfl, Option.bind_some, if_neg (by decide), task_new, Option.bind_some]
  simp only [jn]
  refine lpb_upS l.length (fun i q => q = ⟨l.take (min i 30), 30⟩) (by omega) (by simp) ?_ ?_
  · rintro i _ hi rfl
    left
    simp only [Int.ofNat_lt, hi, decide_true, if_true, ix_at hi, Option.bind_some]
    rw [t_add _ (by simp; omega), Option.bind_some, tad_take hi, w64_nat]
    refine ⟨_, ?_, rfl⟩
    rw [if_neg]
    by_cases c : i < 30
    · simp [c]; omega
    · simp [c]; omega
  · rintro _ rfl
    refine ⟨_, by simp; rfl, ?_⟩
    simp only
    refine lpb_upS (min l.length 30) (fun i q => q = ⟨(l.take (min l.length 30)).drop i, 30⟩) (by omega) (by simp) ?_ ?_
    · rintro i _ hi rfl
      left
      have hil : i < l.length := by omega
      have hlt : i < (l.take (min l.length 30)).length := by simp; omega
      rw [if_pos (by simp; omega), t_next]
      have e : tnx ⟨(l.take (min l.length 30)).drop i, 30⟩ = (⟨(l.take (min l.length 30)).drop (i + 1), 30⟩, l[i], 0) := by
        unfold tnx
        rw [List.drop_eq_getElem_cons hlt]
        simp
      rw [e, Option.bind_some]
      rw [show onlyIf (((0 : Int) != 0) == false) (⟨0, 0, 0⟩ : task_Task) (ix l (i : Int)) = ix l i from rfl, ix_at hil, Option.bind_some, w64_nat, if_neg (by simp)]
      exact ⟨_, rfl, rfl⟩
    · rintro _ rfl
      refine ⟨.inr ⟨(l.take (min l.length 30)).drop (min l.length 30), 30⟩, ?_, ?_⟩
      · rw [if_neg (by simp; omega)]
      · simp only
        rw [List.drop_eq_nil_of_le (by rw [List.length_take]; omega), t_next]
        simp [tnx]

theorem taskTurns {n : Int} (l : List task_Task) (w : Int) (h1 : 0 ≤ n) (h2 : n < 256) : w14_TaskTurns l n w = some true := by
  unfold w14_TaskTurns
  rw [w14_shown_eq]
  by_cases hlen : (l.length : Int) > 30
  · rw [decide_eq_true hlen]; simp [onlyIf]
  rw [decide_eq_false hlen, show onlyIf (false == false) false (some true) = some true from rfl, Option.bind_some, if_neg (by decide), task_new, Option.bind_some]
  simp only [jn]
  refine lpb_upS l.length (fun i q => q = ⟨l.take (min i 30), 30⟩) (by omega) (by simp) ?_ ?_
  · rintro i _ hi rfl
    left
    simp only [Int.ofNat_lt, hi, decide_true, if_true, ix_at hi, Option.bind_some]
    rw [t_add _ (by simp; omega), Option.bind_some, tad_take hi, w64_nat]
    exact ⟨_, rfl, rfl⟩
  · rintro _ rfl
    refine ⟨_, by simp; rfl, ?_⟩
    rw [w64_sm (n := n) (by omega) (by omega), rem_pos h1 (by omega), Option.bind_some]
    obtain ⟨k, hk⟩ : ∃ k : Nat, n % 32 = k := ⟨(n % 32).toNat, by omega⟩
    rw [hk]
    have hk32 : k < 32 := by omega
    have e0 : l.take (min l.length 30) = l := List.take_of_length_le (by omega)
    rw [e0]
    refine lpb_upS k (fun i q => q = ⟨l.drop i, 30⟩) (by omega) (by simp) ?_ ?_
    · rintro i _ hi rfl
      left
      simp only [Int.ofNat_lt, hi, decide_true, if_true]
      rw [t_next, Option.bind_some, w64_nat]
      refine ⟨_, rfl, ?_⟩
      unfold tnx
      rcases Nat.lt_or_ge i l.length with c | c
      · rw [List.drop_eq_getElem_cons c]
      · simp only [List.drop_eq_nil_of_le c, List.drop_eq_nil_of_le (Nat.le_succ_of_le c)]
    · rintro _ rfl
      refine ⟨_, by simp; rfl, ?_⟩
      refine lpb_ind (fun (s : Bool × Int × List Int) => ∃ i : Nat, s.2.1 = ((k + i : Nat) : Int) ∧ (k + i ≤ l.length ∨ i = 0) ∧ s.1 = (((l.drop k).take i).any fun t => t.Kind == 2 && t.At == w) ∧ s.2.2 = (((l.drop k).take i).filter (·.Kind == 1)).map (·.At)) (fun s => l.length - s.2.1.toNat) ⟨0, by simp, .inr rfl, by simp, by simp⟩ (by show l.length - _ < _; omega) ?_
      rintro ⟨b, _, F⟩ ⟨i, rfl, hi, rfl, rfl⟩
      simp only
      rcases Nat.lt_or_ge (k + i) l.length with c | c
      · left
        have hid : i < (l.drop k).length := by simp; omega
        have hel : (l.drop k)[i] = l[k + i] := by simp
        have hF : ((((l.drop k).take i).filter (·.Kind == 1)).map (·.At)).length ≤ 30 := by
          rw [List.length_map]
          exact Nat.le_trans (List.length_filter_le ..) (by simp; omega)
        have f1 := filt_snoc (fun (t : task_Task) => t.Kind == 1) (·.At) (l.drop k) i hid
        have f2 : (((l.drop k).take (i + 1)).any fun t => t.Kind == 2 && t.At == w) = ((((l.drop k).take i).any fun t => t.Kind == 2 && t.At == w) || (l[k + i].Kind == 2 && l[k + i].At == w)) := by
          rw [List.take_succ_eq_append_getElem hid, List.any_append, hel]; simp
        rw [hel] at f1
        simp only [Int.ofNat_lt, c, decide_true, if_true, ix_at c, Option.bind_some]
        have g : ∀ (b : Bool), ∃ x y : task_Task, onlyIf (b == false) (⟨0, 0, 0⟩ : task_Task) (some l[k + i]) = some x ∧ onlyIf (b == false && (x.Kind == 2) == true) (⟨0, 0, 0⟩ : task_Task) (some l[k + i]) = some y ∧ (b || (x.Kind == 2 && y.At == w)) = (b || (l[k + i].Kind == 2 && l[k + i].At == w)) := by
          intro b
          cases b with
          | true => exact ⟨_, _, rfl, rfl, rfl⟩
          | false =>
            by_cases q : (l[k + i].Kind == 2) = true
            · exact ⟨l[k + i], l[k + i], rfl, by rw [q]; rfl, rfl⟩
            · have q : (l[k + i].Kind == 2) = false := by simpa using q
              exact ⟨l[k + i], ⟨0, 0, 0⟩, rfl, by rw [q]; rfl, by rw [q]; rfl⟩
        obtain ⟨x, y, g1, g2, g3⟩ := g (((l.drop k).take i).any fun t => t.Kind == 2 && t.At == w)
        rw [g1, Option.bind_some, g2, Option.bind_some, g3, ← f2]
        by_cases q : (l[k + i].Kind == 1) = true
        · rw [q, if_pos rfl, app_ok (by omega) (by simp only [List.length_cons, List.length_nil]; omega), Option.bind_some, w64_nat]
          refine ⟨_, rfl, ⟨i + 1, by simp; omega, .inl (by omega), rfl, ?_⟩, by simp; omega⟩
          simp only
          rw [f1, if_pos q]
        · have q : (l[k + i].Kind == 1) = false := by simpa using q
          rw [q, if_neg (by decide), w64_nat]
          refine ⟨_, rfl, ⟨i + 1, by simp; omega, .inl (by omega), rfl, ?_⟩, by simp; omega⟩
          simp only
          rw [f1, if_neg (by simp [q])]
          simp
      · right
        refine ⟨_, by rw [if_neg (by simp; omega)], ?_⟩
        have e : (l.drop k).take i = l.drop k := List.take_of_length_le (by simp; omega)
        simp only [e]
        have hl' : (queue_Queue_task_Task.mk (l.drop k) 30).L.length ≤ 1000 := by simp; omega
        rw [t_waits hl', Option.bind_some, t_held hl']
        have hF : (((l.drop k).filter (·.Kind == 1)).map (·.At)).length ≤ 100000 := by
          rw [List.length_map]
          exact Nat.le_trans (List.length_filter_le ..) (by simp; omega)
        rw [beq_self_eq_true]
        simp [onlyIf, ints_refl hF]
end Go.Sh
