/-
  Queues of tasks: what the plain functions come to.
-/
import Derived.Test.YteofjcfbjnfnkaaF14Sh
import Derived.Test.YteofjcfbjnfnkaaSh1
namespace Go.Sh
set_option linter.unusedVariables false
set_option linter.unusedSimpArgs false

abbrev TQ := queue_Queue_task_Task

def tad (q : TQ) (t : task_Task) : TQ × Int := if q.Cap ≤ q.L.length then (q, 4) else (⟨q.L ++ [t], q.Cap⟩, 0)
def tnx (q : TQ) : TQ × task_Task × Int := match q.L with
  | [] => (q, ⟨0, 0, 0⟩, 10)
  | t :: l => (⟨l, q.Cap⟩, t, 0)
theorem tad_len {q : TQ} {t : task_Task} {n : Nat} (h : q.L.length ≤ n) : (tad q t).1.L.length ≤ n + 1 := by
  unfold tad
  split
  · simp; omega
  · simp; omega
theorem tnx_len {q : TQ} {n : Nat} (h : q.L.length ≤ n) : (tnx q).1.L.length ≤ n := by
  unfold tnx
  split
  · exact h
  · rename_i e; rw [e] at h; simp at h ⊢; omega
theorem t_add {q : TQ} (t : task_Task) (h : q.L.length ≤ 1000) : task_Add q t = some (tad q t) := by
  unfold tad
  unfold task_Add queue_Push_task_Task queue_Len_task_Task queue_part_task_Task
  simp only [Option.bind_some]
  by_cases c : q.Cap ≤ q.L.length
  · rw [if_pos (by simpa using c), if_pos c, Option.bind_some]
  · rw [if_neg (by simpa using c), if_neg c]
    have e : cut q.L 0 (q.L.length : Int) = some q.L := by
      have := cut_ok (xs := q.L) (i := 0) (j := q.L.length) (Nat.zero_le _) (Nat.le_refl _)
      simpa using this
    rw [e, Option.bind_some, Option.bind_some, app_ok (by omega) (by simp; omega), Option.bind_some, Option.bind_some]

theorem t_next {q : TQ} : task_Next q = some (tnx q) := by
  unfold tnx
  unfold task_Next queue_Pop_task_Task queue_Drain_task_Task queue_Len_task_Task queue_part_task_Task
  simp only [Option.bind_some]
  cases hl : q.L with
  | nil =>
    have e : cut ([] : List task_Task) 0 0 = some [] := rfl
    simp [e]
  | cons t l =>
    have hm : (if (if (((t :: l).length : Nat) : Int) < 1 then (((t :: l).length : Nat) : Int) else 1) > 0 then (if (((t :: l).length : Nat) : Int) < 1 then (((t :: l).length : Nat) : Int) else 1) else 0) = 1 := by
      rw [if_neg (show ¬ (((t :: l).length : Nat) : Int) < 1 by simp; omega)]
      simp
    rw [hm]
    have e1 : cut (t :: l) 0 1 = some [t] := by
      have := cut_ok (xs := t :: l) (i := 0) (j := 1) (Nat.zero_le _) (by simp)
      simpa using this
    have e2 : cut (t :: l) 1 (((t :: l).length : Nat) : Int) = some l := by
      have := cut_ok (xs := t :: l) (i := 1) (j := (t :: l).length) (by simp) (Nat.le_refl _)
      simpa using this
    rw [e1, e2]
    simp [ix]

theorem filt_snoc {α β : Type} (p : α → Bool) (f : α → β) (l : List α) (k : Nat) (h : k < l.length) : ((l.take (k + 1)).filter p).map f = ((l.take k).filter p).map f ++ (if p l[k] then [f l[k]] else []) := by
  rw [List.take_succ_eq_append_getElem h, List.filter_append, List.map_append]
  congr 1
  simp only [List.filter_cons, List.filter_nil]
  split <;> rfl

theorem t_held {q : TQ} (h : q.L.length ≤ 1000) : task_Held q = some ((q.L.filter (·.Kind == 1)).map (·.At)) := by
  unfold task_Held task_of
  simp only [jn, Option.bind_some]
  refine lpb_upS q.L.length (fun k l => l = ((q.L.take k).filter (·.Kind == 1)).map (·.At)) (by omega) (by simp) ?_ (fun l hl => ⟨_, by simp; rfl, by rw [hl, List.take_length]⟩)
  rintro k l hk rfl
  left
  rw [filt_snoc _ _ _ _ hk]
  simp only [Int.ofNat_lt, hk, decide_true, if_true, ix_at hk, Option.bind_some]
  have hle : (List.map (·.At) (List.filter (·.Kind == 1) (List.take k q.L))).length ≤ 1000 := by
    rw [List.length_map]
    exact Nat.le_trans (List.length_filter_le ..) (by simp; omega)
  by_cases c : (q.L[k].Kind == 1) = true
  · rw [c, if_pos (by decide), app_ok (by omega) (by simp only [List.length_cons, List.length_nil]; omega), Option.bind_some, w64_nat]
    exact ⟨_, rfl, rfl⟩
  · have c : (q.L[k].Kind == 1) = false := by simpa using c
    rw [c, if_neg (by decide), w64_nat]
    exact ⟨_, rfl, by simp⟩

theorem t_waits {q : TQ} {w : Int} (h : q.L.length ≤ 1000) : task_Waits q w = some (q.L.any fun t => t.Kind == 2 && t.At == w) := by
  unfold task_Waits task_of
  simp only [jn, Option.bind_some]
  refine lpb_up q.L.length (fun k => (q.L.take k).any (fun t => t.Kind == 2 && t.At == w) = false) (by omega) (by simp) ?_ (fun hl => ⟨.inr (), by simp, by rw [List.take_length] at hl; rw [hl]⟩)
  intro k hk hP
  simp only [Int.ofNat_lt, hk, decide_true, if_true, ix_at hk, Option.bind_some]
  rw [List.take_succ_eq_append_getElem hk, List.any_append, hP, Bool.false_or]
  by_cases c : (q.L[k].Kind == 2) = true
  · rw [c, if_pos (by decide)]
    by_cases d : (q.L[k].At == w) = true
    · right
      rw [d, if_pos rfl]
      refine ⟨.inl true, rfl, ?_⟩
      simp only [Option.some.injEq]
      symm
      rw [List.any_eq_true]
      exact ⟨_, List.getElem_mem hk, by rw [c, d]; rfl⟩
    · have d : (q.L[k].At == w) = false := by simpa using d
      left
      rw [d, if_neg (by decide), w64_nat]
      exact ⟨rfl, by simp [d]⟩
  · have c : (q.L[k].Kind == 2) = false := by simpa using c
    left
    rw [c, if_neg (by decide), w64_nat]
    exact ⟨rfl, by simp [c]⟩

theorem t_count {q : TQ} {w : Int} (h : q.L.length ≤ 1000) : task_Count q w = some ((q.L.countP fun t => t.Kind == w : Nat) : Int) := by
  unfold task_Count task_of
  simp only [jn, Option.bind_some]
  refine lpb_upS q.L.length (fun k n => n = (((q.L.take k).countP fun t => t.Kind == w : Nat) : Int)) (by omega) (by simp) ?_ (fun l hl => ⟨_, by simp; rfl, by rw [hl, List.take_length]⟩)
  rintro k l hk rfl
  left
  rw [List.take_succ_eq_append_getElem hk, List.countP_append]
  simp only [Int.ofNat_lt, hk, decide_true, if_true, ix_at hk, Option.bind_some]
  have hle : (List.countP (fun t => t.Kind == w) (List.take k q.L)) ≤ 1000 := Nat.le_trans List.countP_le_length (by simp; omega)
  by_cases c : (q.L[k].Kind == w) = true
  · rw [c, if_pos (by decide), w64_nat, w64_nat]
    exact ⟨_, rfl, by simp [c]⟩
  · have c : (q.L[k].Kind == w) = false := by simpa using c
    rw [c, if_neg (by decide), w64_nat]
    exact ⟨_, rfl, by simp [c]⟩

theorem w14_shown_eq : w14_shown = some true := by kernel_rfl

theorem ints_refl {l : List Int} (h : l.length ≤ 100000) : r02_Ints l l = some true := by
  unfold r02_Ints
  rw [if_neg (by simp)]
  simp only [jn]
  refine lpb_up l.length (fun _ => True) (by omega) trivial (fun k hk _ => .inl ⟨?_, trivial⟩) (fun _ => ⟨.inr (), by simp, rfl⟩)
  simp only [Int.ofNat_lt, hk, decide_true, if_true, ix_at hk, Option.bind_some]
  rw [if_neg (by simp), w64_nat]
end Go.Sh
