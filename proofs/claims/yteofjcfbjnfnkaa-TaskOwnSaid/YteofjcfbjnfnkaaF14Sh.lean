/-
  Plain functions: what the functions of the program come to.
-/
import Derived.Test.YteofjcfbjnfnkaaSh0
namespace Go.Sh
set_option linter.unusedVariables false
set_option maxRecDepth 100000
structure task_Task where
  Kind : Int
  At : Int
  Prog : Int

structure queue_Queue_task_Task where
  L : List task_Task
  Cap : Int

structure r14_Task where
  Kind : Int
  At : Int
  Prog : Int

structure r14_Queue where
  L : List r14_Task
  Cap : Int

def queue_New_task_Task (a0 : Int) : Option queue_Queue_task_Task :=
  some (⟨[], a0⟩ : queue_Queue_task_Task)

def task_New : Option queue_Queue_task_Task :=
  (queue_New_task_Task 30).bind fun v1 =>
  some v1

def queue_Len_task_Task (a0 : queue_Queue_task_Task) : Option Int :=
  some (a0.L.length : Int)

def queue_part_task_Task (a0 : List task_Task) (a1 : Int) (a2 : Int) : Option (List task_Task) :=
  (cut a0 a1 a2).bind fun v1 =>
  some v1

def queue_Push_task_Task (a0 : queue_Queue_task_Task) (a1 : task_Task) : Option (queue_Queue_task_Task × Int) :=
  (queue_Len_task_Task a0).bind fun v1 =>
  if (decide (v1 ≥ a0.Cap)) then
    some (a0, 4)
  else
  (queue_part_task_Task a0.L 0 v1).bind fun v2 =>
  (app 24 v2 [a1]).bind fun v3 =>
  some ((⟨v3, a0.Cap⟩ : queue_Queue_task_Task), 0)

def task_Add (a0 : queue_Queue_task_Task) (a1 : task_Task) : Option (queue_Queue_task_Task × Int) :=
  (queue_Push_task_Task a0 a1).bind fun v1 =>
  some (v1.1, v1.2)

def task_of (a0 : queue_Queue_task_Task) (a1 : Int) : Option (queue_Queue_task_Task × Int) :=
  some (a0, a1)

def task_Held (a0 : queue_Queue_task_Task) : Option (List Int) :=
  jn (fun (j10 : List Int) =>
    some j10) (fun κ9 =>
    (task_of a0 1).bind fun v11 =>
    (lp (S := Int × (List Int)) (E := (List Int)) (fun ((s13, s14) : Int × (List Int)) =>
      if (decide (s13 < (v11.1.L.length : Int))) then
        (ix v11.1.L s13).bind fun v17 =>
        if ((v17.Kind == v11.2) == true) then
          (app 8 s14 [v17.At]).bind fun v18 =>
          some (.inl (w64 (s13 + 1), v18))
        else
        some (.inl (w64 (s13 + 1), s14))
      else
      some (.inr s14)) (0, [])).bind fun e12 =>
    κ9 e12)

def queue_Drain_task_Task (a0 : queue_Queue_task_Task) (a1 : Int) : Option (queue_Queue_task_Task × (List task_Task)) :=
  (queue_Len_task_Task a0).bind fun v1 =>
  (queue_part_task_Task a0.L 0 (if (if v1 < a1 then v1 else a1) > 0 then (if v1 < a1 then v1 else a1) else 0)).bind fun v2 =>
  (queue_part_task_Task a0.L (if (if v1 < a1 then v1 else a1) > 0 then (if v1 < a1 then v1 else a1) else 0) v1).bind fun v3 =>
  some ((⟨v3, a0.Cap⟩ : queue_Queue_task_Task), v2)

def queue_Pop_task_Task (a0 : queue_Queue_task_Task) : Option (queue_Queue_task_Task × task_Task × Int) :=
  (queue_Drain_task_Task a0 1).bind fun v1 =>
  if ((v1.2.length : Int) == 0) then
    some (a0, (⟨0, 0, 0⟩ : task_Task), 10)
  else
  (ix v1.2 0).bind fun v2 =>
  some (v1.1, v2, 0)

def task_Next (a0 : queue_Queue_task_Task) : Option (queue_Queue_task_Task × task_Task × Int) :=
  (queue_Pop_task_Task a0).bind fun v1 =>
  some (v1.1, v1.2.1, v1.2.2)

def task_Waits (a0 : queue_Queue_task_Task) (a1 : Int) : Option Bool :=
  jn (fun (_ : Unit) =>
    some false) (fun κ6 =>
    (task_of a0 2).bind fun v8 =>
    (lp (S := Int) (E := Bool ⊕ Unit) (fun (s10 : Int) =>
      if (decide (s10 < (v8.1.L.length : Int))) then
        (ix v8.1.L s10).bind fun v12 =>
        if ((v12.Kind == v8.2) == true) then
          if (v12.At == a1) then
            some (.inr (.inl true))
          else
          some (.inl (w64 (s10 + 1)))
        else
        some (.inl (w64 (s10 + 1)))
      else
      some (.inr (.inr ()))) 0).bind fun e9 =>
    match e9 with
    | .inl w => some w
    | .inr w => κ6 w)

def task_Count (a0 : queue_Queue_task_Task) (a1 : Int) : Option Int :=
  jn (fun (j9 : Int) =>
    some j9) (fun κ8 =>
    (task_of a0 a1).bind fun v10 =>
    (lp (S := Int × Int) (E := Int) (fun ((s12, s13) : Int × Int) =>
      if (decide (s12 < (v10.1.L.length : Int))) then
        (ix v10.1.L s12).bind fun v16 =>
        if ((v16.Kind == v10.2) == true) then
          some (.inl (w64 (s12 + 1), w64 (s13 + 1)))
        else
        some (.inl (w64 (s12 + 1), s13))
      else
      some (.inr s13)) (0, 0)).bind fun e11 =>
    κ8 e11)

def w14_shown : Option Bool :=
  (task_New).bind fun v1 =>
  (task_Add v1 (⟨1, 3, 1⟩ : task_Task)).bind fun v2 =>
  (task_Add v2.1 (⟨2, 1, 0⟩ : task_Task)).bind fun v3 =>
  (task_Add v3.1 (⟨1, 4, 0⟩ : task_Task)).bind fun v4 =>
  (task_Held v4.1).bind fun v5 =>
  (task_Next v4.1).bind fun v6 =>
  (task_Next v1).bind fun v7 =>
  (onlyIf (((v2.2 == 0) && ((v5.length : Int) == 2)) == true) (0 : Int) (ix v5 0)).bind fun v8 =>
  (onlyIf ((((v2.2 == 0) && ((v5.length : Int) == 2)) && (v8 == 3)) == true) (0 : Int) (ix v5 1)).bind fun v9 =>
  (onlyIf ((((((((v2.2 == 0) && ((v5.length : Int) == 2)) && (v8 == 3)) && (v9 == 4)) && ((v6.2.1.Kind == 1) && ((v6.2.1.At == 3) && ((v6.2.1.Prog == 1) && true)))) && (v6.2.2 == 0)) && (v7.2.2 == 10)) == true) false (task_Waits v6.1 1)).bind fun v10 =>
  (onlyIf (((((((((v2.2 == 0) && ((v5.length : Int) == 2)) && (v8 == 3)) && (v9 == 4)) && ((v6.2.1.Kind == 1) && ((v6.2.1.At == 3) && ((v6.2.1.Prog == 1) && true)))) && (v6.2.2 == 0)) && (v7.2.2 == 10)) && v10) == true) false (task_Waits v6.1 4)).bind fun v11 =>
  (onlyIf ((((((((((v2.2 == 0) && ((v5.length : Int) == 2)) && (v8 == 3)) && (v9 == 4)) && ((v6.2.1.Kind == 1) && ((v6.2.1.At == 3) && ((v6.2.1.Prog == 1) && true)))) && (v6.2.2 == 0)) && (v7.2.2 == 10)) && v10) && (!v11)) == true) 0 (task_Count v6.1 1)).bind fun v12 =>
  some (((((((((((v2.2 == 0) && ((v5.length : Int) == 2)) && (v8 == 3)) && (v9 == 4)) && ((v6.2.1.Kind == 1) && ((v6.2.1.At == 3) && ((v6.2.1.Prog == 1) && true)))) && (v6.2.2 == 0)) && (v7.2.2 == 10)) && v10) && (!v11)) && (v12 == 1)) && (v1.Cap == 30))

def w14_its (a0 : queue_Queue_task_Task) : Option r14_Queue :=
  jn (fun (j9 : List r14_Task) =>
    some (⟨j9, a0.Cap⟩ : r14_Queue)) (fun κ8 =>
    (lp (S := Int × (List r14_Task)) (E := (List r14_Task)) (fun ((s11, s12) : Int × (List r14_Task)) =>
      if (decide (s11 < (a0.L.length : Int))) then
        (ix a0.L s11).bind fun v15 =>
        (app 24 s12 [(⟨v15.Kind, v15.At, v15.Prog⟩ : r14_Task)]).bind fun v16 =>
        some (.inl (w64 (s11 + 1), v16))
      else
      some (.inr s12)) (0, [])).bind fun e10 =>
    κ8 e10)

def r14_Add (a0 : r14_Queue) (a1 : r14_Task) : Option (r14_Queue × Int) :=
  if (decide ((a0.L.length : Int) ≥ a0.Cap)) then
    some (a0, 4)
  else
  (app 24 [] a0.L).bind fun v1 =>
  (app 24 v1 [a1]).bind fun v2 =>
  some ((⟨v2, a0.Cap⟩ : r14_Queue), 0)

def r14_Next (a0 : r14_Queue) : Option (r14_Queue × r14_Task × Int) :=
  if ((a0.L.length : Int) == 0) then
    some (a0, (⟨0, 0, 0⟩ : r14_Task), 10)
  else
  (cut a0.L 1 (a0.L.length : Int)).bind fun v1 =>
  (ix a0.L 0).bind fun v2 =>
  some ((⟨v1, a0.Cap⟩ : r14_Queue), v2, 0)

def r14_Same (a0 : r14_Queue) (a1 : r14_Queue) : Option Bool :=
  if ((a0.Cap != a1.Cap) || ((a0.L.length : Int) != (a1.L.length : Int))) then
    some false
  else
  jn (fun (_ : Unit) =>
    some true) (fun κ6 =>
    (lp (S := Int) (E := Bool ⊕ Unit) (fun (s9 : Int) =>
      if (decide (s9 < (a0.L.length : Int))) then
        (ix a0.L s9).bind fun v11 =>
        (ix a1.L s9).bind fun v12 =>
        if (!((v11.Kind == v12.Kind) && ((v11.At == v12.At) && ((v11.Prog == v12.Prog) && true)))) then
          some (.inr (.inl false))
        else
        some (.inl (w64 (s9 + 1)))
      else
      some (.inr (.inr ()))) 0).bind fun e8 =>
    match e8 with
    | .inl w => some w
    | .inr w => κ6 w)

def r14_Held (a0 : r14_Queue) : Option (List Int) :=
  jn (fun (j13 : List Int) =>
    some j13) (fun κ12 =>
    (lp (S := Int × (List Int)) (E := (List Int)) (fun ((s15, s16) : Int × (List Int)) =>
      if (decide (s15 < (a0.L.length : Int))) then
        jn (fun (j22 : List Int) =>
          some (.inl (w64 (s15 + 1), j22))) (fun κ21 =>
          (ix a0.L s15).bind fun v23 =>
          if (v23.Kind == 1) then
            (app 8 s16 [v23.At]).bind fun v24 =>
            κ21 v24
          else
          κ21 s16)
      else
      some (.inr s16)) (0, [])).bind fun e14 =>
    κ12 e14)

def r02_Ints (a0 : List Int) (a1 : List Int) : Option Bool :=
  if ((a0.length : Int) != (a1.length : Int)) then
    some false
  else
  jn (fun (_ : Unit) =>
    some true) (fun κ6 =>
    (lp (S := Int) (E := Bool ⊕ Unit) (fun (s9 : Int) =>
      if (decide (s9 < (a0.length : Int))) then
        (ix a0 s9).bind fun v11 =>
        (ix a1 s9).bind fun v12 =>
        if (v11 != v12) then
          some (.inr (.inl false))
        else
        some (.inl (w64 (s9 + 1)))
      else
      some (.inr (.inr ()))) 0).bind fun e8 =>
    match e8 with
    | .inl w => some w
    | .inr w => κ6 w)

def r14_Waits (a0 : r14_Queue) (a1 : Int) : Option Bool :=
  jn (fun (_ : Unit) =>
    some false) (fun κ5 =>
    (lp (S := Int) (E := Bool ⊕ Unit) (fun (s8 : Int) =>
      if (decide (s8 < (a0.L.length : Int))) then
        (ix a0.L s8).bind fun v10 =>
        if ((v10.Kind == 2) && (v10.At == a1)) then
          some (.inr (.inl true))
        else
        some (.inl (w64 (s8 + 1)))
      else
      some (.inr (.inr ()))) 0).bind fun e7 =>
    match e7 with
    | .inl w => some w
    | .inr w => κ5 w)

def r14_Count (a0 : r14_Queue) (a1 : Int) : Option Int :=
  jn (fun (j11 : Int) =>
    some j11) (fun κ10 =>
    (lp (S := Int × Int) (E := Int) (fun ((s13, s14) : Int × Int) =>
      if (decide (s14 < (a0.L.length : Int))) then
        jn (fun (j19 : Int) =>
          some (.inl (j19, w64 (s14 + 1)))) (fun κ18 =>
          (ix a0.L s14).bind fun v20 =>
          if (v20.Kind == a1) then
            κ18 (w64 (s13 + 1))
          else
          κ18 s13)
      else
      some (.inr s13)) (0, 0)).bind fun e12 =>
    κ10 e12)

def w14_TaskActs (a0 : queue_Queue_task_Task) (a1 : task_Task) (a2 : Int) : Option Bool :=
  (onlyIf ((decide ((a0.L.length : Int) > 60)) == false) false w14_shown).bind fun v1 =>
  if ((decide ((a0.L.length : Int) > 60)) || (!v1)) then
    (w14_shown).bind fun v2 =>
    some v2
  else
  (w14_its a0).bind fun v3 =>
  (task_Add a0 a1).bind fun v4 =>
  (r14_Add v3 (⟨a1.Kind, a1.At, a1.Prog⟩ : r14_Task)).bind fun v5 =>
  (task_Next a0).bind fun v6 =>
  (r14_Next v3).bind fun v7 =>
  (w14_its v4.1).bind fun v8 =>
  (r14_Same v8 v5.1).bind fun v9 =>
  (onlyIf ((v9 && (v4.2 == v5.2)) == true) ⟨[], 0⟩ (w14_its v6.1)).bind fun v10 =>
  (onlyIf ((v9 && (v4.2 == v5.2)) == true) false (r14_Same v10 v7.1)).bind fun v11 =>
  (onlyIf (((((v9 && (v4.2 == v5.2)) && v11) && ((v6.2.1.Kind == v7.2.1.Kind) && ((v6.2.1.At == v7.2.1.At) && ((v6.2.1.Prog == v7.2.1.Prog) && true)))) && (v6.2.2 == v7.2.2)) == true) [] (task_Held a0)).bind fun v12 =>
  (onlyIf (((((v9 && (v4.2 == v5.2)) && v11) && ((v6.2.1.Kind == v7.2.1.Kind) && ((v6.2.1.At == v7.2.1.At) && ((v6.2.1.Prog == v7.2.1.Prog) && true)))) && (v6.2.2 == v7.2.2)) == true) [] (r14_Held v3)).bind fun v13 =>
  (onlyIf (((((v9 && (v4.2 == v5.2)) && v11) && ((v6.2.1.Kind == v7.2.1.Kind) && ((v6.2.1.At == v7.2.1.At) && ((v6.2.1.Prog == v7.2.1.Prog) && true)))) && (v6.2.2 == v7.2.2)) == true) false (r02_Ints v12 v13)).bind fun v14 =>
  (onlyIf ((((((v9 && (v4.2 == v5.2)) && v11) && ((v6.2.1.Kind == v7.2.1.Kind) && ((v6.2.1.At == v7.2.1.At) && ((v6.2.1.Prog == v7.2.1.Prog) && true)))) && (v6.2.2 == v7.2.2)) && v14) == true) false (task_Waits a0 a2)).bind fun v15 =>
  (onlyIf ((((((v9 && (v4.2 == v5.2)) && v11) && ((v6.2.1.Kind == v7.2.1.Kind) && ((v6.2.1.At == v7.2.1.At) && ((v6.2.1.Prog == v7.2.1.Prog) && true)))) && (v6.2.2 == v7.2.2)) && v14) == true) false (r14_Waits v3 a2)).bind fun v16 =>
  (onlyIf (((((((v9 && (v4.2 == v5.2)) && v11) && ((v6.2.1.Kind == v7.2.1.Kind) && ((v6.2.1.At == v7.2.1.At) && ((v6.2.1.Prog == v7.2.1.Prog) && true)))) && (v6.2.2 == v7.2.2)) && v14) && (v15 == v16)) == true) 0 (task_Count a0 a2)).bind fun v17 =>
  (onlyIf (((((((v9 && (v4.2 == v5.2)) && v11) && ((v6.2.1.Kind == v7.2.1.Kind) && ((v6.2.1.At == v7.2.1.At) && ((v6.2.1.Prog == v7.2.1.Prog) && true)))) && (v6.2.2 == v7.2.2)) && v14) && (v15 == v16)) == true) 0 (r14_Count v3 a2)).bind fun v18 =>
  some (((((((v9 && (v4.2 == v5.2)) && v11) && ((v6.2.1.Kind == v7.2.1.Kind) && ((v6.2.1.At == v7.2.1.At) && ((v6.2.1.Prog == v7.2.1.Prog) && true)))) && (v6.2.2 == v7.2.2)) && v14) && (v15 == v16)) && (v17 == v18))

def w14_TaskOrder (a0 : List task_Task) : Option Bool :=
  (onlyIf ((decide ((a0.length : Int) > 60)) == false) false w14_shown).bind fun v1 =>
  if ((decide ((a0.length : Int) > 60)) || (!v1)) then
    (w14_shown).bind fun v2 =>
    some v2
  else
  (task_New).bind fun v3 =>
  jn (fun (j12 : queue_Queue_task_Task) =>
    jn (fun (j21 : queue_Queue_task_Task) =>
      (task_Next j21).bind fun v22 =>
      some (v22.2.2 == 10)) (fun κ20 =>
      (lp (S := Int × queue_Queue_task_Task) (E := Bool ⊕ queue_Queue_task_Task) (fun ((s24, s25) : Int × queue_Queue_task_Task) =>
        if ((decide (s24 < (a0.length : Int))) && (decide (s24 < 30))) then
          (task_Next s25).bind fun v28 =>
          (onlyIf ((v28.2.2 != 0) == false) (⟨0, 0, 0⟩ : task_Task) (ix a0 s24)).bind fun v29 =>
          if ((v28.2.2 != 0) || (!((v28.2.1.Kind == v29.Kind) && ((v28.2.1.At == v29.At) && ((v28.2.1.Prog == v29.Prog) && true))))) then
            some (.inr (.inl false))
          else
          some (.inl (w64 (s24 + 1), v28.1))
        else
        some (.inr (.inr s25))) (0, j12)).bind fun e23 =>
      match e23 with
      | .inl w => some w
      | .inr w => κ20 w)) (fun κ11 =>
    (lp (S := Int × queue_Queue_task_Task) (E := Bool ⊕ queue_Queue_task_Task) (fun ((s31, s32) : Int × queue_Queue_task_Task) =>
      if (decide (s31 < (a0.length : Int))) then
        (ix a0 s31).bind fun v35 =>
        (task_Add s32 v35).bind fun v36 =>
        if ((v36.2 == 0) != (decide (s31 < 30))) then
          some (.inr (.inl false))
        else
        some (.inl (w64 (s31 + 1), v36.1))
      else
      some (.inr (.inr s32))) (0, v3)).bind fun e30 =>
    match e30 with
    | .inl w => some w
    | .inr w => κ11 w)

def w14_TaskCounts (a0 : queue_Queue_task_Task) (a1 : task_Task) (a2 : Int) : Option Bool :=
  (onlyIf ((decide ((a0.L.length : Int) > 60)) == false) false w14_shown).bind fun v1 =>
  if ((decide ((a0.L.length : Int) > 60)) || (!v1)) then
    (w14_shown).bind fun v2 =>
    some v2
  else
  (task_Add a0 a1).bind fun v3 =>
  if (v3.2 != 0) then
    (task_Count v3.1 a2).bind fun v4 =>
    (task_Count a0 a2).bind fun v5 =>
    some (v4 == v5)
  else
  jn (fun (j7 : Int) =>
    (task_Held v3.1).bind fun v8 =>
    (task_Count v3.1 a2).bind fun v9 =>
    (task_Count a0 a2).bind fun v10 =>
    (onlyIf ((((v9 == (w64 (v10 + j7))) == true) && ((a1.Kind != 1) == false)) && ((decide ((v8.length : Int) > 0)) == true)) (0 : Int) (ix v8 (w64 ((v8.length : Int) - 1)))).bind fun v11 =>
    (onlyIf ((((v9 == (w64 (v10 + j7))) && ((a1.Kind != 1) || ((decide ((v8.length : Int) > 0)) && (v11 == a1.At)))) == true) && ((a1.Kind != 2) == false)) false (task_Waits v3.1 a1.At)).bind fun v12 =>
    (onlyIf ((((v9 == (w64 (v10 + j7))) && ((a1.Kind != 1) || ((decide ((v8.length : Int) > 0)) && (v11 == a1.At)))) && ((a1.Kind != 2) || v12)) == true) 0 (task_Count v3.1 1)).bind fun v13 =>
    some ((((v9 == (w64 (v10 + j7))) && ((a1.Kind != 1) || ((decide ((v8.length : Int) > 0)) && (v11 == a1.At)))) && ((a1.Kind != 2) || v12)) && ((v8.length : Int) == v13))) (fun κ6 =>
    if (a1.Kind == a2) then
      κ6 1
    else
    κ6 0)

def w14_TaskTurns (a0 : List task_Task) (a1 : Int) (a2 : Int) : Option Bool :=
  (onlyIf ((decide ((a0.length : Int) > 30)) == false) false w14_shown).bind fun v1 =>
  if ((decide ((a0.length : Int) > 30)) || (!v1)) then
    (w14_shown).bind fun v2 =>
    some v2
  else
  (task_New).bind fun v3 =>
  jn (fun (j12 : queue_Queue_task_Task) =>
    (rem (w64 a1) 32).bind fun v13 =>
    jn (fun (j21 : queue_Queue_task_Task) =>
      jn (fun ((j41, j42) : Bool × (List Int)) =>
        (task_Waits j21 a2).bind fun v44 =>
        (onlyIf ((v44 == j41) == true) [] (task_Held j21)).bind fun v45 =>
        (onlyIf ((v44 == j41) == true) false (r02_Ints v45 j42)).bind fun v46 =>
        some ((v44 == j41) && v46)) (fun κ40 =>
        (lp (S := Bool × Int × (List Int)) (E := (Bool × (List Int))) (fun ((s48, s49, s50) : Bool × Int × (List Int)) =>
          if (decide (s49 < (a0.length : Int))) then
            jn (fun ((j58, j59) : Bool × (List Int)) =>
              some (.inl (j58, w64 (s49 + 1), j59))) (fun κ57 =>
              (onlyIf (s48 == false) (⟨0, 0, 0⟩ : task_Task) (ix a0 s49)).bind fun v61 =>
              (onlyIf ((s48 == false) && ((v61.Kind == 2) == true)) (⟨0, 0, 0⟩ : task_Task) (ix a0 s49)).bind fun v62 =>
              (ix a0 s49).bind fun v63 =>
              if (v63.Kind == 1) then
                (app 8 s50 [v63.At]).bind fun v64 =>
                κ57 ((s48 || ((v61.Kind == 2) && (v62.At == a2))), v64)
              else
              κ57 ((s48 || ((v61.Kind == 2) && (v62.At == a2))), s50))
          else
          some (.inr (s48, s50))) (false, v13, [])).bind fun e47 =>
        κ40 e47)) (fun κ20 =>
      (lp (S := Int × queue_Queue_task_Task) (E := queue_Queue_task_Task) (fun ((s66, s67) : Int × queue_Queue_task_Task) =>
        if (decide (s66 < v13)) then
          (task_Next s67).bind fun v70 =>
          some (.inl (w64 (s66 + 1), v70.1))
        else
        some (.inr s67)) (0, j12)).bind fun e65 =>
      κ20 e65)) (fun κ11 =>
    (lp (S := Int × queue_Queue_task_Task) (E := queue_Queue_task_Task) (fun ((s72, s73) : Int × queue_Queue_task_Task) =>
      if (decide (s72 < (a0.length : Int))) then
        (ix a0 s72).bind fun v76 =>
        (task_Add s73 v76).bind fun v77 =>
        some (.inl (w64 (s72 + 1), v77.1))
      else
      some (.inr s73)) (0, v3)).bind fun e71 =>
    κ11 e71)

def w14_TaskOwn (a0 : queue_Queue_task_Task) (a1 : task_Task) (a2 : task_Task) : Option Bool :=
  (onlyIf ((decide ((a0.L.length : Int) > 60)) == false) false w14_shown).bind fun v1 =>
  if ((decide ((a0.L.length : Int) > 60)) || (!v1)) then
    (w14_shown).bind fun v2 =>
    some v2
  else
  (task_Add a0 a1).bind fun v3 =>
  (task_Add a0 a2).bind fun v4 =>
  if (v3.2 != 0) then
    some (((v4.2 == v3.2) && ((v3.1.L.length : Int) == (a0.L.length : Int))) && ((v4.1.L.length : Int) == (a0.L.length : Int)))
  else
  (onlyIf ((((v4.2 == 0) && ((v3.1.L.length : Int) == (w64 ((a0.L.length : Int) + 1)))) && ((v4.1.L.length : Int) == (w64 ((a0.L.length : Int) + 1)))) == true) (⟨0, 0, 0⟩ : task_Task) (ix v3.1.L (a0.L.length : Int))).bind fun v5 =>
  (onlyIf (((((v4.2 == 0) && ((v3.1.L.length : Int) == (w64 ((a0.L.length : Int) + 1)))) && ((v4.1.L.length : Int) == (w64 ((a0.L.length : Int) + 1)))) && ((v5.Kind == a1.Kind) && ((v5.At == a1.At) && ((v5.Prog == a1.Prog) && true)))) == true) (⟨0, 0, 0⟩ : task_Task) (ix v4.1.L (a0.L.length : Int))).bind fun v6 =>
  some (((((v4.2 == 0) && ((v3.1.L.length : Int) == (w64 ((a0.L.length : Int) + 1)))) && ((v4.1.L.length : Int) == (w64 ((a0.L.length : Int) + 1)))) && ((v5.Kind == a1.Kind) && ((v5.At == a1.At) && ((v5.Prog == a1.Prog) && true)))) && ((v6.Kind == a2.Kind) && ((v6.At == a2.At) && ((v6.Prog == a2.Prog) && true))))

end Go.Sh
