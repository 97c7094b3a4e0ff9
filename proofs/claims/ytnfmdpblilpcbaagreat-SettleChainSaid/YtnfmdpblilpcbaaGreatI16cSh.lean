/-
 Plain functions: what the functions of the program come to.
-/
import Derived.Test.YtnfmdpblilpcbaaGreatI16cSh0
import Derived.Test.YtnfmdpblilpcbaaGreatI16cPwD
namespace Go.Sh
set_option linter.unusedVariables false
set_option maxRecDepth 100000
noncomputable section
structure store_Obj where
 Serial : Int
 Strong : Int
 Weak : Int
 Prog : Int
 Started : Bool
 Fields : List Int
structure slab_Cell_store_Obj where
 State : Int
 Gen : Int
 Val : store_Obj
structure slab_Slab_store_Obj where
 Cells : List slab_Cell_store_Obj
 Last : Int
structure store_Store where
 S : slab_Slab_store_Obj
 Serial : Int
structure weak_Cell where
 Target : Int
 Intact : Bool
 Call : Int
structure hash_Place where
 State : Int
 Key : Int
 Val : Int
structure task_Task where
 Kind : Int
 At : Int
 Prog : Int
instance : BEq task_Task := ⟨fun a b => ((a.Kind == b.Kind) && ((a.At == b.At) && ((a.Prog == b.Prog) && true)))⟩
theorem task_Task.beq_eq (a b : task_Task) (h : (a == b) = true) : a = b := by
 have h : ((a.Kind == b.Kind) && ((a.At == b.At) && ((a.Prog == b.Prog) && true))) = true := h
 simp only [Bool.and_eq_true, beq_iff_eq, and_true] at h
 obtain ⟨h0, h1, h2⟩ := h
 cases a; cases b; simp_all
structure queue_Queue_task_Task where
 L : List task_Task
 Cap : Int
structure hold_Heap where
 S : store_Store
 Roots : List Int
 Cells : List weak_Cell
 T : List hash_Place
 Q : queue_Queue_task_Task
structure r06_Obj where
 Serial : Int
 Strong : Int
 Weak : Int
 Prog : Int
 Started : Bool
 Fields : List Int
structure r06_Cell where
 State : Int
 Gen : Int
 Val : r06_Obj
structure r09_Cell where
 Target : Int
 Intact : Bool
 Call : Int
structure r10_Place where
 State : Int
 Key : Int
 Val : Int
structure r14_Task where
 Kind : Int
 At : Int
 Prog : Int
structure r06_Store where
 Cells : List r06_Cell
 Last : Int
 Serial : Int
structure r14_Queue where
 L : List r14_Task
 Cap : Int
structure r15_Heap where
 S : r06_Store
 Roots : List Int
 Cells : List r09_Cell
 T : List r10_Place
 Q : r14_Queue
structure r03_Cell where
 State : Int
 Gen : Int
 Val : Int
structure r03_Slab where
 Cells : List r03_Cell
 Last : Int
structure r11_Pair where
 Key : Int
 Val : Int
structure hold_fieldPlace where
 h : Int
 k : Int
 v : Int
structure store_rule where
 kept : Fv
structure ephem_Pair where
 Key : Int
 Val : Int
structure hold_rootPlace where
 r : Int
 h : Int
def w16_small (a0 : store_Store) : Option Bool :=
 jn (fun (_ : Unit) =>
  some (decide ((a0.S.Cells.length : Int) ≤ 30))) (fun κ5 =>
  (lp (S := Int) (E := Bool ⊕ Unit) (fun (s8 : Int) =>
   if ((decide (s8 < (a0.S.Cells.length : Int))) && (decide (s8 < 30))) then
    (ix a0.S.Cells s8).bind fun v10 =>
    if (decide ((v10.Val.Fields.length : Int) > 10)) then
     some (.inr (.inl false))
    else
    some (.inl (w64 (s8 + 1)))
   else
   some (.inr (.inr ()))) 0).bind fun e7 =>
  match e7 with
  | .inl w => some w
  | .inr w => κ5 w)
def w16_few (a0 : hold_Heap) : Option Bool :=
 (w16_small a0.S).bind fun v1 =>
 some ((((v1 && (decide ((a0.Roots.length : Int) ≤ 20))) && (decide ((a0.Cells.length : Int) ≤ 20))) && (decide ((a0.T.length : Int) ≤ 20))) && (decide ((a0.Q.L.length : Int) ≤ 60)))
def w16_obj (a0 : store_Obj) : Option r06_Obj :=
 some (⟨a0.Serial, a0.Strong, a0.Weak, a0.Prog, a0.Started, a0.Fields⟩ : r06_Obj)
def w16_its (a0 : store_Store) : Option r06_Store :=
 jn (fun (j10 : List r06_Cell) =>
  some (⟨j10, a0.S.Last, a0.Serial⟩ : r06_Store)) (fun κ9 =>
  (lp (S := Int × (List r06_Cell)) (E := (List r06_Cell)) (fun ((s12, s13) : Int × (List r06_Cell)) =>
   if (decide (s12 < (a0.S.Cells.length : Int))) then
    (ix a0.S.Cells s12).bind fun v16 =>
    (w16_obj v16.Val).bind fun v17 =>
    (app 80 s13 [(⟨v16.State, v16.Gen, v17⟩ : r06_Cell)]).bind fun v18 =>
    some (.inl (w64 (s12 + 1), v18))
   else
   some (.inr s13)) (0, [])).bind fun e11 =>
  κ9 e11)
def w16_cells (a0 : List weak_Cell) : Option (List r09_Cell) :=
 jn (fun (j9 : List r09_Cell) =>
  some j9) (fun κ8 =>
  (lp (S := Int × (List r09_Cell)) (E := (List r09_Cell)) (fun ((s11, s12) : Int × (List r09_Cell)) =>
   if (decide (s11 < (a0.length : Int))) then
    (ix a0 s11).bind fun v15 =>
    (app 24 s12 [(⟨v15.Target, v15.Intact, v15.Call⟩ : r09_Cell)]).bind fun v16 =>
    some (.inl (w64 (s11 + 1), v16))
   else
   some (.inr s12)) (0, [])).bind fun e10 =>
  κ8 e10)
def w16_tab (a0 : List hash_Place) : Option (List r10_Place) :=
 jn (fun (j9 : List r10_Place) =>
  some j9) (fun κ8 =>
  (lp (S := Int × (List r10_Place)) (E := (List r10_Place)) (fun ((s11, s12) : Int × (List r10_Place)) =>
   if (decide (s11 < (a0.length : Int))) then
    (ix a0 s11).bind fun v15 =>
    (app 24 s12 [(⟨v15.State, v15.Key, v15.Val⟩ : r10_Place)]).bind fun v16 =>
    some (.inl (w64 (s11 + 1), v16))
   else
   some (.inr s12)) (0, [])).bind fun e10 =>
  κ8 e10)
def w16_tasks (a0 : queue_Queue_task_Task) : Option r14_Queue :=
 jn (fun (j9 : List r14_Task) =>
  some (⟨j9, a0.Cap⟩ : r14_Queue)) (fun κ8 =>
  (lp (S := Int × (List r14_Task)) (E := (List r14_Task)) (fun ((s11, s12) : Int × (List r14_Task)) =>
   if (decide (s11 < (a0.L.length : Int))) then
    (ix a0.L s11).bind fun v15 =>
    (app 24 s12 [(⟨v15.Kind, v15.At, v15.Prog⟩ : r14_Task)]).bind fun v16 =>
    some (.inl (w64 (s11 + 1), v16))
   else
   some (.inr s12)) (0, [])).bind fun e10 =>
  κ8 e10)
def w16_heap (a0 : hold_Heap) : Option r15_Heap :=
 (w16_its a0.S).bind fun v1 =>
 (w16_cells a0.Cells).bind fun v2 =>
 (w16_tab a0.T).bind fun v3 =>
 (w16_tasks a0.Q).bind fun v4 =>
 some (⟨v1, a0.Roots, v2, v3, v4⟩ : r15_Heap)
def r06_Plain (a0 : r06_Store) : Option r03_Slab :=
 jn (fun (j9 : List r03_Cell) =>
  some (⟨j9, a0.Last⟩ : r03_Slab)) (fun κ8 =>
  (lp (S := Int × (List r03_Cell)) (E := (List r03_Cell)) (fun ((s11, s12) : Int × (List r03_Cell)) =>
   if (decide (s11 < (a0.Cells.length : Int))) then
    (ix a0.Cells s11).bind fun v15 =>
    (app 24 s12 [(⟨v15.State, v15.Gen, s11⟩ : r03_Cell)]).bind fun v16 =>
    some (.inl (w64 (s11 + 1), v16))
   else
   some (.inr s12)) (0, [])).bind fun e10 =>
  κ8 e10)
def r03_Right (a0 : r03_Slab) : Option Bool :=
 if (((decide ((a0.Cells.length : Int) > 24)) || (decide (a0.Last < 0))) || (decide (a0.Last > 9))) then
  some false
 else
 jn (fun (_ : Unit) =>
  some true) (fun κ5 =>
  (lp (S := Int) (E := Bool ⊕ Unit) (fun (s8 : Int) =>
   if (decide (s8 < (a0.Cells.length : Int))) then
    (ix a0.Cells s8).bind fun v10 =>
    if ((((decide (v10.State < 0)) || (decide (v10.State > 3))) || (decide (v10.Gen < 0))) || (decide (v10.Gen > a0.Last))) then
     some (.inr (.inl false))
    else
    some (.inl (w64 (s8 + 1)))
   else
   some (.inr (.inr ()))) 0).bind fun e7 =>
  match e7 with
  | .inl w => some w
  | .inr w => κ5 w)
def r06_there (a0 : r06_Cell) : Option Bool :=
 some ((a0.State == 1) || (a0.State == 2))
def r06_Right (a0 : r06_Store) : Option Bool :=
 (r06_Plain a0).bind fun v1 =>
 (r03_Right v1).bind fun v2 =>
 if ((!v2) || (decide (a0.Serial < 0))) then
  some false
 else
 jn (fun (_ : Unit) =>
  some true) (fun κ22 =>
  (lp (S := Int) (E := Bool ⊕ Unit) (fun (s25 : Int) =>
   if (decide (s25 < (a0.Cells.length : Int))) then
    jn (fun (_ : Unit) =>
     some (.inl (w64 (s25 + 1)))) (fun κ34 =>
     (ix a0.Cells s25).bind fun v36 =>
     (r06_there v36).bind fun v37 =>
     if (!v37) then
      if ((((((v36.Val.Serial != 0) || (v36.Val.Strong != 0)) || (v36.Val.Weak != 0)) || (v36.Val.Prog != 0)) || v36.Val.Started) || ((v36.Val.Fields.length : Int) != 0)) then
       some (.inr (.inl false))
      else
      κ34 ()
     else
     if (((((((decide (v36.Val.Serial < 1)) || (decide (v36.Val.Serial > a0.Serial))) || (decide (v36.Val.Strong < 0))) || (decide (v36.Val.Weak < 0))) || (decide (v36.Val.Prog < (-1)))) || (decide (v36.Val.Prog > 5))) || (decide ((v36.Val.Fields.length : Int) > 4))) then
      some (.inr (.inl false))
     else
     (lp (S := Int) (E := Bool ⊕ Unit) (fun (s39 : Int) =>
      if (decide (s39 < s25)) then
       (ix a0.Cells s39).bind fun v41 =>
       (r06_there v41).bind fun v42 =>
       if (v42 && (v41.Val.Serial == v36.Val.Serial)) then
        some (.inr (.inl false))
       else
       some (.inl (w64 (s39 + 1)))
      else
      some (.inr (.inr ()))) 0).bind fun e38 =>
     match e38 with
     | .inl w => some (.inr (.inl w))
     | .inr w => κ34 w)
   else
   some (.inr (.inr ()))) 0).bind fun e24 =>
  match e24 with
  | .inl w => some w
  | .inr w => κ22 w)
def r10_Find (a0 : List r10_Place) (a1 : Int) : Option Int :=
 jn (fun (_ : Unit) =>
  some (-1)) (fun κ5 =>
  (lp (S := Int) (E := Int ⊕ Unit) (fun (s8 : Int) =>
   if (decide (s8 < (a0.length : Int))) then
    (ix a0 s8).bind fun v10 =>
    if ((v10.State == 1) && (v10.Key == a1)) then
     some (.inr (.inl s8))
    else
    some (.inl (w64 (s8 + 1)))
   else
   some (.inr (.inr ()))) 0).bind fun e7 =>
  match e7 with
  | .inl w => some w
  | .inr w => κ5 w)
def r10_Home (a0 : Int) (a1 : Int) : Option Int :=
 if (decide (a0 < 1)) then
  some 0
 else
 (rem (w64 ((w64 (5 * a1)) + 1)) a0).bind fun v1 =>
 if (decide (v1 < 0)) then
  some (w64 (v1 + a0))
 else
 some v1
def r10_Right (a0 : List r10_Place) : Option Bool :=
 if ((decide ((a0.length : Int) < 1)) || (decide ((a0.length : Int) > 8))) then
  some false
 else
 jn (fun (_ : Unit) =>
  some true) (fun κ22 =>
  (lp (S := Int) (E := Bool ⊕ Unit) (fun (s25 : Int) =>
   if (decide (s25 < (a0.length : Int))) then
    jn (fun (_ : Unit) =>
     some (.inl (w64 (s25 + 1)))) (fun κ35 =>
     (ix a0 s25).bind fun v37 =>
     if (((decide (v37.State < 0)) || (decide (v37.State > 2))) || ((v37.State != 1) && ((v37.Key != 0) || (v37.Val != 0)))) then
      some (.inr (.inl false))
     else
     if (v37.State != 1) then
      κ35 ()
     else
     (r10_Find a0 v37.Key).bind fun v38 =>
     if (v38 != s25) then
      some (.inr (.inl false))
     else
     (r10_Home (a0.length : Int) v37.Key).bind fun v39 =>
     (lp (S := Int) (E := Bool ⊕ Unit) (fun (s41 : Int) =>
      if (s41 != s25) then
       (ix a0 s41).bind fun v43 =>
       if (v43.State == 0) then
        some (.inr (.inl false))
       else
       (rem (w64 (s41 + 1)) (a0.length : Int)).bind fun v44 =>
       some (.inl v44)
      else
      some (.inr (.inr ()))) v39).bind fun e40 =>
     match e40 with
     | .inl w => some (.inr (.inl w))
     | .inr w => κ35 w)
   else
   some (.inr (.inr ()))) 0).bind fun e24 =>
  match e24 with
  | .inl w => some w
  | .inr w => κ22 w)
def r01_Pack (a0 : Int) (a1 : Int) : Option Int :=
 if ((((decide (a0 < 0)) || (decide (a0 > 23))) || (decide (a1 < 0))) || (decide (a1 > 9))) then
  some 0
 else
 some (w64 ((w64 (1 + a0)) + (w64 (32 * a1))))
def r01_Valid (a0 : Int) : Option Bool :=
 if ((decide (a0 < 1)) || (decide (a0 > 400))) then
  some false
 else
 (rem (w64 (a0 - 1)) 32).bind fun v1 =>
 (quo .i64 (w64 (a0 - 1)) 32).bind fun v2 =>
 (r01_Pack v1 v2).bind fun v3 =>
 some (v3 == a0)
def r01_Slot (a0 : Int) : Option Int :=
 (r01_Valid a0).bind fun v1 =>
 if (!v1) then
  some (-1)
 else
 (rem (w64 (a0 - 1)) 32).bind fun v2 =>
 some v2
def r01_Gen (a0 : Int) : Option Int :=
 (r01_Valid a0).bind fun v1 =>
 if (!v1) then
  some (-1)
 else
 (quo .i64 (w64 (a0 - 1)) 32).bind fun v2 =>
 some v2
def r03_Find (a0 : r03_Slab) (a1 : Int) : Option (Int × Int) :=
 if (a1 == 0) then
  some ((-1), 2)
 else
 (r01_Slot a1).bind fun v1 =>
 if ((decide (v1 < 0)) || (decide (v1 ≥ (a0.Cells.length : Int)))) then
  some ((-1), 3)
 else
 (ix a0.Cells v1).bind fun v2 =>
 (r01_Gen a1).bind fun v3 =>
 if ((v2.Gen != v3) || ((v2.State != 1) && (v2.State != 2))) then
  some ((-1), 3)
 else
 some (v1, 0)
def r03_Get (a0 : r03_Slab) (a1 : Int) : Option (Int × Int) :=
 (r03_Find a0 a1).bind fun v1 =>
 if (v1.2 != 0) then
  some (0, v1.2)
 else
 (ix a0.Cells v1.1).bind fun v2 =>
 if (v2.State == 2) then
  some (0, 3)
 else
 some (v2.Val, 0)
def r06_Get (a0 : r06_Store) (a1 : Int) : Option (r06_Obj × Int) :=
 (r06_Plain a0).bind fun v1 =>
 (r03_Get v1 a1).bind fun v2 =>
 if (v2.2 != 0) then
  some ((⟨0, 0, 0, 0, false, []⟩ : r06_Obj), v2.2)
 else
 (ix a0.Cells v2.1).bind fun v3 =>
 some (v3.Val, 0)
def r15_tasks (a0 : r15_Heap) : Option Bool :=
 jn (fun (_ : Unit) =>
  some ((a0.Q.Cap == 30) && (decide ((a0.Q.L.length : Int) ≤ 30)))) (fun κ30 =>
  (lp (S := Int) (E := Bool ⊕ Unit) (fun (s33 : Int) =>
   if (decide (s33 < (a0.Q.L.length : Int))) then
    jn (fun (_ : Unit) =>
     some (.inl (w64 (s33 + 1)))) (fun κ47 =>
     (ix a0.Q.L s33).bind fun v49 =>
     if ((((v49.Kind != 1) && (v49.Kind != 2)) || (decide (v49.Prog < 0))) || (decide (v49.Prog > 5))) then
      some (.inr (.inl false))
     else
     jn (fun (_ : Unit) =>
      (r06_Get a0.S v49.At).bind fun v56 =>
      if (((v49.Kind == 1) && ((v56.2 != 0) || (!v56.1.Started))) || ((v49.Kind == 2) && ((decide (v49.At < 0)) || (decide (v49.At > 5))))) then
       some (.inr (.inl false))
      else
      κ47 ()) (fun κ54 =>
      (lp (S := Int) (E := Bool ⊕ Unit) (fun (s58 : Int) =>
       if (decide (s58 < s33)) then
        (ix a0.Q.L s58).bind fun v60 =>
        if ((v60.Kind == v49.Kind) && (v60.At == v49.At)) then
         some (.inr (.inl false))
        else
        some (.inl (w64 (s58 + 1)))
       else
       some (.inr (.inr ()))) 0).bind fun e57 =>
      match e57 with
      | .inl w => some (.inr (.inl w))
      | .inr w => κ54 w))
   else
   some (.inr (.inr ()))) 0).bind fun e32 =>
  match e32 with
  | .inl w => some w
  | .inr w => κ30 w)
def r15_Lives (a0 : r15_Heap) (a1 : Int) : Option Bool :=
 (r06_Get a0.S a1).bind fun v1 =>
 some (v1.2 == 0)
def r15_maybe (a0 : r15_Heap) (a1 : Int) : Option Bool :=
 (onlyIf ((a1 == 0) == false) false (r15_Lives a0 a1)).bind fun v1 =>
 some ((a1 == 0) || v1)
def r06_Sorted (a0 : r06_Store) (a1 : List Int) : Option (List Int) :=
 (app 8 [] a1).bind fun v1 =>
 jn (fun (j36 : List Int) =>
  some j36) (fun κ35 =>
  (lp (S := Int × (List Int)) (E := (List Int)) (fun ((s38, s39) : Int × (List Int)) =>
   if (decide (s38 < (s39.length : Int))) then
    jn (fun (j56 : List Int) =>
     some (.inl (w64 (s38 + 1), j56))) (fun κ55 =>
     (lp (S := Int × (List Int)) (E := (List Int)) (fun ((s58, s59) : Int × (List Int)) =>
      if (decide (s58 > 0)) then
       (r06_Plain a0).bind fun v62 =>
       (ix s59 (w64 (s58 - 1))).bind fun v63 =>
       (r03_Find v62 v63).bind fun v64 =>
       (ix s59 s58).bind fun v65 =>
       (r03_Find v62 v65).bind fun v66 =>
       (onlyIf (((decide (v64.1 < 0)) || (decide (v66.1 < 0))) == false) (⟨0, 0, ⟨0, 0, 0, 0, false, []⟩⟩ : r06_Cell) (ix a0.Cells v64.1)).bind fun v67 =>
       (onlyIf (((decide (v64.1 < 0)) || (decide (v66.1 < 0))) == false) (⟨0, 0, ⟨0, 0, 0, 0, false, []⟩⟩ : r06_Cell) (ix a0.Cells v66.1)).bind fun v68 =>
       if (((decide (v64.1 < 0)) || (decide (v66.1 < 0))) || (decide (v67.Val.Serial ≤ v68.Val.Serial))) then
        some (.inr s59)
       else
       (ix (s59.set (s58).toNat v63) (w64 (s58 - 1))).bind fun v69 =>
       some (.inl (w64 (s58 - 1), ((s59.set (s58).toNat v63).set (w64 (s58 - 1)).toNat v65)))
      else
      some (.inr s59)) (s38, s39)).bind fun e57 =>
     κ55 e57)
   else
   some (.inr s39)) (1, v1)).bind fun e37 =>
  κ35 e37)
def r06_Live (a0 : r06_Store) : Option (List Int) :=
 jn (fun (j15 : List Int) =>
  (r06_Sorted a0 j15).bind fun v16 =>
  some v16) (fun κ14 =>
  (lp (S := Int × (List Int)) (E := (List Int)) (fun ((s18, s19) : Int × (List Int)) =>
   if (decide (s18 < (a0.Cells.length : Int))) then
    jn (fun (j26 : List Int) =>
     some (.inl (w64 (s18 + 1), j26))) (fun κ25 =>
     (ix a0.Cells s18).bind fun v27 =>
     if (v27.State == 1) then
      (r01_Pack s18 v27.Gen).bind fun v28 =>
      (app 8 s19 [v28]).bind fun v29 =>
      κ25 v29
     else
     κ25 s19)
   else
   some (.inr s19)) (0, [])).bind fun e17 =>
  κ14 e17)
def r10_Keys (a0 : List r10_Place) : Option (List Int) :=
 jn (fun (j13 : List Int) =>
  some j13) (fun κ12 =>
  (lp (S := Int × (List Int)) (E := (List Int)) (fun ((s15, s16) : Int × (List Int)) =>
   if (decide (s15 < (a0.length : Int))) then
    jn (fun (j22 : List Int) =>
     some (.inl (w64 (s15 + 1), j22))) (fun κ21 =>
     (ix a0 s15).bind fun v23 =>
     if (v23.State == 1) then
      (app 8 s16 [v23.Key]).bind fun v24 =>
      κ21 v24
     else
     κ21 s16)
   else
   some (.inr s16)) (0, [])).bind fun e14 =>
  κ12 e14)
def r10_Get (a0 : List r10_Place) (a1 : Int) : Option (Int × Int) :=
 (r10_Find a0 a1).bind fun v1 =>
 if (decide (v1 < 0)) then
  some (0, 9)
 else
 (ix a0 v1).bind fun v2 =>
 some (v2.Val, 0)
def r11_Pairs (a0 : List r10_Place) : Option (List r11_Pair) :=
 (r10_Keys a0).bind fun v1 =>
 jn (fun (j11 : List r11_Pair) =>
  some j11) (fun κ10 =>
  (lp (S := Int × (List r11_Pair)) (E := (List r11_Pair)) (fun ((s13, s14) : Int × (List r11_Pair)) =>
   if (decide (s13 < (v1.length : Int))) then
    (ix v1 s13).bind fun v17 =>
    (r10_Get a0 v17).bind fun v18 =>
    (app 16 s14 [(⟨v17, v18.1⟩ : r11_Pair)]).bind fun v19 =>
    some (.inl (w64 (s13 + 1), v19))
   else
   some (.inr s14)) (0, [])).bind fun e12 =>
  κ10 e12)
def r15_names (a0 : r15_Heap) : Option Bool :=
 jn (fun (_ : Unit) =>
  (r06_Live a0.S).bind fun v8 =>
  jn (fun (_ : Unit) =>
   (r11_Pairs a0.T).bind fun v30 =>
   jn (fun (_ : Unit) =>
    some true) (fun κ37 =>
    (lp (S := Int) (E := Bool ⊕ Unit) (fun (s40 : Int) =>
     if (decide (s40 < (v30.length : Int))) then
      (ix v30 s40).bind fun v42 =>
      (r15_Lives a0 v42.Key).bind fun v43 =>
      (onlyIf ((!v43) == false) false (r15_Lives a0 v42.Val)).bind fun v44 =>
      if ((!v43) || (!v44)) then
       some (.inr (.inl false))
      else
      some (.inl (w64 (s40 + 1)))
     else
     some (.inr (.inr ()))) 0).bind fun e39 =>
    match e39 with
    | .inl w => some w
    | .inr w => κ37 w)) (fun κ28 =>
   (lp (S := Int) (E := Bool ⊕ Unit) (fun (s46 : Int) =>
    if (decide (s46 < (v8.length : Int))) then
     jn (fun (_ : Unit) =>
      some (.inl (w64 (s46 + 1)))) (fun κ55 =>
      (ix v8 s46).bind fun v57 =>
      (r06_Get a0.S v57).bind fun v58 =>
      (lp (S := Int) (E := Bool ⊕ Unit) (fun (s60 : Int) =>
       if (decide (s60 < (v58.1.Fields.length : Int))) then
        (ix v58.1.Fields s60).bind fun v62 =>
        (r15_maybe a0 v62).bind fun v63 =>
        if (!v63) then
         some (.inr (.inl false))
        else
        some (.inl (w64 (s60 + 1)))
       else
       some (.inr (.inr ()))) 0).bind fun e59 =>
      match e59 with
      | .inl w => some (.inr (.inl w))
      | .inr w => κ55 w)
    else
    some (.inr (.inr ()))) 0).bind fun e45 =>
   match e45 with
   | .inl w => some w
   | .inr w => κ28 w)) (fun κ6 =>
  (lp (S := Int) (E := Bool ⊕ Unit) (fun (s65 : Int) =>
   if (decide (s65 < (a0.Roots.length : Int))) then
    (ix a0.Roots s65).bind fun v67 =>
    (r15_maybe a0 v67).bind fun v68 =>
    if (!v68) then
     some (.inr (.inl false))
    else
    some (.inl (w64 (s65 + 1)))
   else
   some (.inr (.inr ()))) 0).bind fun e64 =>
  match e64 with
  | .inl w => some w
  | .inr w => κ6 w)
def r14_Waits (a0 : r14_Queue) (a1 : Int) : Option Bool :=
 jn (fun (_ : Unit) =>
  some false) (fun κ5 =>
  (lp (S := Int) (E := Bool ⊕ Unit) (fun (s8 : Int) =>
   if (decide (s8 < (a0.L.length : Int))) then
    (ix a0.L s8).bind fun v10 =>
    if ((v10.Kind == 2) && (v10.At == a1)) then
     some (.inr (.inl true))
    else
    some (.inl (w64 (s8 + 1)))
   else
   some (.inr (.inr ()))) 0).bind fun e7 =>
  match e7 with
  | .inl w => some w
  | .inr w => κ5 w)
def r15_cells (a0 : r15_Heap) : Option Bool :=
 jn (fun (_ : Unit) =>
  some true) (fun κ9 =>
  (lp (S := Int) (E := Bool ⊕ Unit) (fun (s12 : Int) =>
   if (decide (s12 < (a0.Cells.length : Int))) then
    (ix a0.Cells s12).bind fun v14 =>
    (r06_Plain a0.S).bind fun v15 =>
    (r03_Find v15 v14.Target).bind fun v16 =>
    (onlyIf ((((((decide (v14.Call < (-1))) || (decide (v14.Call > 5))) || ((v14.Target == 0) && v14.Intact)) || ((v14.Target != 0) && (v16.2 != 0))) == false) && (v14.Intact == true)) false (r15_Lives a0 v14.Target)).bind fun v17 =>
    (onlyIf (((((((decide (v14.Call < (-1))) || (decide (v14.Call > 5))) || ((v14.Target == 0) && v14.Intact)) || ((v14.Target != 0) && (v16.2 != 0))) == false) && (v14.Intact == true)) && ((!v17) == false)) false (r14_Waits a0.Q s12)).bind fun v18 =>
    if (((((decide (v14.Call < (-1))) || (decide (v14.Call > 5))) || ((v14.Target == 0) && v14.Intact)) || ((v14.Target != 0) && (v16.2 != 0))) || (v14.Intact && ((!v17) || v18))) then
     some (.inr (.inl false))
    else
    some (.inl (w64 (s12 + 1)))
   else
   some (.inr (.inr ()))) 0).bind fun e11 =>
  match e11 with
  | .inl w => some w
  | .inr w => κ9 w)
def r03_Handle (a0 : Int) (a1 : Int) : Option Int :=
 (r01_Pack a0 a1).bind fun v1 =>
 some v1
def r09_Naming (a0 : List r09_Cell) (a1 : Int) : Option Int :=
 jn (fun (j11 : Int) =>
  some j11) (fun κ10 =>
  (lp (S := Int × Int) (E := Int) (fun ((s13, s14) : Int × Int) =>
   if (decide (s14 < (a0.length : Int))) then
    jn (fun (j19 : Int) =>
     some (.inl (j19, w64 (s14 + 1)))) (fun κ18 =>
     (ix a0 s14).bind fun v20 =>
     if ((v20.Target == a1) && (a1 != 0)) then
      κ18 (w64 (s13 + 1))
     else
     κ18 s13)
   else
   some (.inr s13)) (0, 0)).bind fun e12 =>
  κ10 e12)
def r15_weaks (a0 : r15_Heap) : Option Bool :=
 jn (fun (_ : Unit) =>
  some true) (fun κ12 =>
  (lp (S := Int) (E := Bool ⊕ Unit) (fun (s15 : Int) =>
   if (decide (s15 < (a0.S.Cells.length : Int))) then
    jn (fun (_ : Unit) =>
     some (.inl (w64 (s15 + 1)))) (fun κ20 =>
     (ix a0.S.Cells s15).bind fun v22 =>
     if ((v22.State != 1) && (v22.State != 2)) then
      κ20 ()
     else
     (r03_Handle s15 v22.Gen).bind fun v23 =>
     (r09_Naming a0.Cells v23).bind fun v24 =>
     if ((v22.Val.Weak != v24) || ((v22.State == 2) && (((decide (v22.Val.Weak < 1)) || (decide ((v22.Val.Fields.length : Int) > 0))) || (v22.Val.Strong != 0)))) then
      some (.inr (.inl false))
     else
     κ20 ())
   else
   some (.inr (.inr ()))) 0).bind fun e14 =>
  match e14 with
  | .inl w => some w
  | .inr w => κ12 w)
def r14_Held (a0 : r14_Queue) : Option (List Int) :=
 jn (fun (j13 : List Int) =>
  some j13) (fun κ12 =>
  (lp (S := Int × (List Int)) (E := (List Int)) (fun ((s15, s16) : Int × (List Int)) =>
   if (decide (s15 < (a0.L.length : Int))) then
    jn (fun (j22 : List Int) =>
     some (.inl (w64 (s15 + 1), j22))) (fun κ21 =>
     (ix a0.L s15).bind fun v23 =>
     if (v23.Kind == 1) then
      (app 8 s16 [v23.At]).bind fun v24 =>
      κ21 v24
     else
     κ21 s16)
   else
   some (.inr s16)) (0, [])).bind fun e14 =>
  κ12 e14)
def r15_Outer (a0 : r15_Heap) : Option (List Int) :=
 jn (fun (j13 : List Int) =>
  (r14_Held a0.Q).bind fun v14 =>
  (app 8 j13 v14).bind fun v15 =>
  some v15) (fun κ12 =>
  (lp (S := Int × (List Int)) (E := (List Int)) (fun ((s17, s18) : Int × (List Int)) =>
   if (decide (s17 < (a0.Roots.length : Int))) then
    jn (fun (j24 : List Int) =>
     some (.inl (w64 (s17 + 1), j24))) (fun κ23 =>
     (ix a0.Roots s17).bind fun v25 =>
     if (v25 != 0) then
      (app 8 s18 [v25]).bind fun v26 =>
      κ23 v26
     else
     κ23 s18)
   else
   some (.inr s18)) (0, [])).bind fun e16 =>
  κ12 e16)
def r04_Stuck (a0 : Int) : Option Bool :=
 some (decide (a0 ≥ 12))
def r13_stuck (a0 : r06_Store) (a1 : Int) : Option Bool :=
 (r06_Get a0 a1).bind fun v1 =>
 (r04_Stuck v1.1.Strong).bind fun v2 =>
 some v2
def r05_Names (a0 : List Int) : Option (List Int) :=
 jn (fun (j13 : List Int) =>
  some j13) (fun κ12 =>
  (lp (S := Int × (List Int)) (E := (List Int)) (fun ((s15, s16) : Int × (List Int)) =>
   if (decide (s15 < (a0.length : Int))) then
    jn (fun (j22 : List Int) =>
     some (.inl (w64 (s15 + 1), j22))) (fun κ21 =>
     (ix a0 s15).bind fun v23 =>
     if (v23 != 0) then
      (app 8 s16 [v23]).bind fun v24 =>
      κ21 v24
     else
     κ21 s16)
   else
   some (.inr s16)) (0, [])).bind fun e14 =>
  κ12 e14)
def r07_Out (a0 : r06_Store) (a1 : Int) : Option (List Int) :=
 (r06_Get a0 a1).bind fun v1 =>
 if (v1.2 != 0) then
  some []
 else
 (r05_Names v1.1.Fields).bind fun v2 =>
 some v2
def r07_Times (a0 : List Int) (a1 : Int) : Option Int :=
 jn (fun (j11 : Int) =>
  some j11) (fun κ10 =>
  (lp (S := Int × Int) (E := Int) (fun ((s13, s14) : Int × Int) =>
   if (decide (s14 < (a0.length : Int))) then
    jn (fun (j19 : Int) =>
     some (.inl (j19, w64 (s14 + 1)))) (fun κ18 =>
     (ix a0 s14).bind fun v20 =>
     if ((v20 == a1) && (a1 != 0)) then
      κ18 (w64 (s13 + 1))
     else
     κ18 s13)
   else
   some (.inr s13)) (0, 0)).bind fun e12 =>
  κ10 e12)
def r07_In (a0 : r06_Store) (a1 : Int) : Option Int :=
 (r06_Live a0).bind fun v1 =>
 jn (fun (j11 : Int) =>
  some j11) (fun κ10 =>
  (lp (S := Int × Int) (E := Int) (fun ((s13, s14) : Int × Int) =>
   if (decide (s14 < (v1.length : Int))) then
    (ix v1 s14).bind fun v17 =>
    (r07_Out a0 v17).bind fun v18 =>
    (r07_Times v18 a1).bind fun v19 =>
    some (.inl (w64 (s13 + v19), w64 (s14 + 1)))
   else
   some (.inr s13)) (0, 0)).bind fun e12 =>
  κ10 e12)
def r11_Owned (a0 : List r10_Place) (a1 : Int) : Option Int :=
 (r11_Pairs a0).bind fun v1 =>
 jn (fun (j12 : Int) =>
  some j12) (fun κ11 =>
  (lp (S := Int × Int) (E := Int) (fun ((s14, s15) : Int × Int) =>
   if (decide (s15 < (v1.length : Int))) then
    jn (fun (j20 : Int) =>
     some (.inl (j20, w64 (s15 + 1)))) (fun κ19 =>
     (ix v1 s15).bind fun v21 =>
     if ((v21.Val == a1) && (a1 != 0)) then
      κ19 (w64 (s14 + 1))
     else
     κ19 s14)
   else
   some (.inr s14)) (0, 0)).bind fun e13 =>
  κ11 e13)
def r13_Inner (a0 : r06_Store) (a1 : List r10_Place) (a2 : Int) : Option Int :=
 (r07_In a0 a2).bind fun v1 =>
 (r11_Owned a1 a2).bind fun v2 =>
 some (w64 (v1 + v2))
def r13_Rest (a0 : r06_Store) (a1 : List r10_Place) (a2 : Int) : Option Int :=
 (r06_Get a0 a2).bind fun v1 =>
 if (v1.2 != 0) then
  some 0
 else
 (r13_Inner a0 a1 a2).bind fun v2 =>
 some (w64 (v1.1.Strong - v2))
def r13_Fair (a0 : r06_Store) (a1 : List r10_Place) (a2 : List Int) : Option Bool :=
 (r06_Live a0).bind fun v1 =>
 jn (fun (_ : Unit) =>
  some true) (fun κ9 =>
  (lp (S := Int) (E := Bool ⊕ Unit) (fun (s12 : Int) =>
   if (decide (s12 < (v1.length : Int))) then
    (ix v1 s12).bind fun v14 =>
    (r13_stuck a0 v14).bind fun v15 =>
    (onlyIf ((!v15) == true) 0 (r13_Rest a0 a1 v14)).bind fun v16 =>
    (onlyIf ((!v15) == true) 0 (r07_Times a2 v14)).bind fun v17 =>
    if ((!v15) && (v16 != v17)) then
     some (.inr (.inl false))
    else
    some (.inl (w64 (s12 + 1)))
   else
   some (.inr (.inr ()))) 0).bind fun e11 =>
  match e11 with
  | .inl w => some w
  | .inr w => κ9 w)
def r15_Right (a0 : r15_Heap) : Option Bool :=
 (r06_Right a0.S).bind fun v1 =>
 (onlyIf ((!v1) == false) false (r10_Right a0.T)).bind fun v2 =>
 if ((((!v1) || (!v2)) || ((a0.Roots.length : Int) != 6)) || ((a0.Cells.length : Int) != 6)) then
  some false
 else
 (r15_tasks a0).bind fun v3 =>
 (onlyIf (v3 == true) false (r15_names a0)).bind fun v4 =>
 (onlyIf ((v3 && v4) == true) false (r15_cells a0)).bind fun v5 =>
 (onlyIf (((v3 && v4) && v5) == true) false (r15_weaks a0)).bind fun v6 =>
 (onlyIf ((((v3 && v4) && v5) && v6) == true) [] (r15_Outer a0)).bind fun v7 =>
 (onlyIf ((((v3 && v4) && v5) && v6) == true) false (r13_Fair a0.S a0.T v7)).bind fun v8 =>
 some ((((v3 && v4) && v5) && v6) && v8)
def w16_sound (a0 : hold_Heap) : Option Bool :=
 (w16_few a0).bind fun v1 =>
 (onlyIf ((v1 && (decide (a0.S.Serial < 1000000000))) == true) ⟨⟨[], 0, 0⟩, [], [], [], ⟨[], 0⟩⟩ (w16_heap a0)).bind fun v2 =>
 (onlyIf ((v1 && (decide (a0.S.Serial < 1000000000))) == true) false (r15_Right v2)).bind fun v3 =>
 some ((v1 && (decide (a0.S.Serial < 1000000000))) && v3)
def slab_New_store_Obj (a0 : Int) (a1 : Int) : Option slab_Slab_store_Obj :=
 if ((((decide (a0 < 0)) || (decide (a0 > 24))) || (decide (a1 < 0))) || (decide (a1 > 9))) then
  some (⟨[], 0⟩ : slab_Slab_store_Obj)
 else
 (mk 80 a0 (⟨0, 0, ⟨0, 0, 0, 0, false, []⟩⟩ : slab_Cell_store_Obj)).bind fun v1 =>
 some (⟨v1, a1⟩ : slab_Slab_store_Obj)
def store_New (a0 : Int) (a1 : Int) : Option store_Store :=
 (slab_New_store_Obj a0 a1).bind fun v1 =>
 some (⟨v1, 0⟩ : store_Store)
def weak_New (a0 : Int) : Option (List weak_Cell) :=
 if ((decide (a0 < 0)) || (decide (a0 > 6))) then
  some []
 else
 (mk 24 a0 (⟨0, false, 0⟩ : weak_Cell)).bind fun v1 =>
 jn (fun (j9 : List weak_Cell) =>
  some j9) (fun κ8 =>
  (lp (S := Int × (List weak_Cell)) (E := (List weak_Cell)) (fun ((s11, s12) : Int × (List weak_Cell)) =>
   if (decide (s11 < (v1.length : Int))) then
    (ix s12 s11).bind fun v15 =>
    some (.inl (w64 (s11 + 1), (s12.set (s11).toNat (⟨v15.Target, v15.Intact, (-1)⟩ : weak_Cell))))
   else
   some (.inr s12)) (0, v1)).bind fun e10 =>
  κ8 e10)
def hash_New (a0 : Int) : Option (List hash_Place) :=
 if ((decide (a0 < 1)) || (decide (a0 > 8))) then
  some []
 else
 (mk 24 a0 (⟨0, 0, 0⟩ : hash_Place)).bind fun v1 =>
 some v1
def queue_New_task_Task (a0 : Int) : Option queue_Queue_task_Task :=
 some (⟨[], a0⟩ : queue_Queue_task_Task)
def task_New : Option queue_Queue_task_Task :=
 (queue_New_task_Task 30).bind fun v1 =>
 some v1
def hold_New (a0 : Int) (a1 : Int) (a2 : Int) : Option hold_Heap :=
 if ((((((decide (a0 < 1)) || (decide (a0 > 24))) || (decide (a1 < 0))) || (decide (a1 > 9))) || (decide (a2 < 1))) || (decide (a2 > 8))) then
  some (⟨⟨⟨[], 0⟩, 0⟩, [], [], [], ⟨[], 0⟩⟩ : hold_Heap)
 else
 (store_New a0 a1).bind fun v1 =>
 (mk 8 6 (0 : Int)).bind fun v2 =>
 (weak_New 6).bind fun v3 =>
 (hash_New a2).bind fun v4 =>
 (task_New).bind fun v5 =>
 some (⟨v1, v2, v3, v4, v5⟩ : hold_Heap)
def vec_New (a0 : Int) : Option ((List Int) × Int) :=
 if ((decide (a0 < 0)) || (decide (a0 > 4))) then
  some ([], 1)
 else
 (mk 8 a0 (0 : Int)).bind fun v1 =>
 some (v1, 0)
def store_programFits (a0 : Int) : Option Bool :=
 some ((decide (a0 ≥ (-1))) && (decide (a0 < 6)))
def slab_free_store_Obj (a0 : slab_Slab_store_Obj) : Option slab_Slab_store_Obj :=
 some a0
def slices_Clone_slab_Cell_store_Obj_slab_Cell_store_Obj (a0 : List slab_Cell_store_Obj) : Option (List slab_Cell_store_Obj) :=
 app 80 [] a0
def slab_with_store_Obj (a0 : slab_Slab_store_Obj) (a1 : Int) (a2 : slab_Cell_store_Obj) : Option slab_Slab_store_Obj :=
 (slices_Clone_slab_Cell_store_Obj_slab_Cell_store_Obj a0.Cells).bind fun v1 =>
 (ix v1 a1).bind fun v2 =>
 some (⟨(v1.set (a1).toNat a2), a0.Last⟩ : slab_Slab_store_Obj)
def handle_Pack (a0 : Int) (a1 : Int) : Option Int :=
 if ((((decide (a0 < 0)) || (decide (a0 ≥ 24))) || (decide (a1 < 0))) || (decide (a1 > 9))) then
  some 0
 else
 some (w64 ((w64 (1 + (w64 (a0 * 1)))) + (w64 (a1 * 32))))
def slab_Take_store_Obj (a0 : slab_Slab_store_Obj) (a1 : store_Obj) : Option (slab_Slab_store_Obj × Int × Int) :=
 jn (fun (_ : Unit) =>
  some (a0, 0, 4)) (fun κ9 =>
  (slab_free_store_Obj a0).bind fun v11 =>
  (lp (S := Int) (E := (slab_Slab_store_Obj × Int × Int) ⊕ Unit) (fun (s13 : Int) =>
   if (decide (s13 < (v11.Cells.length : Int))) then
    (ix v11.Cells s13).bind fun v15 =>
    if ((v15.State == 0) == true) then
     (ix a0.Cells s13).bind fun v16 =>
     (slab_with_store_Obj a0 s13 (⟨1, v16.Gen, a1⟩ : slab_Cell_store_Obj)).bind fun v17 =>
     (handle_Pack s13 v16.Gen).bind fun v18 =>
     some (.inr (.inl (v17, v18, 0)))
    else
    some (.inl (w64 (s13 + 1)))
   else
   some (.inr (.inr ()))) 0).bind fun e12 =>
  match e12 with
  | .inl w => some w
  | .inr w => κ9 w)
def store_Make (a0 : store_Store) (a1 : Int) (a2 : Int) : Option (store_Store × Int × Int) :=
 (vec_New a1).bind fun v1 =>
 if (v1.2 != 0) then
  some (a0, 0, v1.2)
 else
 (store_programFits a2).bind fun v2 =>
 if (!v2) then
  some (a0, 0, 13)
 else
 (slab_Take_store_Obj a0.S (⟨w64 (a0.Serial + 1), 0, 0, a2, false, v1.1⟩ : store_Obj)).bind fun v3 =>
 if (v3.2.2 != 0) then
  some (a0, 0, v3.2.2)
 else
 some ((⟨v3.1, w64 (a0.Serial + 1)⟩ : store_Store), v3.2.1, 0)
def handle_parts (a0 : Int) : Option (Int × Int × Bool) :=
 if (decide (a0 < 1)) then
  some ((-1), (-1), false)
 else
 (rem (w64 (a0 - 1)) 32).bind fun v1 =>
 (quo .i64 v1 1).bind fun v2 =>
 (quo .i64 (w64 (a0 - 1)) 32).bind fun v3 =>
 if ((decide (v2 ≥ 24)) || (decide (v3 > 9))) then
  some ((-1), (-1), false)
 else
 some (v2, v3, true)
def handle_Slot (a0 : Int) : Option Int :=
 (handle_parts a0).bind fun v1 =>
 some v1.1
def handle_Gen (a0 : Int) : Option Int :=
 (handle_parts a0).bind fun v1 =>
 some v1.2.1
def slab_Find_store_Obj (a0 : slab_Slab_store_Obj) (a1 : Int) : Option (Int × Int) :=
 if (a1 == 0) then
  some ((-1), 2)
 else
 (handle_Slot a1).bind fun v1 =>
 if ((decide (v1 < 0)) || (decide (v1 ≥ (a0.Cells.length : Int)))) then
  some ((-1), 3)
 else
 (ix a0.Cells v1).bind fun v2 =>
 (handle_Gen a1).bind fun v3 =>
 if ((v2.Gen != v3) || ((v2.State != 1) && (v2.State != 2))) then
  some ((-1), 3)
 else
 some (v1, 0)
def slab_Get_store_Obj (a0 : slab_Slab_store_Obj) (a1 : Int) : Option (store_Obj × Int) :=
 (slab_Find_store_Obj a0 a1).bind fun v1 =>
 if (v1.2 != 0) then
  some ((⟨0, 0, 0, 0, false, []⟩ : store_Obj), v1.2)
 else
 (ix a0.Cells v1.1).bind fun v2 =>
 if (v2.State == 2) then
  some ((⟨0, 0, 0, 0, false, []⟩ : store_Obj), 3)
 else
 some (v2.Val, 0)
def store_Get (a0 : store_Store) (a1 : Int) : Option (store_Obj × Int) :=
 (slab_Get_store_Obj a0.S a1).bind fun v1 =>
 some (v1.1, v1.2)
def vec_has (a0 : List Int) (a1 : Int) : Option Bool :=
 some ((decide (a1 ≥ 0)) && (decide (a1 < (a0.length : Int))))
def vec_At (a0 : List Int) (a1 : Int) : Option (Int × Int) :=
 (vec_has a0 a1).bind fun v1 =>
 if (!v1) then
  some (0, 5)
 else
 (ix a0 a1).bind fun v2 =>
 some (v2, 0)
def store_Field (a0 : store_Store) (a1 : Int) (a2 : Int) : Option (Int × Int) :=
 (store_Get a0 a1).bind fun v1 =>
 if (v1.2 != 0) then
  some (0, v1.2)
 else
 (vec_At v1.1.Fields a2).bind fun v2 =>
 some (v2.1, v2.2)
def hold_isLive (a0 : hold_Heap) (a1 : Int) : Option Bool :=
 (store_Get a0.S a1).bind fun v1 =>
 some (v1.2 == 0)
def hold_nameable (a0 : hold_Heap) (a1 : Int) : Option Bool :=
 (onlyIf ((a1 == 0) == false) false (hold_isLive a0 a1)).bind fun v1 =>
 some ((a1 == 0) || v1)
def count_tally_stuck (a0 : Int) : Option Bool :=
 some (decide (a0 ≥ 12))
def count_tally_up (a0 : Int) : Option (Int × Int) :=
 (count_tally_stuck a0).bind fun v1 =>
 if v1 then
  some (12, 0)
 else
 some (w64 ((if 0 > a0 then 0 else a0) + 1), 0)
def count_Inc (a0 : Int) : Option Int :=
 (count_tally_up a0).bind fun v1 =>
 some v1.1
def slab_Set_store_Obj (a0 : slab_Slab_store_Obj) (a1 : Int) (a2 : store_Obj) : Option (slab_Slab_store_Obj × Int) :=
 (slab_Find_store_Obj a0 a1).bind fun v1 =>
 if (v1.2 != 0) then
  some (a0, v1.2)
 else
 (ix a0.Cells v1.1).bind fun v2 =>
 (slab_with_store_Obj a0 v1.1 (⟨v2.State, v2.Gen, a2⟩ : slab_Cell_store_Obj)).bind fun v3 =>
 some (v3, 0)
def store_Set (a0 : store_Store) (a1 : Int) (a2 : store_Obj) : Option (store_Store × Int) :=
 (slab_Set_store_Obj a0.S a1 a2).bind fun v1 =>
 some ((⟨v1.1, a0.Serial⟩ : store_Store), v1.2)
def hold_counted__count_Inc (a0 : hold_Heap) (a1 : Int) : Option hold_Heap :=
 (store_Get a0.S a1).bind fun v1 =>
 if (v1.2 == 0) then
  (count_Inc v1.1.Strong).bind fun v2 =>
  (store_Set a0.S a1 (⟨v1.1.Serial, v2, v1.1.Weak, v1.1.Prog, v1.1.Started, v1.1.Fields⟩ : store_Obj)).bind fun v3 =>
  some (⟨v3.1, a0.Roots, a0.Cells, a0.T, a0.Q⟩ : hold_Heap)
 else
 some a0
def hold_Retain (a0 : hold_Heap) (a1 : Int) : Option hold_Heap :=
 (hold_counted__count_Inc a0 a1).bind fun v1 =>
 some v1
def vec_With (a0 : List Int) (a1 : Int) (a2 : Int) : Option ((List Int) × Int) :=
 (vec_has a0 a1).bind fun v1 =>
 if (!v1) then
  some (a0, 5)
 else
 (mk 8 (a0.length : Int) (0 : Int)).bind fun v2 =>
 (cpy v2 a0).bind fun v3 =>
 (ix v3 a1).bind fun v4 =>
 some ((v3.set (a1).toNat a2), 0)
def store_Put (a0 : store_Store) (a1 : Int) (a2 : Int) (a3 : Int) : Option (store_Store × Int) :=
 (store_Get a0 a1).bind fun v1 =>
 if (v1.2 != 0) then
  some (a0, v1.2)
 else
 (vec_With v1.1.Fields a2 a3).bind fun v2 =>
 if (v2.2 != 0) then
  some (a0, v2.2)
 else
 (store_Set a0 a1 (⟨v1.1.Serial, v1.1.Strong, v1.1.Weak, v1.1.Prog, v1.1.Started, v2.1⟩ : store_Obj)).bind fun v3 =>
 some (v3.1, v3.2)
def hold_fieldPlace_say (a0 : hold_fieldPlace) (a1 : hold_Heap) : Option hold_Heap :=
 (store_Put a1.S a0.h a0.k a0.v).bind fun v1 =>
 some (⟨v1.1, a1.Roots, a1.Cells, a1.T, a1.Q⟩ : hold_Heap)
def count_tally_down (a0 : Int) : Option (Int × Int) :=
 (count_tally_stuck a0).bind fun v1 =>
 if v1 then
  some (12, 0)
 else
 if (decide (a0 < 1)) then
  some (0, 11)
 else
 some (w64 (a0 - 1), 0)
def count_Dec (a0 : Int) : Option (Int × Int) :=
 (count_tally_down a0).bind fun v1 =>
 some (v1.1, v1.2)
def hold_Release_1 (a0 : Int) : Option Int :=
 (count_Dec a0).bind fun v1 =>
 if (v1.2 != 0) then
  some a0
 else
 some v1.1
def hold_counted__hold_Release_1 (a0 : hold_Heap) (a1 : Int) : Option hold_Heap :=
 (store_Get a0.S a1).bind fun v1 =>
 if (v1.2 == 0) then
  (hold_Release_1 v1.1.Strong).bind fun v2 =>
  (store_Set a0.S a1 (⟨v1.1.Serial, v2, v1.1.Weak, v1.1.Prog, v1.1.Started, v1.1.Fields⟩ : store_Obj)).bind fun v3 =>
  some (⟨v3.1, a0.Roots, a0.Cells, a0.T, a0.Q⟩ : hold_Heap)
 else
 some a0
def hold_Release (a0 : hold_Heap) (a1 : Int) : Option hold_Heap :=
 (hold_counted__hold_Release_1 a0 a1).bind fun v1 =>
 some v1
def hold_turned__hold_fieldPlace_say (a0 : hold_Heap) (a1 : Int) (a2 : Int) (a3 : hold_fieldPlace) : Option hold_Heap :=
 (hold_Retain a0 a2).bind fun v1 =>
 (hold_fieldPlace_say a3 v1).bind fun v2 =>
 (hold_Release v2 a1).bind fun v3 =>
 some v3
def hold_Field (a0 : hold_Heap) (a1 : Int) (a2 : Int) (a3 : Int) : Option (hold_Heap × Int) :=
 (store_Field a0.S a1 a2).bind fun v1 =>
 if (v1.2 != 0) then
  some (a0, v1.2)
 else
 (hold_nameable a0 a3).bind fun v2 =>
 if (!v2) then
  some (a0, 3)
 else
 (hold_turned__hold_fieldPlace_say a0 v1.1 a3 (⟨a1, a2, a3⟩ : hold_fieldPlace)).bind fun v3 =>
 some (v3, 0)
def task_of (a0 : queue_Queue_task_Task) (a1 : Int) : Option (queue_Queue_task_Task × Int) :=
 some (a0, a1)
def task_Waits (a0 : queue_Queue_task_Task) (a1 : Int) : Option Bool :=
 jn (fun (_ : Unit) =>
  some false) (fun κ6 =>
  (task_of a0 2).bind fun v8 =>
  (lp (S := Int) (E := Bool ⊕ Unit) (fun (s10 : Int) =>
   if (decide (s10 < (v8.1.L.length : Int))) then
    (ix v8.1.L s10).bind fun v12 =>
    if ((v12.Kind == v8.2) == true) then
     if (v12.At == a1) then
      some (.inr (.inl true))
     else
     some (.inl (w64 (s10 + 1)))
    else
    some (.inl (w64 (s10 + 1)))
   else
   some (.inr (.inr ()))) 0).bind fun e9 =>
  match e9 with
  | .inl w => some w
  | .inr w => κ6 w)
def weak_has (a0 : List weak_Cell) (a1 : Int) : Option Bool :=
 some ((decide (a1 ≥ 0)) && (decide (a1 < (a0.length : Int))))
def weak_copied (a0 : List weak_Cell) : Option (List weak_Cell) :=
 (mk 24 (a0.length : Int) (⟨0, false, 0⟩ : weak_Cell)).bind fun v1 =>
 (cpy v1 a0).bind fun v2 =>
 some v2
def weak_Set (a0 : List weak_Cell) (a1 : Int) (a2 : Int) (a3 : Int) : Option ((List weak_Cell) × Int × Int) :=
 (weak_has a0 a1).bind fun v1 =>
 if (!v1) then
  some (a0, 0, 7)
 else
 (weak_copied a0).bind fun v2 =>
 (ix v2 a1).bind fun v3 =>
 (ix a0 a1).bind fun v4 =>
 some ((v2.set (a1).toNat (⟨a2, (a2 != 0), a3⟩ : weak_Cell)), v4.Target, 0)
def hold_marked (a0 : hold_Heap) (a1 : Int) (a2 : Int) : Option hold_Heap :=
 (slab_Find_store_Obj a0.S.S a1).bind fun v1 =>
 if (v1.2 == 0) then
  (ix a0.S.S.Cells v1.1).bind fun v2 =>
  (store_Set a0.S a1 (⟨v2.Val.Serial, v2.Val.Strong, w64 (v2.Val.Weak + a2), v2.Val.Prog, v2.Val.Started, v2.Val.Fields⟩ : store_Obj)).bind fun v3 =>
  some (⟨v3.1, a0.Roots, a0.Cells, a0.T, a0.Q⟩ : hold_Heap)
 else
 some a0
def slab_Give_store_Obj (a0 : slab_Slab_store_Obj) (a1 : Int) : Option (slab_Slab_store_Obj × Int) :=
 (slab_Find_store_Obj a0 a1).bind fun v1 =>
 if (v1.2 != 0) then
  some (a0, v1.2)
 else
 (ix a0.Cells v1.1).bind fun v2 =>
 if (v2.Gen == a0.Last) then
  (slab_with_store_Obj a0 v1.1 (⟨3, v2.Gen, ⟨0, 0, 0, 0, false, []⟩⟩ : slab_Cell_store_Obj)).bind fun v3 =>
  some (v3, 0)
 else
 (slab_with_store_Obj a0 v1.1 (⟨0, w64 (v2.Gen + 1), ⟨0, 0, 0, 0, false, []⟩⟩ : slab_Cell_store_Obj)).bind fun v4 =>
 some (v4, 0)
def hold_unmarked (a0 : hold_Heap) (a1 : Int) : Option hold_Heap :=
 (hold_marked a0 a1 (-1)).bind fun v1 =>
 (slab_Find_store_Obj v1.S.S a1).bind fun v2 =>
 if (v2.2 != 0) then
  some v1
 else
 (ix v1.S.S.Cells v2.1).bind fun v3 =>
 if ((v3.State == 2) && (v3.Val.Weak == 0)) then
  (slab_Give_store_Obj v1.S.S a1).bind fun v4 =>
  some (⟨⟨v4.1, v1.S.Serial⟩, v1.Roots, v1.Cells, v1.T, v1.Q⟩ : hold_Heap)
 else
 some v1
def hold_Weak (a0 : hold_Heap) (a1 : Int) (a2 : Int) (a3 : Int) : Option (hold_Heap × Int) :=
 (onlyIf (((decide (a1 < 0)) || (decide (a1 ≥ (a0.Cells.length : Int)))) == false) false (task_Waits a0.Q a1)).bind fun v1 =>
 if (((decide (a1 < 0)) || (decide (a1 ≥ (a0.Cells.length : Int)))) || v1) then
  some (a0, 7)
 else
 (hold_nameable a0 a2).bind fun v2 =>
 if (!v2) then
  some (a0, 3)
 else
 (weak_Set a0.Cells a1 a2 a3).bind fun v3 =>
 (hold_marked (⟨a0.S, a0.Roots, v3.1, a0.T, a0.Q⟩ : hold_Heap) a2 1).bind fun v4 =>
 (hold_unmarked v4 v3.2.1).bind fun v5 =>
 some (v5, 0)
def cmp_isNaN_int (a0 : Int) : Option Bool :=
 some (a0 != a0)
def cmp_Compare_int (a0 : Int) (a1 : Int) : Option Int :=
 (cmp_isNaN_int a0).bind fun v1 =>
 (cmp_isNaN_int a1).bind fun v2 =>
 if v1 then
  if v2 then
   some 0
  else
  some (-1)
 else
 if v2 then
  some 1
 else
 if (decide (a0 < a1)) then
  some (-1)
 else
 if (decide (a0 > a1)) then
  some 1
 else
 some 0
def store_Live_1 (a0 : Int) (a1 : Int) (a2 : List (Int × Int)) : Option Int :=
 (cmp_Compare_int ((mget a2 a0).getD (0 : Int)) ((mget a2 a1).getD (0 : Int))).bind fun v1 =>
 some v1
def store_Live (a0 : store_Store) : Option (List Int) :=
 jn (fun ((j18, j19) : (List (Int × Int)) × (List Int)) =>
  (sortBy (fun p q => store_Live_1 p q j18) j19).bind fun v21 =>
  some v21) (fun κ17 =>
  (lp (S := Int × (List (Int × Int)) × (List Int)) (E := ((List (Int × Int)) × (List Int))) (fun ((s23, s24, s25) : Int × (List (Int × Int)) × (List Int)) =>
   if (decide (s23 < (a0.S.Cells.length : Int))) then
    jn (fun ((j32, j33) : (List (Int × Int)) × (List Int)) =>
     some (.inl (w64 (s23 + 1), j32, j33))) (fun κ31 =>
     (ix a0.S.Cells s23).bind fun v35 =>
     if (v35.State == 1) then
      (handle_Pack s23 v35.Gen).bind fun v36 =>
      (app 8 s25 [v36]).bind fun v37 =>
      κ31 ((mput s24 v36 v35.Val.Serial), v37)
     else
     κ31 (s24, s25))
   else
   some (.inr (s24, s25))) (0, [], [])).bind fun e22 =>
  κ17 e22)
def settle_Zero (a0 : hold_Heap) : Option (List Int) :=
 jn (fun (j16 : List Int) =>
  some j16) (fun κ15 =>
  (store_Live a0.S).bind fun v17 =>
  (lp (S := Int × (List Int)) (E := (List Int)) (fun ((s19, s20) : Int × (List Int)) =>
   if (decide (s19 < (v17.length : Int))) then
    jn (fun (j27 : List Int) =>
     some (.inl (w64 (s19 + 1), j27))) (fun κ26 =>
     (ix v17 s19).bind fun v28 =>
     (store_Get a0.S v28).bind fun v29 =>
     if (v29.1.Strong == 0) then
      (app 8 s20 [v28]).bind fun v30 =>
      κ26 v30
     else
     κ26 s20)
   else
   some (.inr s20)) (0, [])).bind fun e18 =>
  κ15 e18)
def settle_owesRun (a0 : store_Obj) : Option Bool :=
 some ((decide (a0.Prog ≥ 0)) && (!a0.Started))
def queue_Len_task_Task (a0 : queue_Queue_task_Task) : Option Int :=
 some (a0.L.length : Int)
def queue_part_task_Task (a0 : List task_Task) (a1 : Int) (a2 : Int) : Option (List task_Task) :=
 (cut a0 a1 a2).bind fun v1 =>
 some v1
def queue_Push_task_Task (a0 : queue_Queue_task_Task) (a1 : task_Task) : Option (queue_Queue_task_Task × Int) :=
 (queue_Len_task_Task a0).bind fun v1 =>
 if (decide (v1 ≥ a0.Cap)) then
  some (a0, 4)
 else
 (queue_part_task_Task a0.L 0 v1).bind fun v2 =>
 (app 24 v2 [a1]).bind fun v3 =>
 some ((⟨v3, a0.Cap⟩ : queue_Queue_task_Task), 0)
def task_Add (a0 : queue_Queue_task_Task) (a1 : task_Task) : Option (queue_Queue_task_Task × Int) :=
 (queue_Push_task_Task a0 a1).bind fun v1 =>
 some (v1.1, v1.2)
def settle_Queued (a0 : hold_Heap) (a1 : Int) : Option hold_Heap :=
 (store_Get a0.S a1).bind fun v1 =>
 (onlyIf ((v1.2 != 0) == false) false (settle_owesRun v1.1)).bind fun v2 =>
 if ((v1.2 != 0) || (!v2)) then
  some a0
 else
 (store_Set a0.S a1 (⟨v1.1.Serial, v1.1.Strong, v1.1.Weak, v1.1.Prog, true, v1.1.Fields⟩ : store_Obj)).bind fun v3 =>
 (task_Add a0.Q (⟨1, a1, v1.1.Prog⟩ : task_Task)).bind fun v4 =>
 (hold_Retain (⟨v3.1, a0.Roots, a0.Cells, a0.T, v4.1⟩ : hold_Heap) a1).bind fun v5 =>
 some v5
def settle_livesOnce (a0 : hold_Heap) (a1 : List Int) : Option (List Int) :=
 jn (fun (j18 : List Int) =>
  some j18) (fun κ17 =>
  (lp (S := Int × (List (Int × Bool)) × (List Int)) (E := (List Int)) (fun ((s20, s21, s22) : Int × (List (Int × Bool)) × (List Int)) =>
   if (decide (s20 < (a1.length : Int))) then
    jn (fun ((j29, j30) : (List Int) × (List (Int × Bool))) =>
     some (.inl (w64 (s20 + 1), j30, j29))) (fun κ28 =>
     (ix a1 s20).bind fun v32 =>
     (store_Get a0.S v32).bind fun v33 =>
     if ((v33.2 == 0) == true) then
      if (!((mget s21 v32).getD (false : Bool))) then
       (app 8 s22 [v32]).bind fun v34 =>
       κ28 (v34, (mput s21 v32 true))
      else
      κ28 (s22, s21)
     else
     κ28 (s22, s21))
   else
   some (.inr s22)) (0, [], [])).bind fun e19 =>
  κ17 e19)
def slices_Index_int_int (a0 : List Int) (a1 : Int) : Option Int :=
 jn (fun (_ : Unit) =>
  some (-1)) (fun κ5 =>
  (lp (S := Int) (E := Int ⊕ Unit) (fun (s8 : Int) =>
   if (decide (s8 < (a0.length : Int))) then
    (ix a0 s8).bind fun v10 =>
    if (a1 == v10) then
     some (.inr (.inl s8))
    else
    some (.inl (w64 (s8 + 1)))
   else
   some (.inr (.inr ()))) 0).bind fun e7 =>
  match e7 with
  | .inl w => some w
  | .inr w => κ5 w)
def slices_Contains_int_int (a0 : List Int) (a1 : Int) : Option Bool :=
 (slices_Index_int_int a0 a1).bind fun v1 =>
 some (decide (v1 ≥ 0))
def weak_Clear_1 (a0 : weak_Cell) (a1 : List Int) : Option Bool :=
 (onlyIf ((a0.Intact && (a0.Target != 0)) == true) false (slices_Contains_int_int a1 a0.Target)).bind fun v1 =>
 some ((a0.Intact && (a0.Target != 0)) && v1)
def weak_picked__weak_Clear_1 (a0 : List weak_Cell) (a1 : List Int) : Option (List Int) :=
 jn (fun (j15 : List Int) =>
  some j15) (fun κ14 =>
  (lp (S := Int × (List Int)) (E := (List Int)) (fun ((s17, s18) : Int × (List Int)) =>
   if (decide (s17 < (a0.length : Int))) then
    jn (fun (j25 : List Int) =>
     some (.inl (w64 (s17 + 1), j25))) (fun κ24 =>
     (ix a0 s17).bind fun v26 =>
     (weak_Clear_1 v26 a1).bind fun v27 =>
     if v27 then
      (app 8 s18 [s17]).bind fun v28 =>
      κ24 v28
     else
     κ24 s18)
   else
   some (.inr s18)) (0, [])).bind fun e16 =>
  κ14 e16)
def weak_Clear (a0 : List weak_Cell) (a1 : List Int) : Option ((List weak_Cell) × (List Int)) :=
 (weak_picked__weak_Clear_1 a0 a1).bind fun v1 =>
 (weak_copied a0).bind fun v2 =>
 jn (fun ((j22, j23) : (List Int) × (List weak_Cell)) =>
  some (j23, j22)) (fun κ21 =>
  (lp (S := Int × (List weak_Cell) × (List Int)) (E := ((List Int) × (List weak_Cell))) (fun ((s26, s27, s28) : Int × (List weak_Cell) × (List Int)) =>
   if (decide (s26 < (v1.length : Int))) then
    jn (fun ((j36, j37) : (List Int) × (List weak_Cell)) =>
     some (.inl (w64 (s26 + 1), j37, j36))) (fun κ35 =>
     (ix v1 s26).bind fun v39 =>
     (ix s27 v39).bind fun v40 =>
     (ix (s27.set (v39).toNat (⟨v40.Target, false, v40.Call⟩ : weak_Cell)) v39).bind fun v41 =>
     if (decide (v41.Call ≥ 0)) then
      (app 8 s28 [v39]).bind fun v42 =>
      κ35 (v42, (s27.set (v39).toNat (⟨v40.Target, false, v40.Call⟩ : weak_Cell)))
     else
     κ35 (s28, (s27.set (v39).toNat (⟨v40.Target, false, v40.Call⟩ : weak_Cell))))
   else
   some (.inr (s28, s27))) (0, v2, [])).bind fun e25 =>
  κ21 e25)
def settle_cleared (a0 : hold_Heap) (a1 : List Int) : Option hold_Heap :=
 (weak_Clear a0.Cells a1).bind fun v1 =>
 jn (fun (j11 : queue_Queue_task_Task) =>
  some (⟨a0.S, a0.Roots, v1.1, a0.T, j11⟩ : hold_Heap)) (fun κ10 =>
  (lp (S := Int × queue_Queue_task_Task) (E := queue_Queue_task_Task) (fun ((s13, s14) : Int × queue_Queue_task_Task) =>
   if (decide (s13 < (v1.2.length : Int))) then
    (ix v1.2 s13).bind fun v17 =>
    (ix v1.1 v17).bind fun v18 =>
    (task_Add s14 (⟨2, v17, v18.Call⟩ : task_Task)).bind fun v19 =>
    some (.inl (w64 (s13 + 1), v19.1))
   else
   some (.inr s14)) (0, a0.Q)).bind fun e12 =>
  κ10 e12)
def vec_named (a0 : List Int) : Option (List Int) :=
 some a0
def vec_Names (a0 : List Int) : Option (List Int) :=
 jn (fun (j10 : List Int) =>
  some j10) (fun κ9 =>
  (vec_named a0).bind fun v11 =>
  (lp (S := Int × (List Int)) (E := (List Int)) (fun ((s13, s14) : Int × (List Int)) =>
   if (decide (s13 < (v11.length : Int))) then
    (ix v11 s13).bind fun v17 =>
    if ((v17 != 0) == true) then
     (app 8 s14 [v17]).bind fun v18 =>
     some (.inl (w64 (s13 + 1), v18))
    else
    some (.inl (w64 (s13 + 1), s14))
   else
   some (.inr s14)) (0, [])).bind fun e12 =>
  κ9 e12)
def hash_road (a0 : Int) (a1 : Int) : Option (Int × Int) :=
 some (a0, a1)
def hash_Home (a0 : Int) (a1 : Int) : Option Int :=
 if (decide (a0 < 1)) then
  some 0
 else
 (rem (w64 ((w64 (5 * a1)) + 1)) a0).bind fun v1 =>
 if (decide (v1 < 0)) then
  some (w64 (v1 + a0))
 else
 some v1
def hash_Find (a0 : List hash_Place) (a1 : Int) : Option Int :=
 jn (fun (_ : Unit) =>
  some (-1)) (fun κ8 =>
  (hash_road (a0.length : Int) a1).bind fun v10 =>
  (lp (S := Int) (E := Int ⊕ Unit) (fun (s12 : Int) =>
   if (decide (s12 < v10.1)) then
    (hash_Home v10.1 v10.2).bind fun v14 =>
    (rem (w64 (v14 + s12)) v10.1).bind fun v15 =>
    (ix a0 v15).bind fun v16 =>
    if (v16.State == 0) then
     some (.inr (.inr ()))
    else
    if ((v16.State == 1) && (v16.Key == a1)) then
     some (.inr (.inl v15))
    else
    some (.inl (w64 (s12 + 1)))
   else
   some (.inr (.inr ()))) 0).bind fun e11 =>
  match e11 with
  | .inl w => some w
  | .inr w => κ8 w)
def slices_Clone_hash_Place_hash_Place (a0 : List hash_Place) : Option (List hash_Place) :=
 app 24 [] a0
def hash_with (a0 : List hash_Place) (a1 : Int) (a2 : hash_Place) : Option (List hash_Place) :=
 (slices_Clone_hash_Place_hash_Place a0).bind fun v1 =>
 (ix v1 a1).bind fun v2 =>
 some (v1.set (a1).toNat a2)
def hash_Drop (a0 : List hash_Place) (a1 : Int) : Option ((List hash_Place) × Int × Int) :=
 (hash_Find a0 a1).bind fun v1 =>
 if (decide (v1 < 0)) then
  some (a0, 0, 9)
 else
 (hash_with a0 v1 (⟨2, 0, 0⟩ : hash_Place)).bind fun v2 =>
 (ix a0 v1).bind fun v3 =>
 some (v2, v3.Val, 0)
def ephem_Without (a0 : List hash_Place) (a1 : List Int) : Option ((List hash_Place) × (List Int)) :=
 jn (fun ((j18, j19) : (List hash_Place) × (List Int)) =>
  some (j18, j19)) (fun κ17 =>
  (lp (S := (List hash_Place) × Int × (List Int)) (E := ((List hash_Place) × (List Int))) (fun ((s22, s23, s24) : (List hash_Place) × Int × (List Int)) =>
   if (decide (s23 < (a1.length : Int))) then
    jn (fun ((j31, j32) : (List hash_Place) × (List Int)) =>
     some (.inl (j31, w64 (s23 + 1), j32))) (fun κ30 =>
     (ix a1 s23).bind fun v34 =>
     (hash_Drop s22 v34).bind fun v35 =>
     if (v35.2.2 == 0) then
      (app 8 s24 [v35.2.1]).bind fun v36 =>
      κ30 (v35.1, v36)
     else
     κ30 (s22, s24))
   else
   some (.inr (s22, s24))) (a0, 0, [])).bind fun e21 =>
  κ17 e21)
def slab_Kill_store_Obj (a0 : slab_Slab_store_Obj) (a1 : Int) : Option (slab_Slab_store_Obj × Int) :=
 (slab_Get_store_Obj a0 a1).bind fun v1 =>
 if (v1.2 != 0) then
  some (a0, v1.2)
 else
 (handle_Slot a1).bind fun v2 =>
 (handle_Gen a1).bind fun v3 =>
 (slab_with_store_Obj a0 v2 (⟨2, v3, v1.1⟩ : slab_Cell_store_Obj)).bind fun v4 =>
 some (v4, 0)
def settle_killed (a0 : hold_Heap) (a1 : Int) : Option hold_Heap :=
 (store_Get a0.S a1).bind fun v1 =>
 (store_Set a0.S a1 (⟨v1.1.Serial, 0, v1.1.Weak, v1.1.Prog, v1.1.Started, []⟩ : store_Obj)).bind fun v2 =>
 (slab_Kill_store_Obj v2.1.S a1).bind fun v3 =>
 if (v1.1.Weak == 0) then
  (slab_Give_store_Obj v3.1 a1).bind fun v4 =>
  some (⟨⟨v4.1, v2.1.Serial⟩, a0.Roots, a0.Cells, a0.T, a0.Q⟩ : hold_Heap)
 else
 some (⟨⟨v3.1, v2.1.Serial⟩, a0.Roots, a0.Cells, a0.T, a0.Q⟩ : hold_Heap)
def settle_Bury (a0 : hold_Heap) (a1 : List Int) : Option hold_Heap :=
 (settle_livesOnce a0 a1).bind fun v1 =>
 (settle_cleared a0 v1).bind fun v2 =>
 jn (fun (j13 : List Int) =>
  (ephem_Without v2.T v1).bind fun v14 =>
  (app 8 j13 v14.2).bind fun v15 =>
  jn (fun (j24 : hold_Heap) =>
   jn (fun (j33 : hold_Heap) =>
    some j33) (fun κ32 =>
    (lp (S := Int × hold_Heap) (E := hold_Heap) (fun ((s35, s36) : Int × hold_Heap) =>
     if (decide (s35 < (v15.length : Int))) then
      (ix v15 s35).bind fun v39 =>
      (hold_Release s36 v39).bind fun v40 =>
      some (.inl (w64 (s35 + 1), v40))
     else
     some (.inr s36)) (0, j24)).bind fun e34 =>
    κ32 e34)) (fun κ23 =>
   (lp (S := Int × hold_Heap) (E := hold_Heap) (fun ((s42, s43) : Int × hold_Heap) =>
    if (decide (s42 < (v1.length : Int))) then
     (ix v1 s42).bind fun v46 =>
     (settle_killed s43 v46).bind fun v47 =>
     some (.inl (w64 (s42 + 1), v47))
    else
    some (.inr s43)) (0, (⟨v2.S, v2.Roots, v2.Cells, v14.1, v2.Q⟩ : hold_Heap))).bind fun e41 =>
   κ23 e41)) (fun κ12 =>
  (lp (S := Int × (List Int)) (E := (List Int)) (fun ((s49, s50) : Int × (List Int)) =>
   if (decide (s49 < (v1.length : Int))) then
    (ix v1 s49).bind fun v53 =>
    (store_Get v2.S v53).bind fun v54 =>
    (vec_Names v54.1.Fields).bind fun v55 =>
    (app 8 s50 v55).bind fun v56 =>
    some (.inl (w64 (s49 + 1), v56))
   else
   some (.inr s50)) (0, [])).bind fun e48 =>
  κ12 e48)
def settle_Settle (a0 : hold_Heap) : Option hold_Heap :=
 (lp (S := hold_Heap) (E := hold_Heap) (fun (s2 : hold_Heap) =>
  (settle_Zero s2).bind fun v4 =>
  if ((v4.length : Int) == 0) then
   some (.inr s2)
  else
  (ix v4 0).bind fun v5 =>
  (store_Get s2.S v5).bind fun v6 =>
  (settle_owesRun v6.1).bind fun v7 =>
  if v7 then
   (settle_Queued s2 v5).bind fun v8 =>
   some (.inl v8)
  else
  (cut v4 0 1).bind fun v9 =>
  (settle_Bury s2 v9).bind fun v10 =>
  some (.inl v10)) a0).bind fun e1 =>
 some e1
def weak_Load (a0 : List weak_Cell) (a1 : Int) : Option (Int × Int) :=
 (weak_has a0 a1).bind fun v1 =>
 if (!v1) then
  some (0, 7)
 else
 (ix a0 a1).bind fun v2 =>
 if ((v2.Target == 0) || (!v2.Intact)) then
  some (0, 9)
 else
 some (v2.Target, 0)
def settle_Settled (a0 : hold_Heap) : Option Bool :=
 (settle_Zero a0).bind fun v1 =>
 some ((v1.length : Int) == 0)
def store_rules : Option (List store_rule) :=
 some [(⟨(some 275)⟩ : store_rule), (⟨(some 276)⟩ : store_rule), (⟨(some 277)⟩ : store_rule), (⟨(some 278)⟩ : store_rule)]
def store_stateFits (a0 : store_Store) (a1 : slab_Cell_store_Obj) : Option Bool :=
 some ((decide (a1.State ≥ 0)) && (decide (a1.State ≤ 3)))
def store_generationFits (a0 : store_Store) (a1 : slab_Cell_store_Obj) : Option Bool :=
 some ((decide (a1.Gen ≥ 0)) && (decide (a1.Gen ≤ a0.S.Last)))
def store_holdsObject (a0 : slab_Cell_store_Obj) : Option Bool :=
 some ((a0.State == 1) || (a0.State == 2))
def store_objectFits (a0 : store_Store) (a1 : slab_Cell_store_Obj) : Option Bool :=
 (store_holdsObject a1).bind fun v1 =>
 (onlyIf (((!v1) == false) && (((((decide (a1.Val.Serial ≥ 1)) && (decide (a1.Val.Serial ≤ a0.Serial))) && (decide (a1.Val.Strong ≥ 0))) && (decide (a1.Val.Weak ≥ 0))) == true)) false (store_programFits a1.Val.Prog)).bind fun v2 =>
 some ((!v1) || ((((((decide (a1.Val.Serial ≥ 1)) && (decide (a1.Val.Serial ≤ a0.Serial))) && (decide (a1.Val.Strong ≥ 0))) && (decide (a1.Val.Weak ≥ 0))) && v2) && (decide ((a1.Val.Fields.length : Int) ≤ 4))))
def store_nothingIsLeft (a0 : store_Store) (a1 : slab_Cell_store_Obj) : Option Bool :=
 (store_holdsObject a1).bind fun v1 =>
 some (v1 || ((((a1.Val.Serial == 0) && ((a1.Val.Strong == 0) && ((a1.Val.Weak == 0) && ((a1.Val.Prog == 0) && true)))) && (!a1.Val.Started)) && ((a1.Val.Fields.length : Int) == 0)))
def fvcall0 (f : Fv) (a0 : store_Store) (a1 : slab_Cell_store_Obj) : Option Bool :=
 if f = some 275 then store_stateFits a0 a1 else
 if f = some 276 then store_generationFits a0 a1 else
 if f = some 277 then store_objectFits a0 a1 else
 if f = some 278 then store_nothingIsLeft a0 a1 else
 none
def store_serialsDiffer (a0 : store_Store) : Option Bool :=
 jn (fun (_ : Unit) =>
  some true) (fun κ12 =>
  (lp (S := Int × (List (Int × Bool))) (E := Bool ⊕ Unit) (fun ((s15, s16) : Int × (List (Int × Bool))) =>
   if (decide (s15 < (a0.S.Cells.length : Int))) then
    jn (fun (j22 : List (Int × Bool)) =>
     some (.inl (w64 (s15 + 1), j22))) (fun κ21 =>
     (ix a0.S.Cells s15).bind fun v23 =>
     (store_holdsObject v23).bind fun v24 =>
     if (!v24) then
      κ21 s16
     else
     if ((mget s16 v23.Val.Serial).getD (false : Bool)) then
      some (.inr (.inl false))
     else
     κ21 (mput s16 v23.Val.Serial true))
   else
   some (.inr (.inr ()))) (0, [])).bind fun e14 =>
  match e14 with
  | .inl w => some w
  | .inr w => κ12 w)
def store_Right (a0 : store_Store) : Option Bool :=
 if ((((decide ((a0.S.Cells.length : Int) > 24)) || (decide (a0.S.Last < 0))) || (decide (a0.S.Last > 9))) || (decide (a0.Serial < 0))) then
  some false
 else
 jn (fun (_ : Unit) =>
  (store_serialsDiffer a0).bind fun v24 =>
  some v24) (fun κ22 =>
  (lp (S := Int) (E := Bool ⊕ Unit) (fun (s26 : Int) =>
   if (decide (s26 < (a0.S.Cells.length : Int))) then
    jn (fun (_ : Unit) =>
     some (.inl (w64 (s26 + 1)))) (fun κ36 =>
     (ix a0.S.Cells s26).bind fun v38 =>
     (store_rules).bind fun v39 =>
     (lp (S := Int) (E := Bool ⊕ Unit) (fun (s41 : Int) =>
      if (decide (s41 < (v39.length : Int))) then
       (ix v39 s41).bind fun v43 =>
       (fvcall0 v43.kept a0 v38).bind fun v44 =>
       if (!v44) then
        some (.inr (.inl false))
       else
       some (.inl (w64 (s41 + 1)))
      else
      some (.inr (.inr ()))) 0).bind fun e40 =>
     match e40 with
     | .inl w => some (.inr (.inl w))
     | .inr w => κ36 w)
   else
   some (.inr (.inr ()))) 0).bind fun e25 =>
  match e25 with
  | .inl w => some w
  | .inr w => κ22 w)
def hash_Right (a0 : List hash_Place) : Option Bool :=
 if ((decide ((a0.length : Int) < 1)) || (decide ((a0.length : Int) > 8))) then
  some false
 else
 jn (fun (_ : Unit) =>
  some true) (fun κ6 =>
  (lp (S := Int) (E := Bool ⊕ Unit) (fun (s9 : Int) =>
   if (decide (s9 < (a0.length : Int))) then
    (ix a0 s9).bind fun v11 =>
    (onlyIf (((!(((v11.State == 0) && ((v11.Key == 0) && ((v11.Val == 0) && true))) || ((v11.State == 2) && ((v11.Key == 0) && ((v11.Val == 0) && true))))) == true) && ((v11.State != 1) == false)) 0 (hash_Find a0 v11.Key)).bind fun v12 =>
    if ((!(((v11.State == 0) && ((v11.Key == 0) && ((v11.Val == 0) && true))) || ((v11.State == 2) && ((v11.Key == 0) && ((v11.Val == 0) && true))))) && ((v11.State != 1) || (v12 != s9))) then
     some (.inr (.inl false))
    else
    some (.inl (w64 (s9 + 1)))
   else
   some (.inr (.inr ()))) 0).bind fun e8 =>
  match e8 with
  | .inl w => some w
  | .inr w => κ6 w)
def hold_shapesFit (a0 : hold_Heap) : Option Bool :=
 (task_New).bind fun v1 =>
 (store_Right a0.S).bind fun v2 =>
 (onlyIf (v2 == true) false (hash_Right a0.T)).bind fun v3 =>
 some (((((v2 && v3) && ((a0.Roots.length : Int) == 6)) && ((a0.Cells.length : Int) == 6)) && (a0.Q.Cap == v1.Cap)) && (decide ((a0.Q.L.length : Int) ≤ v1.Cap)))
def slices_Clone_int_int (a0 : List Int) : Option (List Int) :=
 app 8 [] a0
def hold_namesLive_1 (a0 : Int) (a1 : hold_Heap) : Option Bool :=
 (hold_nameable a1 a0).bind fun v1 =>
 some v1
def hold_all_int__hold_namesLive_1 (a0 : List Int) (a1 : hold_Heap) : Option Bool :=
 jn (fun (_ : Unit) =>
  some true) (fun κ6 =>
  (lp (S := Int) (E := Bool ⊕ Unit) (fun (s9 : Int) =>
   if (decide (s9 < (a0.length : Int))) then
    (ix a0 s9).bind fun v11 =>
    (hold_namesLive_1 v11 a1).bind fun v12 =>
    if (!v12) then
     some (.inr (.inl false))
    else
    some (.inl (w64 (s9 + 1)))
   else
   some (.inr (.inr ()))) 0).bind fun e8 =>
  match e8 with
  | .inl w => some w
  | .inr w => κ6 w)
def hold_namesLive (a0 : hold_Heap) : Option Bool :=
 (slices_Clone_int_int a0.Roots).bind fun v1 =>
 jn (fun (j12 : List Int) =>
  (hold_all_int__hold_namesLive_1 j12 a0).bind fun v13 =>
  some v13) (fun κ11 =>
  (store_Live a0.S).bind fun v14 =>
  (lp (S := Int × (List Int)) (E := (List Int)) (fun ((s16, s17) : Int × (List Int)) =>
   if (decide (s16 < (v14.length : Int))) then
    (ix v14 s16).bind fun v20 =>
    (store_Get a0.S v20).bind fun v21 =>
    (app 8 s17 v21.1.Fields).bind fun v22 =>
    some (.inl (w64 (s16 + 1), v22))
   else
   some (.inr s17)) (0, v1)).bind fun e15 =>
  κ11 e15)
def ephem_pairs (a0 : List hash_Place) : Option (List hash_Place) :=
 some a0
def hash_Keys (a0 : List hash_Place) : Option (List Int) :=
 jn (fun (j13 : List Int) =>
  some j13) (fun κ12 =>
  (lp (S := Int × (List Int)) (E := (List Int)) (fun ((s15, s16) : Int × (List Int)) =>
   if (decide (s15 < (a0.length : Int))) then
    jn (fun (j22 : List Int) =>
     some (.inl (w64 (s15 + 1), j22))) (fun κ21 =>
     (ix a0 s15).bind fun v23 =>
     if (v23.State == 1) then
      (app 8 s16 [v23.Key]).bind fun v24 =>
      κ21 v24
     else
     κ21 s16)
   else
   some (.inr s16)) (0, [])).bind fun e14 =>
  κ12 e14)
def hash_Get (a0 : List hash_Place) (a1 : Int) : Option (Int × Int) :=
 (hash_Find a0 a1).bind fun v1 =>
 if (decide (v1 < 0)) then
  some (0, 9)
 else
 (ix a0 v1).bind fun v2 =>
 some (v2.Val, 0)
def ephem_Pairs_1 (a0 : ephem_Pair) : Option Bool :=
 some true
def ephem_gathered_ephem_Pair__ephem_pairs_1__ephem_Pairs_1 (a0 : List hash_Place) : Option (List ephem_Pair) :=
 jn (fun (j16 : List ephem_Pair) =>
  some j16) (fun κ15 =>
  (hash_Keys a0).bind fun v17 =>
  (lp (S := Int × (List ephem_Pair)) (E := (List ephem_Pair)) (fun ((s19, s20) : Int × (List ephem_Pair)) =>
   if (decide (s19 < (v17.length : Int))) then
    (ix v17 s19).bind fun v23 =>
    (hash_Get a0 v23).bind fun v24 =>
    jn (fun (j28 : List ephem_Pair) =>
     some (.inl (w64 (s19 + 1), j28))) (fun κ27 =>
     (ephem_Pairs_1 (⟨v23, v24.1⟩ : ephem_Pair)).bind fun v29 =>
     if v29 then
      (app 16 s20 [(⟨v23, v24.1⟩ : ephem_Pair)]).bind fun v30 =>
      κ27 v30
     else
     κ27 s20)
   else
   some (.inr s20)) (0, [])).bind fun e18 =>
  κ15 e18)
def ephem_Pairs (a0 : List hash_Place) : Option (List ephem_Pair) :=
 (ephem_pairs a0).bind fun v1 =>
 (ephem_gathered_ephem_Pair__ephem_pairs_1__ephem_Pairs_1 v1).bind fun v2 =>
 some v2
def hold_pairsLive_1 (a0 : ephem_Pair) (a1 : hold_Heap) : Option Bool :=
 (hold_isLive a1 a0.Key).bind fun v1 =>
 (onlyIf (v1 == true) false (hold_isLive a1 a0.Val)).bind fun v2 =>
 some (v1 && v2)
def hold_all_ephem_Pair__hold_pairsLive_1 (a0 : List ephem_Pair) (a1 : hold_Heap) : Option Bool :=
 jn (fun (_ : Unit) =>
  some true) (fun κ6 =>
  (lp (S := Int) (E := Bool ⊕ Unit) (fun (s9 : Int) =>
   if (decide (s9 < (a0.length : Int))) then
    (ix a0 s9).bind fun v11 =>
    (hold_pairsLive_1 v11 a1).bind fun v12 =>
    if (!v12) then
     some (.inr (.inl false))
    else
    some (.inl (w64 (s9 + 1)))
   else
   some (.inr (.inr ()))) 0).bind fun e8 =>
  match e8 with
  | .inl w => some w
  | .inr w => κ6 w)
def hold_pairsLive (a0 : hold_Heap) : Option Bool :=
 (ephem_Pairs a0.T).bind fun v1 =>
 (hold_all_ephem_Pair__hold_pairsLive_1 v1 a0).bind fun v2 =>
 some v2
def hold_taskIsFor (a0 : hold_Heap) (a1 : task_Task) : Option Bool :=
 if (a1.Kind == 1) then
  (store_Get a0.S a1.At).bind fun v1 =>
  some ((v1.2 == 0) && v1.1.Started)
 else
 if (a1.Kind == 2) then
  (onlyIf (((decide (a1.At ≥ 0)) && (decide (a1.At < (a0.Cells.length : Int)))) == true) (⟨0, false, 0⟩ : weak_Cell) (ix a0.Cells a1.At)).bind fun v2 =>
  some (((decide (a1.At ≥ 0)) && (decide (a1.At < (a0.Cells.length : Int)))) && (!v2.Intact))
 else
 some false
def hold_tasksFit (a0 : hold_Heap) : Option Bool :=
 jn (fun ((j18, j19) : Bool × (List (task_Task × Bool))) =>
  some j18) (fun κ17 =>
  jn (fun (j29 : List (task_Task × Bool)) =>
   κ17 (true, j29)) (fun κ28 =>
   (lp (S := Int × (List (task_Task × Bool))) (E := (Bool × (List (task_Task × Bool))) ⊕ (List (task_Task × Bool))) (fun ((s31, s32) : Int × (List (task_Task × Bool))) =>
    if (decide (s31 < (a0.Q.L.length : Int))) then
     (ix a0.Q.L s31).bind fun v35 =>
     (onlyIf ((((!((mget s32 (⟨v35.Kind, v35.At, 0⟩ : task_Task)).getD (false : Bool))) && (decide (v35.Prog ≥ 0))) && (decide (v35.Prog < 6))) == true) false (hold_taskIsFor a0 v35)).bind fun v36 =>
     if (!((((!((mget s32 (⟨v35.Kind, v35.At, 0⟩ : task_Task)).getD (false : Bool))) && (decide (v35.Prog ≥ 0))) && (decide (v35.Prog < 6))) && v36)) then
      some (.inr (.inl (false, (mput s32 (⟨v35.Kind, v35.At, 0⟩ : task_Task) true))))
     else
     some (.inl (w64 (s31 + 1), (mput s32 (⟨v35.Kind, v35.At, 0⟩ : task_Task) true)))
    else
    some (.inr (.inr s32))) (0, [])).bind fun e30 =>
   match e30 with
   | .inl w => κ17 w
   | .inr w => κ28 w))
def hold_cellsFit_1 (a0 : weak_Cell) (a1 : hold_Heap) : Option Bool :=
 if ((decide (a0.Call < (-1))) || (decide (a0.Call ≥ 6))) then
  some false
 else
 if a0.Intact then
  (hold_isLive a1 a0.Target).bind fun v1 =>
  some v1
 else
 (slab_Find_store_Obj a1.S.S a0.Target).bind fun v2 =>
 some ((a0.Target == 0) || (v2.2 == 0))
def hold_all_weak_Cell__hold_cellsFit_1 (a0 : List weak_Cell) (a1 : hold_Heap) : Option Bool :=
 jn (fun (_ : Unit) =>
  some true) (fun κ6 =>
  (lp (S := Int) (E := Bool ⊕ Unit) (fun (s9 : Int) =>
   if (decide (s9 < (a0.length : Int))) then
    (ix a0 s9).bind fun v11 =>
    (hold_cellsFit_1 v11 a1).bind fun v12 =>
    if (!v12) then
     some (.inr (.inl false))
    else
    some (.inl (w64 (s9 + 1)))
   else
   some (.inr (.inr ()))) 0).bind fun e8 =>
  match e8 with
  | .inl w => some w
  | .inr w => κ6 w)
def hold_cellsFit (a0 : hold_Heap) : Option Bool :=
 (hold_all_weak_Cell__hold_cellsFit_1 a0.Cells a0).bind fun v1 =>
 some v1
def weak_Naming_1 (a0 : weak_Cell) (a1 : Int) : Option Bool :=
 some ((a1 != 0) && (a0.Target == a1))
def weak_picked__weak_Naming_1 (a0 : List weak_Cell) (a1 : Int) : Option (List Int) :=
 jn (fun (j15 : List Int) =>
  some j15) (fun κ14 =>
  (lp (S := Int × (List Int)) (E := (List Int)) (fun ((s17, s18) : Int × (List Int)) =>
   if (decide (s17 < (a0.length : Int))) then
    jn (fun (j25 : List Int) =>
     some (.inl (w64 (s17 + 1), j25))) (fun κ24 =>
     (ix a0 s17).bind fun v26 =>
     (weak_Naming_1 v26 a1).bind fun v27 =>
     if v27 then
      (app 8 s18 [s17]).bind fun v28 =>
      κ24 v28
     else
     κ24 s18)
   else
   some (.inr s18)) (0, [])).bind fun e16 =>
  κ14 e16)
def weak_Naming (a0 : List weak_Cell) (a1 : Int) : Option Int :=
 (weak_picked__weak_Naming_1 a0 a1).bind fun v1 =>
 some (v1.length : Int)
def hold_foundFit (a0 : hold_Heap) : Option Bool :=
 jn (fun (_ : Unit) =>
  some true) (fun κ12 =>
  (lp (S := Int) (E := Bool ⊕ Unit) (fun (s15 : Int) =>
   if (decide (s15 < (a0.S.S.Cells.length : Int))) then
    jn (fun (_ : Unit) =>
     some (.inl (w64 (s15 + 1)))) (fun κ20 =>
     (ix a0.S.S.Cells s15).bind fun v22 =>
     if ((v22.State != 1) && (v22.State != 2)) then
      κ20 ()
     else
     (handle_Pack s15 v22.Gen).bind fun v23 =>
     (weak_Naming a0.Cells v23).bind fun v24 =>
     if (v22.Val.Weak != v24) then
      some (.inr (.inl false))
     else
     if ((v22.State == 2) && (((decide (v22.Val.Weak < 1)) || (decide ((v22.Val.Fields.length : Int) > 0))) || (v22.Val.Strong != 0))) then
      some (.inr (.inl false))
     else
     κ20 ())
   else
   some (.inr (.inr ()))) 0).bind fun e14 =>
  match e14 with
  | .inl w => some w
  | .inr w => κ12 w)
def fvcall1 (f : Fv) (a0 : hold_Heap) : Option Bool :=
 if f = some 147 then hold_namesLive a0 else
 if f = some 148 then hold_pairsLive a0 else
 if f = some 149 then hold_tasksFit a0 else
 if f = some 150 then hold_cellsFit a0 else
 if f = some 151 then hold_foundFit a0 else
 none
def task_Held (a0 : queue_Queue_task_Task) : Option (List Int) :=
 jn (fun (j10 : List Int) =>
  some j10) (fun κ9 =>
  (task_of a0 1).bind fun v11 =>
  (lp (S := Int × (List Int)) (E := (List Int)) (fun ((s13, s14) : Int × (List Int)) =>
   if (decide (s13 < (v11.1.L.length : Int))) then
    (ix v11.1.L s13).bind fun v17 =>
    if ((v17.Kind == v11.2) == true) then
     (app 8 s14 [v17.At]).bind fun v18 =>
     some (.inl (w64 (s13 + 1), v18))
    else
    some (.inl (w64 (s13 + 1), s14))
   else
   some (.inr s14)) (0, [])).bind fun e12 =>
  κ9 e12)
def hold_Outer (a0 : hold_Heap) : Option (List Int) :=
 jn (fun (j13 : List Int) =>
  (task_Held a0.Q).bind fun v14 =>
  (app 8 j13 v14).bind fun v15 =>
  some v15) (fun κ12 =>
  (lp (S := Int × (List Int)) (E := (List Int)) (fun ((s17, s18) : Int × (List Int)) =>
   if (decide (s17 < (a0.Roots.length : Int))) then
    jn (fun (j24 : List Int) =>
     some (.inl (w64 (s17 + 1), j24))) (fun κ23 =>
     (ix a0.Roots s17).bind fun v25 =>
     if (v25 != 0) then
      (app 8 s18 [v25]).bind fun v26 =>
      κ23 v26
     else
     κ23 s18)
   else
   some (.inr s18)) (0, [])).bind fun e16 =>
  κ12 e16)
def count_Stuck (a0 : Int) : Option Bool :=
 (count_tally_stuck a0).bind fun v1 =>
 some v1
def refs_edges (a0 : store_Store) : Option store_Store :=
 some a0
def refs_Out (a0 : store_Store) (a1 : Int) : Option (List Int) :=
 (store_Get a0 a1).bind fun v1 =>
 (vec_Names v1.1.Fields).bind fun v2 =>
 some v2
def refs_In (a0 : store_Store) (a1 : Int) : Option Int :=
 jn (fun (j31 : Int) =>
  some j31) (fun κ30 =>
  (refs_edges a0).bind fun v32 =>
  (store_Live v32).bind fun v33 =>
  (lp (S := Int × Int) (E := Int) (fun ((s35, s36) : Int × Int) =>
   if (decide (s35 < (v33.length : Int))) then
    jn (fun (j50 : Int) =>
     some (.inl (w64 (s35 + 1), j50))) (fun κ49 =>
     (ix v33 s35).bind fun v51 =>
     (refs_Out v32 v51).bind fun v52 =>
     (lp (S := Int × Int) (E := Int) (fun ((s54, s55) : Int × Int) =>
      if (decide (s54 < (v52.length : Int))) then
       (ix v52 s54).bind fun v58 =>
       jn (fun (j60 : Int) =>
        some (.inl (w64 (s54 + 1), j60))) (fun κ59 =>
        if (v58 == a1) then
         κ59 (w64 (s55 + 1))
        else
        κ59 s55)
      else
      some (.inr s55)) (0, s36)).bind fun e53 =>
     κ49 e53)
   else
   some (.inr s36)) (0, 0)).bind fun e34 =>
  κ30 e34)
def ephem_Owned_1 (a0 : ephem_Pair) (a1 : Int) : Option Bool :=
 some ((a1 != 0) && (a0.Val == a1))
def ephem_gathered_ephem_Pair__ephem_pairs_1__ephem_Owned_1 (a0 : List hash_Place) (a1 : Int) : Option (List ephem_Pair) :=
 jn (fun (j16 : List ephem_Pair) =>
  some j16) (fun κ15 =>
  (hash_Keys a0).bind fun v17 =>
  (lp (S := Int × (List ephem_Pair)) (E := (List ephem_Pair)) (fun ((s19, s20) : Int × (List ephem_Pair)) =>
   if (decide (s19 < (v17.length : Int))) then
    (ix v17 s19).bind fun v23 =>
    (hash_Get a0 v23).bind fun v24 =>
    jn (fun (j28 : List ephem_Pair) =>
     some (.inl (w64 (s19 + 1), j28))) (fun κ27 =>
     (ephem_Owned_1 (⟨v23, v24.1⟩ : ephem_Pair) a1).bind fun v29 =>
     if v29 then
      (app 16 s20 [(⟨v23, v24.1⟩ : ephem_Pair)]).bind fun v30 =>
      κ27 v30
     else
     κ27 s20)
   else
   some (.inr s20)) (0, [])).bind fun e18 =>
  κ15 e18)
def ephem_Owned (a0 : List hash_Place) (a1 : Int) : Option Int :=
 (ephem_pairs a0).bind fun v1 =>
 (ephem_gathered_ephem_Pair__ephem_pairs_1__ephem_Owned_1 v1 a1).bind fun v2 =>
 some (v2.length : Int)
def trial_Inner (a0 : store_Store) (a1 : List hash_Place) (a2 : Int) : Option Int :=
 (refs_In a0 a2).bind fun v1 =>
 (ephem_Owned a1 a2).bind fun v2 =>
 some (w64 (v1 + v2))
def trial_Rest (a0 : store_Store) (a1 : List hash_Place) (a2 : Int) : Option Int :=
 (store_Get a0 a2).bind fun v1 =>
 if (v1.2 != 0) then
  some 0
 else
 (trial_Inner a0 a1 a2).bind fun v2 =>
 some (w64 (v1.1.Strong - v2))
def vec_Count (a0 : List Int) (a1 : Int) : Option Int :=
 jn (fun (j11 : Int) =>
  some j11) (fun κ10 =>
  (vec_named a0).bind fun v12 =>
  (lp (S := Int × Int) (E := Int) (fun ((s14, s15) : Int × Int) =>
   if (decide (s14 < (v12.length : Int))) then
    (ix v12 s14).bind fun v18 =>
    if ((v18 != 0) == true) then
     jn (fun (j20 : Int) =>
      if ((v18 != 0) && false) then
       some (.inr j20)
      else
      some (.inl (w64 (s14 + 1), j20))) (fun κ19 =>
      if (v18 == a1) then
       κ19 (w64 (s15 + 1))
      else
      κ19 s15)
    else
    some (.inl (w64 (s14 + 1), s15))
   else
   some (.inr s15)) (0, 0)).bind fun e13 =>
  κ10 e13)
def refs_Times (a0 : List Int) (a1 : Int) : Option Int :=
 (vec_Count a0 a1).bind fun v1 =>
 some v1
def trial_Fair_1 (a0 : Int) (a1 : store_Obj) (a2 : store_Store) (a3 : List hash_Place) (a4 : List Int) : Option Bool :=
 (count_Stuck a1.Strong).bind fun v1 =>
 (onlyIf ((!v1) == true) 0 (trial_Rest a2 a3 a0)).bind fun v2 =>
 (onlyIf ((!v1) == true) 0 (refs_Times a4 a0)).bind fun v3 =>
 some ((!v1) && (v2 != v3))
def trial_Fair (a0 : store_Store) (a1 : List hash_Place) (a2 : List Int) : Option Bool :=
 jn (fun (j36 : List Int) =>
  some ((j36.length : Int) == 0)) (fun κ35 =>
  jn (fun (j54 : List Int) =>
   κ35 j54) (fun κ53 =>
   (store_Live a0).bind fun v55 =>
   (lp (S := Int × (List Int)) (E := (List Int)) (fun ((s57, s58) : Int × (List Int)) =>
    if (decide (s57 < (v55.length : Int))) then
     jn (fun (j66 : List Int) =>
      some (.inl (w64 (s57 + 1), j66))) (fun κ65 =>
      (ix v55 s57).bind fun v67 =>
      (store_Get a0 v67).bind fun v68 =>
      (trial_Fair_1 v67 v68.1 a0 a1 a2).bind fun v69 =>
      if v69 then
       (app 8 s58 [v67]).bind fun v70 =>
       κ65 v70
      else
      κ65 s58)
    else
    some (.inr s58)) (0, [])).bind fun e56 =>
   κ53 e56))
def hold_Right (a0 : hold_Heap) : Option Bool :=
 (hold_shapesFit a0).bind fun v1 =>
 if (!v1) then
  some false
 else
 jn (fun (_ : Unit) =>
  (hold_Outer a0).bind fun v10 =>
  (trial_Fair a0.S a0.T v10).bind fun v11 =>
  some v11) (fun κ8 =>
  (lp (S := Int) (E := Bool ⊕ Unit) (fun (s13 : Int) =>
   if (decide (s13 < ([(some 147), (some 148), (some 149), (some 150), (some 151)].length : Int))) then
    (ix [(some 147), (some 148), (some 149), (some 150), (some 151)] s13).bind fun v15 =>
    (fvcall1 v15 a0).bind fun v16 =>
    if (!v16) then
     some (.inr (.inl false))
    else
    some (.inl (w64 (s13 + 1)))
   else
   some (.inr (.inr ()))) 0).bind fun e12 =>
  match e12 with
  | .inl w => some w
  | .inr w => κ8 w)
def w16_shown : Option Bool :=
 (hold_New 4 2 8).bind fun v1 =>
 (store_Make v1.S 1 (-1)).bind fun v2 =>
 (store_Make v2.1 1 (-1)).bind fun v3 =>
 (store_Make v3.1 0 3).bind fun v4 =>
 (hold_Field (⟨v4.1, v1.Roots, v1.Cells, v1.T, v1.Q⟩ : hold_Heap) v2.2.1 0 v3.2.1).bind fun v5 =>
 (hold_Field v5.1 v3.2.1 0 v4.2.1).bind fun v6 =>
 (hold_Weak v6.1 0 v3.2.1 2).bind fun v7 =>
 (settle_Zero v7.1).bind fun v8 =>
 (settle_Settle v7.1).bind fun v9 =>
 (store_Get v9.S v4.2.1).bind fun v10 =>
 (store_Get v9.S v2.2.1).bind fun v11 =>
 (weak_Load v9.Cells 0).bind fun v12 =>
 (onlyIf (((v8.length : Int) == 1) == true) (0 : Int) (ix v8 0)).bind fun v13 =>
 (onlyIf ((((v8.length : Int) == 1) && (v13 == v2.2.1)) == true) [] (store_Live v9.S)).bind fun v14 =>
 (onlyIf (((((((((((v8.length : Int) == 1) && (v13 == v2.2.1)) && ((v14.length : Int) == 1)) && (v10.2 == 0)) && v10.1.Started) && (v10.1.Strong == 1)) && (v11.2 != 0)) && (v12.2 != 0)) && ((v9.Q.L.length : Int) == 2)) == true) (⟨0, 0, 0⟩ : task_Task) (ix v9.Q.L 0)).bind fun v15 =>
 (onlyIf ((((((((((((v8.length : Int) == 1) && (v13 == v2.2.1)) && ((v14.length : Int) == 1)) && (v10.2 == 0)) && v10.1.Started) && (v10.1.Strong == 1)) && (v11.2 != 0)) && (v12.2 != 0)) && ((v9.Q.L.length : Int) == 2)) && ((v15.Kind == 2) && ((v15.At == 0) && ((v15.Prog == 2) && true)))) == true) (⟨0, 0, 0⟩ : task_Task) (ix v9.Q.L 1)).bind fun v16 =>
 (onlyIf (((((((((((((v8.length : Int) == 1) && (v13 == v2.2.1)) && ((v14.length : Int) == 1)) && (v10.2 == 0)) && v10.1.Started) && (v10.1.Strong == 1)) && (v11.2 != 0)) && (v12.2 != 0)) && ((v9.Q.L.length : Int) == 2)) && ((v15.Kind == 2) && ((v15.At == 0) && ((v15.Prog == 2) && true)))) && ((v16.Kind == 1) && ((v16.At == v4.2.1) && ((v16.Prog == 3) && true)))) == true) false (settle_Settled v9)).bind fun v17 =>
 (onlyIf ((((((((((((((v8.length : Int) == 1) && (v13 == v2.2.1)) && ((v14.length : Int) == 1)) && (v10.2 == 0)) && v10.1.Started) && (v10.1.Strong == 1)) && (v11.2 != 0)) && (v12.2 != 0)) && ((v9.Q.L.length : Int) == 2)) && ((v15.Kind == 2) && ((v15.At == 0) && ((v15.Prog == 2) && true)))) && ((v16.Kind == 1) && ((v16.At == v4.2.1) && ((v16.Prog == 3) && true)))) && v17) == true) false (hold_Right v9)).bind fun v18 =>
 some ((((((((((((((v8.length : Int) == 1) && (v13 == v2.2.1)) && ((v14.length : Int) == 1)) && (v10.2 == 0)) && v10.1.Started) && (v10.1.Strong == 1)) && (v11.2 != 0)) && (v12.2 != 0)) && ((v9.Q.L.length : Int) == 2)) && ((v15.Kind == 2) && ((v15.At == 0) && ((v15.Prog == 2) && true)))) && ((v16.Kind == 1) && ((v16.At == v4.2.1) && ((v16.Prog == 3) && true)))) && v17) && v18)
def r16_Zero (a0 : r15_Heap) : Option (List Int) :=
 (r06_Live a0.S).bind fun v1 =>
 jn (fun (j16 : List Int) =>
  some j16) (fun κ15 =>
  (lp (S := Int × (List Int)) (E := (List Int)) (fun ((s18, s19) : Int × (List Int)) =>
   if (decide (s18 < (v1.length : Int))) then
    jn (fun (j26 : List Int) =>
     some (.inl (w64 (s18 + 1), j26))) (fun κ25 =>
     (ix v1 s18).bind fun v27 =>
     (r06_Get a0.S v27).bind fun v28 =>
     if (v28.1.Strong == 0) then
      (app 8 s19 [v27]).bind fun v29 =>
      κ25 v29
     else
     κ25 s19)
   else
   some (.inr s19)) (0, [])).bind fun e17 =>
  κ15 e17)
def r16_Settled (a0 : r15_Heap) : Option Bool :=
 (r16_Zero a0).bind fun v1 =>
 some ((v1.length : Int) == 0)
def r02_Ints (a0 : List Int) (a1 : List Int) : Option Bool :=
 if ((a0.length : Int) != (a1.length : Int)) then
  some false
 else
 jn (fun (_ : Unit) =>
  some true) (fun κ6 =>
  (lp (S := Int) (E := Bool ⊕ Unit) (fun (s9 : Int) =>
   if (decide (s9 < (a0.length : Int))) then
    (ix a0 s9).bind fun v11 =>
    (ix a1 s9).bind fun v12 =>
    if (v11 != v12) then
     some (.inr (.inl false))
    else
    some (.inl (w64 (s9 + 1)))
   else
   some (.inr (.inr ()))) 0).bind fun e8 =>
  match e8 with
  | .inl w => some w
  | .inr w => κ6 w)
def r06_Alike (a0 : r06_Obj) (a1 : r06_Obj) : Option Bool :=
 (onlyIf ((((((a0.Serial == a1.Serial) && (a0.Strong == a1.Strong)) && (a0.Weak == a1.Weak)) && (a0.Prog == a1.Prog)) && (a0.Started == a1.Started)) == true) false (r02_Ints a0.Fields a1.Fields)).bind fun v1 =>
 some ((((((a0.Serial == a1.Serial) && (a0.Strong == a1.Strong)) && (a0.Weak == a1.Weak)) && (a0.Prog == a1.Prog)) && (a0.Started == a1.Started)) && v1)
def r06_Same (a0 : r06_Store) (a1 : r06_Store) : Option Bool :=
 if (((a0.Last != a1.Last) || (a0.Serial != a1.Serial)) || ((a0.Cells.length : Int) != (a1.Cells.length : Int))) then
  some false
 else
 jn (fun (_ : Unit) =>
  some true) (fun κ7 =>
  (lp (S := Int) (E := Bool ⊕ Unit) (fun (s10 : Int) =>
   if (decide (s10 < (a0.Cells.length : Int))) then
    (ix a0.Cells s10).bind fun v12 =>
    (ix a1.Cells s10).bind fun v13 =>
    (onlyIf (((v12.State != v13.State) || (v12.Gen != v13.Gen)) == false) false (r06_Alike v12.Val v13.Val)).bind fun v14 =>
    if (((v12.State != v13.State) || (v12.Gen != v13.Gen)) || (!v14)) then
     some (.inr (.inl false))
    else
    some (.inl (w64 (s10 + 1)))
   else
   some (.inr (.inr ()))) 0).bind fun e9 =>
  match e9 with
  | .inl w => some w
  | .inr w => κ7 w)
def r09_Same (a0 : List r09_Cell) (a1 : List r09_Cell) : Option Bool :=
 if ((a0.length : Int) != (a1.length : Int)) then
  some false
 else
 jn (fun (_ : Unit) =>
  some true) (fun κ6 =>
  (lp (S := Int) (E := Bool ⊕ Unit) (fun (s9 : Int) =>
   if (decide (s9 < (a0.length : Int))) then
    (ix a0 s9).bind fun v11 =>
    (ix a1 s9).bind fun v12 =>
    if (!((v11.Target == v12.Target) && ((v11.Intact == v12.Intact) && ((v11.Call == v12.Call) && true)))) then
     some (.inr (.inl false))
    else
    some (.inl (w64 (s9 + 1)))
   else
   some (.inr (.inr ()))) 0).bind fun e8 =>
  match e8 with
  | .inl w => some w
  | .inr w => κ6 w)
def r10_Same (a0 : List r10_Place) (a1 : List r10_Place) : Option Bool :=
 if ((a0.length : Int) != (a1.length : Int)) then
  some false
 else
 jn (fun (_ : Unit) =>
  some true) (fun κ6 =>
  (lp (S := Int) (E := Bool ⊕ Unit) (fun (s9 : Int) =>
   if (decide (s9 < (a0.length : Int))) then
    (ix a0 s9).bind fun v11 =>
    (ix a1 s9).bind fun v12 =>
    if (!((v11.State == v12.State) && ((v11.Key == v12.Key) && ((v11.Val == v12.Val) && true)))) then
     some (.inr (.inl false))
    else
    some (.inl (w64 (s9 + 1)))
   else
   some (.inr (.inr ()))) 0).bind fun e8 =>
  match e8 with
  | .inl w => some w
  | .inr w => κ6 w)
def r14_Same (a0 : r14_Queue) (a1 : r14_Queue) : Option Bool :=
 if ((a0.Cap != a1.Cap) || ((a0.L.length : Int) != (a1.L.length : Int))) then
  some false
 else
 jn (fun (_ : Unit) =>
  some true) (fun κ6 =>
  (lp (S := Int) (E := Bool ⊕ Unit) (fun (s9 : Int) =>
   if (decide (s9 < (a0.L.length : Int))) then
    (ix a0.L s9).bind fun v11 =>
    (ix a1.L s9).bind fun v12 =>
    if (!((v11.Kind == v12.Kind) && ((v11.At == v12.At) && ((v11.Prog == v12.Prog) && true)))) then
     some (.inr (.inl false))
    else
    some (.inl (w64 (s9 + 1)))
   else
   some (.inr (.inr ()))) 0).bind fun e8 =>
  match e8 with
  | .inl w => some w
  | .inr w => κ6 w)
def r15_Same (a0 : r15_Heap) (a1 : r15_Heap) : Option Bool :=
 (r06_Same a0.S a1.S).bind fun v1 =>
 (onlyIf (v1 == true) false (r02_Ints a0.Roots a1.Roots)).bind fun v2 =>
 (onlyIf ((v1 && v2) == true) false (r09_Same a0.Cells a1.Cells)).bind fun v3 =>
 (onlyIf (((v1 && v2) && v3) == true) false (r10_Same a0.T a1.T)).bind fun v4 =>
 (onlyIf ((((v1 && v2) && v3) && v4) == true) false (r14_Same a0.Q a1.Q)).bind fun v5 =>
 some ((((v1 && v2) && v3) && v4) && v5)
def w16_SettleStays (a0 : hold_Heap) : Option Bool :=
 (w16_sound a0).bind fun v1 =>
 (onlyIf ((!v1) == false) false w16_shown).bind fun v2 =>
 if ((!v1) || (!v2)) then
  (w16_shown).bind fun v3 =>
  some v3
 else
 (settle_Settle a0).bind fun v4 =>
 (w16_few v4).bind fun v5 =>
 if (!v5) then
  some false
 else
 (settle_Settle v4).bind fun v6 =>
 (w16_heap v4).bind fun v7 =>
 (r15_Right v7).bind fun v8 =>
 (onlyIf (v8 == true) false (r16_Settled v7)).bind fun v9 =>
 (onlyIf ((v8 && v9) == true) false (w16_few v6)).bind fun v10 =>
 (onlyIf (((v8 && v9) && v10) == true) ⟨⟨[], 0, 0⟩, [], [], [], ⟨[], 0⟩⟩ (w16_heap v6)).bind fun v11 =>
 (onlyIf (((v8 && v9) && v10) == true) false (r15_Same v7 v11)).bind fun v12 =>
 some (((v8 && v9) && v10) && v12)
def hold_rootPlace_say (a0 : hold_rootPlace) (a1 : hold_Heap) : Option hold_Heap :=
 (slices_Clone_int_int a1.Roots).bind fun v1 =>
 (ix v1 a0.r).bind fun v2 =>
 some (⟨a1.S, (v1.set (a0.r).toNat a0.h), a1.Cells, a1.T, a1.Q⟩ : hold_Heap)
def hold_turned__hold_rootPlace_say (a0 : hold_Heap) (a1 : Int) (a2 : Int) (a3 : hold_rootPlace) : Option hold_Heap :=
 (hold_Retain a0 a2).bind fun v1 =>
 (hold_rootPlace_say a3 v1).bind fun v2 =>
 (hold_Release v2 a1).bind fun v3 =>
 some v3
def hold_Root (a0 : hold_Heap) (a1 : Int) (a2 : Int) : Option (hold_Heap × Int) :=
 if ((decide (a1 < 0)) || (decide (a1 ≥ (a0.Roots.length : Int)))) then
  some (a0, 6)
 else
 (hold_nameable a0 a2).bind fun v1 =>
 if (!v1) then
  some (a0, 3)
 else
 (ix a0.Roots a1).bind fun v2 =>
 (hold_turned__hold_rootPlace_say a0 v2 a2 (⟨a1, a2⟩ : hold_rootPlace)).bind fun v3 =>
 some (v3, 0)
def w16_SettleChain (a0 : Int) : Option Bool :=
 (rem (w64 a0) 24).bind fun v1 =>
 (hold_New 24 3 8).bind fun v2 =>
 jn (fun (j17 : hold_Heap) =>
  (settle_Settle j17).bind fun v18 =>
  (hold_Root v18 0 0).bind fun v19 =>
  (settle_Settle v19.1).bind fun v20 =>
  (store_Live v18.S).bind fun v21 =>
  (onlyIf (((v21.length : Int) == (w64 (1 + v1))) == true) [] (settle_Zero v19.1)).bind fun v22 =>
  (onlyIf ((((v21.length : Int) == (w64 (1 + v1))) && ((v22.length : Int) == 1)) == true) [] (store_Live v20.S)).bind fun v23 =>
  (onlyIf (((((v21.length : Int) == (w64 (1 + v1))) && ((v22.length : Int) == 1)) && ((v23.length : Int) == 0)) == true) false (settle_Settled v20)).bind fun v24 =>
  (onlyIf (((((((v21.length : Int) == (w64 (1 + v1))) && ((v22.length : Int) == 1)) && ((v23.length : Int) == 0)) && v24) && (v20.S.Serial == (w64 (1 + v1)))) == true) false w16_shown).bind fun v25 =>
  some (((((((v21.length : Int) == (w64 (1 + v1))) && ((v22.length : Int) == 1)) && ((v23.length : Int) == 0)) && v24) && (v20.S.Serial == (w64 (1 + v1)))) && v25)) (fun κ16 =>
  (lp (S := Int × hold_Heap) (E := Bool ⊕ hold_Heap) (fun ((s27, s28) : Int × hold_Heap) =>
   if (decide (s27 < (w64 (1 + v1)))) then
    (store_Make s28.S 1 (-1)).bind fun v31 =>
    if (v31.2.2 != 0) then
     some (.inr (.inl false))
    else
    if ((s28.Roots.length : Int) != 6) then
     some (.inr (.inl false))
    else
    jn (fun (j35 : hold_Heap) =>
     (hold_Root j35 0 v31.2.1).bind fun v36 =>
     some (.inl (w64 (s27 + 1), v36.1))) (fun κ34 =>
     if (decide (s27 > 0)) then
      (ix s28.Roots 0).bind fun v37 =>
      (hold_Field (⟨v31.1, s28.Roots, s28.Cells, s28.T, s28.Q⟩ : hold_Heap) v31.2.1 0 v37).bind fun v38 =>
      κ34 v38.1
     else
     κ34 (⟨v31.1, s28.Roots, s28.Cells, s28.T, s28.Q⟩ : hold_Heap))
   else
   some (.inr (.inr s28))) (0, v2)).bind fun e26 =>
  match e26 with
  | .inl w => some w
  | .inr w => κ16 w)
def r16_Due (a0 : r15_Heap) (a1 : Int) : Option Bool :=
 (r06_Get a0.S a1).bind fun v1 =>
 (r15_Lives a0 a1).bind fun v2 =>
 some ((v2 && (decide (v1.1.Prog ≥ 0))) && (!v1.1.Started))
def r06_with (a0 : r06_Store) (a1 : Int) (a2 : r06_Obj) : Option r06_Store :=
 (app 80 [] a0.Cells).bind fun v1 =>
 (ix v1 a1).bind fun v2 =>
 some (⟨(v1.set (a1).toNat (⟨v2.State, v2.Gen, a2⟩ : r06_Cell)), a0.Last, a0.Serial⟩ : r06_Store)
def r06_Set (a0 : r06_Store) (a1 : Int) (a2 : r06_Obj) : Option (r06_Store × Int) :=
 (r06_Plain a0).bind fun v1 =>
 (r03_Find v1 a1).bind fun v2 =>
 if (v2.2 != 0) then
  some (a0, v2.2)
 else
 (r06_with a0 v2.1 a2).bind fun v3 =>
 some (v3, 0)
def r14_Add (a0 : r14_Queue) (a1 : r14_Task) : Option (r14_Queue × Int) :=
 if (decide ((a0.L.length : Int) ≥ a0.Cap)) then
  some (a0, 4)
 else
 (app 24 [] a0.L).bind fun v1 =>
 (app 24 v1 [a1]).bind fun v2 =>
 some ((⟨v2, a0.Cap⟩ : r14_Queue), 0)
def r04_Inc (a0 : Int) : Option Int :=
 (r04_Stuck a0).bind fun v1 =>
 if v1 then
  some 12
 else
 if (decide (a0 < 0)) then
  some 1
 else
 some (w64 (a0 + 1))
def r15_Strong (a0 : r15_Heap) (a1 : Int) (a2 : Int) : Option r15_Heap :=
 (r06_Get a0.S a1).bind fun v1 =>
 if (v1.2 != 0) then
  some a0
 else
 (r06_Set a0.S a1 (⟨v1.1.Serial, a2, v1.1.Weak, v1.1.Prog, v1.1.Started, v1.1.Fields⟩ : r06_Obj)).bind fun v2 =>
 some (⟨v2.1, a0.Roots, a0.Cells, a0.T, a0.Q⟩ : r15_Heap)
def r15_Retain (a0 : r15_Heap) (a1 : Int) : Option r15_Heap :=
 (r06_Get a0.S a1).bind fun v1 =>
 (r04_Inc v1.1.Strong).bind fun v2 =>
 (r15_Strong a0 a1 v2).bind fun v3 =>
 some v3
def r16_Queued (a0 : r15_Heap) (a1 : Int) : Option r15_Heap :=
 (r16_Due a0 a1).bind fun v1 =>
 if (!v1) then
  some a0
 else
 (r06_Get a0.S a1).bind fun v2 =>
 (r06_Set a0.S a1 (⟨v2.1.Serial, v2.1.Strong, v2.1.Weak, v2.1.Prog, true, v2.1.Fields⟩ : r06_Obj)).bind fun v3 =>
 (r14_Add a0.Q (⟨1, a1, v2.1.Prog⟩ : r14_Task)).bind fun v4 =>
 (r15_Retain (⟨v3.1, a0.Roots, a0.Cells, a0.T, v4.1⟩ : r15_Heap) a1).bind fun v5 =>
 some v5
def r08_Has (a0 : List Int) (a1 : Int) : Option Bool :=
 (r07_Times a0 a1).bind fun v1 =>
 some (decide (v1 > 0))
def r16_each (a0 : r15_Heap) (a1 : List Int) : Option (List Int) :=
 jn (fun (j17 : List Int) =>
  some j17) (fun κ16 =>
  (lp (S := Int × (List Int)) (E := (List Int)) (fun ((s19, s20) : Int × (List Int)) =>
   if (decide (s19 < (a1.length : Int))) then
    jn (fun (j28 : List Int) =>
     some (.inl (w64 (s19 + 1), j28))) (fun κ27 =>
     (ix a1 s19).bind fun v29 =>
     (r15_Lives a0 v29).bind fun v30 =>
     (onlyIf (v30 == true) false (r08_Has s20 v29)).bind fun v31 =>
     if (v30 && (!v31)) then
      (app 8 s20 [v29]).bind fun v32 =>
      κ27 v32
     else
     κ27 s20)
   else
   some (.inr s20)) (0, [])).bind fun e18 =>
  κ16 e18)
def r09_Clear (a0 : List r09_Cell) (a1 : List Int) : Option ((List r09_Cell) × (List Int)) :=
 jn (fun ((j18, j19) : (List Int) × (List r09_Cell)) =>
  some (j19, j18)) (fun κ17 =>
  (lp (S := Int × (List r09_Cell) × (List Int)) (E := ((List Int) × (List r09_Cell))) (fun ((s22, s23, s24) : Int × (List r09_Cell) × (List Int)) =>
   if (decide (s22 < (a0.length : Int))) then
    (ix a0 s22).bind fun v27 =>
    jn (fun ((j31, j32) : Bool × (List Int)) =>
     (app 24 s23 [(⟨v27.Target, j31, v27.Call⟩ : r09_Cell)]).bind fun v34 =>
     some (.inl (w64 (s22 + 1), v34, j32))) (fun κ30 =>
     (onlyIf (v27.Intact == true) 0 (r07_Times a1 v27.Target)).bind fun v35 =>
     if (v27.Intact && (decide (v35 > 0))) then
      if (decide (v27.Call ≥ 0)) then
       (app 8 s24 [s22]).bind fun v36 =>
       κ30 (false, v36)
      else
      κ30 (false, s24)
     else
     κ30 (v27.Intact, s24))
   else
   some (.inr (s24, s23))) (0, [], [])).bind fun e21 =>
  κ17 e21)
def r10_with (a0 : List r10_Place) (a1 : Int) (a2 : r10_Place) : Option (List r10_Place) :=
 (app 24 [] a0).bind fun v1 =>
 (ix v1 a1).bind fun v2 =>
 some (v1.set (a1).toNat a2)
def r10_Drop (a0 : List r10_Place) (a1 : Int) : Option ((List r10_Place) × Int × Int) :=
 (r10_Find a0 a1).bind fun v1 =>
 if (decide (v1 < 0)) then
  some (a0, 0, 9)
 else
 (r10_with a0 v1 (⟨2, 0, 0⟩ : r10_Place)).bind fun v2 =>
 (ix a0 v1).bind fun v3 =>
 some (v2, v3.Val, 0)
def r11_Without (a0 : List r10_Place) (a1 : List Int) : Option ((List r10_Place) × (List Int)) :=
 jn (fun ((j18, j19) : (List r10_Place) × (List Int)) =>
  some (j18, j19)) (fun κ17 =>
  (lp (S := (List r10_Place) × Int × (List Int)) (E := ((List r10_Place) × (List Int))) (fun ((s22, s23, s24) : (List r10_Place) × Int × (List Int)) =>
   if (decide (s23 < (a1.length : Int))) then
    jn (fun ((j31, j32) : (List r10_Place) × (List Int)) =>
     some (.inl (j31, w64 (s23 + 1), j32))) (fun κ30 =>
     (ix a1 s23).bind fun v34 =>
     (r10_Drop s22 v34).bind fun v35 =>
     if (v35.2.2 == 0) then
      (app 8 s24 [v35.2.1]).bind fun v36 =>
      κ30 (v35.1, v36)
     else
     κ30 (s22, s24))
   else
   some (.inr (s22, s24))) (a0, 0, [])).bind fun e21 =>
  κ17 e21)
def r03_with (a0 : r03_Slab) (a1 : Int) (a2 : r03_Cell) : Option r03_Slab :=
 (app 24 [] a0.Cells).bind fun v1 =>
 (ix v1 a1).bind fun v2 =>
 some (⟨(v1.set (a1).toNat a2), a0.Last⟩ : r03_Slab)
def r03_Kill (a0 : r03_Slab) (a1 : Int) : Option (r03_Slab × Int) :=
 (r03_Get a0 a1).bind fun v1 =>
 if (v1.2 != 0) then
  some (a0, v1.2)
 else
 (r03_Find a0 a1).bind fun v2 =>
 (ix a0.Cells v2.1).bind fun v3 =>
 (r03_with a0 v2.1 (⟨2, v3.Gen, v3.Val⟩ : r03_Cell)).bind fun v4 =>
 some (v4, 0)
def r06_Turned (a0 : r06_Store) (a1 : r03_Slab) : Option r06_Store :=
 jn (fun (j10 : List r06_Cell) =>
  some (⟨j10, a0.Last, a0.Serial⟩ : r06_Store)) (fun κ9 =>
  (lp (S := Int × (List r06_Cell)) (E := (List r06_Cell)) (fun ((s12, s13) : Int × (List r06_Cell)) =>
   if (decide (s12 < (a0.Cells.length : Int))) then
    (ix a1.Cells s12).bind fun v16 =>
    (ix a0.Cells s12).bind fun v17 =>
    (app 80 s13 [(⟨v16.State, v16.Gen, v17.Val⟩ : r06_Cell)]).bind fun v18 =>
    some (.inl (w64 (s12 + 1), v18))
   else
   some (.inr s13)) (0, [])).bind fun e11 =>
  κ9 e11)
def r06_Kill (a0 : r06_Store) (a1 : Int) : Option r06_Store :=
 (r06_Plain a0).bind fun v1 =>
 (r03_Kill v1 a1).bind fun v2 =>
 (r06_Turned a0 v2.1).bind fun v3 =>
 some v3
def r03_Give (a0 : r03_Slab) (a1 : Int) : Option (r03_Slab × Int) :=
 (r03_Find a0 a1).bind fun v1 =>
 if (v1.2 != 0) then
  some (a0, v1.2)
 else
 (ix a0.Cells v1.1).bind fun v2 =>
 if (decide (v2.Gen ≥ a0.Last)) then
  (r03_with a0 v1.1 (⟨3, v2.Gen, 0⟩ : r03_Cell)).bind fun v3 =>
  some (v3, 0)
 else
 (r03_with a0 v1.1 (⟨0, w64 (v2.Gen + 1), 0⟩ : r03_Cell)).bind fun v4 =>
 some (v4, 0)
def r06_Give (a0 : r06_Store) (a1 : Int) : Option r06_Store :=
 (r06_Plain a0).bind fun v1 =>
 (r03_Give v1 a1).bind fun v2 =>
 if (v2.2 != 0) then
  some a0
 else
 (r06_Turned a0 v2.1).bind fun v3 =>
 (r01_Slot a1).bind fun v4 =>
 (r06_with v3 v4 (⟨0, 0, 0, 0, false, []⟩ : r06_Obj)).bind fun v5 =>
 some v5
def r16_gone (a0 : r15_Heap) (a1 : Int) : Option r15_Heap :=
 (r06_Get a0.S a1).bind fun v1 =>
 (r06_Set a0.S a1 (⟨v1.1.Serial, 0, v1.1.Weak, v1.1.Prog, v1.1.Started, []⟩ : r06_Obj)).bind fun v2 =>
 (r06_Kill v2.1 a1).bind fun v3 =>
 if (v1.1.Weak == 0) then
  (r06_Give v3 a1).bind fun v4 =>
  some (⟨v4, a0.Roots, a0.Cells, a0.T, a0.Q⟩ : r15_Heap)
 else
 some (⟨v3, a0.Roots, a0.Cells, a0.T, a0.Q⟩ : r15_Heap)
def r04_Dec (a0 : Int) : Option (Int × Int) :=
 (r04_Stuck a0).bind fun v1 =>
 if v1 then
  some (12, 0)
 else
 if (decide (a0 < 1)) then
  some (0, 11)
 else
 some (w64 (a0 - 1), 0)
def r15_Release (a0 : r15_Heap) (a1 : Int) : Option r15_Heap :=
 (r06_Get a0.S a1).bind fun v1 =>
 (r04_Dec v1.1.Strong).bind fun v2 =>
 if (v2.2 != 0) then
  some a0
 else
 (r15_Strong a0 a1 v2.1).bind fun v3 =>
 some v3
def r16_Bury (a0 : r15_Heap) (a1 : List Int) : Option r15_Heap :=
 (r16_each a0 a1).bind fun v1 =>
 (r09_Clear a0.Cells v1).bind fun v2 =>
 jn (fun (j12 : r14_Queue) =>
  jn (fun (j23 : List Int) =>
   (r11_Without a0.T v1).bind fun v24 =>
   (app 8 j23 v24.2).bind fun v25 =>
   jn (fun (j34 : r15_Heap) =>
    jn (fun (j43 : r15_Heap) =>
     some j43) (fun κ42 =>
     (lp (S := Int × r15_Heap) (E := r15_Heap) (fun ((s45, s46) : Int × r15_Heap) =>
      if (decide (s45 < (v25.length : Int))) then
       (ix v25 s45).bind fun v49 =>
       (r15_Release s46 v49).bind fun v50 =>
       some (.inl (w64 (s45 + 1), v50))
      else
      some (.inr s46)) (0, j34)).bind fun e44 =>
     κ42 e44)) (fun κ33 =>
    (lp (S := Int × r15_Heap) (E := r15_Heap) (fun ((s52, s53) : Int × r15_Heap) =>
     if (decide (s52 < (v1.length : Int))) then
      (ix v1 s52).bind fun v56 =>
      (r16_gone s53 v56).bind fun v57 =>
      some (.inl (w64 (s52 + 1), v57))
     else
     some (.inr s53)) (0, (⟨a0.S, a0.Roots, v2.1, v24.1, j12⟩ : r15_Heap))).bind fun e51 =>
    κ33 e51)) (fun κ22 =>
   (lp (S := Int × (List Int)) (E := (List Int)) (fun ((s59, s60) : Int × (List Int)) =>
    if (decide (s59 < (v1.length : Int))) then
     (ix v1 s59).bind fun v63 =>
     (r06_Get a0.S v63).bind fun v64 =>
     (r05_Names v64.1.Fields).bind fun v65 =>
     (app 8 s60 v65).bind fun v66 =>
     some (.inl (w64 (s59 + 1), v66))
    else
    some (.inr s60)) (0, [])).bind fun e58 =>
   κ22 e58)) (fun κ11 =>
  (lp (S := Int × r14_Queue) (E := r14_Queue) (fun ((s68, s69) : Int × r14_Queue) =>
   if (decide (s68 < (v2.2.length : Int))) then
    (ix v2.2 s68).bind fun v72 =>
    (ix v2.1 v72).bind fun v73 =>
    (r14_Add s69 (⟨2, v72, v73.Call⟩ : r14_Task)).bind fun v74 =>
    some (.inl (w64 (s68 + 1), v74.1))
   else
   some (.inr s69)) (0, a0.Q)).bind fun e67 =>
  κ11 e67)
def r16_Settle (a0 : r15_Heap) : Option r15_Heap :=
 jn (fun (j21 : r15_Heap) =>
  some j21) (fun κ20 =>
  (lp (S := Int × r15_Heap) (E := r15_Heap ⊕ r15_Heap) (fun ((s23, s24) : Int × r15_Heap) =>
   if (decide (s23 < 100)) then
    jn (fun (j34 : r15_Heap) =>
     some (.inl (w64 (s23 + 1), j34))) (fun κ33 =>
     (r16_Zero s24).bind fun v35 =>
     if ((v35.length : Int) == 0) then
      some (.inr (.inl s24))
     else
     (ix v35 0).bind fun v36 =>
     (r16_Due s24 v36).bind fun v37 =>
     if v37 then
      (r16_Queued s24 v36).bind fun v38 =>
      κ33 v38
     else
     (cut v35 0 1).bind fun v39 =>
     (r16_Bury s24 v39).bind fun v40 =>
     κ33 v40)
   else
   some (.inr (.inr s24))) (0, a0)).bind fun e22 =>
  match e22 with
  | .inl w => some w
  | .inr w => κ20 w)
end
end Go.Sh
