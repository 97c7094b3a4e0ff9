/-
  Plain functions: what the functions of the program come to.
-/
import Derived.Test.YtkjilddlbaibfaaGreatH13Sh0
import Derived.Test.YtkjilddlbaibfaaGreatH13PwD
namespace Go.Sh
set_option linter.unusedVariables false
set_option maxRecDepth 100000
noncomputable section
structure store_Obj where
  Serial : Int
  Strong : Int
  Weak : Int
  Prog : Int
  Started : Bool
  Fields : List Int
structure slab_Cell_store_Obj where
  State : Int
  Gen : Int
  Val : store_Obj
structure slab_Slab_store_Obj where
  Cells : List slab_Cell_store_Obj
  Last : Int
structure store_Store where
  S : slab_Slab_store_Obj
  Serial : Int
structure hash_Place where
  State : Int
  Key : Int
  Val : Int
structure r06_Obj where
  Serial : Int
  Strong : Int
  Weak : Int
  Prog : Int
  Started : Bool
  Fields : List Int
structure r06_Cell where
  State : Int
  Gen : Int
  Val : r06_Obj
structure r06_Store where
  Cells : List r06_Cell
  Last : Int
  Serial : Int
structure r03_Cell where
  State : Int
  Gen : Int
  Val : Int
structure r03_Slab where
  Cells : List r03_Cell
  Last : Int
structure r10_Place where
  State : Int
  Key : Int
  Val : Int
structure ephem_Pair where
  Key : Int
  Val : Int
structure queue_Queue_int where
  L : List Int
  Cap : Int
structure r11_Pair where
  Key : Int
  Val : Int
def w13_small (a0 : store_Store) : Option Bool :=
  jn (fun (_ : Unit) =>
    some (decide ((a0.S.Cells.length : Int) ≤ 30))) (fun κ5 =>
    (lp (S := Int) (E := Bool ⊕ Unit) (fun (s8 : Int) =>
      if ((decide (s8 < (a0.S.Cells.length : Int))) && (decide (s8 < 30))) then
        (ix a0.S.Cells s8).bind fun v10 =>
        if (decide ((v10.Val.Fields.length : Int) > 10)) then
          some (.inr (.inl false))
        else
        some (.inl (w64 (s8 + 1)))
      else
      some (.inr (.inr ()))) 0).bind fun e7 =>
    match e7 with
    | .inl w => some w
    | .inr w => κ5 w)
def w13_obj (a0 : store_Obj) : Option r06_Obj :=
  some (⟨a0.Serial, a0.Strong, a0.Weak, a0.Prog, a0.Started, a0.Fields⟩ : r06_Obj)
def w13_its (a0 : store_Store) : Option r06_Store :=
  jn (fun (j10 : List r06_Cell) =>
    some (⟨j10, a0.S.Last, a0.Serial⟩ : r06_Store)) (fun κ9 =>
    (lp (S := Int × (List r06_Cell)) (E := (List r06_Cell)) (fun ((s12, s13) : Int × (List r06_Cell)) =>
      if (decide (s12 < (a0.S.Cells.length : Int))) then
        (ix a0.S.Cells s12).bind fun v16 =>
        (w13_obj v16.Val).bind fun v17 =>
        (app 80 s13 [(⟨v16.State, v16.Gen, v17⟩ : r06_Cell)]).bind fun v18 =>
        some (.inl (w64 (s12 + 1), v18))
      else
      some (.inr s13)) (0, [])).bind fun e11 =>
    κ9 e11)
def r06_Plain (a0 : r06_Store) : Option r03_Slab :=
  jn (fun (j9 : List r03_Cell) =>
    some (⟨j9, a0.Last⟩ : r03_Slab)) (fun κ8 =>
    (lp (S := Int × (List r03_Cell)) (E := (List r03_Cell)) (fun ((s11, s12) : Int × (List r03_Cell)) =>
      if (decide (s11 < (a0.Cells.length : Int))) then
        (ix a0.Cells s11).bind fun v15 =>
        (app 24 s12 [(⟨v15.State, v15.Gen, s11⟩ : r03_Cell)]).bind fun v16 =>
        some (.inl (w64 (s11 + 1), v16))
      else
      some (.inr s12)) (0, [])).bind fun e10 =>
    κ8 e10)
def r03_Right (a0 : r03_Slab) : Option Bool :=
  if (((decide ((a0.Cells.length : Int) > 24)) || (decide (a0.Last < 0))) || (decide (a0.Last > 9))) then
    some false
  else
  jn (fun (_ : Unit) =>
    some true) (fun κ5 =>
    (lp (S := Int) (E := Bool ⊕ Unit) (fun (s8 : Int) =>
      if (decide (s8 < (a0.Cells.length : Int))) then
        (ix a0.Cells s8).bind fun v10 =>
        if ((((decide (v10.State < 0)) || (decide (v10.State > 3))) || (decide (v10.Gen < 0))) || (decide (v10.Gen > a0.Last))) then
          some (.inr (.inl false))
        else
        some (.inl (w64 (s8 + 1)))
      else
      some (.inr (.inr ()))) 0).bind fun e7 =>
    match e7 with
    | .inl w => some w
    | .inr w => κ5 w)
def r06_there (a0 : r06_Cell) : Option Bool :=
  some ((a0.State == 1) || (a0.State == 2))
def r06_Right (a0 : r06_Store) : Option Bool :=
  (r06_Plain a0).bind fun v1 =>
  (r03_Right v1).bind fun v2 =>
  if ((!v2) || (decide (a0.Serial < 0))) then
    some false
  else
  jn (fun (_ : Unit) =>
    some true) (fun κ22 =>
    (lp (S := Int) (E := Bool ⊕ Unit) (fun (s25 : Int) =>
      if (decide (s25 < (a0.Cells.length : Int))) then
        jn (fun (_ : Unit) =>
          some (.inl (w64 (s25 + 1)))) (fun κ34 =>
          (ix a0.Cells s25).bind fun v36 =>
          (r06_there v36).bind fun v37 =>
          if (!v37) then
            if ((((((v36.Val.Serial != 0) || (v36.Val.Strong != 0)) || (v36.Val.Weak != 0)) || (v36.Val.Prog != 0)) || v36.Val.Started) || ((v36.Val.Fields.length : Int) != 0)) then
              some (.inr (.inl false))
            else
            κ34 ()
          else
          if (((((((decide (v36.Val.Serial < 1)) || (decide (v36.Val.Serial > a0.Serial))) || (decide (v36.Val.Strong < 0))) || (decide (v36.Val.Weak < 0))) || (decide (v36.Val.Prog < (-1)))) || (decide (v36.Val.Prog > 5))) || (decide ((v36.Val.Fields.length : Int) > 4))) then
            some (.inr (.inl false))
          else
          (lp (S := Int) (E := Bool ⊕ Unit) (fun (s39 : Int) =>
            if (decide (s39 < s25)) then
              (ix a0.Cells s39).bind fun v41 =>
              (r06_there v41).bind fun v42 =>
              if (v42 && (v41.Val.Serial == v36.Val.Serial)) then
                some (.inr (.inl false))
              else
              some (.inl (w64 (s39 + 1)))
            else
            some (.inr (.inr ()))) 0).bind fun e38 =>
          match e38 with
          | .inl w => some (.inr (.inl w))
          | .inr w => κ34 w)
      else
      some (.inr (.inr ()))) 0).bind fun e24 =>
    match e24 with
    | .inl w => some w
    | .inr w => κ22 w)
def w13_right (a0 : store_Store) : Option Bool :=
  (w13_small a0).bind fun v1 =>
  (onlyIf ((v1 && (decide (a0.Serial < 1000000000))) == true) ⟨[], 0, 0⟩ (w13_its a0)).bind fun v2 =>
  (onlyIf ((v1 && (decide (a0.Serial < 1000000000))) == true) false (r06_Right v2)).bind fun v3 =>
  some ((v1 && (decide (a0.Serial < 1000000000))) && v3)
def w13_tab (a0 : List hash_Place) : Option (List r10_Place) :=
  jn (fun (j9 : List r10_Place) =>
    some j9) (fun κ8 =>
    (lp (S := Int × (List r10_Place)) (E := (List r10_Place)) (fun ((s11, s12) : Int × (List r10_Place)) =>
      if (decide (s11 < (a0.length : Int))) then
        (ix a0 s11).bind fun v15 =>
        (app 24 s12 [(⟨v15.State, v15.Key, v15.Val⟩ : r10_Place)]).bind fun v16 =>
        some (.inl (w64 (s11 + 1), v16))
      else
      some (.inr s12)) (0, [])).bind fun e10 =>
    κ8 e10)
def r10_Find (a0 : List r10_Place) (a1 : Int) : Option Int :=
  jn (fun (_ : Unit) =>
    some (-1)) (fun κ5 =>
    (lp (S := Int) (E := Int ⊕ Unit) (fun (s8 : Int) =>
      if (decide (s8 < (a0.length : Int))) then
        (ix a0 s8).bind fun v10 =>
        if ((v10.State == 1) && (v10.Key == a1)) then
          some (.inr (.inl s8))
        else
        some (.inl (w64 (s8 + 1)))
      else
      some (.inr (.inr ()))) 0).bind fun e7 =>
    match e7 with
    | .inl w => some w
    | .inr w => κ5 w)
def r10_Home (a0 : Int) (a1 : Int) : Option Int :=
  if (decide (a0 < 1)) then
    some 0
  else
  (rem (w64 ((w64 (5 * a1)) + 1)) a0).bind fun v1 =>
  if (decide (v1 < 0)) then
    some (w64 (v1 + a0))
  else
  some v1
def r10_Right (a0 : List r10_Place) : Option Bool :=
  if ((decide ((a0.length : Int) < 1)) || (decide ((a0.length : Int) > 8))) then
    some false
  else
  jn (fun (_ : Unit) =>
    some true) (fun κ22 =>
    (lp (S := Int) (E := Bool ⊕ Unit) (fun (s25 : Int) =>
      if (decide (s25 < (a0.length : Int))) then
        jn (fun (_ : Unit) =>
          some (.inl (w64 (s25 + 1)))) (fun κ35 =>
          (ix a0 s25).bind fun v37 =>
          if (((decide (v37.State < 0)) || (decide (v37.State > 2))) || ((v37.State != 1) && ((v37.Key != 0) || (v37.Val != 0)))) then
            some (.inr (.inl false))
          else
          if (v37.State != 1) then
            κ35 ()
          else
          (r10_Find a0 v37.Key).bind fun v38 =>
          if (v38 != s25) then
            some (.inr (.inl false))
          else
          (r10_Home (a0.length : Int) v37.Key).bind fun v39 =>
          (lp (S := Int) (E := Bool ⊕ Unit) (fun (s41 : Int) =>
            if (s41 != s25) then
              (ix a0 s41).bind fun v43 =>
              if (v43.State == 0) then
                some (.inr (.inl false))
              else
              (rem (w64 (s41 + 1)) (a0.length : Int)).bind fun v44 =>
              some (.inl v44)
            else
            some (.inr (.inr ()))) v39).bind fun e40 =>
          match e40 with
          | .inl w => some (.inr (.inl w))
          | .inr w => κ35 w)
      else
      some (.inr (.inr ()))) 0).bind fun e24 =>
    match e24 with
    | .inl w => some w
    | .inr w => κ22 w)
def w13_even (a0 : List hash_Place) : Option Bool :=
  (onlyIf ((decide ((a0.length : Int) ≤ 8)) == true) [] (w13_tab a0)).bind fun v1 =>
  (onlyIf ((decide ((a0.length : Int) ≤ 8)) == true) false (r10_Right v1)).bind fun v2 =>
  some ((decide ((a0.length : Int) ≤ 8)) && v2)
def slab_New_store_Obj (a0 : Int) (a1 : Int) : Option slab_Slab_store_Obj :=
  if ((((decide (a0 < 0)) || (decide (a0 > 24))) || (decide (a1 < 0))) || (decide (a1 > 9))) then
    some (⟨[], 0⟩ : slab_Slab_store_Obj)
  else
  (mk 80 a0 (⟨0, 0, ⟨0, 0, 0, 0, false, []⟩⟩ : slab_Cell_store_Obj)).bind fun v1 =>
  some (⟨v1, a1⟩ : slab_Slab_store_Obj)
def store_New (a0 : Int) (a1 : Int) : Option store_Store :=
  (slab_New_store_Obj a0 a1).bind fun v1 =>
  some (⟨v1, 0⟩ : store_Store)
def vec_New (a0 : Int) : Option ((List Int) × Int) :=
  if ((decide (a0 < 0)) || (decide (a0 > 4))) then
    some ([], 1)
  else
  (mk 8 a0 (0 : Int)).bind fun v1 =>
  some (v1, 0)
def store_programFits (a0 : Int) : Option Bool :=
  some ((decide (a0 ≥ (-1))) && (decide (a0 < 6)))
def slab_free_store_Obj (a0 : slab_Slab_store_Obj) : Option slab_Slab_store_Obj :=
  some a0
def slices_Clone_slab_Cell_store_Obj_slab_Cell_store_Obj (a0 : List slab_Cell_store_Obj) : Option (List slab_Cell_store_Obj) :=
  app 80 [] a0
def slab_with_store_Obj (a0 : slab_Slab_store_Obj) (a1 : Int) (a2 : slab_Cell_store_Obj) : Option slab_Slab_store_Obj :=
  (slices_Clone_slab_Cell_store_Obj_slab_Cell_store_Obj a0.Cells).bind fun v1 =>
  (ix v1 a1).bind fun v2 =>
  some (⟨(v1.set (a1).toNat a2), a0.Last⟩ : slab_Slab_store_Obj)
def handle_Pack (a0 : Int) (a1 : Int) : Option Int :=
  if ((((decide (a0 < 0)) || (decide (a0 ≥ 24))) || (decide (a1 < 0))) || (decide (a1 > 9))) then
    some 0
  else
  some (w64 ((w64 (1 + (w64 (a0 * 1)))) + (w64 (a1 * 32))))
def slab_Take_store_Obj (a0 : slab_Slab_store_Obj) (a1 : store_Obj) : Option (slab_Slab_store_Obj × Int × Int) :=
  jn (fun (_ : Unit) =>
    some (a0, 0, 4)) (fun κ9 =>
    (slab_free_store_Obj a0).bind fun v11 =>
    (lp (S := Int) (E := (slab_Slab_store_Obj × Int × Int) ⊕ Unit) (fun (s13 : Int) =>
      if (decide (s13 < (v11.Cells.length : Int))) then
        (ix v11.Cells s13).bind fun v15 =>
        if ((v15.State == 0) == true) then
          (ix a0.Cells s13).bind fun v16 =>
          (slab_with_store_Obj a0 s13 (⟨1, v16.Gen, a1⟩ : slab_Cell_store_Obj)).bind fun v17 =>
          (handle_Pack s13 v16.Gen).bind fun v18 =>
          some (.inr (.inl (v17, v18, 0)))
        else
        some (.inl (w64 (s13 + 1)))
      else
      some (.inr (.inr ()))) 0).bind fun e12 =>
    match e12 with
    | .inl w => some w
    | .inr w => κ9 w)
def store_Make (a0 : store_Store) (a1 : Int) (a2 : Int) : Option (store_Store × Int × Int) :=
  (vec_New a1).bind fun v1 =>
  if (v1.2 != 0) then
    some (a0, 0, v1.2)
  else
  (store_programFits a2).bind fun v2 =>
  if (!v2) then
    some (a0, 0, 13)
  else
  (slab_Take_store_Obj a0.S (⟨w64 (a0.Serial + 1), 0, 0, a2, false, v1.1⟩ : store_Obj)).bind fun v3 =>
  if (v3.2.2 != 0) then
    some (a0, 0, v3.2.2)
  else
  some ((⟨v3.1, w64 (a0.Serial + 1)⟩ : store_Store), v3.2.1, 0)
def handle_parts (a0 : Int) : Option (Int × Int × Bool) :=
  if (decide (a0 < 1)) then
    some ((-1), (-1), false)
  else
  (rem (w64 (a0 - 1)) 32).bind fun v1 =>
  (quo .i64 v1 1).bind fun v2 =>
  (quo .i64 (w64 (a0 - 1)) 32).bind fun v3 =>
  if ((decide (v2 ≥ 24)) || (decide (v3 > 9))) then
    some ((-1), (-1), false)
  else
  some (v2, v3, true)
def handle_Slot (a0 : Int) : Option Int :=
  (handle_parts a0).bind fun v1 =>
  some v1.1
def handle_Gen (a0 : Int) : Option Int :=
  (handle_parts a0).bind fun v1 =>
  some v1.2.1
def slab_Find_store_Obj (a0 : slab_Slab_store_Obj) (a1 : Int) : Option (Int × Int) :=
  if (a1 == 0) then
    some ((-1), 2)
  else
  (handle_Slot a1).bind fun v1 =>
  if ((decide (v1 < 0)) || (decide (v1 ≥ (a0.Cells.length : Int)))) then
    some ((-1), 3)
  else
  (ix a0.Cells v1).bind fun v2 =>
  (handle_Gen a1).bind fun v3 =>
  if ((v2.Gen != v3) || ((v2.State != 1) && (v2.State != 2))) then
    some ((-1), 3)
  else
  some (v1, 0)
def slab_Get_store_Obj (a0 : slab_Slab_store_Obj) (a1 : Int) : Option (store_Obj × Int) :=
  (slab_Find_store_Obj a0 a1).bind fun v1 =>
  if (v1.2 != 0) then
    some ((⟨0, 0, 0, 0, false, []⟩ : store_Obj), v1.2)
  else
  (ix a0.Cells v1.1).bind fun v2 =>
  if (v2.State == 2) then
    some ((⟨0, 0, 0, 0, false, []⟩ : store_Obj), 3)
  else
  some (v2.Val, 0)
def store_Get (a0 : store_Store) (a1 : Int) : Option (store_Obj × Int) :=
  (slab_Get_store_Obj a0.S a1).bind fun v1 =>
  some (v1.1, v1.2)
def vec_has (a0 : List Int) (a1 : Int) : Option Bool :=
  some ((decide (a1 ≥ 0)) && (decide (a1 < (a0.length : Int))))
def vec_With (a0 : List Int) (a1 : Int) (a2 : Int) : Option ((List Int) × Int) :=
  (vec_has a0 a1).bind fun v1 =>
  if (!v1) then
    some (a0, 5)
  else
  (mk 8 (a0.length : Int) (0 : Int)).bind fun v2 =>
  (cpy v2 a0).bind fun v3 =>
  (ix v3 a1).bind fun v4 =>
  some ((v3.set (a1).toNat a2), 0)
def slab_Set_store_Obj (a0 : slab_Slab_store_Obj) (a1 : Int) (a2 : store_Obj) : Option (slab_Slab_store_Obj × Int) :=
  (slab_Find_store_Obj a0 a1).bind fun v1 =>
  if (v1.2 != 0) then
    some (a0, v1.2)
  else
  (ix a0.Cells v1.1).bind fun v2 =>
  (slab_with_store_Obj a0 v1.1 (⟨v2.State, v2.Gen, a2⟩ : slab_Cell_store_Obj)).bind fun v3 =>
  some (v3, 0)
def store_Set (a0 : store_Store) (a1 : Int) (a2 : store_Obj) : Option (store_Store × Int) :=
  (slab_Set_store_Obj a0.S a1 a2).bind fun v1 =>
  some ((⟨v1.1, a0.Serial⟩ : store_Store), v1.2)
def store_Put (a0 : store_Store) (a1 : Int) (a2 : Int) (a3 : Int) : Option (store_Store × Int) :=
  (store_Get a0 a1).bind fun v1 =>
  if (v1.2 != 0) then
    some (a0, v1.2)
  else
  (vec_With v1.1.Fields a2 a3).bind fun v2 =>
  if (v2.2 != 0) then
    some (a0, v2.2)
  else
  (store_Set a0 a1 (⟨v1.1.Serial, v1.1.Strong, v1.1.Weak, v1.1.Prog, v1.1.Started, v2.1⟩ : store_Obj)).bind fun v3 =>
  some (v3.1, v3.2)
def hash_New (a0 : Int) : Option (List hash_Place) :=
  if ((decide (a0 < 1)) || (decide (a0 > 8))) then
    some []
  else
  (mk 24 a0 (⟨0, 0, 0⟩ : hash_Place)).bind fun v1 =>
  some v1
def cmp_isNaN_int (a0 : Int) : Option Bool :=
  some (a0 != a0)
def cmp_Compare_int (a0 : Int) (a1 : Int) : Option Int :=
  (cmp_isNaN_int a0).bind fun v1 =>
  (cmp_isNaN_int a1).bind fun v2 =>
  if v1 then
    if v2 then
      some 0
    else
    some (-1)
  else
  if v2 then
    some 1
  else
  if (decide (a0 < a1)) then
    some (-1)
  else
  if (decide (a0 > a1)) then
    some 1
  else
  some 0
def store_Live_1 (a0 : Int) (a1 : Int) (a2 : List (Int × Int)) : Option Int :=
  (cmp_Compare_int ((mget a2 a0).getD (0 : Int)) ((mget a2 a1).getD (0 : Int))).bind fun v1 =>
  some v1
def store_Live (a0 : store_Store) : Option (List Int) :=
  jn (fun ((j18, j19) : (List (Int × Int)) × (List Int)) =>
    (sortBy (fun p q => store_Live_1 p q j18) j19).bind fun v21 =>
    some v21) (fun κ17 =>
    (lp (S := Int × (List (Int × Int)) × (List Int)) (E := ((List (Int × Int)) × (List Int))) (fun ((s23, s24, s25) : Int × (List (Int × Int)) × (List Int)) =>
      if (decide (s23 < (a0.S.Cells.length : Int))) then
        jn (fun ((j32, j33) : (List (Int × Int)) × (List Int)) =>
          some (.inl (w64 (s23 + 1), j32, j33))) (fun κ31 =>
          (ix a0.S.Cells s23).bind fun v35 =>
          if (v35.State == 1) then
            (handle_Pack s23 v35.Gen).bind fun v36 =>
            (app 8 s25 [v36]).bind fun v37 =>
            κ31 ((mput s24 v36 v35.Val.Serial), v37)
          else
          κ31 (s24, s25))
      else
      some (.inr (s24, s25))) (0, [], [])).bind fun e22 =>
    κ17 e22)
def refs_edges (a0 : store_Store) : Option store_Store :=
  some a0
def vec_named (a0 : List Int) : Option (List Int) :=
  some a0
def vec_Names (a0 : List Int) : Option (List Int) :=
  jn (fun (j10 : List Int) =>
    some j10) (fun κ9 =>
    (vec_named a0).bind fun v11 =>
    (lp (S := Int × (List Int)) (E := (List Int)) (fun ((s13, s14) : Int × (List Int)) =>
      if (decide (s13 < (v11.length : Int))) then
        (ix v11 s13).bind fun v17 =>
        if ((v17 != 0) == true) then
          (app 8 s14 [v17]).bind fun v18 =>
          some (.inl (w64 (s13 + 1), v18))
        else
        some (.inl (w64 (s13 + 1), s14))
      else
      some (.inr s14)) (0, [])).bind fun e12 =>
    κ9 e12)
def refs_Out (a0 : store_Store) (a1 : Int) : Option (List Int) :=
  (store_Get a0 a1).bind fun v1 =>
  (vec_Names v1.1.Fields).bind fun v2 =>
  some v2
def refs_In (a0 : store_Store) (a1 : Int) : Option Int :=
  jn (fun (j31 : Int) =>
    some j31) (fun κ30 =>
    (refs_edges a0).bind fun v32 =>
    (store_Live v32).bind fun v33 =>
    (lp (S := Int × Int) (E := Int) (fun ((s35, s36) : Int × Int) =>
      if (decide (s35 < (v33.length : Int))) then
        jn (fun (j50 : Int) =>
          some (.inl (w64 (s35 + 1), j50))) (fun κ49 =>
          (ix v33 s35).bind fun v51 =>
          (refs_Out v32 v51).bind fun v52 =>
          (lp (S := Int × Int) (E := Int) (fun ((s54, s55) : Int × Int) =>
            if (decide (s54 < (v52.length : Int))) then
              (ix v52 s54).bind fun v58 =>
              jn (fun (j60 : Int) =>
                some (.inl (w64 (s54 + 1), j60))) (fun κ59 =>
                if (v58 == a1) then
                  κ59 (w64 (s55 + 1))
                else
                κ59 s55)
            else
            some (.inr s55)) (0, s36)).bind fun e53 =>
          κ49 e53)
      else
      some (.inr s36)) (0, 0)).bind fun e34 =>
    κ30 e34)
def ephem_pairs (a0 : List hash_Place) : Option (List hash_Place) :=
  some a0
def hash_Keys (a0 : List hash_Place) : Option (List Int) :=
  jn (fun (j13 : List Int) =>
    some j13) (fun κ12 =>
    (lp (S := Int × (List Int)) (E := (List Int)) (fun ((s15, s16) : Int × (List Int)) =>
      if (decide (s15 < (a0.length : Int))) then
        jn (fun (j22 : List Int) =>
          some (.inl (w64 (s15 + 1), j22))) (fun κ21 =>
          (ix a0 s15).bind fun v23 =>
          if (v23.State == 1) then
            (app 8 s16 [v23.Key]).bind fun v24 =>
            κ21 v24
          else
          κ21 s16)
      else
      some (.inr s16)) (0, [])).bind fun e14 =>
    κ12 e14)
def hash_road (a0 : Int) (a1 : Int) : Option (Int × Int) :=
  some (a0, a1)
def hash_Home (a0 : Int) (a1 : Int) : Option Int :=
  if (decide (a0 < 1)) then
    some 0
  else
  (rem (w64 ((w64 (5 * a1)) + 1)) a0).bind fun v1 =>
  if (decide (v1 < 0)) then
    some (w64 (v1 + a0))
  else
  some v1
def hash_Find (a0 : List hash_Place) (a1 : Int) : Option Int :=
  jn (fun (_ : Unit) =>
    some (-1)) (fun κ8 =>
    (hash_road (a0.length : Int) a1).bind fun v10 =>
    (lp (S := Int) (E := Int ⊕ Unit) (fun (s12 : Int) =>
      if (decide (s12 < v10.1)) then
        (hash_Home v10.1 v10.2).bind fun v14 =>
        (rem (w64 (v14 + s12)) v10.1).bind fun v15 =>
        (ix a0 v15).bind fun v16 =>
        if (v16.State == 0) then
          some (.inr (.inr ()))
        else
        if ((v16.State == 1) && (v16.Key == a1)) then
          some (.inr (.inl v15))
        else
        some (.inl (w64 (s12 + 1)))
      else
      some (.inr (.inr ()))) 0).bind fun e11 =>
    match e11 with
    | .inl w => some w
    | .inr w => κ8 w)
def hash_Get (a0 : List hash_Place) (a1 : Int) : Option (Int × Int) :=
  (hash_Find a0 a1).bind fun v1 =>
  if (decide (v1 < 0)) then
    some (0, 9)
  else
  (ix a0 v1).bind fun v2 =>
  some (v2.Val, 0)
def ephem_Owned_1 (a0 : ephem_Pair) (a1 : Int) : Option Bool :=
  some ((a1 != 0) && (a0.Val == a1))
def ephem_gathered_ephem_Pair__ephem_pairs_1__ephem_Owned_1 (a0 : List hash_Place) (a1 : Int) : Option (List ephem_Pair) :=
  jn (fun (j16 : List ephem_Pair) =>
    some j16) (fun κ15 =>
    (hash_Keys a0).bind fun v17 =>
    (lp (S := Int × (List ephem_Pair)) (E := (List ephem_Pair)) (fun ((s19, s20) : Int × (List ephem_Pair)) =>
      if (decide (s19 < (v17.length : Int))) then
        (ix v17 s19).bind fun v23 =>
        (hash_Get a0 v23).bind fun v24 =>
        jn (fun (j28 : List ephem_Pair) =>
          some (.inl (w64 (s19 + 1), j28))) (fun κ27 =>
          (ephem_Owned_1 (⟨v23, v24.1⟩ : ephem_Pair) a1).bind fun v29 =>
          if v29 then
            (app 16 s20 [(⟨v23, v24.1⟩ : ephem_Pair)]).bind fun v30 =>
            κ27 v30
          else
          κ27 s20)
      else
      some (.inr s20)) (0, [])).bind fun e18 =>
    κ15 e18)
def ephem_Owned (a0 : List hash_Place) (a1 : Int) : Option Int :=
  (ephem_pairs a0).bind fun v1 =>
  (ephem_gathered_ephem_Pair__ephem_pairs_1__ephem_Owned_1 v1 a1).bind fun v2 =>
  some (v2.length : Int)
def trial_Inner (a0 : store_Store) (a1 : List hash_Place) (a2 : Int) : Option Int :=
  (refs_In a0 a2).bind fun v1 =>
  (ephem_Owned a1 a2).bind fun v2 =>
  some (w64 (v1 + v2))
def trial_Rest (a0 : store_Store) (a1 : List hash_Place) (a2 : Int) : Option Int :=
  (store_Get a0 a2).bind fun v1 =>
  if (v1.2 != 0) then
    some 0
  else
  (trial_Inner a0 a1 a2).bind fun v2 =>
  some (w64 (v1.1.Strong - v2))
def count_tally_stuck (a0 : Int) : Option Bool :=
  some (decide (a0 ≥ 12))
def count_Stuck (a0 : Int) : Option Bool :=
  (count_tally_stuck a0).bind fun v1 =>
  some v1
def trial_Held_1 (a0 : Int) (a1 : store_Obj) (a2 : store_Store) (a3 : List hash_Place) : Option Bool :=
  (trial_Rest a2 a3 a0).bind fun v1 =>
  (onlyIf ((decide (v1 > 0)) == false) false (count_Stuck a1.Strong)).bind fun v2 =>
  some ((decide (v1 > 0)) || v2)
def trial_Held (a0 : store_Store) (a1 : List hash_Place) : Option (List Int) :=
  jn (fun (j36 : List Int) =>
    some j36) (fun κ35 =>
    jn (fun (j54 : List Int) =>
      κ35 j54) (fun κ53 =>
      (store_Live a0).bind fun v55 =>
      (lp (S := Int × (List Int)) (E := (List Int)) (fun ((s57, s58) : Int × (List Int)) =>
        if (decide (s57 < (v55.length : Int))) then
          jn (fun (j66 : List Int) =>
            some (.inl (w64 (s57 + 1), j66))) (fun κ65 =>
            (ix v55 s57).bind fun v67 =>
            (store_Get a0 v67).bind fun v68 =>
            (trial_Held_1 v67 v68.1 a0 a1).bind fun v69 =>
            if v69 then
              (app 8 s58 [v67]).bind fun v70 =>
              κ65 v70
            else
            κ65 s58)
        else
        some (.inr s58)) (0, [])).bind fun e56 =>
      κ53 e56))
def queue_New_int (a0 : Int) : Option queue_Queue_int :=
  some (⟨[], a0⟩ : queue_Queue_int)
def reach_isLive (a0 : store_Store) (a1 : Int) : Option Bool :=
  (store_Get a0 a1).bind fun v1 =>
  some (v1.2 == 0)
def queue_Len_int (a0 : queue_Queue_int) : Option Int :=
  some (a0.L.length : Int)
def queue_part_int (a0 : List Int) (a1 : Int) (a2 : Int) : Option (List Int) :=
  (cut a0 a1 a2).bind fun v1 =>
  some v1
def queue_Push_int (a0 : queue_Queue_int) (a1 : Int) : Option (queue_Queue_int × Int) :=
  (queue_Len_int a0).bind fun v1 =>
  if (decide (v1 ≥ a0.Cap)) then
    some (a0, 4)
  else
  (queue_part_int a0.L 0 v1).bind fun v2 =>
  (app 8 v2 [a1]).bind fun v3 =>
  some ((⟨v3, a0.Cap⟩ : queue_Queue_int), 0)
def queue_Drain_int (a0 : queue_Queue_int) (a1 : Int) : Option (queue_Queue_int × (List Int)) :=
  (queue_Len_int a0).bind fun v1 =>
  (queue_part_int a0.L 0 (if (if v1 < a1 then v1 else a1) > 0 then (if v1 < a1 then v1 else a1) else 0)).bind fun v2 =>
  (queue_part_int a0.L (if (if v1 < a1 then v1 else a1) > 0 then (if v1 < a1 then v1 else a1) else 0) v1).bind fun v3 =>
  some ((⟨v3, a0.Cap⟩ : queue_Queue_int), v2)
def queue_Pop_int (a0 : queue_Queue_int) : Option (queue_Queue_int × Int × Int) :=
  (queue_Drain_int a0 1).bind fun v1 =>
  if ((v1.2.length : Int) == 0) then
    some (a0, 0, 10)
  else
  (ix v1.2 0).bind fun v2 =>
  some (v1.1, v2, 0)
def reach_spread (a0 : store_Store) (a1 : List Int) : Option (List (Int × Bool)) :=
  (store_Live a0).bind fun v1 =>
  (queue_New_int (v1.length : Int)).bind fun v2 =>
  jn (fun ((j20, j21) : queue_Queue_int × (List (Int × Bool))) =>
    jn (fun (j68 : List (Int × Bool)) =>
      some j68) (fun κ67 =>
      (lp (S := queue_Queue_int × (List (Int × Bool))) (E := (List (Int × Bool))) (fun ((s70, s71) : queue_Queue_int × (List (Int × Bool))) =>
        (queue_Len_int s70).bind fun v74 =>
        if (decide (v74 > 0)) then
          (queue_Pop_int s70).bind fun v75 =>
          (refs_Out a0 v75.2.1).bind fun v76 =>
          jn (fun ((j94, j95) : queue_Queue_int × (List (Int × Bool))) =>
            some (.inl (j94, j95))) (fun κ93 =>
            (lp (S := Int × queue_Queue_int × (List (Int × Bool))) (E := (queue_Queue_int × (List (Int × Bool)))) (fun ((s98, s99, s100) : Int × queue_Queue_int × (List (Int × Bool))) =>
              if (decide (s98 < (v76.length : Int))) then
                jn (fun ((j107, j108) : queue_Queue_int × (List (Int × Bool))) =>
                  some (.inl (w64 (s98 + 1), j107, j108))) (fun κ106 =>
                  (ix v76 s98).bind fun v110 =>
                  (reach_isLive a0 v110).bind fun v111 =>
                  if (v111 == true) then
                    if (!((mget s100 v110).getD (false : Bool))) then
                      (queue_Push_int s99 v110).bind fun v112 =>
                      κ106 (v112.1, (mput s100 v110 true))
                    else
                    κ106 (s99, s100)
                  else
                  κ106 (s99, s100))
              else
              some (.inr (s99, s100))) (0, v75.1, s71)).bind fun e97 =>
            κ93 e97)
        else
        some (.inr s71)) (j20, j21)).bind fun e69 =>
      κ67 e69)) (fun κ19 =>
    (lp (S := Int × queue_Queue_int × (List (Int × Bool))) (E := (queue_Queue_int × (List (Int × Bool)))) (fun ((s114, s115, s116) : Int × queue_Queue_int × (List (Int × Bool))) =>
      if (decide (s114 < (a1.length : Int))) then
        jn (fun ((j123, j124) : queue_Queue_int × (List (Int × Bool))) =>
          some (.inl (w64 (s114 + 1), j123, j124))) (fun κ122 =>
          (ix a1 s114).bind fun v126 =>
          (reach_isLive a0 v126).bind fun v127 =>
          if (v127 == true) then
            if (!((mget s116 v126).getD (false : Bool))) then
              (queue_Push_int s115 v126).bind fun v128 =>
              κ122 (v128.1, (mput s116 v126 true))
            else
            κ122 (s115, s116)
          else
          κ122 (s115, s116))
      else
      some (.inr (s115, s116))) (0, v2, [])).bind fun e113 =>
    κ19 e113)
def reach_From_1 (a0 : Int) (a1 : List (Int × Bool)) : Option Bool :=
  some ((mget a1 a0).getD (false : Bool))
def reach_live__reach_From_1 (a0 : store_Store) (a1 : List (Int × Bool)) : Option (List Int) :=
  jn (fun (j16 : List Int) =>
    some j16) (fun κ15 =>
    (store_Live a0).bind fun v17 =>
    (lp (S := Int × (List Int)) (E := (List Int)) (fun ((s19, s20) : Int × (List Int)) =>
      if (decide (s19 < (v17.length : Int))) then
        jn (fun (j27 : List Int) =>
          some (.inl (w64 (s19 + 1), j27))) (fun κ26 =>
          (ix v17 s19).bind fun v28 =>
          (reach_From_1 v28 a1).bind fun v29 =>
          if v29 then
            (app 8 s20 [v28]).bind fun v30 =>
            κ26 v30
          else
          κ26 s20)
      else
      some (.inr s20)) (0, [])).bind fun e18 =>
    κ15 e18)
def reach_From (a0 : store_Store) (a1 : List Int) : Option (List Int) :=
  (reach_spread a0 a1).bind fun v1 =>
  (reach_live__reach_From_1 a0 v1).bind fun v2 =>
  some v2
def ephem_Pairs_1 (a0 : ephem_Pair) : Option Bool :=
  some true
def ephem_gathered_ephem_Pair__ephem_pairs_1__ephem_Pairs_1 (a0 : List hash_Place) : Option (List ephem_Pair) :=
  jn (fun (j16 : List ephem_Pair) =>
    some j16) (fun κ15 =>
    (hash_Keys a0).bind fun v17 =>
    (lp (S := Int × (List ephem_Pair)) (E := (List ephem_Pair)) (fun ((s19, s20) : Int × (List ephem_Pair)) =>
      if (decide (s19 < (v17.length : Int))) then
        (ix v17 s19).bind fun v23 =>
        (hash_Get a0 v23).bind fun v24 =>
        jn (fun (j28 : List ephem_Pair) =>
          some (.inl (w64 (s19 + 1), j28))) (fun κ27 =>
          (ephem_Pairs_1 (⟨v23, v24.1⟩ : ephem_Pair)).bind fun v29 =>
          if v29 then
            (app 16 s20 [(⟨v23, v24.1⟩ : ephem_Pair)]).bind fun v30 =>
            κ27 v30
          else
          κ27 s20)
      else
      some (.inr s20)) (0, [])).bind fun e18 =>
    κ15 e18)
def ephem_Pairs (a0 : List hash_Place) : Option (List ephem_Pair) :=
  (ephem_pairs a0).bind fun v1 =>
  (ephem_gathered_ephem_Pair__ephem_pairs_1__ephem_Pairs_1 v1).bind fun v2 =>
  some v2
def slices_Index_int_int (a0 : List Int) (a1 : Int) : Option Int :=
  jn (fun (_ : Unit) =>
    some (-1)) (fun κ5 =>
    (lp (S := Int) (E := Int ⊕ Unit) (fun (s8 : Int) =>
      if (decide (s8 < (a0.length : Int))) then
        (ix a0 s8).bind fun v10 =>
        if (a1 == v10) then
          some (.inr (.inl s8))
        else
        some (.inl (w64 (s8 + 1)))
      else
      some (.inr (.inr ()))) 0).bind fun e7 =>
    match e7 with
    | .inl w => some w
    | .inr w => κ5 w)
def slices_Contains_int_int (a0 : List Int) (a1 : Int) : Option Bool :=
  (slices_Index_int_int a0 a1).bind fun v1 =>
  some (decide (v1 ≥ 0))
def fix_owed_1 (a0 : Int) (a1 : store_Store) : Option Bool :=
  (store_Get a1 a0).bind fun v1 =>
  some (v1.2 == 0)
def fix_owed (a0 : store_Store) (a1 : List hash_Place) (a2 : List Int) : Option (List Int) :=
  jn (fun (j20 : List Int) =>
    some j20) (fun κ19 =>
    (ephem_Pairs a1).bind fun v21 =>
    (lp (S := Int × (List Int)) (E := (List Int)) (fun ((s23, s24) : Int × (List Int)) =>
      if (decide (s23 < (v21.length : Int))) then
        jn (fun (j33 : List Int) =>
          some (.inl (w64 (s23 + 1), j33))) (fun κ32 =>
          (ix v21 s23).bind fun v34 =>
          (slices_Contains_int_int a2 v34.Key).bind fun v35 =>
          (onlyIf (v35 == true) false (fix_owed_1 v34.Key a0)).bind fun v36 =>
          (onlyIf ((v35 && v36) == true) false (fix_owed_1 v34.Val a0)).bind fun v37 =>
          if ((v35 && v36) && v37) then
            (app 8 s24 [v34.Val]).bind fun v38 =>
            κ32 v38
          else
          κ32 s24)
      else
      some (.inr s24)) (0, [])).bind fun e22 =>
    κ19 e22)
def fix_grown (a0 : store_Store) (a1 : List hash_Place) (a2 : List Int) : Option ((List Int) × Int) :=
  (reach_From a0 a2).bind fun v1 =>
  (lp (S := (List Int) × Int) (E := ((List Int) × Int)) (fun ((s3, s4) : (List Int) × Int) =>
    (fix_owed a0 a1 s3).bind fun v7 =>
    jn (fun (_ : Unit) =>
      some (.inr (s3, s4))) (fun κ15 =>
      (lp (S := Int) (E := ((List Int) × Int) ⊕ Unit) (fun (s18 : Int) =>
        if (decide (s18 < (v7.length : Int))) then
          (ix v7 s18).bind fun v20 =>
          (slices_Contains_int_int s3 v20).bind fun v21 =>
          if (!v21) then
            (app 8 v7 s3).bind fun v22 =>
            (reach_From a0 v22).bind fun v23 =>
            some (.inr (.inl (v23, w64 (s4 + 1))))
          else
          some (.inl (w64 (s18 + 1)))
        else
        some (.inr (.inr ()))) 0).bind fun e17 =>
      match e17 with
      | .inl w => some (.inl w)
      | .inr w => κ15 w)) (v1, 0)).bind fun e2 =>
  some e2
def fix_From (a0 : store_Store) (a1 : List hash_Place) (a2 : List Int) : Option (List Int) :=
  (fix_grown a0 a1 a2).bind fun v1 =>
  some v1.1
def reach_Lost_1 (a0 : Int) (a1 : List (Int × Bool)) : Option Bool :=
  some (!((mget a1 a0).getD (false : Bool)))
def reach_live__reach_Lost_1 (a0 : store_Store) (a1 : List (Int × Bool)) : Option (List Int) :=
  jn (fun (j16 : List Int) =>
    some j16) (fun κ15 =>
    (store_Live a0).bind fun v17 =>
    (lp (S := Int × (List Int)) (E := (List Int)) (fun ((s19, s20) : Int × (List Int)) =>
      if (decide (s19 < (v17.length : Int))) then
        jn (fun (j27 : List Int) =>
          some (.inl (w64 (s19 + 1), j27))) (fun κ26 =>
          (ix v17 s19).bind fun v28 =>
          (reach_Lost_1 v28 a1).bind fun v29 =>
          if v29 then
            (app 8 s20 [v28]).bind fun v30 =>
            κ26 v30
          else
          κ26 s20)
      else
      some (.inr s20)) (0, [])).bind fun e18 =>
    κ15 e18)
def reach_Lost (a0 : store_Store) (a1 : List Int) : Option (List Int) :=
  (reach_spread a0 a1).bind fun v1 =>
  (reach_live__reach_Lost_1 a0 v1).bind fun v2 =>
  some v2
def fix_Lost (a0 : store_Store) (a1 : List hash_Place) (a2 : List Int) : Option (List Int) :=
  (fix_From a0 a1 a2).bind fun v1 =>
  (reach_Lost a0 v1).bind fun v2 =>
  some v2
def trial_Garbage (a0 : store_Store) (a1 : List hash_Place) : Option (List Int) :=
  (trial_Held a0 a1).bind fun v1 =>
  (fix_Lost a0 a1 v1).bind fun v2 =>
  some v2
def vec_Count (a0 : List Int) (a1 : Int) : Option Int :=
  jn (fun (j11 : Int) =>
    some j11) (fun κ10 =>
    (vec_named a0).bind fun v12 =>
    (lp (S := Int × Int) (E := Int) (fun ((s14, s15) : Int × Int) =>
      if (decide (s14 < (v12.length : Int))) then
        (ix v12 s14).bind fun v18 =>
        if ((v18 != 0) == true) then
          jn (fun (j20 : Int) =>
            if ((v18 != 0) && false) then
              some (.inr j20)
            else
            some (.inl (w64 (s14 + 1), j20))) (fun κ19 =>
            if (v18 == a1) then
              κ19 (w64 (s15 + 1))
            else
            κ19 s15)
        else
        some (.inl (w64 (s14 + 1), s15))
      else
      some (.inr s15)) (0, 0)).bind fun e13 =>
    κ10 e13)
def refs_Times (a0 : List Int) (a1 : Int) : Option Int :=
  (vec_Count a0 a1).bind fun v1 =>
  some v1
def trial_Fair_1 (a0 : Int) (a1 : store_Obj) (a2 : store_Store) (a3 : List hash_Place) (a4 : List Int) : Option Bool :=
  (count_Stuck a1.Strong).bind fun v1 =>
  (onlyIf ((!v1) == true) 0 (trial_Rest a2 a3 a0)).bind fun v2 =>
  (onlyIf ((!v1) == true) 0 (refs_Times a4 a0)).bind fun v3 =>
  some ((!v1) && (v2 != v3))
def trial_Fair (a0 : store_Store) (a1 : List hash_Place) (a2 : List Int) : Option Bool :=
  jn (fun (j36 : List Int) =>
    some ((j36.length : Int) == 0)) (fun κ35 =>
    jn (fun (j54 : List Int) =>
      κ35 j54) (fun κ53 =>
      (store_Live a0).bind fun v55 =>
      (lp (S := Int × (List Int)) (E := (List Int)) (fun ((s57, s58) : Int × (List Int)) =>
        if (decide (s57 < (v55.length : Int))) then
          jn (fun (j66 : List Int) =>
            some (.inl (w64 (s57 + 1), j66))) (fun κ65 =>
            (ix v55 s57).bind fun v67 =>
            (store_Get a0 v67).bind fun v68 =>
            (trial_Fair_1 v67 v68.1 a0 a1 a2).bind fun v69 =>
            if v69 then
              (app 8 s58 [v67]).bind fun v70 =>
              κ65 v70
            else
            κ65 s58)
        else
        some (.inr s58)) (0, [])).bind fun e56 =>
      κ53 e56))
def w13_shown : Option Bool :=
  (store_New 4 3).bind fun v1 =>
  (store_Make v1 1 (-1)).bind fun v2 =>
  (store_Make v2.1 1 (-1)).bind fun v3 =>
  (store_Put v3.1 v2.2.1 0 v3.2.1).bind fun v4 =>
  (store_Put v4.1 v3.2.1 0 v2.2.1).bind fun v5 =>
  jn (fun (j15 : store_Store) =>
    (hash_New 8).bind fun v16 =>
    (trial_Garbage j15 v16).bind fun v17 =>
    (store_Get j15 v3.2.1).bind fun v18 =>
    (store_Set j15 v3.2.1 (⟨v18.1.Serial, 2, v18.1.Weak, v18.1.Prog, v18.1.Started, v18.1.Fields⟩ : store_Obj)).bind fun v19 =>
    (onlyIf (((v17.length : Int) == 2) == true) (0 : Int) (ix v17 0)).bind fun v20 =>
    (onlyIf ((((v17.length : Int) == 2) && (v20 == v2.2.1)) == true) [] (trial_Held j15 v16)).bind fun v21 =>
    (onlyIf (((((v17.length : Int) == 2) && (v20 == v2.2.1)) && ((v21.length : Int) == 0)) == true) 0 (trial_Rest v19.1 v16 v3.2.1)).bind fun v22 =>
    (onlyIf ((((((v17.length : Int) == 2) && (v20 == v2.2.1)) && ((v21.length : Int) == 0)) && (v22 == 1)) == true) [] (trial_Held v19.1 v16)).bind fun v23 =>
    (onlyIf (((((((v17.length : Int) == 2) && (v20 == v2.2.1)) && ((v21.length : Int) == 0)) && (v22 == 1)) && ((v23.length : Int) == 1)) == true) [] (trial_Garbage v19.1 v16)).bind fun v24 =>
    (onlyIf ((((((((v17.length : Int) == 2) && (v20 == v2.2.1)) && ((v21.length : Int) == 0)) && (v22 == 1)) && ((v23.length : Int) == 1)) && ((v24.length : Int) == 0)) == true) 0 (trial_Inner v19.1 v16 v2.2.1)).bind fun v25 =>
    (onlyIf (((((((((v17.length : Int) == 2) && (v20 == v2.2.1)) && ((v21.length : Int) == 0)) && (v22 == 1)) && ((v23.length : Int) == 1)) && ((v24.length : Int) == 0)) && (v25 == 1)) == true) false (trial_Fair j15 v16 [])).bind fun v26 =>
    (onlyIf ((((((((((v17.length : Int) == 2) && (v20 == v2.2.1)) && ((v21.length : Int) == 0)) && (v22 == 1)) && ((v23.length : Int) == 1)) && ((v24.length : Int) == 0)) && (v25 == 1)) && v26) == true) false (trial_Fair v19.1 v16 [v3.2.1])).bind fun v27 =>
    (onlyIf (((((((((((v17.length : Int) == 2) && (v20 == v2.2.1)) && ((v21.length : Int) == 0)) && (v22 == 1)) && ((v23.length : Int) == 1)) && ((v24.length : Int) == 0)) && (v25 == 1)) && v26) && v27) == true) false (trial_Fair v19.1 v16 [])).bind fun v28 =>
    some (((((((((((v17.length : Int) == 2) && (v20 == v2.2.1)) && ((v21.length : Int) == 0)) && (v22 == 1)) && ((v23.length : Int) == 1)) && ((v24.length : Int) == 0)) && (v25 == 1)) && v26) && v27) && (!v28))) (fun κ14 =>
    (lp (S := Int × store_Store) (E := store_Store) (fun ((s30, s31) : Int × store_Store) =>
      if (decide (s30 < ([v2.2.1, v3.2.1].length : Int))) then
        (ix [v2.2.1, v3.2.1] s30).bind fun v34 =>
        (store_Get s31 v34).bind fun v35 =>
        (store_Set s31 v34 (⟨v35.1.Serial, 1, v35.1.Weak, v35.1.Prog, v35.1.Started, v35.1.Fields⟩ : store_Obj)).bind fun v36 =>
        some (.inl (w64 (s30 + 1), v36.1))
      else
      some (.inr s31)) (0, v5.1)).bind fun e29 =>
    κ14 e29)
def r01_Pack (a0 : Int) (a1 : Int) : Option Int :=
  if ((((decide (a0 < 0)) || (decide (a0 > 23))) || (decide (a1 < 0))) || (decide (a1 > 9))) then
    some 0
  else
  some (w64 ((w64 (1 + a0)) + (w64 (32 * a1))))
def r01_Valid (a0 : Int) : Option Bool :=
  if ((decide (a0 < 1)) || (decide (a0 > 400))) then
    some false
  else
  (rem (w64 (a0 - 1)) 32).bind fun v1 =>
  (quo .i64 (w64 (a0 - 1)) 32).bind fun v2 =>
  (r01_Pack v1 v2).bind fun v3 =>
  some (v3 == a0)
def r01_Slot (a0 : Int) : Option Int :=
  (r01_Valid a0).bind fun v1 =>
  if (!v1) then
    some (-1)
  else
  (rem (w64 (a0 - 1)) 32).bind fun v2 =>
  some v2
def r01_Gen (a0 : Int) : Option Int :=
  (r01_Valid a0).bind fun v1 =>
  if (!v1) then
    some (-1)
  else
  (quo .i64 (w64 (a0 - 1)) 32).bind fun v2 =>
  some v2
def r03_Find (a0 : r03_Slab) (a1 : Int) : Option (Int × Int) :=
  if (a1 == 0) then
    some ((-1), 2)
  else
  (r01_Slot a1).bind fun v1 =>
  if ((decide (v1 < 0)) || (decide (v1 ≥ (a0.Cells.length : Int)))) then
    some ((-1), 3)
  else
  (ix a0.Cells v1).bind fun v2 =>
  (r01_Gen a1).bind fun v3 =>
  if ((v2.Gen != v3) || ((v2.State != 1) && (v2.State != 2))) then
    some ((-1), 3)
  else
  some (v1, 0)
def r06_Sorted (a0 : r06_Store) (a1 : List Int) : Option (List Int) :=
  (app 8 [] a1).bind fun v1 =>
  jn (fun (j36 : List Int) =>
    some j36) (fun κ35 =>
    (lp (S := Int × (List Int)) (E := (List Int)) (fun ((s38, s39) : Int × (List Int)) =>
      if (decide (s38 < (s39.length : Int))) then
        jn (fun (j56 : List Int) =>
          some (.inl (w64 (s38 + 1), j56))) (fun κ55 =>
          (lp (S := Int × (List Int)) (E := (List Int)) (fun ((s58, s59) : Int × (List Int)) =>
            if (decide (s58 > 0)) then
              (r06_Plain a0).bind fun v62 =>
              (ix s59 (w64 (s58 - 1))).bind fun v63 =>
              (r03_Find v62 v63).bind fun v64 =>
              (ix s59 s58).bind fun v65 =>
              (r03_Find v62 v65).bind fun v66 =>
              (onlyIf (((decide (v64.1 < 0)) || (decide (v66.1 < 0))) == false) (⟨0, 0, ⟨0, 0, 0, 0, false, []⟩⟩ : r06_Cell) (ix a0.Cells v64.1)).bind fun v67 =>
              (onlyIf (((decide (v64.1 < 0)) || (decide (v66.1 < 0))) == false) (⟨0, 0, ⟨0, 0, 0, 0, false, []⟩⟩ : r06_Cell) (ix a0.Cells v66.1)).bind fun v68 =>
              if (((decide (v64.1 < 0)) || (decide (v66.1 < 0))) || (decide (v67.Val.Serial ≤ v68.Val.Serial))) then
                some (.inr s59)
              else
              (ix (s59.set (s58).toNat v63) (w64 (s58 - 1))).bind fun v69 =>
              some (.inl (w64 (s58 - 1), ((s59.set (s58).toNat v63).set (w64 (s58 - 1)).toNat v65)))
            else
            some (.inr s59)) (s38, s39)).bind fun e57 =>
          κ55 e57)
      else
      some (.inr s39)) (1, v1)).bind fun e37 =>
    κ35 e37)
def r06_Live (a0 : r06_Store) : Option (List Int) :=
  jn (fun (j15 : List Int) =>
    (r06_Sorted a0 j15).bind fun v16 =>
    some v16) (fun κ14 =>
    (lp (S := Int × (List Int)) (E := (List Int)) (fun ((s18, s19) : Int × (List Int)) =>
      if (decide (s18 < (a0.Cells.length : Int))) then
        jn (fun (j26 : List Int) =>
          some (.inl (w64 (s18 + 1), j26))) (fun κ25 =>
          (ix a0.Cells s18).bind fun v27 =>
          if (v27.State == 1) then
            (r01_Pack s18 v27.Gen).bind fun v28 =>
            (app 8 s19 [v28]).bind fun v29 =>
            κ25 v29
          else
          κ25 s19)
      else
      some (.inr s19)) (0, [])).bind fun e17 =>
    κ14 e17)
def r03_Get (a0 : r03_Slab) (a1 : Int) : Option (Int × Int) :=
  (r03_Find a0 a1).bind fun v1 =>
  if (v1.2 != 0) then
    some (0, v1.2)
  else
  (ix a0.Cells v1.1).bind fun v2 =>
  if (v2.State == 2) then
    some (0, 3)
  else
  some (v2.Val, 0)
def r06_Get (a0 : r06_Store) (a1 : Int) : Option (r06_Obj × Int) :=
  (r06_Plain a0).bind fun v1 =>
  (r03_Get v1 a1).bind fun v2 =>
  if (v2.2 != 0) then
    some ((⟨0, 0, 0, 0, false, []⟩ : r06_Obj), v2.2)
  else
  (ix a0.Cells v2.1).bind fun v3 =>
  some (v3.Val, 0)
def r05_Names (a0 : List Int) : Option (List Int) :=
  jn (fun (j13 : List Int) =>
    some j13) (fun κ12 =>
    (lp (S := Int × (List Int)) (E := (List Int)) (fun ((s15, s16) : Int × (List Int)) =>
      if (decide (s15 < (a0.length : Int))) then
        jn (fun (j22 : List Int) =>
          some (.inl (w64 (s15 + 1), j22))) (fun κ21 =>
          (ix a0 s15).bind fun v23 =>
          if (v23 != 0) then
            (app 8 s16 [v23]).bind fun v24 =>
            κ21 v24
          else
          κ21 s16)
      else
      some (.inr s16)) (0, [])).bind fun e14 =>
    κ12 e14)
def r07_Out (a0 : r06_Store) (a1 : Int) : Option (List Int) :=
  (r06_Get a0 a1).bind fun v1 =>
  if (v1.2 != 0) then
    some []
  else
  (r05_Names v1.1.Fields).bind fun v2 =>
  some v2
def r07_Times (a0 : List Int) (a1 : Int) : Option Int :=
  jn (fun (j11 : Int) =>
    some j11) (fun κ10 =>
    (lp (S := Int × Int) (E := Int) (fun ((s13, s14) : Int × Int) =>
      if (decide (s14 < (a0.length : Int))) then
        jn (fun (j19 : Int) =>
          some (.inl (j19, w64 (s14 + 1)))) (fun κ18 =>
          (ix a0 s14).bind fun v20 =>
          if ((v20 == a1) && (a1 != 0)) then
            κ18 (w64 (s13 + 1))
          else
          κ18 s13)
      else
      some (.inr s13)) (0, 0)).bind fun e12 =>
    κ10 e12)
def r07_In (a0 : r06_Store) (a1 : Int) : Option Int :=
  (r06_Live a0).bind fun v1 =>
  jn (fun (j11 : Int) =>
    some j11) (fun κ10 =>
    (lp (S := Int × Int) (E := Int) (fun ((s13, s14) : Int × Int) =>
      if (decide (s14 < (v1.length : Int))) then
        (ix v1 s14).bind fun v17 =>
        (r07_Out a0 v17).bind fun v18 =>
        (r07_Times v18 a1).bind fun v19 =>
        some (.inl (w64 (s13 + v19), w64 (s14 + 1)))
      else
      some (.inr s13)) (0, 0)).bind fun e12 =>
    κ10 e12)
def r10_Keys (a0 : List r10_Place) : Option (List Int) :=
  jn (fun (j13 : List Int) =>
    some j13) (fun κ12 =>
    (lp (S := Int × (List Int)) (E := (List Int)) (fun ((s15, s16) : Int × (List Int)) =>
      if (decide (s15 < (a0.length : Int))) then
        jn (fun (j22 : List Int) =>
          some (.inl (w64 (s15 + 1), j22))) (fun κ21 =>
          (ix a0 s15).bind fun v23 =>
          if (v23.State == 1) then
            (app 8 s16 [v23.Key]).bind fun v24 =>
            κ21 v24
          else
          κ21 s16)
      else
      some (.inr s16)) (0, [])).bind fun e14 =>
    κ12 e14)
def r10_Get (a0 : List r10_Place) (a1 : Int) : Option (Int × Int) :=
  (r10_Find a0 a1).bind fun v1 =>
  if (decide (v1 < 0)) then
    some (0, 9)
  else
  (ix a0 v1).bind fun v2 =>
  some (v2.Val, 0)
def r11_Pairs (a0 : List r10_Place) : Option (List r11_Pair) :=
  (r10_Keys a0).bind fun v1 =>
  jn (fun (j11 : List r11_Pair) =>
    some j11) (fun κ10 =>
    (lp (S := Int × (List r11_Pair)) (E := (List r11_Pair)) (fun ((s13, s14) : Int × (List r11_Pair)) =>
      if (decide (s13 < (v1.length : Int))) then
        (ix v1 s13).bind fun v17 =>
        (r10_Get a0 v17).bind fun v18 =>
        (app 16 s14 [(⟨v17, v18.1⟩ : r11_Pair)]).bind fun v19 =>
        some (.inl (w64 (s13 + 1), v19))
      else
      some (.inr s14)) (0, [])).bind fun e12 =>
    κ10 e12)
def r11_Owned (a0 : List r10_Place) (a1 : Int) : Option Int :=
  (r11_Pairs a0).bind fun v1 =>
  jn (fun (j12 : Int) =>
    some j12) (fun κ11 =>
    (lp (S := Int × Int) (E := Int) (fun ((s14, s15) : Int × Int) =>
      if (decide (s15 < (v1.length : Int))) then
        jn (fun (j20 : Int) =>
          some (.inl (j20, w64 (s15 + 1)))) (fun κ19 =>
          (ix v1 s15).bind fun v21 =>
          if ((v21.Val == a1) && (a1 != 0)) then
            κ19 (w64 (s14 + 1))
          else
          κ19 s14)
      else
      some (.inr s14)) (0, 0)).bind fun e13 =>
    κ11 e13)
def r13_Inner (a0 : r06_Store) (a1 : List r10_Place) (a2 : Int) : Option Int :=
  (r07_In a0 a2).bind fun v1 =>
  (r11_Owned a1 a2).bind fun v2 =>
  some (w64 (v1 + v2))
def r13_Rest (a0 : r06_Store) (a1 : List r10_Place) (a2 : Int) : Option Int :=
  (r06_Get a0 a2).bind fun v1 =>
  if (v1.2 != 0) then
    some 0
  else
  (r13_Inner a0 a1 a2).bind fun v2 =>
  some (w64 (v1.1.Strong - v2))
def r04_Stuck (a0 : Int) : Option Bool :=
  some (decide (a0 ≥ 12))
def r13_stuck (a0 : r06_Store) (a1 : Int) : Option Bool :=
  (r06_Get a0 a1).bind fun v1 =>
  (r04_Stuck v1.1.Strong).bind fun v2 =>
  some v2
def r13_Held (a0 : r06_Store) (a1 : List r10_Place) : Option (List Int) :=
  (r06_Live a0).bind fun v1 =>
  jn (fun (j18 : List Int) =>
    some j18) (fun κ17 =>
    (lp (S := Int × (List Int)) (E := (List Int)) (fun ((s20, s21) : Int × (List Int)) =>
      if (decide (s20 < (v1.length : Int))) then
        jn (fun (j29 : List Int) =>
          some (.inl (w64 (s20 + 1), j29))) (fun κ28 =>
          (ix v1 s20).bind fun v30 =>
          (r13_Rest a0 a1 v30).bind fun v31 =>
          (onlyIf ((decide (v31 > 0)) == false) false (r13_stuck a0 v30)).bind fun v32 =>
          if ((decide (v31 > 0)) || v32) then
            (app 8 s21 [v30]).bind fun v33 =>
            κ28 v33
          else
          κ28 s21)
      else
      some (.inr s21)) (0, [])).bind fun e19 =>
    κ17 e19)
def r02_Ints (a0 : List Int) (a1 : List Int) : Option Bool :=
  if ((a0.length : Int) != (a1.length : Int)) then
    some false
  else
  jn (fun (_ : Unit) =>
    some true) (fun κ6 =>
    (lp (S := Int) (E := Bool ⊕ Unit) (fun (s9 : Int) =>
      if (decide (s9 < (a0.length : Int))) then
        (ix a0 s9).bind fun v11 =>
        (ix a1 s9).bind fun v12 =>
        if (v11 != v12) then
          some (.inr (.inl false))
        else
        some (.inl (w64 (s9 + 1)))
      else
      some (.inr (.inr ()))) 0).bind fun e8 =>
    match e8 with
    | .inl w => some w
    | .inr w => κ6 w)
def r08_Has (a0 : List Int) (a1 : Int) : Option Bool :=
  (r07_Times a0 a1).bind fun v1 =>
  some (decide (v1 > 0))
def r08_those (a0 : List Int) (a1 : List Int) (a2 : Bool) : Option (List Int) :=
  jn (fun (j15 : List Int) =>
    some j15) (fun κ14 =>
    (lp (S := Int × (List Int)) (E := (List Int)) (fun ((s17, s18) : Int × (List Int)) =>
      if (decide (s17 < (a0.length : Int))) then
        jn (fun (j25 : List Int) =>
          some (.inl (w64 (s17 + 1), j25))) (fun κ24 =>
          (ix a0 s17).bind fun v26 =>
          (r08_Has a1 v26).bind fun v27 =>
          if (v27 == a2) then
            (app 8 s18 [v26]).bind fun v28 =>
            κ24 v28
          else
          κ24 s18)
      else
      some (.inr s18)) (0, [])).bind fun e16 =>
    κ14 e16)
def r08_From (a0 : r06_Store) (a1 : List Int) : Option (List Int) :=
  (r06_Live a0).bind fun v1 =>
  (r08_those v1 a1 true).bind fun v2 =>
  jn (fun (j51 : List Int) =>
    some j51) (fun κ50 =>
    (lp (S := (List Int) × Int) (E := (List Int)) (fun ((s53, s54) : (List Int) × Int) =>
      if (decide (s54 < (v1.length : Int))) then
        jn (fun (j78 : List Int) =>
          some (.inl (j78, w64 (s54 + 1)))) (fun κ77 =>
          (app 8 [] s53).bind fun v79 =>
          jn (fun (j89 : List Int) =>
            (r08_those v1 j89 true).bind fun v90 =>
            κ77 v90) (fun κ88 =>
            (lp (S := Int × (List Int)) (E := (List Int)) (fun ((s92, s93) : Int × (List Int)) =>
              if (decide (s92 < (s53.length : Int))) then
                (ix s53 s92).bind fun v96 =>
                (r07_Out a0 v96).bind fun v97 =>
                (app 8 s93 v97).bind fun v98 =>
                some (.inl (w64 (s92 + 1), v98))
              else
              some (.inr s93)) (0, v79)).bind fun e91 =>
            κ88 e91))
      else
      some (.inr s53)) (v2, 0)).bind fun e52 =>
    κ50 e52)
def r12_lives (a0 : r06_Store) (a1 : Int) : Option Bool :=
  (r06_Get a0 a1).bind fun v1 =>
  some (v1.2 == 0)
def r12_held (a0 : r06_Store) (a1 : List r10_Place) (a2 : List Int) : Option (List Int) :=
  (r11_Pairs a1).bind fun v1 =>
  jn (fun (j20 : List Int) =>
    some j20) (fun κ19 =>
    (lp (S := Int × (List Int)) (E := (List Int)) (fun ((s22, s23) : Int × (List Int)) =>
      if (decide (s22 < (v1.length : Int))) then
        jn (fun (j32 : List Int) =>
          some (.inl (w64 (s22 + 1), j32))) (fun κ31 =>
          (ix v1 s22).bind fun v33 =>
          (r12_lives a0 v33.Key).bind fun v34 =>
          (onlyIf (v34 == true) false (r08_Has a2 v33.Key)).bind fun v35 =>
          (onlyIf ((v34 && v35) == true) false (r12_lives a0 v33.Val)).bind fun v36 =>
          if ((v34 && v35) && v36) then
            (app 8 s23 [v33.Val]).bind fun v37 =>
            κ31 v37
          else
          κ31 s23)
      else
      some (.inr s23)) (0, [])).bind fun e21 =>
    κ19 e21)
def r12_rounds (a0 : r06_Store) (a1 : List r10_Place) (a2 : List Int) : Option ((List Int) × Int) :=
  (r08_From a0 a2).bind fun v1 =>
  jn (fun (j13 : List Int) =>
    some (j13, 30)) (fun κ12 =>
    (lp (S := (List Int) × Int) (E := ((List Int) × Int) ⊕ (List Int)) (fun ((s15, s16) : (List Int) × Int) =>
      if (decide (s16 < 30)) then
        (app 8 [] s15).bind fun v19 =>
        (r12_held a0 a1 s15).bind fun v20 =>
        (app 8 v19 v20).bind fun v21 =>
        (r08_From a0 v21).bind fun v22 =>
        (r02_Ints v22 s15).bind fun v23 =>
        if v23 then
          some (.inr (.inl (s15, s16)))
        else
        some (.inl (v22, w64 (s16 + 1)))
      else
      some (.inr (.inr s15))) (v1, 0)).bind fun e14 =>
    match e14 with
    | .inl w => some w
    | .inr w => κ12 w)
def r12_From (a0 : r06_Store) (a1 : List r10_Place) (a2 : List Int) : Option (List Int) :=
  (r12_rounds a0 a1 a2).bind fun v1 =>
  some v1.1
def r12_Lost (a0 : r06_Store) (a1 : List r10_Place) (a2 : List Int) : Option (List Int) :=
  (r12_From a0 a1 a2).bind fun v1 =>
  (r06_Live a0).bind fun v2 =>
  jn (fun (j17 : List Int) =>
    some j17) (fun κ16 =>
    (lp (S := Int × (List Int)) (E := (List Int)) (fun ((s19, s20) : Int × (List Int)) =>
      if (decide (s19 < (v2.length : Int))) then
        jn (fun (j27 : List Int) =>
          some (.inl (w64 (s19 + 1), j27))) (fun κ26 =>
          (ix v2 s19).bind fun v28 =>
          (r08_Has v1 v28).bind fun v29 =>
          if (!v29) then
            (app 8 s20 [v28]).bind fun v30 =>
            κ26 v30
          else
          κ26 s20)
      else
      some (.inr s20)) (0, [])).bind fun e18 =>
    κ16 e18)
def r13_Garbage (a0 : r06_Store) (a1 : List r10_Place) : Option (List Int) :=
  (r13_Held a0 a1).bind fun v1 =>
  (r12_Lost a0 a1 v1).bind fun v2 =>
  some v2
def r13_Fair (a0 : r06_Store) (a1 : List r10_Place) (a2 : List Int) : Option Bool :=
  (r06_Live a0).bind fun v1 =>
  jn (fun (_ : Unit) =>
    some true) (fun κ9 =>
    (lp (S := Int) (E := Bool ⊕ Unit) (fun (s12 : Int) =>
      if (decide (s12 < (v1.length : Int))) then
        (ix v1 s12).bind fun v14 =>
        (r13_stuck a0 v14).bind fun v15 =>
        (onlyIf ((!v15) == true) 0 (r13_Rest a0 a1 v14)).bind fun v16 =>
        (onlyIf ((!v15) == true) 0 (r07_Times a2 v14)).bind fun v17 =>
        if ((!v15) && (v16 != v17)) then
          some (.inr (.inl false))
        else
        some (.inl (w64 (s12 + 1)))
      else
      some (.inr (.inr ()))) 0).bind fun e11 =>
    match e11 with
    | .inl w => some w
    | .inr w => κ9 w)
def w13_TrialTells (a0 : store_Store) (a1 : List hash_Place) (a2 : Int) (a3 : List Int) : Option Bool :=
  (w13_right a0).bind fun v1 =>
  (onlyIf ((!v1) == false) false (w13_even a1)).bind fun v2 =>
  (onlyIf ((((!v1) || (!v2)) || (decide ((a3.length : Int) > 50))) == false) false w13_shown).bind fun v3 =>
  if ((((!v1) || (!v2)) || (decide ((a3.length : Int) > 50))) || (!v3)) then
    (w13_shown).bind fun v4 =>
    some v4
  else
  (w13_its a0).bind fun v5 =>
  (w13_tab a1).bind fun v6 =>
  (trial_Inner a0 a1 a2).bind fun v7 =>
  (r13_Inner v5 v6 a2).bind fun v8 =>
  (onlyIf ((v7 == v8) == true) 0 (trial_Rest a0 a1 a2)).bind fun v9 =>
  (onlyIf ((v7 == v8) == true) 0 (r13_Rest v5 v6 a2)).bind fun v10 =>
  (onlyIf (((v7 == v8) && (v9 == v10)) == true) [] (trial_Held a0 a1)).bind fun v11 =>
  (onlyIf (((v7 == v8) && (v9 == v10)) == true) [] (r13_Held v5 v6)).bind fun v12 =>
  (onlyIf (((v7 == v8) && (v9 == v10)) == true) false (r02_Ints v11 v12)).bind fun v13 =>
  (onlyIf ((((v7 == v8) && (v9 == v10)) && v13) == true) [] (trial_Garbage a0 a1)).bind fun v14 =>
  (onlyIf ((((v7 == v8) && (v9 == v10)) && v13) == true) [] (r13_Garbage v5 v6)).bind fun v15 =>
  (onlyIf ((((v7 == v8) && (v9 == v10)) && v13) == true) false (r02_Ints v14 v15)).bind fun v16 =>
  (onlyIf (((((v7 == v8) && (v9 == v10)) && v13) && v16) == true) false (trial_Fair a0 a1 a3)).bind fun v17 =>
  (onlyIf (((((v7 == v8) && (v9 == v10)) && v13) && v16) == true) false (r13_Fair v5 v6 a3)).bind fun v18 =>
  some (((((v7 == v8) && (v9 == v10)) && v13) && v16) && (v17 == v18))
def w13_fair (a0 : store_Store) (a1 : List hash_Place) (a2 : List Int) : Option store_Store :=
  (w13_its a0).bind fun v1 =>
  (r06_Live v1).bind fun v2 =>
  jn (fun (j22 : store_Store) =>
    some j22) (fun κ21 =>
    (lp (S := Int × store_Store) (E := store_Store) (fun ((s24, s25) : Int × store_Store) =>
      if (decide (s24 < (v2.length : Int))) then
        (ix v2 s24).bind fun v28 =>
        (store_Get s25 v28).bind fun v29 =>
        jn (fun (j35 : Int) =>
          (store_Set s25 v28 (⟨v29.1.Serial, j35, v29.1.Weak, v29.1.Prog, v29.1.Started, v29.1.Fields⟩ : store_Obj)).bind fun v36 =>
          some (.inl (w64 (s24 + 1), v36.1))) (fun κ34 =>
          if (decide (v29.1.Strong < 12)) then
            (w13_its s25).bind fun v37 =>
            (w13_tab a1).bind fun v38 =>
            (r13_Inner v37 v38 v28).bind fun v39 =>
            (r07_Times a2 v28).bind fun v40 =>
            κ34 (if (w64 (v39 + v40)) < 11 then w64 (v39 + v40) else 11)
          else
          κ34 v29.1.Strong)
      else
      some (.inr s25)) (0, a0)).bind fun e23 =>
    κ21 e23)
def w13_TrialOuter (a0 : store_Store) (a1 : List hash_Place) (a2 : List Int) : Option Bool :=
  (w13_right a0).bind fun v1 =>
  (onlyIf ((!v1) == false) false (w13_even a1)).bind fun v2 =>
  (onlyIf ((((!v1) || (!v2)) || (decide ((a2.length : Int) > 5))) == false) false w13_shown).bind fun v3 =>
  if ((((!v1) || (!v2)) || (decide ((a2.length : Int) > 5))) || (!v3)) then
    (w13_shown).bind fun v4 =>
    some v4
  else
  (w13_fair a0 a1 a2).bind fun v5 =>
  (w13_small v5).bind fun v6 =>
  (onlyIf ((!v6) == false) ⟨[], 0, 0⟩ (w13_its v5)).bind fun v7 =>
  (onlyIf ((!v6) == false) [] (w13_tab a1)).bind fun v8 =>
  (onlyIf ((!v6) == false) false (r13_Fair v7 v8 a2)).bind fun v9 =>
  if ((!v6) || (!v9)) then
    some true
  else
  (app 8 [] a2).bind fun v10 =>
  (w13_its v5).bind fun v11 =>
  (r06_Live v11).bind fun v12 =>
  jn (fun (j29 : List Int) =>
    (trial_Fair v5 a1 a2).bind fun v30 =>
    (onlyIf (v30 == true) [] (trial_Garbage v5 a1)).bind fun v31 =>
    (onlyIf (v30 == true) [] (w13_tab a1)).bind fun v32 =>
    if (v30 == true) then
      (r12_Lost v11 v32 j29).bind fun v33 =>
      (r02_Ints v31 v33).bind fun v34 =>
      some v34
    else
    some false) (fun κ28 =>
    (lp (S := Int × (List Int)) (E := (List Int)) (fun ((s36, s37) : Int × (List Int)) =>
      if (decide (s36 < (v12.length : Int))) then
        jn (fun (j45 : List Int) =>
          some (.inl (w64 (s36 + 1), j45))) (fun κ44 =>
          (ix v12 s36).bind fun v46 =>
          (r06_Get v11 v46).bind fun v47 =>
          (r04_Stuck v47.1.Strong).bind fun v48 =>
          if v48 then
            (app 8 s37 [v46]).bind fun v49 =>
            κ44 v49
          else
          κ44 s37)
      else
      some (.inr s37)) (0, v10)).bind fun e35 =>
    κ28 e35)
def w13_TrialKeeps (a0 : store_Store) (a1 : List hash_Place) (a2 : Int) : Option Bool :=
  (w13_right a0).bind fun v1 =>
  (onlyIf ((!v1) == false) false (w13_even a1)).bind fun v2 =>
  (onlyIf (((!v1) || (!v2)) == false) false w13_shown).bind fun v3 =>
  if (((!v1) || (!v2)) || (!v3)) then
    (w13_shown).bind fun v4 =>
    some v4
  else
  (trial_Garbage a0 a1).bind fun v5 =>
  (trial_Held a0 a1).bind fun v6 =>
  (w13_its a0).bind fun v7 =>
  (r07_Out v7 a2).bind fun v8 =>
  jn (fun (_ : Unit) =>
    (r07_Times v5 a2).bind fun v25 =>
    (onlyIf ((v25 == 0) == false) 0 (trial_Rest a0 a1 a2)).bind fun v26 =>
    some ((v25 == 0) || (decide (v26 ≤ 0)))) (fun κ23 =>
    (r07_Times v6 a2).bind fun v27 =>
    if (decide (v27 > 0)) then
      jn (fun (_ : Unit) =>
        (r07_Times v5 a2).bind fun v35 =>
        some (v35 == 0)) (fun κ33 =>
        (lp (S := Int) (E := Bool ⊕ Unit) (fun (s37 : Int) =>
          if (decide (s37 < (v8.length : Int))) then
            (ix v8 s37).bind fun v39 =>
            (r07_Times v5 v39).bind fun v40 =>
            if (decide (v40 > 0)) then
              some (.inr (.inl false))
            else
            some (.inl (w64 (s37 + 1)))
          else
          some (.inr (.inr ()))) 0).bind fun e36 =>
        match e36 with
        | .inl w => some w
        | .inr w => κ33 w)
    else
    κ23 ())
def w13_TrialCounts (a0 : store_Store) (a1 : List hash_Place) (a2 : Int) : Option Bool :=
  (w13_right a0).bind fun v1 =>
  (onlyIf ((!v1) == false) false (w13_even a1)).bind fun v2 =>
  (onlyIf (((!v1) || (!v2)) == false) false w13_shown).bind fun v3 =>
  if (((!v1) || (!v2)) || (!v3)) then
    (w13_shown).bind fun v4 =>
    some v4
  else
  (store_Get a0 a2).bind fun v5 =>
  if ((v5.2 != 0) || (decide (v5.1.Strong > 1000000))) then
    some true
  else
  (trial_Rest a0 a1 a2).bind fun v6 =>
  (store_Set a0 a2 (⟨v5.1.Serial, w64 (v5.1.Strong + 1), v5.1.Weak, v5.1.Prog, v5.1.Started, v5.1.Fields⟩ : store_Obj)).bind fun v7 =>
  (trial_Rest v7.1 a1 a2).bind fun v8 =>
  (onlyIf ((v8 == (w64 (v6 + 1))) == true) [] (trial_Held v7.1 a1)).bind fun v9 =>
  (onlyIf ((v8 == (w64 (v6 + 1))) == true) 0 (r07_Times v9 a2)).bind fun v10 =>
  (onlyIf ((((v8 == (w64 (v6 + 1))) && ((decide (v10 > 0)) == ((decide ((w64 (v6 + 1)) > 0)) || (decide ((w64 (v5.1.Strong + 1)) ≥ 12))))) == true) && ((!((decide ((w64 (v6 + 1)) > 0)) || (decide ((w64 (v5.1.Strong + 1)) ≥ 12)))) == false)) [] (trial_Garbage v7.1 a1)).bind fun v11 =>
  (onlyIf ((((v8 == (w64 (v6 + 1))) && ((decide (v10 > 0)) == ((decide ((w64 (v6 + 1)) > 0)) || (decide ((w64 (v5.1.Strong + 1)) ≥ 12))))) == true) && ((!((decide ((w64 (v6 + 1)) > 0)) || (decide ((w64 (v5.1.Strong + 1)) ≥ 12)))) == false)) 0 (r07_Times v11 a2)).bind fun v12 =>
  some (((v8 == (w64 (v6 + 1))) && ((decide (v10 > 0)) == ((decide ((w64 (v6 + 1)) > 0)) || (decide ((w64 (v5.1.Strong + 1)) ≥ 12))))) && ((!((decide ((w64 (v6 + 1)) > 0)) || (decide ((w64 (v5.1.Strong + 1)) ≥ 12)))) || (v12 == 0)))
def w13_TrialTwice (a0 : store_Store) (a1 : List hash_Place) : Option Bool :=
  (w13_right a0).bind fun v1 =>
  (onlyIf ((!v1) == false) false (w13_even a1)).bind fun v2 =>
  (onlyIf (((!v1) || (!v2)) == false) false w13_shown).bind fun v3 =>
  if (((!v1) || (!v2)) || (!v3)) then
    (w13_shown).bind fun v4 =>
    some v4
  else
  (trial_Garbage a0 a1).bind fun v5 =>
  (w13_its a0).bind fun v6 =>
  (r06_Live v6).bind fun v7 =>
  jn (fun (_ : Unit) =>
    some (decide ((v5.length : Int) ≤ (v7.length : Int)))) (fun κ57 =>
    (lp (S := Int) (E := Bool ⊕ Unit) (fun (s60 : Int) =>
      if (decide (s60 < (v7.length : Int))) then
        jn (fun (_ : Unit) =>
          some (.inl (w64 (s60 + 1)))) (fun κ84 =>
          (ix v7 s60).bind fun v86 =>
          (r07_Times v5 v86).bind fun v87 =>
          if (decide (v87 > 0)) then
            κ84 ()
          else
          (r07_Out v6 v86).bind fun v88 =>
          jn (fun (_ : Unit) =>
            (w13_tab a1).bind fun v96 =>
            (r11_Pairs v96).bind fun v97 =>
            (lp (S := Int) (E := Bool ⊕ Unit) (fun (s99 : Int) =>
              if (decide (s99 < (v97.length : Int))) then
                (ix v97 s99).bind fun v101 =>
                (onlyIf ((v101.Key == v86) == true) 0 (r07_Times v5 v101.Val)).bind fun v102 =>
                if ((v101.Key == v86) && (decide (v102 > 0))) then
                  some (.inr (.inl false))
                else
                some (.inl (w64 (s99 + 1)))
              else
              some (.inr (.inr ()))) 0).bind fun e98 =>
            match e98 with
            | .inl w => some (.inr (.inl w))
            | .inr w => κ84 w) (fun κ94 =>
            (lp (S := Int) (E := Bool ⊕ Unit) (fun (s104 : Int) =>
              if (decide (s104 < (v88.length : Int))) then
                (ix v88 s104).bind fun v106 =>
                (r07_Times v5 v106).bind fun v107 =>
                if (decide (v107 > 0)) then
                  some (.inr (.inl false))
                else
                some (.inl (w64 (s104 + 1)))
              else
              some (.inr (.inr ()))) 0).bind fun e103 =>
            match e103 with
            | .inl w => some (.inr (.inl w))
            | .inr w => κ94 w))
      else
      some (.inr (.inr ()))) 0).bind fun e59 =>
    match e59 with
    | .inl w => some w
    | .inr w => κ57 w)
end
end Go.Sh
