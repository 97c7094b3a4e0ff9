/-
  Plain functions: what the functions of the program come to.
-/
import Derived.Test.YtpnajadblhkomaaSh0
import Derived.Test.YtpnajadblhkomaaPw30
namespace Go.Sh
set_option linter.unusedVariables false
set_option maxRecDepth 100000
noncomputable section
structure store_Obj where
  Serial : Int
  Strong : Int
  Weak : Int
  Prog : Int
  Started : Bool
  Fields : List Int

structure slab_Cell_store_Obj where
  State : Int
  Gen : Int
  Val : store_Obj

structure slab_Slab_store_Obj where
  Cells : List slab_Cell_store_Obj
  Last : Int

structure store_Store where
  S : slab_Slab_store_Obj
  Serial : Int

structure r06_Obj where
  Serial : Int
  Strong : Int
  Weak : Int
  Prog : Int
  Started : Bool
  Fields : List Int

structure r06_Cell where
  State : Int
  Gen : Int
  Val : r06_Obj

structure r06_Store where
  Cells : List r06_Cell
  Last : Int
  Serial : Int

structure r03_Cell where
  State : Int
  Gen : Int
  Val : Int

structure r03_Slab where
  Cells : List r03_Cell
  Last : Int

structure store_rule where
  kept : Fv

def w06_small (a0 : store_Store) : Option Bool :=
  jn (fun (_ : Unit) =>
    some (decide ((a0.S.Cells.length : Int) ≤ 30))) (fun κ5 =>
    (lp (S := Int) (E := Bool ⊕ Unit) (fun (s8 : Int) =>
      if ((decide (s8 < (a0.S.Cells.length : Int))) && (decide (s8 < 30))) then
        (ix a0.S.Cells s8).bind fun v10 =>
        if (decide ((v10.Val.Fields.length : Int) > 10)) then
          some (.inr (.inl false))
        else
        some (.inl (w64 (s8 + 1)))
      else
      some (.inr (.inr ()))) 0).bind fun e7 =>
    match e7 with
    | .inl w => some w
    | .inr w => κ5 w)

def w06_obj (a0 : store_Obj) : Option r06_Obj :=
  some (⟨a0.Serial, a0.Strong, a0.Weak, a0.Prog, a0.Started, a0.Fields⟩ : r06_Obj)

def w06_its (a0 : store_Store) : Option r06_Store :=
  jn (fun (j10 : List r06_Cell) =>
    some (⟨j10, a0.S.Last, a0.Serial⟩ : r06_Store)) (fun κ9 =>
    (lp (S := Int × (List r06_Cell)) (E := (List r06_Cell)) (fun ((s12, s13) : Int × (List r06_Cell)) =>
      if (decide (s12 < (a0.S.Cells.length : Int))) then
        (ix a0.S.Cells s12).bind fun v16 =>
        (w06_obj v16.Val).bind fun v17 =>
        (app 80 s13 [(⟨v16.State, v16.Gen, v17⟩ : r06_Cell)]).bind fun v18 =>
        some (.inl (w64 (s12 + 1), v18))
      else
      some (.inr s13)) (0, [])).bind fun e11 =>
    κ9 e11)

def r06_Plain (a0 : r06_Store) : Option r03_Slab :=
  jn (fun (j9 : List r03_Cell) =>
    some (⟨j9, a0.Last⟩ : r03_Slab)) (fun κ8 =>
    (lp (S := Int × (List r03_Cell)) (E := (List r03_Cell)) (fun ((s11, s12) : Int × (List r03_Cell)) =>
      if (decide (s11 < (a0.Cells.length : Int))) then
        (ix a0.Cells s11).bind fun v15 =>
        (app 24 s12 [(⟨v15.State, v15.Gen, s11⟩ : r03_Cell)]).bind fun v16 =>
        some (.inl (w64 (s11 + 1), v16))
      else
      some (.inr s12)) (0, [])).bind fun e10 =>
    κ8 e10)

def r03_Right (a0 : r03_Slab) : Option Bool :=
  if (((decide ((a0.Cells.length : Int) > 24)) || (decide (a0.Last < 0))) || (decide (a0.Last > 9))) then
    some false
  else
  jn (fun (_ : Unit) =>
    some true) (fun κ5 =>
    (lp (S := Int) (E := Bool ⊕ Unit) (fun (s8 : Int) =>
      if (decide (s8 < (a0.Cells.length : Int))) then
        (ix a0.Cells s8).bind fun v10 =>
        if ((((decide (v10.State < 0)) || (decide (v10.State > 3))) || (decide (v10.Gen < 0))) || (decide (v10.Gen > a0.Last))) then
          some (.inr (.inl false))
        else
        some (.inl (w64 (s8 + 1)))
      else
      some (.inr (.inr ()))) 0).bind fun e7 =>
    match e7 with
    | .inl w => some w
    | .inr w => κ5 w)

def r06_there (a0 : r06_Cell) : Option Bool :=
  some ((a0.State == 1) || (a0.State == 2))

def r06_Right (a0 : r06_Store) : Option Bool :=
  (r06_Plain a0).bind fun v1 =>
  (r03_Right v1).bind fun v2 =>
  if ((!v2) || (decide (a0.Serial < 0))) then
    some false
  else
  jn (fun (_ : Unit) =>
    some true) (fun κ22 =>
    (lp (S := Int) (E := Bool ⊕ Unit) (fun (s25 : Int) =>
      if (decide (s25 < (a0.Cells.length : Int))) then
        jn (fun (_ : Unit) =>
          some (.inl (w64 (s25 + 1)))) (fun κ34 =>
          (ix a0.Cells s25).bind fun v36 =>
          (r06_there v36).bind fun v37 =>
          if (!v37) then
            if ((((((v36.Val.Serial != 0) || (v36.Val.Strong != 0)) || (v36.Val.Weak != 0)) || (v36.Val.Prog != 0)) || v36.Val.Started) || ((v36.Val.Fields.length : Int) != 0)) then
              some (.inr (.inl false))
            else
            κ34 ()
          else
          if (((((((decide (v36.Val.Serial < 1)) || (decide (v36.Val.Serial > a0.Serial))) || (decide (v36.Val.Strong < 0))) || (decide (v36.Val.Weak < 0))) || (decide (v36.Val.Prog < (-1)))) || (decide (v36.Val.Prog > 5))) || (decide ((v36.Val.Fields.length : Int) > 4))) then
            some (.inr (.inl false))
          else
          (lp (S := Int) (E := Bool ⊕ Unit) (fun (s39 : Int) =>
            if (decide (s39 < s25)) then
              (ix a0.Cells s39).bind fun v41 =>
              (r06_there v41).bind fun v42 =>
              if (v42 && (v41.Val.Serial == v36.Val.Serial)) then
                some (.inr (.inl false))
              else
              some (.inl (w64 (s39 + 1)))
            else
            some (.inr (.inr ()))) 0).bind fun e38 =>
          match e38 with
          | .inl w => some (.inr (.inl w))
          | .inr w => κ34 w)
      else
      some (.inr (.inr ()))) 0).bind fun e24 =>
    match e24 with
    | .inl w => some w
    | .inr w => κ22 w)

def w06_right (a0 : store_Store) : Option Bool :=
  (w06_small a0).bind fun v1 =>
  (onlyIf ((v1 && (decide (a0.Serial < 1000000000))) == true) ⟨[], 0, 0⟩ (w06_its a0)).bind fun v2 =>
  (onlyIf ((v1 && (decide (a0.Serial < 1000000000))) == true) false (r06_Right v2)).bind fun v3 =>
  some ((v1 && (decide (a0.Serial < 1000000000))) && v3)

def slab_New_store_Obj (a0 : Int) (a1 : Int) : Option slab_Slab_store_Obj :=
  if ((((decide (a0 < 0)) || (decide (a0 > 24))) || (decide (a1 < 0))) || (decide (a1 > 9))) then
    some (⟨[], 0⟩ : slab_Slab_store_Obj)
  else
  (mk 80 a0 (⟨0, 0, ⟨0, 0, 0, 0, false, []⟩⟩ : slab_Cell_store_Obj)).bind fun v1 =>
  some (⟨v1, a1⟩ : slab_Slab_store_Obj)

def store_New (a0 : Int) (a1 : Int) : Option store_Store :=
  (slab_New_store_Obj a0 a1).bind fun v1 =>
  some (⟨v1, 0⟩ : store_Store)

def vec_New (a0 : Int) : Option ((List Int) × Int) :=
  if ((decide (a0 < 0)) || (decide (a0 > 4))) then
    some ([], 1)
  else
  (mk 8 a0 (0 : Int)).bind fun v1 =>
  some (v1, 0)

def store_programFits (a0 : Int) : Option Bool :=
  some ((decide (a0 ≥ (-1))) && (decide (a0 < 6)))

def slab_free_store_Obj (a0 : slab_Slab_store_Obj) : Option slab_Slab_store_Obj :=
  some a0

def slices_Clone_slab_Cell_store_Obj_slab_Cell_store_Obj (a0 : List slab_Cell_store_Obj) : Option (List slab_Cell_store_Obj) :=
  app 80 [] a0


def slab_with_store_Obj (a0 : slab_Slab_store_Obj) (a1 : Int) (a2 : slab_Cell_store_Obj) : Option slab_Slab_store_Obj :=
  (slices_Clone_slab_Cell_store_Obj_slab_Cell_store_Obj a0.Cells).bind fun v1 =>
  (ix v1 a1).bind fun v2 =>
  some (⟨(v1.set (a1).toNat a2), a0.Last⟩ : slab_Slab_store_Obj)

def handle_Pack (a0 : Int) (a1 : Int) : Option Int :=
  if ((((decide (a0 < 0)) || (decide (a0 ≥ 24))) || (decide (a1 < 0))) || (decide (a1 > 9))) then
    some 0
  else
  some (w64 ((w64 (1 + (w64 (a0 * 1)))) + (w64 (a1 * 32))))

def slab_Take_store_Obj (a0 : slab_Slab_store_Obj) (a1 : store_Obj) : Option (slab_Slab_store_Obj × Int × Int) :=
  jn (fun (_ : Unit) =>
    some (a0, 0, 4)) (fun κ9 =>
    (slab_free_store_Obj a0).bind fun v11 =>
    (lp (S := Int) (E := (slab_Slab_store_Obj × Int × Int) ⊕ Unit) (fun (s13 : Int) =>
      if (decide (s13 < (v11.Cells.length : Int))) then
        (ix v11.Cells s13).bind fun v15 =>
        if ((v15.State == 0) == true) then
          (ix a0.Cells s13).bind fun v16 =>
          (slab_with_store_Obj a0 s13 (⟨1, v16.Gen, a1⟩ : slab_Cell_store_Obj)).bind fun v17 =>
          (handle_Pack s13 v16.Gen).bind fun v18 =>
          some (.inr (.inl (v17, v18, 0)))
        else
        some (.inl (w64 (s13 + 1)))
      else
      some (.inr (.inr ()))) 0).bind fun e12 =>
    match e12 with
    | .inl w => some w
    | .inr w => κ9 w)

def store_Make (a0 : store_Store) (a1 : Int) (a2 : Int) : Option (store_Store × Int × Int) :=
  (vec_New a1).bind fun v1 =>
  if (v1.2 != 0) then
    some (a0, 0, v1.2)
  else
  (store_programFits a2).bind fun v2 =>
  if (!v2) then
    some (a0, 0, 13)
  else
  (slab_Take_store_Obj a0.S (⟨w64 (a0.Serial + 1), 0, 0, a2, false, v1.1⟩ : store_Obj)).bind fun v3 =>
  if (v3.2.2 != 0) then
    some (a0, 0, v3.2.2)
  else
  some ((⟨v3.1, w64 (a0.Serial + 1)⟩ : store_Store), v3.2.1, 0)

def handle_parts (a0 : Int) : Option (Int × Int × Bool) :=
  if (decide (a0 < 1)) then
    some ((-1), (-1), false)
  else
  (rem (w64 (a0 - 1)) 32).bind fun v1 =>
  (quo .i64 v1 1).bind fun v2 =>
  (quo .i64 (w64 (a0 - 1)) 32).bind fun v3 =>
  if ((decide (v2 ≥ 24)) || (decide (v3 > 9))) then
    some ((-1), (-1), false)
  else
  some (v2, v3, true)

def handle_Slot (a0 : Int) : Option Int :=
  (handle_parts a0).bind fun v1 =>
  some v1.1

def handle_Gen (a0 : Int) : Option Int :=
  (handle_parts a0).bind fun v1 =>
  some v1.2.1

def slab_Find_store_Obj (a0 : slab_Slab_store_Obj) (a1 : Int) : Option (Int × Int) :=
  if (a1 == 0) then
    some ((-1), 2)
  else
  (handle_Slot a1).bind fun v1 =>
  if ((decide (v1 < 0)) || (decide (v1 ≥ (a0.Cells.length : Int)))) then
    some ((-1), 3)
  else
  (ix a0.Cells v1).bind fun v2 =>
  (handle_Gen a1).bind fun v3 =>
  if ((v2.Gen != v3) || ((v2.State != 1) && (v2.State != 2))) then
    some ((-1), 3)
  else
  some (v1, 0)

def slab_Get_store_Obj (a0 : slab_Slab_store_Obj) (a1 : Int) : Option (store_Obj × Int) :=
  (slab_Find_store_Obj a0 a1).bind fun v1 =>
  if (v1.2 != 0) then
    some ((⟨0, 0, 0, 0, false, []⟩ : store_Obj), v1.2)
  else
  (ix a0.Cells v1.1).bind fun v2 =>
  if (v2.State == 2) then
    some ((⟨0, 0, 0, 0, false, []⟩ : store_Obj), 3)
  else
  some (v2.Val, 0)

def store_Get (a0 : store_Store) (a1 : Int) : Option (store_Obj × Int) :=
  (slab_Get_store_Obj a0.S a1).bind fun v1 =>
  some (v1.1, v1.2)

def vec_has (a0 : List Int) (a1 : Int) : Option Bool :=
  some ((decide (a1 ≥ 0)) && (decide (a1 < (a0.length : Int))))

def vec_With (a0 : List Int) (a1 : Int) (a2 : Int) : Option ((List Int) × Int) :=
  (vec_has a0 a1).bind fun v1 =>
  if (!v1) then
    some (a0, 5)
  else
  (mk 8 (a0.length : Int) (0 : Int)).bind fun v2 =>
  (cpy v2 a0).bind fun v3 =>
  (ix v3 a1).bind fun v4 =>
  some ((v3.set (a1).toNat a2), 0)

def slab_Set_store_Obj (a0 : slab_Slab_store_Obj) (a1 : Int) (a2 : store_Obj) : Option (slab_Slab_store_Obj × Int) :=
  (slab_Find_store_Obj a0 a1).bind fun v1 =>
  if (v1.2 != 0) then
    some (a0, v1.2)
  else
  (ix a0.Cells v1.1).bind fun v2 =>
  (slab_with_store_Obj a0 v1.1 (⟨v2.State, v2.Gen, a2⟩ : slab_Cell_store_Obj)).bind fun v3 =>
  some (v3, 0)

def store_Set (a0 : store_Store) (a1 : Int) (a2 : store_Obj) : Option (store_Store × Int) :=
  (slab_Set_store_Obj a0.S a1 a2).bind fun v1 =>
  some ((⟨v1.1, a0.Serial⟩ : store_Store), v1.2)

def store_Put (a0 : store_Store) (a1 : Int) (a2 : Int) (a3 : Int) : Option (store_Store × Int) :=
  (store_Get a0 a1).bind fun v1 =>
  if (v1.2 != 0) then
    some (a0, v1.2)
  else
  (vec_With v1.1.Fields a2 a3).bind fun v2 =>
  if (v2.2 != 0) then
    some (a0, v2.2)
  else
  (store_Set a0 a1 (⟨v1.1.Serial, v1.1.Strong, v1.1.Weak, v1.1.Prog, v1.1.Started, v2.1⟩ : store_Obj)).bind fun v3 =>
  some (v3.1, v3.2)

def vec_At (a0 : List Int) (a1 : Int) : Option (Int × Int) :=
  (vec_has a0 a1).bind fun v1 =>
  if (!v1) then
    some (0, 5)
  else
  (ix a0 a1).bind fun v2 =>
  some (v2, 0)

def store_Field (a0 : store_Store) (a1 : Int) (a2 : Int) : Option (Int × Int) :=
  (store_Get a0 a1).bind fun v1 =>
  if (v1.2 != 0) then
    some (0, v1.2)
  else
  (vec_At v1.1.Fields a2).bind fun v2 =>
  some (v2.1, v2.2)

def cmp_isNaN_int (a0 : Int) : Option Bool :=
  some (a0 != a0)

def cmp_Compare_int (a0 : Int) (a1 : Int) : Option Int :=
  (cmp_isNaN_int a0).bind fun v1 =>
  (cmp_isNaN_int a1).bind fun v2 =>
  if v1 then
    if v2 then
      some 0
    else
    some (-1)
  else
  if v2 then
    some 1
  else
  if (decide (a0 < a1)) then
    some (-1)
  else
  if (decide (a0 > a1)) then
    some 1
  else
  some 0

def store_Live_1 (a0 : Int) (a1 : Int) (a2 : List (Int × Int)) : Option Int :=
  (cmp_Compare_int ((mget a2 a0).getD (0 : Int)) ((mget a2 a1).getD (0 : Int))).bind fun v1 =>
  some v1

def store_Live (a0 : store_Store) : Option (List Int) :=
  jn (fun ((j18, j19) : (List (Int × Int)) × (List Int)) =>
    (sortBy (fun p q => store_Live_1 p q j18) j19).bind fun v21 =>
    some v21) (fun κ17 =>
    (lp (S := Int × (List (Int × Int)) × (List Int)) (E := ((List (Int × Int)) × (List Int))) (fun ((s23, s24, s25) : Int × (List (Int × Int)) × (List Int)) =>
      if (decide (s23 < (a0.S.Cells.length : Int))) then
        jn (fun ((j32, j33) : (List (Int × Int)) × (List Int)) =>
          some (.inl (w64 (s23 + 1), j32, j33))) (fun κ31 =>
          (ix a0.S.Cells s23).bind fun v35 =>
          if (v35.State == 1) then
            (handle_Pack s23 v35.Gen).bind fun v36 =>
            (app 8 s25 [v36]).bind fun v37 =>
            κ31 ((mput s24 v36 v35.Val.Serial), v37)
          else
          κ31 (s24, s25))
      else
      some (.inr (s24, s25))) (0, [], [])).bind fun e22 =>
    κ17 e22)

def store_rules : Option (List store_rule) :=
  some [(⟨(some 103)⟩ : store_rule), (⟨(some 104)⟩ : store_rule), (⟨(some 105)⟩ : store_rule), (⟨(some 106)⟩ : store_rule)]

def store_stateFits (a0 : store_Store) (a1 : slab_Cell_store_Obj) : Option Bool :=
  some ((decide (a1.State ≥ 0)) && (decide (a1.State ≤ 3)))

def store_generationFits (a0 : store_Store) (a1 : slab_Cell_store_Obj) : Option Bool :=
  some ((decide (a1.Gen ≥ 0)) && (decide (a1.Gen ≤ a0.S.Last)))

def store_holdsObject (a0 : slab_Cell_store_Obj) : Option Bool :=
  some ((a0.State == 1) || (a0.State == 2))

def store_objectFits (a0 : store_Store) (a1 : slab_Cell_store_Obj) : Option Bool :=
  (store_holdsObject a1).bind fun v1 =>
  (onlyIf (((!v1) == false) && (((((decide (a1.Val.Serial ≥ 1)) && (decide (a1.Val.Serial ≤ a0.Serial))) && (decide (a1.Val.Strong ≥ 0))) && (decide (a1.Val.Weak ≥ 0))) == true)) false (store_programFits a1.Val.Prog)).bind fun v2 =>
  some ((!v1) || ((((((decide (a1.Val.Serial ≥ 1)) && (decide (a1.Val.Serial ≤ a0.Serial))) && (decide (a1.Val.Strong ≥ 0))) && (decide (a1.Val.Weak ≥ 0))) && v2) && (decide ((a1.Val.Fields.length : Int) ≤ 4))))

def store_nothingIsLeft (a0 : store_Store) (a1 : slab_Cell_store_Obj) : Option Bool :=
  (store_holdsObject a1).bind fun v1 =>
  some (v1 || ((((a1.Val.Serial == 0) && ((a1.Val.Strong == 0) && ((a1.Val.Weak == 0) && ((a1.Val.Prog == 0) && true)))) && (!a1.Val.Started)) && ((a1.Val.Fields.length : Int) == 0)))

def fvcall0 (f : Fv) (a0 : store_Store) (a1 : slab_Cell_store_Obj) : Option Bool :=
  if f = some 103 then store_stateFits a0 a1 else
  if f = some 104 then store_generationFits a0 a1 else
  if f = some 105 then store_objectFits a0 a1 else
  if f = some 106 then store_nothingIsLeft a0 a1 else
  none

def store_serialsDiffer (a0 : store_Store) : Option Bool :=
  jn (fun (_ : Unit) =>
    some true) (fun κ12 =>
    (lp (S := Int × (List (Int × Bool))) (E := Bool ⊕ Unit) (fun ((s15, s16) : Int × (List (Int × Bool))) =>
      if (decide (s15 < (a0.S.Cells.length : Int))) then
        jn (fun (j22 : List (Int × Bool)) =>
          some (.inl (w64 (s15 + 1), j22))) (fun κ21 =>
          (ix a0.S.Cells s15).bind fun v23 =>
          (store_holdsObject v23).bind fun v24 =>
          if (!v24) then
            κ21 s16
          else
          if ((mget s16 v23.Val.Serial).getD (false : Bool)) then
            some (.inr (.inl false))
          else
          κ21 (mput s16 v23.Val.Serial true))
      else
      some (.inr (.inr ()))) (0, [])).bind fun e14 =>
    match e14 with
    | .inl w => some w
    | .inr w => κ12 w)

def store_Right (a0 : store_Store) : Option Bool :=
  if ((((decide ((a0.S.Cells.length : Int) > 24)) || (decide (a0.S.Last < 0))) || (decide (a0.S.Last > 9))) || (decide (a0.Serial < 0))) then
    some false
  else
  jn (fun (_ : Unit) =>
    (store_serialsDiffer a0).bind fun v24 =>
    some v24) (fun κ22 =>
    (lp (S := Int) (E := Bool ⊕ Unit) (fun (s26 : Int) =>
      if (decide (s26 < (a0.S.Cells.length : Int))) then
        jn (fun (_ : Unit) =>
          some (.inl (w64 (s26 + 1)))) (fun κ36 =>
          (ix a0.S.Cells s26).bind fun v38 =>
          (store_rules).bind fun v39 =>
          (lp (S := Int) (E := Bool ⊕ Unit) (fun (s41 : Int) =>
            if (decide (s41 < (v39.length : Int))) then
              (ix v39 s41).bind fun v43 =>
              (fvcall0 v43.kept a0 v38).bind fun v44 =>
              if (!v44) then
                some (.inr (.inl false))
              else
              some (.inl (w64 (s41 + 1)))
            else
            some (.inr (.inr ()))) 0).bind fun e40 =>
          match e40 with
          | .inl w => some (.inr (.inl w))
          | .inr w => κ36 w)
      else
      some (.inr (.inr ()))) 0).bind fun e25 =>
    match e25 with
    | .inl w => some w
    | .inr w => κ22 w)

def w06_shown : Option Bool :=
  (store_New 2 3).bind fun v1 =>
  (store_Make v1 2 (-1)).bind fun v2 =>
  (store_Make v2.1 0 5).bind fun v3 =>
  (store_Make v3.1 0 0).bind fun v4 =>
  (store_Put v3.1 v2.2.1 1 v3.2.1).bind fun v5 =>
  (store_Field v5.1 v2.2.1 1).bind fun v6 =>
  (store_Get v5.1 v3.2.1).bind fun v7 =>
  (onlyIf ((((((((((((v2.2.1 == 1) && (v2.2.2 == 0)) && (v3.2.1 == 2)) && (v3.2.2 == 0)) && (v4.2.2 == 4)) && (v5.2 == 0)) && (v6.1 == 2)) && (v6.2 == 0)) && (v7.1.Serial == 2)) && (v7.1.Prog == 5)) && (v7.2 == 0)) == true) [] (store_Live v5.1)).bind fun v8 =>
  (onlyIf (((((((((((((v2.2.1 == 1) && (v2.2.2 == 0)) && (v3.2.1 == 2)) && (v3.2.2 == 0)) && (v4.2.2 == 4)) && (v5.2 == 0)) && (v6.1 == 2)) && (v6.2 == 0)) && (v7.1.Serial == 2)) && (v7.1.Prog == 5)) && (v7.2 == 0)) && ((v8.length : Int) == 2)) == true) false (store_Right v5.1)).bind fun v9 =>
  some (((((((((((((v2.2.1 == 1) && (v2.2.2 == 0)) && (v3.2.1 == 2)) && (v3.2.2 == 0)) && (v4.2.2 == 4)) && (v5.2 == 0)) && (v6.1 == 2)) && (v6.2 == 0)) && (v7.1.Serial == 2)) && (v7.1.Prog == 5)) && (v7.2 == 0)) && ((v8.length : Int) == 2)) && v9)

def r01_Pack (a0 : Int) (a1 : Int) : Option Int :=
  if ((((decide (a0 < 0)) || (decide (a0 > 23))) || (decide (a1 < 0))) || (decide (a1 > 9))) then
    some 0
  else
  some (w64 ((w64 (1 + a0)) + (w64 (32 * a1))))

def r01_Valid (a0 : Int) : Option Bool :=
  if ((decide (a0 < 1)) || (decide (a0 > 400))) then
    some false
  else
  (rem (w64 (a0 - 1)) 32).bind fun v1 =>
  (quo .i64 (w64 (a0 - 1)) 32).bind fun v2 =>
  (r01_Pack v1 v2).bind fun v3 =>
  some (v3 == a0)

def r01_Slot (a0 : Int) : Option Int :=
  (r01_Valid a0).bind fun v1 =>
  if (!v1) then
    some (-1)
  else
  (rem (w64 (a0 - 1)) 32).bind fun v2 =>
  some v2

def r01_Gen (a0 : Int) : Option Int :=
  (r01_Valid a0).bind fun v1 =>
  if (!v1) then
    some (-1)
  else
  (quo .i64 (w64 (a0 - 1)) 32).bind fun v2 =>
  some v2

def r03_Find (a0 : r03_Slab) (a1 : Int) : Option (Int × Int) :=
  if (a1 == 0) then
    some ((-1), 2)
  else
  (r01_Slot a1).bind fun v1 =>
  if ((decide (v1 < 0)) || (decide (v1 ≥ (a0.Cells.length : Int)))) then
    some ((-1), 3)
  else
  (ix a0.Cells v1).bind fun v2 =>
  (r01_Gen a1).bind fun v3 =>
  if ((v2.Gen != v3) || ((v2.State != 1) && (v2.State != 2))) then
    some ((-1), 3)
  else
  some (v1, 0)

def r06_with (a0 : r06_Store) (a1 : Int) (a2 : r06_Obj) : Option r06_Store :=
  (app 80 [] a0.Cells).bind fun v1 =>
  (ix v1 a1).bind fun v2 =>
  some (⟨(v1.set (a1).toNat (⟨v2.State, v2.Gen, a2⟩ : r06_Cell)), a0.Last, a0.Serial⟩ : r06_Store)

def r06_Set (a0 : r06_Store) (a1 : Int) (a2 : r06_Obj) : Option (r06_Store × Int) :=
  (r06_Plain a0).bind fun v1 =>
  (r03_Find v1 a1).bind fun v2 =>
  if (v2.2 != 0) then
    some (a0, v2.2)
  else
  (r06_with a0 v2.1 a2).bind fun v3 =>
  some (v3, 0)

def r02_Ints (a0 : List Int) (a1 : List Int) : Option Bool :=
  if ((a0.length : Int) != (a1.length : Int)) then
    some false
  else
  jn (fun (_ : Unit) =>
    some true) (fun κ6 =>
    (lp (S := Int) (E := Bool ⊕ Unit) (fun (s9 : Int) =>
      if (decide (s9 < (a0.length : Int))) then
        (ix a0 s9).bind fun v11 =>
        (ix a1 s9).bind fun v12 =>
        if (v11 != v12) then
          some (.inr (.inl false))
        else
        some (.inl (w64 (s9 + 1)))
      else
      some (.inr (.inr ()))) 0).bind fun e8 =>
    match e8 with
    | .inl w => some w
    | .inr w => κ6 w)

def r06_Alike (a0 : r06_Obj) (a1 : r06_Obj) : Option Bool :=
  (onlyIf ((((((a0.Serial == a1.Serial) && (a0.Strong == a1.Strong)) && (a0.Weak == a1.Weak)) && (a0.Prog == a1.Prog)) && (a0.Started == a1.Started)) == true) false (r02_Ints a0.Fields a1.Fields)).bind fun v1 =>
  some ((((((a0.Serial == a1.Serial) && (a0.Strong == a1.Strong)) && (a0.Weak == a1.Weak)) && (a0.Prog == a1.Prog)) && (a0.Started == a1.Started)) && v1)

def r06_Same (a0 : r06_Store) (a1 : r06_Store) : Option Bool :=
  if (((a0.Last != a1.Last) || (a0.Serial != a1.Serial)) || ((a0.Cells.length : Int) != (a1.Cells.length : Int))) then
    some false
  else
  jn (fun (_ : Unit) =>
    some true) (fun κ7 =>
    (lp (S := Int) (E := Bool ⊕ Unit) (fun (s10 : Int) =>
      if (decide (s10 < (a0.Cells.length : Int))) then
        (ix a0.Cells s10).bind fun v12 =>
        (ix a1.Cells s10).bind fun v13 =>
        (onlyIf (((v12.State != v13.State) || (v12.Gen != v13.Gen)) == false) false (r06_Alike v12.Val v13.Val)).bind fun v14 =>
        if (((v12.State != v13.State) || (v12.Gen != v13.Gen)) || (!v14)) then
          some (.inr (.inl false))
        else
        some (.inl (w64 (s10 + 1)))
      else
      some (.inr (.inr ()))) 0).bind fun e9 =>
    match e9 with
    | .inl w => some w
    | .inr w => κ7 w)

def w06_StoreSets (a0 : store_Store) (a1 : Int) (a2 : store_Obj) : Option Bool :=
  (w06_right a0).bind fun v1 =>
  (onlyIf (((!v1) || (decide ((a2.Fields.length : Int) > 10))) == false) false w06_shown).bind fun v2 =>
  if (((!v1) || (decide ((a2.Fields.length : Int) > 10))) || (!v2)) then
    (w06_shown).bind fun v3 =>
    some v3
  else
  (store_Set a0 a1 a2).bind fun v4 =>
  (w06_its a0).bind fun v5 =>
  (w06_obj a2).bind fun v6 =>
  (r06_Set v5 a1 v6).bind fun v7 =>
  (w06_its v4.1).bind fun v8 =>
  (r06_Same v8 v7.1).bind fun v9 =>
  if ((!v9) || (v4.2 != v7.2)) then
    some false
  else
  (r06_Right v7.1).bind fun v10 =>
  if (!v10) then
    some true
  else
  (store_Get v4.1 a1).bind fun v11 =>
  (store_Get a0 a1).bind fun v12 =>
  (onlyIf (((v11.2 == v12.2) == true) && ((v11.2 != 0) == false)) ⟨0, 0, 0, 0, false, []⟩ (w06_obj v11.1)).bind fun v13 =>
  (onlyIf (((v11.2 == v12.2) == true) && ((v11.2 != 0) == false)) false (r06_Alike v13 v6)).bind fun v14 =>
  some ((v11.2 == v12.2) && ((v11.2 != 0) || v14))

def r03_New (a0 : Int) (a1 : Int) : Option r03_Slab :=
  if ((((decide (a0 < 0)) || (decide (a0 > 24))) || (decide (a1 < 0))) || (decide (a1 > 9))) then
    some (⟨[], 0⟩ : r03_Slab)
  else
  (mk 24 a0 (⟨0, 0, 0⟩ : r03_Cell)).bind fun v1 =>
  some (⟨v1, a1⟩ : r03_Slab)

def r06_New (a0 : Int) (a1 : Int) : Option r06_Store :=
  (r03_New a0 a1).bind fun v1 =>
  (mk 80 (v1.Cells.length : Int) (⟨0, 0, ⟨0, 0, 0, 0, false, []⟩⟩ : r06_Cell)).bind fun v2 =>
  some (⟨v2, v1.Last, 0⟩ : r06_Store)

def w06_StoreRight (a0 : store_Store) (a1 : Int) (a2 : Int) : Option Bool :=
  (w06_small a0).bind fun v1 =>
  (onlyIf ((!v1) == false) false w06_shown).bind fun v2 =>
  if ((!v1) || (!v2)) then
    (w06_shown).bind fun v3 =>
    some v3
  else
  (store_New a1 a2).bind fun v4 =>
  (store_Right a0).bind fun v5 =>
  (w06_its a0).bind fun v6 =>
  (r06_Right v6).bind fun v7 =>
  (onlyIf (((v5 == v7) && (decide ((v4.S.Cells.length : Int) ≤ 24))) == true) ⟨[], 0, 0⟩ (w06_its v4)).bind fun v8 =>
  (onlyIf (((v5 == v7) && (decide ((v4.S.Cells.length : Int) ≤ 24))) == true) ⟨[], 0, 0⟩ (r06_New a1 a2)).bind fun v9 =>
  (onlyIf (((v5 == v7) && (decide ((v4.S.Cells.length : Int) ≤ 24))) == true) false (r06_Same v8 v9)).bind fun v10 =>
  (onlyIf ((((v5 == v7) && (decide ((v4.S.Cells.length : Int) ≤ 24))) && v10) == true) false (store_Right v4)).bind fun v11 =>
  some ((((v5 == v7) && (decide ((v4.S.Cells.length : Int) ≤ 24))) && v10) && v11)

def w06_StoreMakes (a0 : store_Store) (a1 : Int) (a2 : Int) : Option Bool :=
  (w06_right a0).bind fun v1 =>
  (onlyIf ((!v1) == false) false w06_shown).bind fun v2 =>
  if ((!v1) || (!v2)) then
    (w06_shown).bind fun v3 =>
    some v3
  else
  (store_Live a0).bind fun v4 =>
  (store_Make a0 a1 a2).bind fun v5 =>
  (store_Live v5.1).bind fun v6 =>
  if (v5.2.2 != 0) then
    (onlyIf ((v5.2.1 == 0) == true) ⟨[], 0, 0⟩ (w06_its v5.1)).bind fun v7 =>
    (onlyIf ((v5.2.1 == 0) == true) ⟨[], 0, 0⟩ (w06_its a0)).bind fun v8 =>
    (onlyIf ((v5.2.1 == 0) == true) false (r06_Same v7 v8)).bind fun v9 =>
    some ((v5.2.1 == 0) && v9)
  else
  (store_Get v5.1 v5.2.1).bind fun v10 =>
  (onlyIf (((v6.length : Int) == (w64 ((v4.length : Int) + 1))) == true) (0 : Int) (ix v6 (v4.length : Int))).bind fun v11 =>
  (onlyIf ((((v6.length : Int) == (w64 ((v4.length : Int) + 1))) && (v11 == v5.2.1)) == true) [] (cut v6 0 (v4.length : Int))).bind fun v12 =>
  (onlyIf ((((v6.length : Int) == (w64 ((v4.length : Int) + 1))) && (v11 == v5.2.1)) == true) false (r02_Ints v12 v4)).bind fun v13 =>
  some (((((((((v6.length : Int) == (w64 ((v4.length : Int) + 1))) && (v11 == v5.2.1)) && v13) && (v10.2 == 0)) && (v10.1.Serial == (w64 (a0.Serial + 1)))) && (v5.1.Serial == v10.1.Serial)) && ((v10.1.Fields.length : Int) == a1)) && (v10.1.Strong == 0))

def w06_StoreLive (a0 : store_Store) (a1 : Int) : Option Bool :=
  (w06_right a0).bind fun v1 =>
  (onlyIf ((!v1) == false) false w06_shown).bind fun v2 =>
  if ((!v1) || (!v2)) then
    (w06_shown).bind fun v3 =>
    some v3
  else
  (store_Live a0).bind fun v4 =>
  jn (fun (j14 : Bool) =>
    (store_Get a0 a1).bind fun v15 =>
    some (((v15.2 == 0) == j14) && (decide ((v4.length : Int) ≤ (a0.S.Cells.length : Int))))) (fun κ13 =>
    (lp (S := Int × Bool × Int) (E := Bool ⊕ Bool) (fun ((s17, s18, s19) : Int × Bool × Int) =>
      if ((decide (s19 < (v4.length : Int))) && (decide (s19 < 30))) then
        (ix v4 s19).bind fun v22 =>
        (store_Get a0 v22).bind fun v23 =>
        if ((v23.2 != 0) || (decide (v23.1.Serial ≤ s17))) then
          some (.inr (.inl false))
        else
        some (.inl (v23.1.Serial, (s18 || (v22 == a1)), w64 (s19 + 1)))
      else
      some (.inr (.inr s18))) (0, false, 0)).bind fun e16 =>
    match e16 with
    | .inl w => some w
    | .inr w => κ13 w)

end
end Go.Sh
