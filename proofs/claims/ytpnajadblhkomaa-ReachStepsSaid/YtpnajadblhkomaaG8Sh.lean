/-
  Plain functions: what the functions of the program come to.
-/
import Derived.Test.YtpnajadblhkomaaG8Sh0
import Derived.Test.YtpnajadblhkomaaG8PwD
namespace Go.Sh
set_option linter.unusedVariables false
set_option maxRecDepth 100000
noncomputable section
structure store_Obj where
  Serial : Int
  Strong : Int
  Weak : Int
  Prog : Int
  Started : Bool
  Fields : List Int
structure slab_Cell_store_Obj where
  State : Int
  Gen : Int
  Val : store_Obj
structure slab_Slab_store_Obj where
  Cells : List slab_Cell_store_Obj
  Last : Int
structure store_Store where
  S : slab_Slab_store_Obj
  Serial : Int
structure r06_Obj where
  Serial : Int
  Strong : Int
  Weak : Int
  Prog : Int
  Started : Bool
  Fields : List Int
structure r06_Cell where
  State : Int
  Gen : Int
  Val : r06_Obj
structure r06_Store where
  Cells : List r06_Cell
  Last : Int
  Serial : Int
structure r03_Cell where
  State : Int
  Gen : Int
  Val : Int
structure r03_Slab where
  Cells : List r03_Cell
  Last : Int
structure queue_Queue_int where
  L : List Int
  Cap : Int
def w08_small (a0 : store_Store) : Option Bool :=
  jn (fun (_ : Unit) =>
    some (decide ((a0.S.Cells.length : Int) ≤ 30))) (fun κ5 =>
    (lp (S := Int) (E := Bool ⊕ Unit) (fun (s8 : Int) =>
      if ((decide (s8 < (a0.S.Cells.length : Int))) && (decide (s8 < 30))) then
        (ix a0.S.Cells s8).bind fun v10 =>
        if (decide ((v10.Val.Fields.length : Int) > 10)) then
          some (.inr (.inl false))
        else
        some (.inl (w64 (s8 + 1)))
      else
      some (.inr (.inr ()))) 0).bind fun e7 =>
    match e7 with
    | .inl w => some w
    | .inr w => κ5 w)
def w08_obj (a0 : store_Obj) : Option r06_Obj :=
  some (⟨a0.Serial, a0.Strong, a0.Weak, a0.Prog, a0.Started, a0.Fields⟩ : r06_Obj)
def w08_its (a0 : store_Store) : Option r06_Store :=
  jn (fun (j10 : List r06_Cell) =>
    some (⟨j10, a0.S.Last, a0.Serial⟩ : r06_Store)) (fun κ9 =>
    (lp (S := Int × (List r06_Cell)) (E := (List r06_Cell)) (fun ((s12, s13) : Int × (List r06_Cell)) =>
      if (decide (s12 < (a0.S.Cells.length : Int))) then
        (ix a0.S.Cells s12).bind fun v16 =>
        (w08_obj v16.Val).bind fun v17 =>
        (app 80 s13 [(⟨v16.State, v16.Gen, v17⟩ : r06_Cell)]).bind fun v18 =>
        some (.inl (w64 (s12 + 1), v18))
      else
      some (.inr s13)) (0, [])).bind fun e11 =>
    κ9 e11)
def r06_Plain (a0 : r06_Store) : Option r03_Slab :=
  jn (fun (j9 : List r03_Cell) =>
    some (⟨j9, a0.Last⟩ : r03_Slab)) (fun κ8 =>
    (lp (S := Int × (List r03_Cell)) (E := (List r03_Cell)) (fun ((s11, s12) : Int × (List r03_Cell)) =>
      if (decide (s11 < (a0.Cells.length : Int))) then
        (ix a0.Cells s11).bind fun v15 =>
        (app 24 s12 [(⟨v15.State, v15.Gen, s11⟩ : r03_Cell)]).bind fun v16 =>
        some (.inl (w64 (s11 + 1), v16))
      else
      some (.inr s12)) (0, [])).bind fun e10 =>
    κ8 e10)
def r03_Right (a0 : r03_Slab) : Option Bool :=
  if (((decide ((a0.Cells.length : Int) > 24)) || (decide (a0.Last < 0))) || (decide (a0.Last > 9))) then
    some false
  else
  jn (fun (_ : Unit) =>
    some true) (fun κ5 =>
    (lp (S := Int) (E := Bool ⊕ Unit) (fun (s8 : Int) =>
      if (decide (s8 < (a0.Cells.length : Int))) then
        (ix a0.Cells s8).bind fun v10 =>
        if ((((decide (v10.State < 0)) || (decide (v10.State > 3))) || (decide (v10.Gen < 0))) || (decide (v10.Gen > a0.Last))) then
          some (.inr (.inl false))
        else
        some (.inl (w64 (s8 + 1)))
      else
      some (.inr (.inr ()))) 0).bind fun e7 =>
    match e7 with
    | .inl w => some w
    | .inr w => κ5 w)
def r06_there (a0 : r06_Cell) : Option Bool :=
  some ((a0.State == 1) || (a0.State == 2))
def r06_Right (a0 : r06_Store) : Option Bool :=
  (r06_Plain a0).bind fun v1 =>
  (r03_Right v1).bind fun v2 =>
  if ((!v2) || (decide (a0.Serial < 0))) then
    some false
  else
  jn (fun (_ : Unit) =>
    some true) (fun κ22 =>
    (lp (S := Int) (E := Bool ⊕ Unit) (fun (s25 : Int) =>
      if (decide (s25 < (a0.Cells.length : Int))) then
        jn (fun (_ : Unit) =>
          some (.inl (w64 (s25 + 1)))) (fun κ34 =>
          (ix a0.Cells s25).bind fun v36 =>
          (r06_there v36).bind fun v37 =>
          if (!v37) then
            if ((((((v36.Val.Serial != 0) || (v36.Val.Strong != 0)) || (v36.Val.Weak != 0)) || (v36.Val.Prog != 0)) || v36.Val.Started) || ((v36.Val.Fields.length : Int) != 0)) then
              some (.inr (.inl false))
            else
            κ34 ()
          else
          if (((((((decide (v36.Val.Serial < 1)) || (decide (v36.Val.Serial > a0.Serial))) || (decide (v36.Val.Strong < 0))) || (decide (v36.Val.Weak < 0))) || (decide (v36.Val.Prog < (-1)))) || (decide (v36.Val.Prog > 5))) || (decide ((v36.Val.Fields.length : Int) > 4))) then
            some (.inr (.inl false))
          else
          (lp (S := Int) (E := Bool ⊕ Unit) (fun (s39 : Int) =>
            if (decide (s39 < s25)) then
              (ix a0.Cells s39).bind fun v41 =>
              (r06_there v41).bind fun v42 =>
              if (v42 && (v41.Val.Serial == v36.Val.Serial)) then
                some (.inr (.inl false))
              else
              some (.inl (w64 (s39 + 1)))
            else
            some (.inr (.inr ()))) 0).bind fun e38 =>
          match e38 with
          | .inl w => some (.inr (.inl w))
          | .inr w => κ34 w)
      else
      some (.inr (.inr ()))) 0).bind fun e24 =>
    match e24 with
    | .inl w => some w
    | .inr w => κ22 w)
def w08_right (a0 : store_Store) : Option Bool :=
  (w08_small a0).bind fun v1 =>
  (onlyIf ((v1 && (decide (a0.Serial < 1000000000))) == true) ⟨[], 0, 0⟩ (w08_its a0)).bind fun v2 =>
  (onlyIf ((v1 && (decide (a0.Serial < 1000000000))) == true) false (r06_Right v2)).bind fun v3 =>
  some ((v1 && (decide (a0.Serial < 1000000000))) && v3)
def slab_New_store_Obj (a0 : Int) (a1 : Int) : Option slab_Slab_store_Obj :=
  if ((((decide (a0 < 0)) || (decide (a0 > 24))) || (decide (a1 < 0))) || (decide (a1 > 9))) then
    some (⟨[], 0⟩ : slab_Slab_store_Obj)
  else
  (mk 80 a0 (⟨0, 0, ⟨0, 0, 0, 0, false, []⟩⟩ : slab_Cell_store_Obj)).bind fun v1 =>
  some (⟨v1, a1⟩ : slab_Slab_store_Obj)
def store_New (a0 : Int) (a1 : Int) : Option store_Store :=
  (slab_New_store_Obj a0 a1).bind fun v1 =>
  some (⟨v1, 0⟩ : store_Store)
def vec_New (a0 : Int) : Option ((List Int) × Int) :=
  if ((decide (a0 < 0)) || (decide (a0 > 4))) then
    some ([], 1)
  else
  (mk 8 a0 (0 : Int)).bind fun v1 =>
  some (v1, 0)
def store_programFits (a0 : Int) : Option Bool :=
  some ((decide (a0 ≥ (-1))) && (decide (a0 < 6)))
def slab_free_store_Obj (a0 : slab_Slab_store_Obj) : Option slab_Slab_store_Obj :=
  some a0
def slices_Clone_slab_Cell_store_Obj_slab_Cell_store_Obj (a0 : List slab_Cell_store_Obj) : Option (List slab_Cell_store_Obj) :=
  app 80 [] a0
def slab_with_store_Obj (a0 : slab_Slab_store_Obj) (a1 : Int) (a2 : slab_Cell_store_Obj) : Option slab_Slab_store_Obj :=
  (slices_Clone_slab_Cell_store_Obj_slab_Cell_store_Obj a0.Cells).bind fun v1 =>
  (ix v1 a1).bind fun v2 =>
  some (⟨(v1.set (a1).toNat a2), a0.Last⟩ : slab_Slab_store_Obj)
def handle_Pack (a0 : Int) (a1 : Int) : Option Int :=
  if ((((decide (a0 < 0)) || (decide (a0 ≥ 24))) || (decide (a1 < 0))) || (decide (a1 > 9))) then
    some 0
  else
  some (w64 ((w64 (1 + (w64 (a0 * 1)))) + (w64 (a1 * 32))))
def slab_Take_store_Obj (a0 : slab_Slab_store_Obj) (a1 : store_Obj) : Option (slab_Slab_store_Obj × Int × Int) :=
  jn (fun (_ : Unit) =>
    some (a0, 0, 4)) (fun κ9 =>
    (slab_free_store_Obj a0).bind fun v11 =>
    (lp (S := Int) (E := (slab_Slab_store_Obj × Int × Int) ⊕ Unit) (fun (s13 : Int) =>
      if (decide (s13 < (v11.Cells.length : Int))) then
        (ix v11.Cells s13).bind fun v15 =>
        if ((v15.State == 0) == true) then
          (ix a0.Cells s13).bind fun v16 =>
          (slab_with_store_Obj a0 s13 (⟨1, v16.Gen, a1⟩ : slab_Cell_store_Obj)).bind fun v17 =>
          (handle_Pack s13 v16.Gen).bind fun v18 =>
          some (.inr (.inl (v17, v18, 0)))
        else
        some (.inl (w64 (s13 + 1)))
      else
      some (.inr (.inr ()))) 0).bind fun e12 =>
    match e12 with
    | .inl w => some w
    | .inr w => κ9 w)
def store_Make (a0 : store_Store) (a1 : Int) (a2 : Int) : Option (store_Store × Int × Int) :=
  (vec_New a1).bind fun v1 =>
  if (v1.2 != 0) then
    some (a0, 0, v1.2)
  else
  (store_programFits a2).bind fun v2 =>
  if (!v2) then
    some (a0, 0, 13)
  else
  (slab_Take_store_Obj a0.S (⟨w64 (a0.Serial + 1), 0, 0, a2, false, v1.1⟩ : store_Obj)).bind fun v3 =>
  if (v3.2.2 != 0) then
    some (a0, 0, v3.2.2)
  else
  some ((⟨v3.1, w64 (a0.Serial + 1)⟩ : store_Store), v3.2.1, 0)
def handle_parts (a0 : Int) : Option (Int × Int × Bool) :=
  if (decide (a0 < 1)) then
    some ((-1), (-1), false)
  else
  (rem (w64 (a0 - 1)) 32).bind fun v1 =>
  (quo .i64 v1 1).bind fun v2 =>
  (quo .i64 (w64 (a0 - 1)) 32).bind fun v3 =>
  if ((decide (v2 ≥ 24)) || (decide (v3 > 9))) then
    some ((-1), (-1), false)
  else
  some (v2, v3, true)
def handle_Slot (a0 : Int) : Option Int :=
  (handle_parts a0).bind fun v1 =>
  some v1.1
def handle_Gen (a0 : Int) : Option Int :=
  (handle_parts a0).bind fun v1 =>
  some v1.2.1
def slab_Find_store_Obj (a0 : slab_Slab_store_Obj) (a1 : Int) : Option (Int × Int) :=
  if (a1 == 0) then
    some ((-1), 2)
  else
  (handle_Slot a1).bind fun v1 =>
  if ((decide (v1 < 0)) || (decide (v1 ≥ (a0.Cells.length : Int)))) then
    some ((-1), 3)
  else
  (ix a0.Cells v1).bind fun v2 =>
  (handle_Gen a1).bind fun v3 =>
  if ((v2.Gen != v3) || ((v2.State != 1) && (v2.State != 2))) then
    some ((-1), 3)
  else
  some (v1, 0)
def slab_Get_store_Obj (a0 : slab_Slab_store_Obj) (a1 : Int) : Option (store_Obj × Int) :=
  (slab_Find_store_Obj a0 a1).bind fun v1 =>
  if (v1.2 != 0) then
    some ((⟨0, 0, 0, 0, false, []⟩ : store_Obj), v1.2)
  else
  (ix a0.Cells v1.1).bind fun v2 =>
  if (v2.State == 2) then
    some ((⟨0, 0, 0, 0, false, []⟩ : store_Obj), 3)
  else
  some (v2.Val, 0)
def store_Get (a0 : store_Store) (a1 : Int) : Option (store_Obj × Int) :=
  (slab_Get_store_Obj a0.S a1).bind fun v1 =>
  some (v1.1, v1.2)
def vec_has (a0 : List Int) (a1 : Int) : Option Bool :=
  some ((decide (a1 ≥ 0)) && (decide (a1 < (a0.length : Int))))
def vec_With (a0 : List Int) (a1 : Int) (a2 : Int) : Option ((List Int) × Int) :=
  (vec_has a0 a1).bind fun v1 =>
  if (!v1) then
    some (a0, 5)
  else
  (mk 8 (a0.length : Int) (0 : Int)).bind fun v2 =>
  (cpy v2 a0).bind fun v3 =>
  (ix v3 a1).bind fun v4 =>
  some ((v3.set (a1).toNat a2), 0)
def slab_Set_store_Obj (a0 : slab_Slab_store_Obj) (a1 : Int) (a2 : store_Obj) : Option (slab_Slab_store_Obj × Int) :=
  (slab_Find_store_Obj a0 a1).bind fun v1 =>
  if (v1.2 != 0) then
    some (a0, v1.2)
  else
  (ix a0.Cells v1.1).bind fun v2 =>
  (slab_with_store_Obj a0 v1.1 (⟨v2.State, v2.Gen, a2⟩ : slab_Cell_store_Obj)).bind fun v3 =>
  some (v3, 0)
def store_Set (a0 : store_Store) (a1 : Int) (a2 : store_Obj) : Option (store_Store × Int) :=
  (slab_Set_store_Obj a0.S a1 a2).bind fun v1 =>
  some ((⟨v1.1, a0.Serial⟩ : store_Store), v1.2)
def store_Put (a0 : store_Store) (a1 : Int) (a2 : Int) (a3 : Int) : Option (store_Store × Int) :=
  (store_Get a0 a1).bind fun v1 =>
  if (v1.2 != 0) then
    some (a0, v1.2)
  else
  (vec_With v1.1.Fields a2 a3).bind fun v2 =>
  if (v2.2 != 0) then
    some (a0, v2.2)
  else
  (store_Set a0 a1 (⟨v1.1.Serial, v1.1.Strong, v1.1.Weak, v1.1.Prog, v1.1.Started, v2.1⟩ : store_Obj)).bind fun v3 =>
  some (v3.1, v3.2)
def cmp_isNaN_int (a0 : Int) : Option Bool :=
  some (a0 != a0)
def cmp_Compare_int (a0 : Int) (a1 : Int) : Option Int :=
  (cmp_isNaN_int a0).bind fun v1 =>
  (cmp_isNaN_int a1).bind fun v2 =>
  if v1 then
    if v2 then
      some 0
    else
    some (-1)
  else
  if v2 then
    some 1
  else
  if (decide (a0 < a1)) then
    some (-1)
  else
  if (decide (a0 > a1)) then
    some 1
  else
  some 0
def store_Live_1 (a0 : Int) (a1 : Int) (a2 : List (Int × Int)) : Option Int :=
  (cmp_Compare_int ((mget a2 a0).getD (0 : Int)) ((mget a2 a1).getD (0 : Int))).bind fun v1 =>
  some v1
def store_Live (a0 : store_Store) : Option (List Int) :=
  jn (fun ((j18, j19) : (List (Int × Int)) × (List Int)) =>
    (sortBy (fun p q => store_Live_1 p q j18) j19).bind fun v21 =>
    some v21) (fun κ17 =>
    (lp (S := Int × (List (Int × Int)) × (List Int)) (E := ((List (Int × Int)) × (List Int))) (fun ((s23, s24, s25) : Int × (List (Int × Int)) × (List Int)) =>
      if (decide (s23 < (a0.S.Cells.length : Int))) then
        jn (fun ((j32, j33) : (List (Int × Int)) × (List Int)) =>
          some (.inl (w64 (s23 + 1), j32, j33))) (fun κ31 =>
          (ix a0.S.Cells s23).bind fun v35 =>
          if (v35.State == 1) then
            (handle_Pack s23 v35.Gen).bind fun v36 =>
            (app 8 s25 [v36]).bind fun v37 =>
            κ31 ((mput s24 v36 v35.Val.Serial), v37)
          else
          κ31 (s24, s25))
      else
      some (.inr (s24, s25))) (0, [], [])).bind fun e22 =>
    κ17 e22)
def queue_New_int (a0 : Int) : Option queue_Queue_int :=
  some (⟨[], a0⟩ : queue_Queue_int)
def reach_isLive (a0 : store_Store) (a1 : Int) : Option Bool :=
  (store_Get a0 a1).bind fun v1 =>
  some (v1.2 == 0)
def queue_Len_int (a0 : queue_Queue_int) : Option Int :=
  some (a0.L.length : Int)
def queue_part_int (a0 : List Int) (a1 : Int) (a2 : Int) : Option (List Int) :=
  (cut a0 a1 a2).bind fun v1 =>
  some v1
def queue_Push_int (a0 : queue_Queue_int) (a1 : Int) : Option (queue_Queue_int × Int) :=
  (queue_Len_int a0).bind fun v1 =>
  if (decide (v1 ≥ a0.Cap)) then
    some (a0, 4)
  else
  (queue_part_int a0.L 0 v1).bind fun v2 =>
  (app 8 v2 [a1]).bind fun v3 =>
  some ((⟨v3, a0.Cap⟩ : queue_Queue_int), 0)
def queue_Drain_int (a0 : queue_Queue_int) (a1 : Int) : Option (queue_Queue_int × (List Int)) :=
  (queue_Len_int a0).bind fun v1 =>
  (queue_part_int a0.L 0 (if (if v1 < a1 then v1 else a1) > 0 then (if v1 < a1 then v1 else a1) else 0)).bind fun v2 =>
  (queue_part_int a0.L (if (if v1 < a1 then v1 else a1) > 0 then (if v1 < a1 then v1 else a1) else 0) v1).bind fun v3 =>
  some ((⟨v3, a0.Cap⟩ : queue_Queue_int), v2)
def queue_Pop_int (a0 : queue_Queue_int) : Option (queue_Queue_int × Int × Int) :=
  (queue_Drain_int a0 1).bind fun v1 =>
  if ((v1.2.length : Int) == 0) then
    some (a0, 0, 10)
  else
  (ix v1.2 0).bind fun v2 =>
  some (v1.1, v2, 0)
def vec_named (a0 : List Int) : Option (List Int) :=
  some a0
def vec_Names (a0 : List Int) : Option (List Int) :=
  jn (fun (j10 : List Int) =>
    some j10) (fun κ9 =>
    (vec_named a0).bind fun v11 =>
    (lp (S := Int × (List Int)) (E := (List Int)) (fun ((s13, s14) : Int × (List Int)) =>
      if (decide (s13 < (v11.length : Int))) then
        (ix v11 s13).bind fun v17 =>
        if ((v17 != 0) == true) then
          (app 8 s14 [v17]).bind fun v18 =>
          some (.inl (w64 (s13 + 1), v18))
        else
        some (.inl (w64 (s13 + 1), s14))
      else
      some (.inr s14)) (0, [])).bind fun e12 =>
    κ9 e12)
def refs_Out (a0 : store_Store) (a1 : Int) : Option (List Int) :=
  (store_Get a0 a1).bind fun v1 =>
  (vec_Names v1.1.Fields).bind fun v2 =>
  some v2
def reach_spread (a0 : store_Store) (a1 : List Int) : Option (List (Int × Bool)) :=
  (store_Live a0).bind fun v1 =>
  (queue_New_int (v1.length : Int)).bind fun v2 =>
  jn (fun ((j20, j21) : queue_Queue_int × (List (Int × Bool))) =>
    jn (fun (j68 : List (Int × Bool)) =>
      some j68) (fun κ67 =>
      (lp (S := queue_Queue_int × (List (Int × Bool))) (E := (List (Int × Bool))) (fun ((s70, s71) : queue_Queue_int × (List (Int × Bool))) =>
        (queue_Len_int s70).bind fun v74 =>
        if (decide (v74 > 0)) then
          (queue_Pop_int s70).bind fun v75 =>
          (refs_Out a0 v75.2.1).bind fun v76 =>
          jn (fun ((j94, j95) : queue_Queue_int × (List (Int × Bool))) =>
            some (.inl (j94, j95))) (fun κ93 =>
            (lp (S := Int × queue_Queue_int × (List (Int × Bool))) (E := (queue_Queue_int × (List (Int × Bool)))) (fun ((s98, s99, s100) : Int × queue_Queue_int × (List (Int × Bool))) =>
              if (decide (s98 < (v76.length : Int))) then
                jn (fun ((j107, j108) : queue_Queue_int × (List (Int × Bool))) =>
                  some (.inl (w64 (s98 + 1), j107, j108))) (fun κ106 =>
                  (ix v76 s98).bind fun v110 =>
                  (reach_isLive a0 v110).bind fun v111 =>
                  if (v111 == true) then
                    if (!((mget s100 v110).getD (false : Bool))) then
                      (queue_Push_int s99 v110).bind fun v112 =>
                      κ106 (v112.1, (mput s100 v110 true))
                    else
                    κ106 (s99, s100)
                  else
                  κ106 (s99, s100))
              else
              some (.inr (s99, s100))) (0, v75.1, s71)).bind fun e97 =>
            κ93 e97)
        else
        some (.inr s71)) (j20, j21)).bind fun e69 =>
      κ67 e69)) (fun κ19 =>
    (lp (S := Int × queue_Queue_int × (List (Int × Bool))) (E := (queue_Queue_int × (List (Int × Bool)))) (fun ((s114, s115, s116) : Int × queue_Queue_int × (List (Int × Bool))) =>
      if (decide (s114 < (a1.length : Int))) then
        jn (fun ((j123, j124) : queue_Queue_int × (List (Int × Bool))) =>
          some (.inl (w64 (s114 + 1), j123, j124))) (fun κ122 =>
          (ix a1 s114).bind fun v126 =>
          (reach_isLive a0 v126).bind fun v127 =>
          if (v127 == true) then
            if (!((mget s116 v126).getD (false : Bool))) then
              (queue_Push_int s115 v126).bind fun v128 =>
              κ122 (v128.1, (mput s116 v126 true))
            else
            κ122 (s115, s116)
          else
          κ122 (s115, s116))
      else
      some (.inr (s115, s116))) (0, v2, [])).bind fun e113 =>
    κ19 e113)
def reach_From_1 (a0 : Int) (a1 : List (Int × Bool)) : Option Bool :=
  some ((mget a1 a0).getD (false : Bool))
def reach_live__reach_From_1 (a0 : store_Store) (a1 : List (Int × Bool)) : Option (List Int) :=
  jn (fun (j16 : List Int) =>
    some j16) (fun κ15 =>
    (store_Live a0).bind fun v17 =>
    (lp (S := Int × (List Int)) (E := (List Int)) (fun ((s19, s20) : Int × (List Int)) =>
      if (decide (s19 < (v17.length : Int))) then
        jn (fun (j27 : List Int) =>
          some (.inl (w64 (s19 + 1), j27))) (fun κ26 =>
          (ix v17 s19).bind fun v28 =>
          (reach_From_1 v28 a1).bind fun v29 =>
          if v29 then
            (app 8 s20 [v28]).bind fun v30 =>
            κ26 v30
          else
          κ26 s20)
      else
      some (.inr s20)) (0, [])).bind fun e18 =>
    κ15 e18)
def reach_From (a0 : store_Store) (a1 : List Int) : Option (List Int) :=
  (reach_spread a0 a1).bind fun v1 =>
  (reach_live__reach_From_1 a0 v1).bind fun v2 =>
  some v2
def reach_Lost_1 (a0 : Int) (a1 : List (Int × Bool)) : Option Bool :=
  some (!((mget a1 a0).getD (false : Bool)))
def reach_live__reach_Lost_1 (a0 : store_Store) (a1 : List (Int × Bool)) : Option (List Int) :=
  jn (fun (j16 : List Int) =>
    some j16) (fun κ15 =>
    (store_Live a0).bind fun v17 =>
    (lp (S := Int × (List Int)) (E := (List Int)) (fun ((s19, s20) : Int × (List Int)) =>
      if (decide (s19 < (v17.length : Int))) then
        jn (fun (j27 : List Int) =>
          some (.inl (w64 (s19 + 1), j27))) (fun κ26 =>
          (ix v17 s19).bind fun v28 =>
          (reach_Lost_1 v28 a1).bind fun v29 =>
          if v29 then
            (app 8 s20 [v28]).bind fun v30 =>
            κ26 v30
          else
          κ26 s20)
      else
      some (.inr s20)) (0, [])).bind fun e18 =>
    κ15 e18)
def reach_Lost (a0 : store_Store) (a1 : List Int) : Option (List Int) :=
  (reach_spread a0 a1).bind fun v1 =>
  (reach_live__reach_Lost_1 a0 v1).bind fun v2 =>
  some v2
def slices_Index_int_int (a0 : List Int) (a1 : Int) : Option Int :=
  jn (fun (_ : Unit) =>
    some (-1)) (fun κ5 =>
    (lp (S := Int) (E := Int ⊕ Unit) (fun (s8 : Int) =>
      if (decide (s8 < (a0.length : Int))) then
        (ix a0 s8).bind fun v10 =>
        if (a1 == v10) then
          some (.inr (.inl s8))
        else
        some (.inl (w64 (s8 + 1)))
      else
      some (.inr (.inr ()))) 0).bind fun e7 =>
    match e7 with
    | .inl w => some w
    | .inr w => κ5 w)
def slices_Contains_int_int (a0 : List Int) (a1 : Int) : Option Bool :=
  (slices_Index_int_int a0 a1).bind fun v1 =>
  some (decide (v1 ≥ 0))
def reach_Is (a0 : store_Store) (a1 : Int) (a2 : Int) : Option Bool :=
  (reach_From a0 [a1]).bind fun v1 =>
  (slices_Contains_int_int v1 a2).bind fun v2 =>
  some v2
def reach_Closed (a0 : store_Store) (a1 : List Int) : Option Bool :=
  jn (fun (j8 : List (Int × Bool)) =>
    jn (fun (_ : Unit) =>
      some true) (fun κ28 =>
      (lp (S := Int) (E := Bool ⊕ Unit) (fun (s31 : Int) =>
        if (decide (s31 < (a1.length : Int))) then
          jn (fun (_ : Unit) =>
            some (.inl (w64 (s31 + 1)))) (fun κ40 =>
            (ix a1 s31).bind fun v42 =>
            (refs_Out a0 v42).bind fun v43 =>
            (lp (S := Int) (E := Bool ⊕ Unit) (fun (s45 : Int) =>
              if (decide (s45 < (v43.length : Int))) then
                (ix v43 s45).bind fun v47 =>
                (reach_isLive a0 v47).bind fun v48 =>
                if (v48 == true) then
                  if (!((mget j8 v47).getD (false : Bool))) then
                    some (.inr (.inl false))
                  else
                  some (.inl (w64 (s45 + 1)))
                else
                some (.inl (w64 (s45 + 1)))
              else
              some (.inr (.inr ()))) 0).bind fun e44 =>
            match e44 with
            | .inl w => some (.inr (.inl w))
            | .inr w => κ40 w)
        else
        some (.inr (.inr ()))) 0).bind fun e30 =>
      match e30 with
      | .inl w => some w
      | .inr w => κ28 w)) (fun κ7 =>
    (lp (S := Int × (List (Int × Bool))) (E := (List (Int × Bool))) (fun ((s50, s51) : Int × (List (Int × Bool))) =>
      if (decide (s50 < (a1.length : Int))) then
        (ix a1 s50).bind fun v54 =>
        some (.inl (w64 (s50 + 1), (mput s51 v54 true)))
      else
      some (.inr s51)) (0, [])).bind fun e49 =>
    κ7 e49)
def w08_shown : Option Bool :=
  (store_New 4 3).bind fun v1 =>
  (store_Make v1 1 (-1)).bind fun v2 =>
  (store_Make v2.1 1 (-1)).bind fun v3 =>
  (store_Make v3.1 0 (-1)).bind fun v4 =>
  (store_Put v4.1 v2.2.1 0 v3.2.1).bind fun v5 =>
  (store_Put v5.1 v3.2.1 0 v2.2.1).bind fun v6 =>
  (reach_From v6.1 [v3.2.1, 99]).bind fun v7 =>
  (reach_Lost v6.1 [v3.2.1]).bind fun v8 =>
  (onlyIf (((v7.length : Int) == 2) == true) (0 : Int) (ix v7 0)).bind fun v9 =>
  (onlyIf ((((v7.length : Int) == 2) && (v9 == v2.2.1)) == true) (0 : Int) (ix v7 1)).bind fun v10 =>
  (onlyIf ((((((v7.length : Int) == 2) && (v9 == v2.2.1)) && (v10 == v3.2.1)) && ((v8.length : Int) == 1)) == true) (0 : Int) (ix v8 0)).bind fun v11 =>
  (onlyIf (((((((v7.length : Int) == 2) && (v9 == v2.2.1)) && (v10 == v3.2.1)) && ((v8.length : Int) == 1)) && (v11 == v4.2.1)) == true) false (reach_Is v6.1 v2.2.1 v3.2.1)).bind fun v12 =>
  (onlyIf ((((((((v7.length : Int) == 2) && (v9 == v2.2.1)) && (v10 == v3.2.1)) && ((v8.length : Int) == 1)) && (v11 == v4.2.1)) && v12) == true) false (reach_Is v6.1 v2.2.1 v4.2.1)).bind fun v13 =>
  (onlyIf (((((((((v7.length : Int) == 2) && (v9 == v2.2.1)) && (v10 == v3.2.1)) && ((v8.length : Int) == 1)) && (v11 == v4.2.1)) && v12) && (!v13)) == true) false (reach_Closed v6.1 v7)).bind fun v14 =>
  (onlyIf ((((((((((v7.length : Int) == 2) && (v9 == v2.2.1)) && (v10 == v3.2.1)) && ((v8.length : Int) == 1)) && (v11 == v4.2.1)) && v12) && (!v13)) && v14) == true) false (reach_Closed v6.1 [v2.2.1])).bind fun v15 =>
  (onlyIf (((((((((((v7.length : Int) == 2) && (v9 == v2.2.1)) && (v10 == v3.2.1)) && ((v8.length : Int) == 1)) && (v11 == v4.2.1)) && v12) && (!v13)) && v14) && (!v15)) == true) false (reach_Closed v6.1 [])).bind fun v16 =>
  some (((((((((((v7.length : Int) == 2) && (v9 == v2.2.1)) && (v10 == v3.2.1)) && ((v8.length : Int) == 1)) && (v11 == v4.2.1)) && v12) && (!v13)) && v14) && (!v15)) && v16)
def r01_Pack (a0 : Int) (a1 : Int) : Option Int :=
  if ((((decide (a0 < 0)) || (decide (a0 > 23))) || (decide (a1 < 0))) || (decide (a1 > 9))) then
    some 0
  else
  some (w64 ((w64 (1 + a0)) + (w64 (32 * a1))))
def r01_Valid (a0 : Int) : Option Bool :=
  if ((decide (a0 < 1)) || (decide (a0 > 400))) then
    some false
  else
  (rem (w64 (a0 - 1)) 32).bind fun v1 =>
  (quo .i64 (w64 (a0 - 1)) 32).bind fun v2 =>
  (r01_Pack v1 v2).bind fun v3 =>
  some (v3 == a0)
def r01_Slot (a0 : Int) : Option Int :=
  (r01_Valid a0).bind fun v1 =>
  if (!v1) then
    some (-1)
  else
  (rem (w64 (a0 - 1)) 32).bind fun v2 =>
  some v2
def r01_Gen (a0 : Int) : Option Int :=
  (r01_Valid a0).bind fun v1 =>
  if (!v1) then
    some (-1)
  else
  (quo .i64 (w64 (a0 - 1)) 32).bind fun v2 =>
  some v2
def r03_Find (a0 : r03_Slab) (a1 : Int) : Option (Int × Int) :=
  if (a1 == 0) then
    some ((-1), 2)
  else
  (r01_Slot a1).bind fun v1 =>
  if ((decide (v1 < 0)) || (decide (v1 ≥ (a0.Cells.length : Int)))) then
    some ((-1), 3)
  else
  (ix a0.Cells v1).bind fun v2 =>
  (r01_Gen a1).bind fun v3 =>
  if ((v2.Gen != v3) || ((v2.State != 1) && (v2.State != 2))) then
    some ((-1), 3)
  else
  some (v1, 0)
def r06_Sorted (a0 : r06_Store) (a1 : List Int) : Option (List Int) :=
  (app 8 [] a1).bind fun v1 =>
  jn (fun (j36 : List Int) =>
    some j36) (fun κ35 =>
    (lp (S := Int × (List Int)) (E := (List Int)) (fun ((s38, s39) : Int × (List Int)) =>
      if (decide (s38 < (s39.length : Int))) then
        jn (fun (j56 : List Int) =>
          some (.inl (w64 (s38 + 1), j56))) (fun κ55 =>
          (lp (S := Int × (List Int)) (E := (List Int)) (fun ((s58, s59) : Int × (List Int)) =>
            if (decide (s58 > 0)) then
              (r06_Plain a0).bind fun v62 =>
              (ix s59 (w64 (s58 - 1))).bind fun v63 =>
              (r03_Find v62 v63).bind fun v64 =>
              (ix s59 s58).bind fun v65 =>
              (r03_Find v62 v65).bind fun v66 =>
              (onlyIf (((decide (v64.1 < 0)) || (decide (v66.1 < 0))) == false) (⟨0, 0, ⟨0, 0, 0, 0, false, []⟩⟩ : r06_Cell) (ix a0.Cells v64.1)).bind fun v67 =>
              (onlyIf (((decide (v64.1 < 0)) || (decide (v66.1 < 0))) == false) (⟨0, 0, ⟨0, 0, 0, 0, false, []⟩⟩ : r06_Cell) (ix a0.Cells v66.1)).bind fun v68 =>
              if (((decide (v64.1 < 0)) || (decide (v66.1 < 0))) || (decide (v67.Val.Serial ≤ v68.Val.Serial))) then
                some (.inr s59)
              else
              (ix (s59.set (s58).toNat v63) (w64 (s58 - 1))).bind fun v69 =>
              some (.inl (w64 (s58 - 1), ((s59.set (s58).toNat v63).set (w64 (s58 - 1)).toNat v65)))
            else
            some (.inr s59)) (s38, s39)).bind fun e57 =>
          κ55 e57)
      else
      some (.inr s39)) (1, v1)).bind fun e37 =>
    κ35 e37)
def r06_Live (a0 : r06_Store) : Option (List Int) :=
  jn (fun (j15 : List Int) =>
    (r06_Sorted a0 j15).bind fun v16 =>
    some v16) (fun κ14 =>
    (lp (S := Int × (List Int)) (E := (List Int)) (fun ((s18, s19) : Int × (List Int)) =>
      if (decide (s18 < (a0.Cells.length : Int))) then
        jn (fun (j26 : List Int) =>
          some (.inl (w64 (s18 + 1), j26))) (fun κ25 =>
          (ix a0.Cells s18).bind fun v27 =>
          if (v27.State == 1) then
            (r01_Pack s18 v27.Gen).bind fun v28 =>
            (app 8 s19 [v28]).bind fun v29 =>
            κ25 v29
          else
          κ25 s19)
      else
      some (.inr s19)) (0, [])).bind fun e17 =>
    κ14 e17)
def r07_Times (a0 : List Int) (a1 : Int) : Option Int :=
  jn (fun (j11 : Int) =>
    some j11) (fun κ10 =>
    (lp (S := Int × Int) (E := Int) (fun ((s13, s14) : Int × Int) =>
      if (decide (s14 < (a0.length : Int))) then
        jn (fun (j19 : Int) =>
          some (.inl (j19, w64 (s14 + 1)))) (fun κ18 =>
          (ix a0 s14).bind fun v20 =>
          if ((v20 == a1) && (a1 != 0)) then
            κ18 (w64 (s13 + 1))
          else
          κ18 s13)
      else
      some (.inr s13)) (0, 0)).bind fun e12 =>
    κ10 e12)
def r08_Has (a0 : List Int) (a1 : Int) : Option Bool :=
  (r07_Times a0 a1).bind fun v1 =>
  some (decide (v1 > 0))
def r08_those (a0 : List Int) (a1 : List Int) (a2 : Bool) : Option (List Int) :=
  jn (fun (j15 : List Int) =>
    some j15) (fun κ14 =>
    (lp (S := Int × (List Int)) (E := (List Int)) (fun ((s17, s18) : Int × (List Int)) =>
      if (decide (s17 < (a0.length : Int))) then
        jn (fun (j25 : List Int) =>
          some (.inl (w64 (s17 + 1), j25))) (fun κ24 =>
          (ix a0 s17).bind fun v26 =>
          (r08_Has a1 v26).bind fun v27 =>
          if (v27 == a2) then
            (app 8 s18 [v26]).bind fun v28 =>
            κ24 v28
          else
          κ24 s18)
      else
      some (.inr s18)) (0, [])).bind fun e16 =>
    κ14 e16)
def r03_Get (a0 : r03_Slab) (a1 : Int) : Option (Int × Int) :=
  (r03_Find a0 a1).bind fun v1 =>
  if (v1.2 != 0) then
    some (0, v1.2)
  else
  (ix a0.Cells v1.1).bind fun v2 =>
  if (v2.State == 2) then
    some (0, 3)
  else
  some (v2.Val, 0)
def r06_Get (a0 : r06_Store) (a1 : Int) : Option (r06_Obj × Int) :=
  (r06_Plain a0).bind fun v1 =>
  (r03_Get v1 a1).bind fun v2 =>
  if (v2.2 != 0) then
    some ((⟨0, 0, 0, 0, false, []⟩ : r06_Obj), v2.2)
  else
  (ix a0.Cells v2.1).bind fun v3 =>
  some (v3.Val, 0)
def r05_Names (a0 : List Int) : Option (List Int) :=
  jn (fun (j13 : List Int) =>
    some j13) (fun κ12 =>
    (lp (S := Int × (List Int)) (E := (List Int)) (fun ((s15, s16) : Int × (List Int)) =>
      if (decide (s15 < (a0.length : Int))) then
        jn (fun (j22 : List Int) =>
          some (.inl (w64 (s15 + 1), j22))) (fun κ21 =>
          (ix a0 s15).bind fun v23 =>
          if (v23 != 0) then
            (app 8 s16 [v23]).bind fun v24 =>
            κ21 v24
          else
          κ21 s16)
      else
      some (.inr s16)) (0, [])).bind fun e14 =>
    κ12 e14)
def r07_Out (a0 : r06_Store) (a1 : Int) : Option (List Int) :=
  (r06_Get a0 a1).bind fun v1 =>
  if (v1.2 != 0) then
    some []
  else
  (r05_Names v1.1.Fields).bind fun v2 =>
  some v2
def r08_From (a0 : r06_Store) (a1 : List Int) : Option (List Int) :=
  (r06_Live a0).bind fun v1 =>
  (r08_those v1 a1 true).bind fun v2 =>
  jn (fun (j51 : List Int) =>
    some j51) (fun κ50 =>
    (lp (S := (List Int) × Int) (E := (List Int)) (fun ((s53, s54) : (List Int) × Int) =>
      if (decide (s54 < (v1.length : Int))) then
        jn (fun (j78 : List Int) =>
          some (.inl (j78, w64 (s54 + 1)))) (fun κ77 =>
          (app 8 [] s53).bind fun v79 =>
          jn (fun (j89 : List Int) =>
            (r08_those v1 j89 true).bind fun v90 =>
            κ77 v90) (fun κ88 =>
            (lp (S := Int × (List Int)) (E := (List Int)) (fun ((s92, s93) : Int × (List Int)) =>
              if (decide (s92 < (s53.length : Int))) then
                (ix s53 s92).bind fun v96 =>
                (r07_Out a0 v96).bind fun v97 =>
                (app 8 s93 v97).bind fun v98 =>
                some (.inl (w64 (s92 + 1), v98))
              else
              some (.inr s93)) (0, v79)).bind fun e91 =>
            κ88 e91))
      else
      some (.inr s53)) (v2, 0)).bind fun e52 =>
    κ50 e52)
def r02_Ints (a0 : List Int) (a1 : List Int) : Option Bool :=
  if ((a0.length : Int) != (a1.length : Int)) then
    some false
  else
  jn (fun (_ : Unit) =>
    some true) (fun κ6 =>
    (lp (S := Int) (E := Bool ⊕ Unit) (fun (s9 : Int) =>
      if (decide (s9 < (a0.length : Int))) then
        (ix a0 s9).bind fun v11 =>
        (ix a1 s9).bind fun v12 =>
        if (v11 != v12) then
          some (.inr (.inl false))
        else
        some (.inl (w64 (s9 + 1)))
      else
      some (.inr (.inr ()))) 0).bind fun e8 =>
    match e8 with
    | .inl w => some w
    | .inr w => κ6 w)
def r08_Lost (a0 : r06_Store) (a1 : List Int) : Option (List Int) :=
  (r06_Live a0).bind fun v1 =>
  (r08_From a0 a1).bind fun v2 =>
  (r08_those v1 v2 false).bind fun v3 =>
  some v3
def r08_Is (a0 : r06_Store) (a1 : Int) (a2 : Int) : Option Bool :=
  (r08_From a0 [a1]).bind fun v1 =>
  (r08_Has v1 a2).bind fun v2 =>
  some v2
def r08_Closed (a0 : r06_Store) (a1 : List Int) : Option Bool :=
  (r06_Live a0).bind fun v1 =>
  (r08_those v1 a1 true).bind fun v2 =>
  jn (fun (_ : Unit) =>
    some true) (fun κ24 =>
    (lp (S := Int) (E := Bool ⊕ Unit) (fun (s27 : Int) =>
      if (decide (s27 < (v2.length : Int))) then
        jn (fun (_ : Unit) =>
          some (.inl (w64 (s27 + 1)))) (fun κ37 =>
          (ix v2 s27).bind fun v39 =>
          (r07_Out a0 v39).bind fun v40 =>
          (r08_those v1 v40 true).bind fun v41 =>
          (lp (S := Int) (E := Bool ⊕ Unit) (fun (s43 : Int) =>
            if (decide (s43 < (v41.length : Int))) then
              (ix v41 s43).bind fun v45 =>
              (r08_Has a1 v45).bind fun v46 =>
              if (!v46) then
                some (.inr (.inl false))
              else
              some (.inl (w64 (s43 + 1)))
            else
            some (.inr (.inr ()))) 0).bind fun e42 =>
          match e42 with
          | .inl w => some (.inr (.inl w))
          | .inr w => κ37 w)
      else
      some (.inr (.inr ()))) 0).bind fun e26 =>
    match e26 with
    | .inl w => some w
    | .inr w => κ24 w)
def w08_ReachTells (a0 : store_Store) (a1 : List Int) (a2 : Int) (a3 : Int) : Option Bool :=
  (w08_right a0).bind fun v1 =>
  (onlyIf (((!v1) || (decide ((a1.length : Int) > 50))) == false) false w08_shown).bind fun v2 =>
  if (((!v1) || (decide ((a1.length : Int) > 50))) || (!v2)) then
    (w08_shown).bind fun v3 =>
    some v3
  else
  (w08_its a0).bind fun v4 =>
  (reach_From a0 a1).bind fun v5 =>
  (r08_From v4 a1).bind fun v6 =>
  (r02_Ints v5 v6).bind fun v7 =>
  (onlyIf (v7 == true) [] (reach_Lost a0 a1)).bind fun v8 =>
  (onlyIf (v7 == true) [] (r08_Lost v4 a1)).bind fun v9 =>
  (onlyIf (v7 == true) false (r02_Ints v8 v9)).bind fun v10 =>
  (onlyIf ((v7 && v10) == true) false (reach_Is a0 a2 a3)).bind fun v11 =>
  (onlyIf ((v7 && v10) == true) false (r08_Is v4 a2 a3)).bind fun v12 =>
  (onlyIf (((v7 && v10) && (v11 == v12)) == true) false (reach_Closed a0 a1)).bind fun v13 =>
  (onlyIf (((v7 && v10) && (v11 == v12)) == true) false (r08_Closed v4 a1)).bind fun v14 =>
  some (((v7 && v10) && (v11 == v12)) && (v13 == v14))
def w08_ReachLeast (a0 : store_Store) (a1 : List Int) (a2 : List Int) : Option Bool :=
  (w08_right a0).bind fun v1 =>
  (onlyIf ((((!v1) || (decide ((a1.length : Int) > 50))) || (decide ((a2.length : Int) > 50))) == false) false w08_shown).bind fun v2 =>
  if ((((!v1) || (decide ((a1.length : Int) > 50))) || (decide ((a2.length : Int) > 50))) || (!v2)) then
    (w08_shown).bind fun v3 =>
    some v3
  else
  (reach_From a0 a1).bind fun v4 =>
  (w08_its a0).bind fun v5 =>
  (r08_Closed v5 v4).bind fun v6 =>
  if ((!v6) || (decide ((v4.length : Int) > 24))) then
    some false
  else
  (r06_Live v5).bind fun v7 =>
  (r08_Closed v5 a2).bind fun v8 =>
  jn (fun (j25 : Bool) =>
    jn (fun (_ : Unit) =>
      some true) (fun κ31 =>
      (lp (S := Int) (E := Bool ⊕ Unit) (fun (s34 : Int) =>
        if (decide (s34 < (v4.length : Int))) then
          (onlyIf (j25 == true) (0 : Int) (ix v4 s34)).bind fun v36 =>
          (onlyIf (j25 == true) 0 (r07_Times a2 v36)).bind fun v37 =>
          if (j25 && (v37 == 0)) then
            some (.inr (.inl false))
          else
          some (.inl (w64 (s34 + 1)))
        else
        some (.inr (.inr ()))) 0).bind fun e33 =>
      match e33 with
      | .inl w => some w
      | .inr w => κ31 w)) (fun κ24 =>
    (lp (S := Bool × Int) (E := Bool ⊕ Bool) (fun ((s39, s40) : Bool × Int) =>
      if (decide (s40 < (v7.length : Int))) then
        jn (fun (j48 : Bool) =>
          some (.inl (j48, w64 (s40 + 1)))) (fun κ47 =>
          (ix v7 s40).bind fun v49 =>
          (r07_Times a1 v49).bind fun v50 =>
          if (decide (v50 > 0)) then
            (r07_Times v4 v49).bind fun v51 =>
            if (v51 != 1) then
              some (.inr (.inl false))
            else
            (onlyIf (s39 == true) 0 (r07_Times a2 v49)).bind fun v52 =>
            κ47 (s39 && (decide (v52 > 0)))
          else
          κ47 s39)
      else
      some (.inr (.inr s39))) (v8, 0)).bind fun e38 =>
    match e38 with
    | .inl w => some w
    | .inr w => κ24 w)
def w08_ReachParts (a0 : store_Store) (a1 : List Int) : Option Bool :=
  (w08_right a0).bind fun v1 =>
  (onlyIf (((!v1) || (decide ((a1.length : Int) > 50))) == false) false w08_shown).bind fun v2 =>
  if (((!v1) || (decide ((a1.length : Int) > 50))) || (!v2)) then
    (w08_shown).bind fun v3 =>
    some v3
  else
  (reach_From a0 a1).bind fun v4 =>
  (reach_Lost a0 a1).bind fun v5 =>
  (w08_its a0).bind fun v6 =>
  (r06_Live v6).bind fun v7 =>
  if ((w64 ((v4.length : Int) + (v5.length : Int))) != (v7.length : Int)) then
    some false
  else
  jn (fun (_ : Unit) =>
    (reach_From a0 v4).bind fun v16 =>
    (r02_Ints v16 v4).bind fun v17 =>
    (onlyIf (v17 == true) [] (reach_Lost a0 v4)).bind fun v18 =>
    (onlyIf (v17 == true) false (r02_Ints v18 v5)).bind fun v19 =>
    some (v17 && v19)) (fun κ14 =>
    (lp (S := Int) (E := Bool ⊕ Unit) (fun (s21 : Int) =>
      if (decide (s21 < (v7.length : Int))) then
        (ix v7 s21).bind fun v23 =>
        (r07_Times v4 v23).bind fun v24 =>
        (r07_Times v5 v23).bind fun v25 =>
        if ((w64 (v24 + v25)) != 1) then
          some (.inr (.inl false))
        else
        some (.inl (w64 (s21 + 1)))
      else
      some (.inr (.inr ()))) 0).bind fun e20 =>
    match e20 with
    | .inl w => some w
    | .inr w => κ14 w)
def w08_ReachMore (a0 : store_Store) (a1 : List Int) (a2 : List Int) : Option Bool :=
  (w08_right a0).bind fun v1 =>
  (onlyIf ((((!v1) || (decide ((a1.length : Int) > 50))) || (decide ((a2.length : Int) > 50))) == false) false w08_shown).bind fun v2 =>
  if ((((!v1) || (decide ((a1.length : Int) > 50))) || (decide ((a2.length : Int) > 50))) || (!v2)) then
    (w08_shown).bind fun v3 =>
    some v3
  else
  (reach_From a0 a1).bind fun v4 =>
  (reach_From a0 a2).bind fun v5 =>
  (app 8 [] a1).bind fun v6 =>
  (app 8 v6 a2).bind fun v7 =>
  (reach_From a0 v7).bind fun v8 =>
  (w08_its a0).bind fun v9 =>
  (r06_Live v9).bind fun v10 =>
  jn (fun (_ : Unit) =>
    some (decide ((v8.length : Int) ≤ (w64 ((v4.length : Int) + (v5.length : Int)))))) (fun κ18 =>
    (lp (S := Int) (E := Bool ⊕ Unit) (fun (s21 : Int) =>
      if (decide (s21 < (v10.length : Int))) then
        (ix v10 s21).bind fun v23 =>
        (r07_Times v4 v23).bind fun v24 =>
        (onlyIf ((decide (v24 > 0)) == false) 0 (r07_Times v5 v23)).bind fun v25 =>
        (r07_Times v8 v23).bind fun v26 =>
        if (((decide (v24 > 0)) || (decide (v25 > 0))) != (decide (v26 > 0))) then
          some (.inr (.inl false))
        else
        some (.inl (w64 (s21 + 1)))
      else
      some (.inr (.inr ()))) 0).bind fun e20 =>
    match e20 with
    | .inl w => some w
    | .inr w => κ18 w)
def w08_ReachSteps (a0 : store_Store) (a1 : Int) (a2 : Int) (a3 : Int) : Option Bool :=
  (w08_right a0).bind fun v1 =>
  (onlyIf ((!v1) == false) false w08_shown).bind fun v2 =>
  if ((!v1) || (!v2)) then
    (w08_shown).bind fun v3 =>
    some v3
  else
  (w08_its a0).bind fun v4 =>
  (r06_Live v4).bind fun v5 =>
  (r07_Times v5 a1).bind fun v6 =>
  (reach_Is a0 a1 a2).bind fun v7 =>
  (onlyIf ((!v7) == false) false (reach_Is a0 a2 a3)).bind fun v8 =>
  (onlyIf (((!v7) || (!v8)) == false) false (reach_Is a0 a1 a3)).bind fun v9 =>
  (onlyIf ((((!v7) || (!v8)) || v9) == true) false (reach_Is a0 a1 a1)).bind fun v10 =>
  some ((((!v7) || (!v8)) || v9) && (v10 == (decide (v6 > 0))))
end
end Go.Sh
