/-
  Plain functions: what the functions of the program come to.
-/
import Derived.Test.YtpnajadblhkomaaSh0
import Derived.Test.YtpnajadblhkomaaPwD
namespace Go.Sh
set_option linter.unusedVariables false
set_option maxRecDepth 100000
noncomputable section
structure store_Obj where
  Serial : Int
  Strong : Int
  Weak : Int
  Prog : Int
  Started : Bool
  Fields : List Int

structure slab_Cell_store_Obj where
  State : Int
  Gen : Int
  Val : store_Obj

structure slab_Slab_store_Obj where
  Cells : List slab_Cell_store_Obj
  Last : Int

structure store_Store where
  S : slab_Slab_store_Obj
  Serial : Int

structure r06_Obj where
  Serial : Int
  Strong : Int
  Weak : Int
  Prog : Int
  Started : Bool
  Fields : List Int

structure r06_Cell where
  State : Int
  Gen : Int
  Val : r06_Obj

structure r06_Store where
  Cells : List r06_Cell
  Last : Int
  Serial : Int

structure r03_Cell where
  State : Int
  Gen : Int
  Val : Int

structure r03_Slab where
  Cells : List r03_Cell
  Last : Int

def w07_small (a0 : store_Store) : Option Bool :=
  jn (fun (_ : Unit) =>
    some (decide ((a0.S.Cells.length : Int) ≤ 30))) (fun κ5 =>
    (lp (S := Int) (E := Bool ⊕ Unit) (fun (s8 : Int) =>
      if ((decide (s8 < (a0.S.Cells.length : Int))) && (decide (s8 < 30))) then
        (ix a0.S.Cells s8).bind fun v10 =>
        if (decide ((v10.Val.Fields.length : Int) > 10)) then
          some (.inr (.inl false))
        else
        some (.inl (w64 (s8 + 1)))
      else
      some (.inr (.inr ()))) 0).bind fun e7 =>
    match e7 with
    | .inl w => some w
    | .inr w => κ5 w)

def w07_obj (a0 : store_Obj) : Option r06_Obj :=
  some (⟨a0.Serial, a0.Strong, a0.Weak, a0.Prog, a0.Started, a0.Fields⟩ : r06_Obj)

def w07_its (a0 : store_Store) : Option r06_Store :=
  jn (fun (j10 : List r06_Cell) =>
    some (⟨j10, a0.S.Last, a0.Serial⟩ : r06_Store)) (fun κ9 =>
    (lp (S := Int × (List r06_Cell)) (E := (List r06_Cell)) (fun ((s12, s13) : Int × (List r06_Cell)) =>
      if (decide (s12 < (a0.S.Cells.length : Int))) then
        (ix a0.S.Cells s12).bind fun v16 =>
        (w07_obj v16.Val).bind fun v17 =>
        (app 80 s13 [(⟨v16.State, v16.Gen, v17⟩ : r06_Cell)]).bind fun v18 =>
        some (.inl (w64 (s12 + 1), v18))
      else
      some (.inr s13)) (0, [])).bind fun e11 =>
    κ9 e11)

def r06_Plain (a0 : r06_Store) : Option r03_Slab :=
  jn (fun (j9 : List r03_Cell) =>
    some (⟨j9, a0.Last⟩ : r03_Slab)) (fun κ8 =>
    (lp (S := Int × (List r03_Cell)) (E := (List r03_Cell)) (fun ((s11, s12) : Int × (List r03_Cell)) =>
      if (decide (s11 < (a0.Cells.length : Int))) then
        (ix a0.Cells s11).bind fun v15 =>
        (app 24 s12 [(⟨v15.State, v15.Gen, s11⟩ : r03_Cell)]).bind fun v16 =>
        some (.inl (w64 (s11 + 1), v16))
      else
      some (.inr s12)) (0, [])).bind fun e10 =>
    κ8 e10)

def r03_Right (a0 : r03_Slab) : Option Bool :=
  if (((decide ((a0.Cells.length : Int) > 24)) || (decide (a0.Last < 0))) || (decide (a0.Last > 9))) then
    some false
  else
  jn (fun (_ : Unit) =>
    some true) (fun κ5 =>
    (lp (S := Int) (E := Bool ⊕ Unit) (fun (s8 : Int) =>
      if (decide (s8 < (a0.Cells.length : Int))) then
        (ix a0.Cells s8).bind fun v10 =>
        if ((((decide (v10.State < 0)) || (decide (v10.State > 3))) || (decide (v10.Gen < 0))) || (decide (v10.Gen > a0.Last))) then
          some (.inr (.inl false))
        else
        some (.inl (w64 (s8 + 1)))
      else
      some (.inr (.inr ()))) 0).bind fun e7 =>
    match e7 with
    | .inl w => some w
    | .inr w => κ5 w)

def r06_there (a0 : r06_Cell) : Option Bool :=
  some ((a0.State == 1) || (a0.State == 2))

def r06_Right (a0 : r06_Store) : Option Bool :=
  (r06_Plain a0).bind fun v1 =>
  (r03_Right v1).bind fun v2 =>
  if ((!v2) || (decide (a0.Serial < 0))) then
    some false
  else
  jn (fun (_ : Unit) =>
    some true) (fun κ22 =>
    (lp (S := Int) (E := Bool ⊕ Unit) (fun (s25 : Int) =>
      if (decide (s25 < (a0.Cells.length : Int))) then
        jn (fun (_ : Unit) =>
          some (.inl (w64 (s25 + 1)))) (fun κ34 =>
          (ix a0.Cells s25).bind fun v36 =>
          (r06_there v36).bind fun v37 =>
          if (!v37) then
            if ((((((v36.Val.Serial != 0) || (v36.Val.Strong != 0)) || (v36.Val.Weak != 0)) || (v36.Val.Prog != 0)) || v36.Val.Started) || ((v36.Val.Fields.length : Int) != 0)) then
              some (.inr (.inl false))
            else
            κ34 ()
          else
          if (((((((decide (v36.Val.Serial < 1)) || (decide (v36.Val.Serial > a0.Serial))) || (decide (v36.Val.Strong < 0))) || (decide (v36.Val.Weak < 0))) || (decide (v36.Val.Prog < (-1)))) || (decide (v36.Val.Prog > 5))) || (decide ((v36.Val.Fields.length : Int) > 4))) then
            some (.inr (.inl false))
          else
          (lp (S := Int) (E := Bool ⊕ Unit) (fun (s39 : Int) =>
            if (decide (s39 < s25)) then
              (ix a0.Cells s39).bind fun v41 =>
              (r06_there v41).bind fun v42 =>
              if (v42 && (v41.Val.Serial == v36.Val.Serial)) then
                some (.inr (.inl false))
              else
              some (.inl (w64 (s39 + 1)))
            else
            some (.inr (.inr ()))) 0).bind fun e38 =>
          match e38 with
          | .inl w => some (.inr (.inl w))
          | .inr w => κ34 w)
      else
      some (.inr (.inr ()))) 0).bind fun e24 =>
    match e24 with
    | .inl w => some w
    | .inr w => κ22 w)

def w07_right (a0 : store_Store) : Option Bool :=
  (w07_small a0).bind fun v1 =>
  (onlyIf ((v1 && (decide (a0.Serial < 1000000000))) == true) ⟨[], 0, 0⟩ (w07_its a0)).bind fun v2 =>
  (onlyIf ((v1 && (decide (a0.Serial < 1000000000))) == true) false (r06_Right v2)).bind fun v3 =>
  some ((v1 && (decide (a0.Serial < 1000000000))) && v3)

def slab_New_store_Obj (a0 : Int) (a1 : Int) : Option slab_Slab_store_Obj :=
  if ((((decide (a0 < 0)) || (decide (a0 > 24))) || (decide (a1 < 0))) || (decide (a1 > 9))) then
    some (⟨[], 0⟩ : slab_Slab_store_Obj)
  else
  (mk 80 a0 (⟨0, 0, ⟨0, 0, 0, 0, false, []⟩⟩ : slab_Cell_store_Obj)).bind fun v1 =>
  some (⟨v1, a1⟩ : slab_Slab_store_Obj)

def store_New (a0 : Int) (a1 : Int) : Option store_Store :=
  (slab_New_store_Obj a0 a1).bind fun v1 =>
  some (⟨v1, 0⟩ : store_Store)

def vec_New (a0 : Int) : Option ((List Int) × Int) :=
  if ((decide (a0 < 0)) || (decide (a0 > 4))) then
    some ([], 1)
  else
  (mk 8 a0 (0 : Int)).bind fun v1 =>
  some (v1, 0)

def store_programFits (a0 : Int) : Option Bool :=
  some ((decide (a0 ≥ (-1))) && (decide (a0 < 6)))

def slab_free_store_Obj (a0 : slab_Slab_store_Obj) : Option slab_Slab_store_Obj :=
  some a0

def slices_Clone_slab_Cell_store_Obj_slab_Cell_store_Obj (a0 : List slab_Cell_store_Obj) : Option (List slab_Cell_store_Obj) :=
  app 80 [] a0


def slab_with_store_Obj (a0 : slab_Slab_store_Obj) (a1 : Int) (a2 : slab_Cell_store_Obj) : Option slab_Slab_store_Obj :=
  (slices_Clone_slab_Cell_store_Obj_slab_Cell_store_Obj a0.Cells).bind fun v1 =>
  (ix v1 a1).bind fun v2 =>
  some (⟨(v1.set (a1).toNat a2), a0.Last⟩ : slab_Slab_store_Obj)

def handle_Pack (a0 : Int) (a1 : Int) : Option Int :=
  if ((((decide (a0 < 0)) || (decide (a0 ≥ 24))) || (decide (a1 < 0))) || (decide (a1 > 9))) then
    some 0
  else
  some (w64 ((w64 (1 + (w64 (a0 * 1)))) + (w64 (a1 * 32))))

def slab_Take_store_Obj (a0 : slab_Slab_store_Obj) (a1 : store_Obj) : Option (slab_Slab_store_Obj × Int × Int) :=
  jn (fun (_ : Unit) =>
    some (a0, 0, 4)) (fun κ9 =>
    (slab_free_store_Obj a0).bind fun v11 =>
    (lp (S := Int) (E := (slab_Slab_store_Obj × Int × Int) ⊕ Unit) (fun (s13 : Int) =>
      if (decide (s13 < (v11.Cells.length : Int))) then
        (ix v11.Cells s13).bind fun v15 =>
        if ((v15.State == 0) == true) then
          (ix a0.Cells s13).bind fun v16 =>
          (slab_with_store_Obj a0 s13 (⟨1, v16.Gen, a1⟩ : slab_Cell_store_Obj)).bind fun v17 =>
          (handle_Pack s13 v16.Gen).bind fun v18 =>
          some (.inr (.inl (v17, v18, 0)))
        else
        some (.inl (w64 (s13 + 1)))
      else
      some (.inr (.inr ()))) 0).bind fun e12 =>
    match e12 with
    | .inl w => some w
    | .inr w => κ9 w)

def store_Make (a0 : store_Store) (a1 : Int) (a2 : Int) : Option (store_Store × Int × Int) :=
  (vec_New a1).bind fun v1 =>
  if (v1.2 != 0) then
    some (a0, 0, v1.2)
  else
  (store_programFits a2).bind fun v2 =>
  if (!v2) then
    some (a0, 0, 13)
  else
  (slab_Take_store_Obj a0.S (⟨w64 (a0.Serial + 1), 0, 0, a2, false, v1.1⟩ : store_Obj)).bind fun v3 =>
  if (v3.2.2 != 0) then
    some (a0, 0, v3.2.2)
  else
  some ((⟨v3.1, w64 (a0.Serial + 1)⟩ : store_Store), v3.2.1, 0)

def handle_parts (a0 : Int) : Option (Int × Int × Bool) :=
  if (decide (a0 < 1)) then
    some ((-1), (-1), false)
  else
  (rem (w64 (a0 - 1)) 32).bind fun v1 =>
  (quo .i64 v1 1).bind fun v2 =>
  (quo .i64 (w64 (a0 - 1)) 32).bind fun v3 =>
  if ((decide (v2 ≥ 24)) || (decide (v3 > 9))) then
    some ((-1), (-1), false)
  else
  some (v2, v3, true)

def handle_Slot (a0 : Int) : Option Int :=
  (handle_parts a0).bind fun v1 =>
  some v1.1

def handle_Gen (a0 : Int) : Option Int :=
  (handle_parts a0).bind fun v1 =>
  some v1.2.1

def slab_Find_store_Obj (a0 : slab_Slab_store_Obj) (a1 : Int) : Option (Int × Int) :=
  if (a1 == 0) then
    some ((-1), 2)
  else
  (handle_Slot a1).bind fun v1 =>
  if ((decide (v1 < 0)) || (decide (v1 ≥ (a0.Cells.length : Int)))) then
    some ((-1), 3)
  else
  (ix a0.Cells v1).bind fun v2 =>
  (handle_Gen a1).bind fun v3 =>
  if ((v2.Gen != v3) || ((v2.State != 1) && (v2.State != 2))) then
    some ((-1), 3)
  else
  some (v1, 0)

def slab_Get_store_Obj (a0 : slab_Slab_store_Obj) (a1 : Int) : Option (store_Obj × Int) :=
  (slab_Find_store_Obj a0 a1).bind fun v1 =>
  if (v1.2 != 0) then
    some ((⟨0, 0, 0, 0, false, []⟩ : store_Obj), v1.2)
  else
  (ix a0.Cells v1.1).bind fun v2 =>
  if (v2.State == 2) then
    some ((⟨0, 0, 0, 0, false, []⟩ : store_Obj), 3)
  else
  some (v2.Val, 0)

def store_Get (a0 : store_Store) (a1 : Int) : Option (store_Obj × Int) :=
  (slab_Get_store_Obj a0.S a1).bind fun v1 =>
  some (v1.1, v1.2)

def vec_has (a0 : List Int) (a1 : Int) : Option Bool :=
  some ((decide (a1 ≥ 0)) && (decide (a1 < (a0.length : Int))))

def vec_With (a0 : List Int) (a1 : Int) (a2 : Int) : Option ((List Int) × Int) :=
  (vec_has a0 a1).bind fun v1 =>
  if (!v1) then
    some (a0, 5)
  else
  (mk 8 (a0.length : Int) (0 : Int)).bind fun v2 =>
  (cpy v2 a0).bind fun v3 =>
  (ix v3 a1).bind fun v4 =>
  some ((v3.set (a1).toNat a2), 0)

def slab_Set_store_Obj (a0 : slab_Slab_store_Obj) (a1 : Int) (a2 : store_Obj) : Option (slab_Slab_store_Obj × Int) :=
  (slab_Find_store_Obj a0 a1).bind fun v1 =>
  if (v1.2 != 0) then
    some (a0, v1.2)
  else
  (ix a0.Cells v1.1).bind fun v2 =>
  (slab_with_store_Obj a0 v1.1 (⟨v2.State, v2.Gen, a2⟩ : slab_Cell_store_Obj)).bind fun v3 =>
  some (v3, 0)

def store_Set (a0 : store_Store) (a1 : Int) (a2 : store_Obj) : Option (store_Store × Int) :=
  (slab_Set_store_Obj a0.S a1 a2).bind fun v1 =>
  some ((⟨v1.1, a0.Serial⟩ : store_Store), v1.2)

def store_Put (a0 : store_Store) (a1 : Int) (a2 : Int) (a3 : Int) : Option (store_Store × Int) :=
  (store_Get a0 a1).bind fun v1 =>
  if (v1.2 != 0) then
    some (a0, v1.2)
  else
  (vec_With v1.1.Fields a2 a3).bind fun v2 =>
  if (v2.2 != 0) then
    some (a0, v2.2)
  else
  (store_Set a0 a1 (⟨v1.1.Serial, v1.1.Strong, v1.1.Weak, v1.1.Prog, v1.1.Started, v2.1⟩ : store_Obj)).bind fun v3 =>
  some (v3.1, v3.2)

def vec_named (a0 : List Int) : Option (List Int) :=
  some a0

def vec_Names (a0 : List Int) : Option (List Int) :=
  jn (fun (j10 : List Int) =>
    some j10) (fun κ9 =>
    (vec_named a0).bind fun v11 =>
    (lp (S := Int × (List Int)) (E := (List Int)) (fun ((s13, s14) : Int × (List Int)) =>
      if (decide (s13 < (v11.length : Int))) then
        (ix v11 s13).bind fun v17 =>
        if ((v17 != 0) == true) then
          (app 8 s14 [v17]).bind fun v18 =>
          some (.inl (w64 (s13 + 1), v18))
        else
        some (.inl (w64 (s13 + 1), s14))
      else
      some (.inr s14)) (0, [])).bind fun e12 =>
    κ9 e12)

def refs_Out (a0 : store_Store) (a1 : Int) : Option (List Int) :=
  (store_Get a0 a1).bind fun v1 =>
  (vec_Names v1.1.Fields).bind fun v2 =>
  some v2

def refs_edges (a0 : store_Store) : Option store_Store :=
  some a0

def cmp_isNaN_int (a0 : Int) : Option Bool :=
  some (a0 != a0)

def cmp_Compare_int (a0 : Int) (a1 : Int) : Option Int :=
  (cmp_isNaN_int a0).bind fun v1 =>
  (cmp_isNaN_int a1).bind fun v2 =>
  if v1 then
    if v2 then
      some 0
    else
    some (-1)
  else
  if v2 then
    some 1
  else
  if (decide (a0 < a1)) then
    some (-1)
  else
  if (decide (a0 > a1)) then
    some 1
  else
  some 0

def store_Live_1 (a0 : Int) (a1 : Int) (a2 : List (Int × Int)) : Option Int :=
  (cmp_Compare_int ((mget a2 a0).getD (0 : Int)) ((mget a2 a1).getD (0 : Int))).bind fun v1 =>
  some v1

def store_Live (a0 : store_Store) : Option (List Int) :=
  jn (fun ((j18, j19) : (List (Int × Int)) × (List Int)) =>
    (sortBy (fun p q => store_Live_1 p q j18) j19).bind fun v21 =>
    some v21) (fun κ17 =>
    (lp (S := Int × (List (Int × Int)) × (List Int)) (E := ((List (Int × Int)) × (List Int))) (fun ((s23, s24, s25) : Int × (List (Int × Int)) × (List Int)) =>
      if (decide (s23 < (a0.S.Cells.length : Int))) then
        jn (fun ((j32, j33) : (List (Int × Int)) × (List Int)) =>
          some (.inl (w64 (s23 + 1), j32, j33))) (fun κ31 =>
          (ix a0.S.Cells s23).bind fun v35 =>
          if (v35.State == 1) then
            (handle_Pack s23 v35.Gen).bind fun v36 =>
            (app 8 s25 [v36]).bind fun v37 =>
            κ31 ((mput s24 v36 v35.Val.Serial), v37)
          else
          κ31 (s24, s25))
      else
      some (.inr (s24, s25))) (0, [], [])).bind fun e22 =>
    κ17 e22)

def refs_Dangling (a0 : store_Store) : Option (List Int) :=
  jn (fun (j39 : List Int) =>
    some j39) (fun κ38 =>
    (refs_edges a0).bind fun v40 =>
    (store_Live v40).bind fun v41 =>
    (lp (S := Int × (List Int)) (E := (List Int)) (fun ((s43, s44) : Int × (List Int)) =>
      if (decide (s43 < (v41.length : Int))) then
        jn (fun (j62 : List Int) =>
          some (.inl (w64 (s43 + 1), j62))) (fun κ61 =>
          (ix v41 s43).bind fun v63 =>
          (refs_Out v40 v63).bind fun v64 =>
          (lp (S := Int × (List Int)) (E := (List Int)) (fun ((s66, s67) : Int × (List Int)) =>
            if (decide (s66 < (v64.length : Int))) then
              (ix v64 s66).bind fun v70 =>
              jn (fun (j74 : List Int) =>
                some (.inl (w64 (s66 + 1), j74))) (fun κ73 =>
                (store_Get a0 v70).bind fun v75 =>
                if (v75.2 != 0) then
                  (app 8 s67 [v70]).bind fun v76 =>
                  κ73 v76
                else
                κ73 s67)
            else
            some (.inr s67)) (0, s44)).bind fun e65 =>
          κ61 e65)
      else
      some (.inr s44)) (0, [])).bind fun e42 =>
    κ38 e42)

def refs_In (a0 : store_Store) (a1 : Int) : Option Int :=
  jn (fun (j31 : Int) =>
    some j31) (fun κ30 =>
    (refs_edges a0).bind fun v32 =>
    (store_Live v32).bind fun v33 =>
    (lp (S := Int × Int) (E := Int) (fun ((s35, s36) : Int × Int) =>
      if (decide (s35 < (v33.length : Int))) then
        jn (fun (j50 : Int) =>
          some (.inl (w64 (s35 + 1), j50))) (fun κ49 =>
          (ix v33 s35).bind fun v51 =>
          (refs_Out v32 v51).bind fun v52 =>
          (lp (S := Int × Int) (E := Int) (fun ((s54, s55) : Int × Int) =>
            if (decide (s54 < (v52.length : Int))) then
              (ix v52 s54).bind fun v58 =>
              jn (fun (j60 : Int) =>
                some (.inl (w64 (s54 + 1), j60))) (fun κ59 =>
                if (v58 == a1) then
                  κ59 (w64 (s55 + 1))
                else
                κ59 s55)
            else
            some (.inr s55)) (0, s36)).bind fun e53 =>
          κ49 e53)
      else
      some (.inr s36)) (0, 0)).bind fun e34 =>
    κ30 e34)

def refs_By (a0 : store_Store) (a1 : Int) : Option (List Int) :=
  jn (fun (j39 : List Int) =>
    some j39) (fun κ38 =>
    (refs_edges a0).bind fun v40 =>
    (store_Live v40).bind fun v41 =>
    (lp (S := Int × (List Int)) (E := (List Int)) (fun ((s43, s44) : Int × (List Int)) =>
      if (decide (s43 < (v41.length : Int))) then
        jn (fun (j62 : List Int) =>
          some (.inl (w64 (s43 + 1), j62))) (fun κ61 =>
          (ix v41 s43).bind fun v63 =>
          (refs_Out v40 v63).bind fun v64 =>
          (lp (S := Int × (List Int)) (E := (List Int)) (fun ((s66, s67) : Int × (List Int)) =>
            if (decide (s66 < (v64.length : Int))) then
              (ix v64 s66).bind fun v70 =>
              jn (fun (j74 : List Int) =>
                some (.inl (w64 (s66 + 1), j74))) (fun κ73 =>
                (onlyIf (((v70 != a1) == false) && ((decide ((s67.length : Int) > 0)) == true)) (0 : Int) (ix s67 (w64 ((s67.length : Int) - 1)))).bind fun v75 =>
                if ((v70 != a1) || ((decide ((s67.length : Int) > 0)) && (v75 == v63))) then
                  κ73 s67
                else
                (app 8 s67 [v63]).bind fun v76 =>
                κ73 v76)
            else
            some (.inr s67)) (0, s44)).bind fun e65 =>
          κ61 e65)
      else
      some (.inr s44)) (0, [])).bind fun e42 =>
    κ38 e42)

def vec_Count (a0 : List Int) (a1 : Int) : Option Int :=
  jn (fun (j11 : Int) =>
    some j11) (fun κ10 =>
    (vec_named a0).bind fun v12 =>
    (lp (S := Int × Int) (E := Int) (fun ((s14, s15) : Int × Int) =>
      if (decide (s14 < (v12.length : Int))) then
        (ix v12 s14).bind fun v18 =>
        if ((v18 != 0) == true) then
          jn (fun (j20 : Int) =>
            if ((v18 != 0) && false) then
              some (.inr j20)
            else
            some (.inl (w64 (s14 + 1), j20))) (fun κ19 =>
            if (v18 == a1) then
              κ19 (w64 (s15 + 1))
            else
            κ19 s15)
        else
        some (.inl (w64 (s14 + 1), s15))
      else
      some (.inr s15)) (0, 0)).bind fun e13 =>
    κ10 e13)

def refs_Times (a0 : List Int) (a1 : Int) : Option Int :=
  (vec_Count a0 a1).bind fun v1 =>
  some v1

def w07_shown : Option Bool :=
  (store_New 3 3).bind fun v1 =>
  (store_Make v1 3 (-1)).bind fun v2 =>
  (store_Make v2.1 1 (-1)).bind fun v3 =>
  (store_Put v3.1 v2.2.1 0 v3.2.1).bind fun v4 =>
  (store_Put v4.1 v2.2.1 2 v3.2.1).bind fun v5 =>
  (store_Put v5.1 v3.2.1 0 99).bind fun v6 =>
  (refs_Out v6.1 v2.2.1).bind fun v7 =>
  (refs_Dangling v6.1).bind fun v8 =>
  (onlyIf (((v6.2 == 0) && ((v7.length : Int) == 2)) == true) (0 : Int) (ix v7 0)).bind fun v9 =>
  (onlyIf ((((v6.2 == 0) && ((v7.length : Int) == 2)) && (v9 == v3.2.1)) == true) 0 (refs_In v6.1 v3.2.1)).bind fun v10 =>
  (onlyIf (((((v6.2 == 0) && ((v7.length : Int) == 2)) && (v9 == v3.2.1)) && (v10 == 2)) == true) 0 (refs_In v6.1 v2.2.1)).bind fun v11 =>
  (onlyIf ((((((v6.2 == 0) && ((v7.length : Int) == 2)) && (v9 == v3.2.1)) && (v10 == 2)) && (v11 == 0)) == true) [] (refs_By v6.1 v3.2.1)).bind fun v12 =>
  (onlyIf (((((((v6.2 == 0) && ((v7.length : Int) == 2)) && (v9 == v3.2.1)) && (v10 == 2)) && (v11 == 0)) && ((v12.length : Int) == 1)) == true) 0 (refs_Times v7 v3.2.1)).bind fun v13 =>
  (onlyIf (((((((((v6.2 == 0) && ((v7.length : Int) == 2)) && (v9 == v3.2.1)) && (v10 == 2)) && (v11 == 0)) && ((v12.length : Int) == 1)) && (v13 == 2)) && ((v8.length : Int) == 1)) == true) (0 : Int) (ix v8 0)).bind fun v14 =>
  (onlyIf ((((((((((v6.2 == 0) && ((v7.length : Int) == 2)) && (v9 == v3.2.1)) && (v10 == 2)) && (v11 == 0)) && ((v12.length : Int) == 1)) && (v13 == 2)) && ((v8.length : Int) == 1)) && (v14 == 99)) == true) 0 (refs_Times [0] 0)).bind fun v15 =>
  some ((((((((((v6.2 == 0) && ((v7.length : Int) == 2)) && (v9 == v3.2.1)) && (v10 == 2)) && (v11 == 0)) && ((v12.length : Int) == 1)) && (v13 == 2)) && ((v8.length : Int) == 1)) && (v14 == 99)) && (v15 == 0))

def r01_Pack (a0 : Int) (a1 : Int) : Option Int :=
  if ((((decide (a0 < 0)) || (decide (a0 > 23))) || (decide (a1 < 0))) || (decide (a1 > 9))) then
    some 0
  else
  some (w64 ((w64 (1 + a0)) + (w64 (32 * a1))))

def r01_Valid (a0 : Int) : Option Bool :=
  if ((decide (a0 < 1)) || (decide (a0 > 400))) then
    some false
  else
  (rem (w64 (a0 - 1)) 32).bind fun v1 =>
  (quo .i64 (w64 (a0 - 1)) 32).bind fun v2 =>
  (r01_Pack v1 v2).bind fun v3 =>
  some (v3 == a0)

def r01_Slot (a0 : Int) : Option Int :=
  (r01_Valid a0).bind fun v1 =>
  if (!v1) then
    some (-1)
  else
  (rem (w64 (a0 - 1)) 32).bind fun v2 =>
  some v2

def r01_Gen (a0 : Int) : Option Int :=
  (r01_Valid a0).bind fun v1 =>
  if (!v1) then
    some (-1)
  else
  (quo .i64 (w64 (a0 - 1)) 32).bind fun v2 =>
  some v2

def r03_Find (a0 : r03_Slab) (a1 : Int) : Option (Int × Int) :=
  if (a1 == 0) then
    some ((-1), 2)
  else
  (r01_Slot a1).bind fun v1 =>
  if ((decide (v1 < 0)) || (decide (v1 ≥ (a0.Cells.length : Int)))) then
    some ((-1), 3)
  else
  (ix a0.Cells v1).bind fun v2 =>
  (r01_Gen a1).bind fun v3 =>
  if ((v2.Gen != v3) || ((v2.State != 1) && (v2.State != 2))) then
    some ((-1), 3)
  else
  some (v1, 0)

def r03_Get (a0 : r03_Slab) (a1 : Int) : Option (Int × Int) :=
  (r03_Find a0 a1).bind fun v1 =>
  if (v1.2 != 0) then
    some (0, v1.2)
  else
  (ix a0.Cells v1.1).bind fun v2 =>
  if (v2.State == 2) then
    some (0, 3)
  else
  some (v2.Val, 0)

def r06_Get (a0 : r06_Store) (a1 : Int) : Option (r06_Obj × Int) :=
  (r06_Plain a0).bind fun v1 =>
  (r03_Get v1 a1).bind fun v2 =>
  if (v2.2 != 0) then
    some ((⟨0, 0, 0, 0, false, []⟩ : r06_Obj), v2.2)
  else
  (ix a0.Cells v2.1).bind fun v3 =>
  some (v3.Val, 0)

def r05_Names (a0 : List Int) : Option (List Int) :=
  jn (fun (j13 : List Int) =>
    some j13) (fun κ12 =>
    (lp (S := Int × (List Int)) (E := (List Int)) (fun ((s15, s16) : Int × (List Int)) =>
      if (decide (s15 < (a0.length : Int))) then
        jn (fun (j22 : List Int) =>
          some (.inl (w64 (s15 + 1), j22))) (fun κ21 =>
          (ix a0 s15).bind fun v23 =>
          if (v23 != 0) then
            (app 8 s16 [v23]).bind fun v24 =>
            κ21 v24
          else
          κ21 s16)
      else
      some (.inr s16)) (0, [])).bind fun e14 =>
    κ12 e14)

def r07_Out (a0 : r06_Store) (a1 : Int) : Option (List Int) :=
  (r06_Get a0 a1).bind fun v1 =>
  if (v1.2 != 0) then
    some []
  else
  (r05_Names v1.1.Fields).bind fun v2 =>
  some v2

def r02_Ints (a0 : List Int) (a1 : List Int) : Option Bool :=
  if ((a0.length : Int) != (a1.length : Int)) then
    some false
  else
  jn (fun (_ : Unit) =>
    some true) (fun κ6 =>
    (lp (S := Int) (E := Bool ⊕ Unit) (fun (s9 : Int) =>
      if (decide (s9 < (a0.length : Int))) then
        (ix a0 s9).bind fun v11 =>
        (ix a1 s9).bind fun v12 =>
        if (v11 != v12) then
          some (.inr (.inl false))
        else
        some (.inl (w64 (s9 + 1)))
      else
      some (.inr (.inr ()))) 0).bind fun e8 =>
    match e8 with
    | .inl w => some w
    | .inr w => κ6 w)

def r06_Sorted (a0 : r06_Store) (a1 : List Int) : Option (List Int) :=
  (app 8 [] a1).bind fun v1 =>
  jn (fun (j36 : List Int) =>
    some j36) (fun κ35 =>
    (lp (S := Int × (List Int)) (E := (List Int)) (fun ((s38, s39) : Int × (List Int)) =>
      if (decide (s38 < (s39.length : Int))) then
        jn (fun (j56 : List Int) =>
          some (.inl (w64 (s38 + 1), j56))) (fun κ55 =>
          (lp (S := Int × (List Int)) (E := (List Int)) (fun ((s58, s59) : Int × (List Int)) =>
            if (decide (s58 > 0)) then
              (r06_Plain a0).bind fun v62 =>
              (ix s59 (w64 (s58 - 1))).bind fun v63 =>
              (r03_Find v62 v63).bind fun v64 =>
              (ix s59 s58).bind fun v65 =>
              (r03_Find v62 v65).bind fun v66 =>
              (onlyIf (((decide (v64.1 < 0)) || (decide (v66.1 < 0))) == false) (⟨0, 0, ⟨0, 0, 0, 0, false, []⟩⟩ : r06_Cell) (ix a0.Cells v64.1)).bind fun v67 =>
              (onlyIf (((decide (v64.1 < 0)) || (decide (v66.1 < 0))) == false) (⟨0, 0, ⟨0, 0, 0, 0, false, []⟩⟩ : r06_Cell) (ix a0.Cells v66.1)).bind fun v68 =>
              if (((decide (v64.1 < 0)) || (decide (v66.1 < 0))) || (decide (v67.Val.Serial ≤ v68.Val.Serial))) then
                some (.inr s59)
              else
              (ix (s59.set (s58).toNat v63) (w64 (s58 - 1))).bind fun v69 =>
              some (.inl (w64 (s58 - 1), ((s59.set (s58).toNat v63).set (w64 (s58 - 1)).toNat v65)))
            else
            some (.inr s59)) (s38, s39)).bind fun e57 =>
          κ55 e57)
      else
      some (.inr s39)) (1, v1)).bind fun e37 =>
    κ35 e37)

def r06_Live (a0 : r06_Store) : Option (List Int) :=
  jn (fun (j15 : List Int) =>
    (r06_Sorted a0 j15).bind fun v16 =>
    some v16) (fun κ14 =>
    (lp (S := Int × (List Int)) (E := (List Int)) (fun ((s18, s19) : Int × (List Int)) =>
      if (decide (s18 < (a0.Cells.length : Int))) then
        jn (fun (j26 : List Int) =>
          some (.inl (w64 (s18 + 1), j26))) (fun κ25 =>
          (ix a0.Cells s18).bind fun v27 =>
          if (v27.State == 1) then
            (r01_Pack s18 v27.Gen).bind fun v28 =>
            (app 8 s19 [v28]).bind fun v29 =>
            κ25 v29
          else
          κ25 s19)
      else
      some (.inr s19)) (0, [])).bind fun e17 =>
    κ14 e17)

def r07_Times (a0 : List Int) (a1 : Int) : Option Int :=
  jn (fun (j11 : Int) =>
    some j11) (fun κ10 =>
    (lp (S := Int × Int) (E := Int) (fun ((s13, s14) : Int × Int) =>
      if (decide (s14 < (a0.length : Int))) then
        jn (fun (j19 : Int) =>
          some (.inl (j19, w64 (s14 + 1)))) (fun κ18 =>
          (ix a0 s14).bind fun v20 =>
          if ((v20 == a1) && (a1 != 0)) then
            κ18 (w64 (s13 + 1))
          else
          κ18 s13)
      else
      some (.inr s13)) (0, 0)).bind fun e12 =>
    κ10 e12)

def r07_In (a0 : r06_Store) (a1 : Int) : Option Int :=
  (r06_Live a0).bind fun v1 =>
  jn (fun (j11 : Int) =>
    some j11) (fun κ10 =>
    (lp (S := Int × Int) (E := Int) (fun ((s13, s14) : Int × Int) =>
      if (decide (s14 < (v1.length : Int))) then
        (ix v1 s14).bind fun v17 =>
        (r07_Out a0 v17).bind fun v18 =>
        (r07_Times v18 a1).bind fun v19 =>
        some (.inl (w64 (s13 + v19), w64 (s14 + 1)))
      else
      some (.inr s13)) (0, 0)).bind fun e12 =>
    κ10 e12)

def r07_By (a0 : r06_Store) (a1 : Int) : Option (List Int) :=
  (r06_Live a0).bind fun v1 =>
  jn (fun (j18 : List Int) =>
    some j18) (fun κ17 =>
    (lp (S := Int × (List Int)) (E := (List Int)) (fun ((s20, s21) : Int × (List Int)) =>
      if (decide (s20 < (v1.length : Int))) then
        jn (fun (j29 : List Int) =>
          some (.inl (w64 (s20 + 1), j29))) (fun κ28 =>
          (ix v1 s20).bind fun v30 =>
          (r07_Out a0 v30).bind fun v31 =>
          (r07_Times v31 a1).bind fun v32 =>
          if (decide (v32 > 0)) then
            (app 8 s21 [v30]).bind fun v33 =>
            κ28 v33
          else
          κ28 s21)
      else
      some (.inr s21)) (0, [])).bind fun e19 =>
    κ17 e19)

def r07_Dangling (a0 : r06_Store) : Option (List Int) :=
  (r06_Live a0).bind fun v1 =>
  jn (fun (j40 : List Int) =>
    some j40) (fun κ39 =>
    (lp (S := Int × (List Int)) (E := (List Int)) (fun ((s42, s43) : Int × (List Int)) =>
      if (decide (s42 < (v1.length : Int))) then
        jn (fun (j62 : List Int) =>
          some (.inl (w64 (s42 + 1), j62))) (fun κ61 =>
          (ix v1 s42).bind fun v63 =>
          (r07_Out a0 v63).bind fun v64 =>
          (lp (S := Int × (List Int)) (E := (List Int)) (fun ((s66, s67) : Int × (List Int)) =>
            if (decide (s66 < (v64.length : Int))) then
              jn (fun (j74 : List Int) =>
                some (.inl (w64 (s66 + 1), j74))) (fun κ73 =>
                (ix v64 s66).bind fun v75 =>
                (r06_Get a0 v75).bind fun v76 =>
                if (v76.2 != 0) then
                  (app 8 s67 [v75]).bind fun v77 =>
                  κ73 v77
                else
                κ73 s67)
            else
            some (.inr s67)) (0, s43)).bind fun e65 =>
          κ61 e65)
      else
      some (.inr s43)) (0, [])).bind fun e41 =>
    κ39 e41)

def w07_RefsTell (a0 : store_Store) (a1 : Int) (a2 : List Int) : Option Bool :=
  (w07_right a0).bind fun v1 =>
  (onlyIf (((!v1) || (decide ((a2.length : Int) > 100))) == false) false w07_shown).bind fun v2 =>
  if (((!v1) || (decide ((a2.length : Int) > 100))) || (!v2)) then
    (w07_shown).bind fun v3 =>
    some v3
  else
  (w07_its a0).bind fun v4 =>
  (refs_Out a0 a1).bind fun v5 =>
  (r07_Out v4 a1).bind fun v6 =>
  (r02_Ints v5 v6).bind fun v7 =>
  (onlyIf (v7 == true) 0 (refs_In a0 a1)).bind fun v8 =>
  (onlyIf (v7 == true) 0 (r07_In v4 a1)).bind fun v9 =>
  (onlyIf ((v7 && (v8 == v9)) == true) [] (refs_By a0 a1)).bind fun v10 =>
  (onlyIf ((v7 && (v8 == v9)) == true) [] (r07_By v4 a1)).bind fun v11 =>
  (onlyIf ((v7 && (v8 == v9)) == true) false (r02_Ints v10 v11)).bind fun v12 =>
  (onlyIf (((v7 && (v8 == v9)) && v12) == true) 0 (refs_Times a2 a1)).bind fun v13 =>
  (onlyIf (((v7 && (v8 == v9)) && v12) == true) 0 (r07_Times a2 a1)).bind fun v14 =>
  (onlyIf ((((v7 && (v8 == v9)) && v12) && (v13 == v14)) == true) [] (refs_Dangling a0)).bind fun v15 =>
  (onlyIf ((((v7 && (v8 == v9)) && v12) && (v13 == v14)) == true) [] (r07_Dangling v4)).bind fun v16 =>
  (onlyIf ((((v7 && (v8 == v9)) && v12) && (v13 == v14)) == true) false (r02_Ints v15 v16)).bind fun v17 =>
  some ((((v7 && (v8 == v9)) && v12) && (v13 == v14)) && v17)

def w07_RefsSums (a0 : store_Store) : Option Bool :=
  (w07_right a0).bind fun v1 =>
  (onlyIf ((!v1) == false) false w07_shown).bind fun v2 =>
  if ((!v1) || (!v2)) then
    (w07_shown).bind fun v3 =>
    some v3
  else
  (w07_its a0).bind fun v4 =>
  (r06_Live v4).bind fun v5 =>
  jn (fun ((j16, j17) : Int × Int) =>
    (refs_Dangling a0).bind fun v19 =>
    some (j16 == (w64 (j17 + (v19.length : Int))))) (fun κ15 =>
    (lp (S := Int × Int × Int) (E := (Int × Int)) (fun ((s21, s22, s23) : Int × Int × Int) =>
      if (decide (s23 < (v5.length : Int))) then
        (ix v5 s23).bind fun v26 =>
        (refs_Out a0 v26).bind fun v27 =>
        (refs_In a0 v26).bind fun v28 =>
        some (.inl (w64 (s21 + (v27.length : Int)), w64 (s22 + v28), w64 (s23 + 1)))
      else
      some (.inr (s21, s22))) (0, 0, 0)).bind fun e20 =>
    κ15 e20)

def w07_RefsBoth (a0 : store_Store) (a1 : Int) (a2 : Int) : Option Bool :=
  (w07_right a0).bind fun v1 =>
  (onlyIf ((!v1) == false) false w07_shown).bind fun v2 =>
  if ((!v1) || (!v2)) then
    (w07_shown).bind fun v3 =>
    some v3
  else
  (refs_By a0 a2).bind fun v4 =>
  (refs_Out a0 a1).bind fun v5 =>
  (refs_Times v5 a2).bind fun v6 =>
  (refs_Times v4 a1).bind fun v7 =>
  (onlyIf ((v7 == (if 1 < v6 then 1 else v6)) == true) 0 (refs_In a0 a2)).bind fun v8 =>
  (onlyIf (((v7 == (if 1 < v6 then 1 else v6)) && (decide ((v4.length : Int) ≤ v8))) == true) 0 (refs_In a0 a2)).bind fun v9 =>
  some (((v7 == (if 1 < v6 then 1 else v6)) && (decide ((v4.length : Int) ≤ v8))) && ((decide ((v4.length : Int) > 0)) == (decide (v9 > 0))))

def w07_RefsTimes (a0 : List Int) (a1 : List Int) (a2 : Int) : Option Bool :=
  (onlyIf (((decide ((a0.length : Int) > 100)) || (decide ((a1.length : Int) > 100))) == false) false w07_shown).bind fun v1 =>
  if (((decide ((a0.length : Int) > 100)) || (decide ((a1.length : Int) > 100))) || (!v1)) then
    (w07_shown).bind fun v2 =>
    some v2
  else
  (app 8 [] a0).bind fun v3 =>
  (app 8 v3 a1).bind fun v4 =>
  (refs_Times v4 a2).bind fun v5 =>
  (refs_Times a0 a2).bind fun v6 =>
  (refs_Times a1 a2).bind fun v7 =>
  (onlyIf ((((v5 == (w64 (v6 + v7))) && ((a2 != 0) || (v6 == 0))) == true) && ((a2 == 0) == false)) 0 (refs_Times [a2, 0, a2] a2)).bind fun v8 =>
  some (((v5 == (w64 (v6 + v7))) && ((a2 != 0) || (v6 == 0))) && ((a2 == 0) || (v8 == 2)))

end
end Go.Sh
