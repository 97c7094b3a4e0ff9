/-
  Plain functions: what the functions of the program come to.
-/
import Derived.Test.YteilfbdphlimkaaSh0
namespace Go.Sh
set_option linter.unusedVariables false
set_option maxRecDepth 100000
structure slab_Cell_int where
  State : Int
  Gen : Int
  Val : Int

structure slab_Slab_int where
  Cells : List slab_Cell_int
  Last : Int

structure r03_Cell where
  State : Int
  Gen : Int
  Val : Int

structure r03_Slab where
  Cells : List r03_Cell
  Last : Int

structure slab_Cell_string where
  State : Int
  Gen : Int
  Val : ByteArray

structure slab_Slab_string where
  Cells : List slab_Cell_string
  Last : Int

def w03_its (a0 : slab_Slab_int) : Option r03_Slab :=
  jn (fun (j9 : List r03_Cell) =>
    some (⟨j9, a0.Last⟩ : r03_Slab)) (fun κ8 =>
    (lp (S := Int × (List r03_Cell)) (E := (List r03_Cell)) (fun ((s11, s12) : Int × (List r03_Cell)) =>
      if (decide (s11 < (a0.Cells.length : Int))) then
        (ix a0.Cells s11).bind fun v15 =>
        (app 24 s12 [(⟨v15.State, v15.Gen, v15.Val⟩ : r03_Cell)]).bind fun v16 =>
        some (.inl (w64 (s11 + 1), v16))
      else
      some (.inr s12)) (0, [])).bind fun e10 =>
    κ8 e10)

def r03_Right (a0 : r03_Slab) : Option Bool :=
  if (((decide ((a0.Cells.length : Int) > 24)) || (decide (a0.Last < 0))) || (decide (a0.Last > 9))) then
    some false
  else
  jn (fun (_ : Unit) =>
    some true) (fun κ5 =>
    (lp (S := Int) (E := Bool ⊕ Unit) (fun (s8 : Int) =>
      if (decide (s8 < (a0.Cells.length : Int))) then
        (ix a0.Cells s8).bind fun v10 =>
        if ((((decide (v10.State < 0)) || (decide (v10.State > 3))) || (decide (v10.Gen < 0))) || (decide (v10.Gen > a0.Last))) then
          some (.inr (.inl false))
        else
        some (.inl (w64 (s8 + 1)))
      else
      some (.inr (.inr ()))) 0).bind fun e7 =>
    match e7 with
    | .inl w => some w
    | .inr w => κ5 w)

def w03_right (a0 : slab_Slab_int) : Option Bool :=
  (onlyIf ((decide ((a0.Cells.length : Int) ≤ 24)) == true) ⟨[], 0⟩ (w03_its a0)).bind fun v1 =>
  (onlyIf ((decide ((a0.Cells.length : Int) ≤ 24)) == true) false (r03_Right v1)).bind fun v2 =>
  some ((decide ((a0.Cells.length : Int) ≤ 24)) && v2)

def slab_New_int (a0 : Int) (a1 : Int) : Option slab_Slab_int :=
  if ((((decide (a0 < 0)) || (decide (a0 > 24))) || (decide (a1 < 0))) || (decide (a1 > 9))) then
    some (⟨[], 0⟩ : slab_Slab_int)
  else
  (mk 24 a0 (⟨0, 0, 0⟩ : slab_Cell_int)).bind fun v1 =>
  some (⟨v1, a1⟩ : slab_Slab_int)

def slab_free_int (a0 : slab_Slab_int) : Option slab_Slab_int :=
  some a0

def slices_Clone_slab_Cell_int_slab_Cell_int (a0 : List slab_Cell_int) : Option (List slab_Cell_int) :=
  app 24 [] a0


def slab_with_int (a0 : slab_Slab_int) (a1 : Int) (a2 : slab_Cell_int) : Option slab_Slab_int :=
  (slices_Clone_slab_Cell_int_slab_Cell_int a0.Cells).bind fun v1 =>
  (ix v1 a1).bind fun v2 =>
  some (⟨(v1.set (a1).toNat a2), a0.Last⟩ : slab_Slab_int)

def handle_Pack (a0 : Int) (a1 : Int) : Option Int :=
  if ((((decide (a0 < 0)) || (decide (a0 ≥ 24))) || (decide (a1 < 0))) || (decide (a1 > 9))) then
    some 0
  else
  some (w64 ((w64 (1 + (w64 (a0 * 1)))) + (w64 (a1 * 32))))

def slab_Take_int (a0 : slab_Slab_int) (a1 : Int) : Option (slab_Slab_int × Int × Int) :=
  jn (fun (_ : Unit) =>
    some (a0, 0, 4)) (fun κ9 =>
    (slab_free_int a0).bind fun v11 =>
    (lp (S := Int) (E := (slab_Slab_int × Int × Int) ⊕ Unit) (fun (s13 : Int) =>
      if (decide (s13 < (v11.Cells.length : Int))) then
        (ix v11.Cells s13).bind fun v15 =>
        if ((v15.State == 0) == true) then
          (ix a0.Cells s13).bind fun v16 =>
          (slab_with_int a0 s13 (⟨1, v16.Gen, a1⟩ : slab_Cell_int)).bind fun v17 =>
          (handle_Pack s13 v16.Gen).bind fun v18 =>
          some (.inr (.inl (v17, v18, 0)))
        else
        some (.inl (w64 (s13 + 1)))
      else
      some (.inr (.inr ()))) 0).bind fun e12 =>
    match e12 with
    | .inl w => some w
    | .inr w => κ9 w)

def handle_parts (a0 : Int) : Option (Int × Int × Bool) :=
  if (decide (a0 < 1)) then
    some ((-1), (-1), false)
  else
  (rem (w64 (a0 - 1)) 32).bind fun v1 =>
  (quo .i64 v1 1).bind fun v2 =>
  (quo .i64 (w64 (a0 - 1)) 32).bind fun v3 =>
  if ((decide (v2 ≥ 24)) || (decide (v3 > 9))) then
    some ((-1), (-1), false)
  else
  some (v2, v3, true)

def handle_Slot (a0 : Int) : Option Int :=
  (handle_parts a0).bind fun v1 =>
  some v1.1

def handle_Gen (a0 : Int) : Option Int :=
  (handle_parts a0).bind fun v1 =>
  some v1.2.1

def slab_Find_int (a0 : slab_Slab_int) (a1 : Int) : Option (Int × Int) :=
  if (a1 == 0) then
    some ((-1), 2)
  else
  (handle_Slot a1).bind fun v1 =>
  if ((decide (v1 < 0)) || (decide (v1 ≥ (a0.Cells.length : Int)))) then
    some ((-1), 3)
  else
  (ix a0.Cells v1).bind fun v2 =>
  (handle_Gen a1).bind fun v3 =>
  if ((v2.Gen != v3) || ((v2.State != 1) && (v2.State != 2))) then
    some ((-1), 3)
  else
  some (v1, 0)

def slab_Get_int (a0 : slab_Slab_int) (a1 : Int) : Option (Int × Int) :=
  (slab_Find_int a0 a1).bind fun v1 =>
  if (v1.2 != 0) then
    some (0, v1.2)
  else
  (ix a0.Cells v1.1).bind fun v2 =>
  if (v2.State == 2) then
    some (0, 3)
  else
  some (v2.Val, 0)

def slab_Give_int (a0 : slab_Slab_int) (a1 : Int) : Option (slab_Slab_int × Int) :=
  (slab_Find_int a0 a1).bind fun v1 =>
  if (v1.2 != 0) then
    some (a0, v1.2)
  else
  (ix a0.Cells v1.1).bind fun v2 =>
  if (v2.Gen == a0.Last) then
    (slab_with_int a0 v1.1 (⟨3, v2.Gen, 0⟩ : slab_Cell_int)).bind fun v3 =>
    some (v3, 0)
  else
  (slab_with_int a0 v1.1 (⟨0, w64 (v2.Gen + 1), 0⟩ : slab_Cell_int)).bind fun v4 =>
  some (v4, 0)

def slab_Kill_int (a0 : slab_Slab_int) (a1 : Int) : Option (slab_Slab_int × Int) :=
  (slab_Get_int a0 a1).bind fun v1 =>
  if (v1.2 != 0) then
    some (a0, v1.2)
  else
  (handle_Slot a1).bind fun v2 =>
  (handle_Gen a1).bind fun v3 =>
  (slab_with_int a0 v2 (⟨2, v3, v1.1⟩ : slab_Cell_int)).bind fun v4 =>
  some (v4, 0)

def slab_Tally_int (a0 : slab_Slab_int) : Option A4 :=
  jn (fun (j9 : A4) =>
    some j9) (fun κ8 =>
    (lp (S := Int × A4) (E := A4) (fun ((s11, s12) : Int × A4) =>
      if (decide (s11 < (a0.Cells.length : Int))) then
        (ix a0.Cells s11).bind fun v15 =>
        (A4.ix s12 v15.State).bind fun v16 =>
        some (.inl (w64 (s11 + 1), (A4.st s12 v15.State (w64 (v16 + 1)))))
      else
      some (.inr s12)) (0, (⟨0, 0, 0, 0⟩ : A4))).bind fun e10 =>
    κ8 e10)

def w03_shown : Option Bool :=
  (slab_New_int 1 1).bind fun v1 =>
  (slab_Take_int v1 7).bind fun v2 =>
  (slab_Take_int v2.1 8).bind fun v3 =>
  (slab_Get_int v2.1 v2.2.1).bind fun v4 =>
  (slab_Give_int v2.1 v2.2.1).bind fun v5 =>
  (slab_Get_int v5.1 v2.2.1).bind fun v6 =>
  (slab_Take_int v5.1 9).bind fun v7 =>
  (slab_Kill_int v7.1 v7.2.1).bind fun v8 =>
  (slab_Get_int v8.1 v7.2.1).bind fun v9 =>
  (slab_Give_int v8.1 v7.2.1).bind fun v10 =>
  (slab_Take_int v10.1 1).bind fun v11 =>
  (onlyIf ((((((((((((v2.2.1 == 1) && (v2.2.2 == 0)) && (v3.2.2 == 4)) && (v4.1 == 7)) && (v4.2 == 0)) && (v5.2 == 0)) && (v6.2 == 3)) && (v7.2.1 == 33)) && (v9.2 == 3)) && (v10.2 == 0)) && (v11.2.2 == 4)) == true) ⟨0, 0, 0, 0⟩ (slab_Tally_int v10.1)).bind fun v12 =>
  some ((((((((((((v2.2.1 == 1) && (v2.2.2 == 0)) && (v3.2.2 == 4)) && (v4.1 == 7)) && (v4.2 == 0)) && (v5.2 == 0)) && (v6.2 == 3)) && (v7.2.1 == 33)) && (v9.2 == 3)) && (v10.2 == 0)) && (v11.2.2 == 4)) && ((v12.a == 0) && ((v12.b == 0) && ((v12.c == 0) && ((v12.d == 1) && true)))))

def r03_with (a0 : r03_Slab) (a1 : Int) (a2 : r03_Cell) : Option r03_Slab :=
  (app 24 [] a0.Cells).bind fun v1 =>
  (ix v1 a1).bind fun v2 =>
  some (⟨(v1.set (a1).toNat a2), a0.Last⟩ : r03_Slab)

def r01_Pack (a0 : Int) (a1 : Int) : Option Int :=
  if ((((decide (a0 < 0)) || (decide (a0 > 23))) || (decide (a1 < 0))) || (decide (a1 > 9))) then
    some 0
  else
  some (w64 ((w64 (1 + a0)) + (w64 (32 * a1))))

def r03_Take (a0 : r03_Slab) (a1 : Int) : Option (r03_Slab × Int × Int) :=
  jn (fun (_ : Unit) =>
    some (a0, 0, 4)) (fun κ7 =>
    (lp (S := Int) (E := (r03_Slab × Int × Int) ⊕ Unit) (fun (s10 : Int) =>
      if (decide (s10 < (a0.Cells.length : Int))) then
        (ix a0.Cells s10).bind fun v12 =>
        if (v12.State == 0) then
          (r03_with a0 s10 (⟨1, v12.Gen, a1⟩ : r03_Cell)).bind fun v13 =>
          (r01_Pack s10 v12.Gen).bind fun v14 =>
          some (.inr (.inl (v13, v14, 0)))
        else
        some (.inl (w64 (s10 + 1)))
      else
      some (.inr (.inr ()))) 0).bind fun e9 =>
    match e9 with
    | .inl w => some w
    | .inr w => κ7 w)

def r01_Valid (a0 : Int) : Option Bool :=
  if ((decide (a0 < 1)) || (decide (a0 > 400))) then
    some false
  else
  (rem (w64 (a0 - 1)) 32).bind fun v1 =>
  (quo .i64 (w64 (a0 - 1)) 32).bind fun v2 =>
  (r01_Pack v1 v2).bind fun v3 =>
  some (v3 == a0)

def r01_Slot (a0 : Int) : Option Int :=
  (r01_Valid a0).bind fun v1 =>
  if (!v1) then
    some (-1)
  else
  (rem (w64 (a0 - 1)) 32).bind fun v2 =>
  some v2

def r01_Gen (a0 : Int) : Option Int :=
  (r01_Valid a0).bind fun v1 =>
  if (!v1) then
    some (-1)
  else
  (quo .i64 (w64 (a0 - 1)) 32).bind fun v2 =>
  some v2

def r03_Find (a0 : r03_Slab) (a1 : Int) : Option (Int × Int) :=
  if (a1 == 0) then
    some ((-1), 2)
  else
  (r01_Slot a1).bind fun v1 =>
  if ((decide (v1 < 0)) || (decide (v1 ≥ (a0.Cells.length : Int)))) then
    some ((-1), 3)
  else
  (ix a0.Cells v1).bind fun v2 =>
  (r01_Gen a1).bind fun v3 =>
  if ((v2.Gen != v3) || ((v2.State != 1) && (v2.State != 2))) then
    some ((-1), 3)
  else
  some (v1, 0)

def r03_Get (a0 : r03_Slab) (a1 : Int) : Option (Int × Int) :=
  (r03_Find a0 a1).bind fun v1 =>
  if (v1.2 != 0) then
    some (0, v1.2)
  else
  (ix a0.Cells v1.1).bind fun v2 =>
  if (v2.State == 2) then
    some (0, 3)
  else
  some (v2.Val, 0)

def r03_Same (a0 : r03_Slab) (a1 : r03_Slab) : Option Bool :=
  if ((a0.Last != a1.Last) || ((a0.Cells.length : Int) != (a1.Cells.length : Int))) then
    some false
  else
  jn (fun (_ : Unit) =>
    some true) (fun κ6 =>
    (lp (S := Int) (E := Bool ⊕ Unit) (fun (s9 : Int) =>
      if (decide (s9 < (a0.Cells.length : Int))) then
        (ix a0.Cells s9).bind fun v11 =>
        (ix a1.Cells s9).bind fun v12 =>
        if (!((v11.State == v12.State) && ((v11.Gen == v12.Gen) && ((v11.Val == v12.Val) && true)))) then
          some (.inr (.inl false))
        else
        some (.inl (w64 (s9 + 1)))
      else
      some (.inr (.inr ()))) 0).bind fun e8 =>
    match e8 with
    | .inl w => some w
    | .inr w => κ6 w)

def slab_Set_int (a0 : slab_Slab_int) (a1 : Int) (a2 : Int) : Option (slab_Slab_int × Int) :=
  (slab_Find_int a0 a1).bind fun v1 =>
  if (v1.2 != 0) then
    some (a0, v1.2)
  else
  (ix a0.Cells v1.1).bind fun v2 =>
  (slab_with_int a0 v1.1 (⟨v2.State, v2.Gen, a2⟩ : slab_Cell_int)).bind fun v3 =>
  some (v3, 0)

def r03_Set (a0 : r03_Slab) (a1 : Int) (a2 : Int) : Option (r03_Slab × Int) :=
  (r03_Find a0 a1).bind fun v1 =>
  if (v1.2 != 0) then
    some (a0, v1.2)
  else
  (ix a0.Cells v1.1).bind fun v2 =>
  (r03_with a0 v1.1 (⟨v2.State, v2.Gen, a2⟩ : r03_Cell)).bind fun v3 =>
  some (v3, 0)

def r03_Kill (a0 : r03_Slab) (a1 : Int) : Option (r03_Slab × Int) :=
  (r03_Get a0 a1).bind fun v1 =>
  if (v1.2 != 0) then
    some (a0, v1.2)
  else
  (r03_Find a0 a1).bind fun v2 =>
  (ix a0.Cells v2.1).bind fun v3 =>
  (r03_with a0 v2.1 (⟨2, v3.Gen, v3.Val⟩ : r03_Cell)).bind fun v4 =>
  some (v4, 0)

def r03_Give (a0 : r03_Slab) (a1 : Int) : Option (r03_Slab × Int) :=
  (r03_Find a0 a1).bind fun v1 =>
  if (v1.2 != 0) then
    some (a0, v1.2)
  else
  (ix a0.Cells v1.1).bind fun v2 =>
  if (decide (v2.Gen ≥ a0.Last)) then
    (r03_with a0 v1.1 (⟨3, v2.Gen, 0⟩ : r03_Cell)).bind fun v3 =>
    some (v3, 0)
  else
  (r03_with a0 v1.1 (⟨0, w64 (v2.Gen + 1), 0⟩ : r03_Cell)).bind fun v4 =>
  some (v4, 0)

def r03_Tally (a0 : r03_Slab) : Option A4 :=
  jn (fun (j9 : A4) =>
    some j9) (fun κ8 =>
    (lp (S := Int × A4) (E := A4) (fun ((s11, s12) : Int × A4) =>
      if (decide (s11 < (a0.Cells.length : Int))) then
        (ix a0.Cells s11).bind fun v15 =>
        (A4.ix s12 (bitand .i64 v15.State 3)).bind fun v16 =>
        some (.inl (w64 (s11 + 1), (A4.st s12 (bitand .i64 v15.State 3) (w64 (v16 + 1)))))
      else
      some (.inr s12)) (0, (⟨0, 0, 0, 0⟩ : A4))).bind fun e10 =>
    κ8 e10)

def w03_SlabActs (a0 : slab_Slab_int) (a1 : Int) (a2 : Int) : Option Bool :=
  (w03_right a0).bind fun v1 =>
  (onlyIf ((!v1) == false) false w03_shown).bind fun v2 =>
  if ((!v1) || (!v2)) then
    (w03_shown).bind fun v3 =>
    some v3
  else
  (w03_its a0).bind fun v4 =>
  (slab_Take_int a0 a2).bind fun v5 =>
  (r03_Take v4 a2).bind fun v6 =>
  (slab_Find_int a0 a1).bind fun v7 =>
  (r03_Find v4 a1).bind fun v8 =>
  (slab_Get_int a0 a1).bind fun v9 =>
  (r03_Get v4 a1).bind fun v10 =>
  (w03_its v5.1).bind fun v11 =>
  (r03_Same v11 v6.1).bind fun v12 =>
  if (((((((!v12) || (v5.2.1 != v6.2.1)) || (v5.2.2 != v6.2.2)) || (v7.1 != v8.1)) || (v7.2 != v8.2)) || (v9.1 != v10.1)) || (v9.2 != v10.2)) then
    some false
  else
  (slab_Set_int a0 a1 a2).bind fun v13 =>
  (r03_Set v4 a1 a2).bind fun v14 =>
  (slab_Kill_int a0 a1).bind fun v15 =>
  (r03_Kill v4 a1).bind fun v16 =>
  (slab_Give_int a0 a1).bind fun v17 =>
  (r03_Give v4 a1).bind fun v18 =>
  (w03_its v13.1).bind fun v19 =>
  (r03_Same v19 v14.1).bind fun v20 =>
  (onlyIf ((v20 && (v13.2 == v14.2)) == true) ⟨[], 0⟩ (w03_its v15.1)).bind fun v21 =>
  (onlyIf ((v20 && (v13.2 == v14.2)) == true) false (r03_Same v21 v16.1)).bind fun v22 =>
  (onlyIf ((((v20 && (v13.2 == v14.2)) && v22) && (v15.2 == v16.2)) == true) ⟨[], 0⟩ (w03_its v17.1)).bind fun v23 =>
  (onlyIf ((((v20 && (v13.2 == v14.2)) && v22) && (v15.2 == v16.2)) == true) false (r03_Same v23 v18.1)).bind fun v24 =>
  (onlyIf ((((((v20 && (v13.2 == v14.2)) && v22) && (v15.2 == v16.2)) && v24) && (v17.2 == v18.2)) == true) ⟨0, 0, 0, 0⟩ (slab_Tally_int a0)).bind fun v25 =>
  (onlyIf ((((((v20 && (v13.2 == v14.2)) && v22) && (v15.2 == v16.2)) && v24) && (v17.2 == v18.2)) == true) ⟨0, 0, 0, 0⟩ (r03_Tally v4)).bind fun v26 =>
  some ((((((v20 && (v13.2 == v14.2)) && v22) && (v15.2 == v16.2)) && v24) && (v17.2 == v18.2)) && ((v25.a == v26.a) && ((v25.b == v26.b) && ((v25.c == v26.c) && ((v25.d == v26.d) && true)))))

def r03_New (a0 : Int) (a1 : Int) : Option r03_Slab :=
  if ((((decide (a0 < 0)) || (decide (a0 > 24))) || (decide (a1 < 0))) || (decide (a1 > 9))) then
    some (⟨[], 0⟩ : r03_Slab)
  else
  (mk 24 a0 (⟨0, 0, 0⟩ : r03_Cell)).bind fun v1 =>
  some (⟨v1, a1⟩ : r03_Slab)

def w03_SlabNew (a0 : Int) (a1 : Int) : Option Bool :=
  (slab_New_int a0 a1).bind fun v1 =>
  (onlyIf ((decide ((v1.Cells.length : Int) ≤ 24)) == true) ⟨[], 0⟩ (w03_its v1)).bind fun v2 =>
  (onlyIf ((decide ((v1.Cells.length : Int) ≤ 24)) == true) ⟨[], 0⟩ (r03_New a0 a1)).bind fun v3 =>
  (onlyIf ((decide ((v1.Cells.length : Int) ≤ 24)) == true) false (r03_Same v2 v3)).bind fun v4 =>
  (onlyIf (((decide ((v1.Cells.length : Int) ≤ 24)) && v4) == true) false w03_shown).bind fun v5 =>
  some (((decide ((v1.Cells.length : Int) ≤ 24)) && v4) && v5)

def w03_SlabTakes (a0 : Int) (a1 : Int) : Option Bool :=
  (rem (w64 a0) 25).bind fun v1 =>
  (rem (w64 a1) 10).bind fun v2 =>
  (slab_New_int v1 v2).bind fun v3 =>
  jn (fun (j12 : slab_Slab_int) =>
    (slab_Take_int j12 1).bind fun v13 =>
    (onlyIf (((v13.2.2 == 4) && (v13.2.1 == 0)) == true) ⟨0, 0, 0, 0⟩ (slab_Tally_int j12)).bind fun v14 =>
    (onlyIf ((((v13.2.2 == 4) && (v13.2.1 == 0)) && ((v14.a == 0) && ((v14.b == 0) && ((v14.c == 0) && ((v14.d == v1) && true))))) == true) false w03_shown).bind fun v15 =>
    some ((((v13.2.2 == 4) && (v13.2.1 == 0)) && ((v14.a == 0) && ((v14.b == 0) && ((v14.c == 0) && ((v14.d == v1) && true))))) && v15)) (fun κ11 =>
    (lp (S := Int × slab_Slab_int) (E := Bool ⊕ slab_Slab_int) (fun ((s17, s18) : Int × slab_Slab_int) =>
      if (decide (s17 < (w64 (v1 * (w64 (v2 + 1)))))) then
        (slab_Take_int s18 s17).bind fun v21 =>
        (slab_Give_int v21.1 v21.2.1).bind fun v22 =>
        if (((v21.2.2 != 0) || (v22.2 != 0)) || (v21.2.1 == 0)) then
          some (.inr (.inl false))
        else
        some (.inl (w64 (s17 + 1), v22.1))
      else
      some (.inr (.inr s18))) (0, v3)).bind fun e16 =>
    match e16 with
    | .inl w => some w
    | .inr w => κ11 w)

def w03_SlabStale (a0 : slab_Slab_int) (a1 : Int) (a2 : List Int) : Option Bool :=
  (w03_right a0).bind fun v1 =>
  (onlyIf (((!v1) || (decide ((a2.length : Int) > 40))) == false) false w03_shown).bind fun v2 =>
  if (((!v1) || (decide ((a2.length : Int) > 40))) || (!v2)) then
    (w03_shown).bind fun v3 =>
    some v3
  else
  (slab_Give_int a0 a1).bind fun v4 =>
  if (v4.2 != 0) then
    some true
  else
  jn (fun (_ : Unit) =>
    some true) (fun κ29 =>
    (lp (S := Int × Int × slab_Slab_int) (E := Bool ⊕ Unit) (fun ((s32, s33, s34) : Int × Int × slab_Slab_int) =>
      if (decide (s33 < (a2.length : Int))) then
        jn (fun ((j44, j45) : Int × slab_Slab_int) =>
          (slab_Get_int j45 a1).bind fun v47 =>
          (slab_Find_int j45 a1).bind fun v48 =>
          if (((v47.2 != 3) || (v48.2 != 3)) || (j44 == a1)) then
            some (.inr (.inl false))
          else
          some (.inl (j44, w64 (s33 + 1), j45))) (fun κ43 =>
          (ix a2 s33).bind fun v49 =>
          (rem v49 2).bind fun v50 =>
          if (v50 == 0) then
            (slab_Take_int s34 v49).bind fun v51 =>
            jn (fun (j53 : Int) =>
              κ43 (j53, v51.1)) (fun κ52 =>
              if (v51.2.2 == 0) then
                κ52 v51.2.1
              else
              κ52 s32)
          else
          (slab_Give_int s34 s32).bind fun v54 =>
          κ43 (s32, v54.1))
      else
      some (.inr (.inr ()))) (0, 0, v4.1)).bind fun e31 =>
    match e31 with
    | .inl w => some w
    | .inr w => κ29 w)

def w03_SlabTallies (a0 : slab_Slab_int) (a1 : Int) (a2 : Int) : Option Bool :=
  (w03_right a0).bind fun v1 =>
  (onlyIf ((!v1) == false) false w03_shown).bind fun v2 =>
  if ((!v1) || (!v2)) then
    (w03_shown).bind fun v3 =>
    some v3
  else
  (slab_Tally_int a0).bind fun v4 =>
  (slab_Take_int a0 a2).bind fun v5 =>
  (slab_Kill_int a0 a1).bind fun v6 =>
  (slab_Give_int a0 a1).bind fun v7 =>
  (slab_Tally_int v5.1).bind fun v8 =>
  (slab_Tally_int v6.1).bind fun v9 =>
  (slab_Tally_int v7.1).bind fun v10 =>
  if ((((w64 ((w64 ((w64 (v4.a + v4.b)) + v4.c)) + v4.d)) != (a0.Cells.length : Int)) || ((v5.2.2 == 0) && ((v8.a != (w64 (v4.a - 1))) || (v8.b != (w64 (v4.b + 1)))))) || ((v5.2.2 != 0) && ((!((v8.a == v4.a) && ((v8.b == v4.b) && ((v8.c == v4.c) && ((v8.d == v4.d) && true))))) || (v4.a != 0)))) then
    some false
  else
  if (((v6.2 == 0) && (((v9.b != (w64 (v4.b - 1))) || (v9.c != (w64 (v4.c + 1)))) || (v9.a != v4.a))) || ((v6.2 != 0) && (!((v9.a == v4.a) && ((v9.b == v4.b) && ((v9.c == v4.c) && ((v9.d == v4.d) && true))))))) then
    some false
  else
  some (((v7.2 == 0) == ((w64 (v10.b + v10.c)) == (w64 ((w64 (v4.b + v4.c)) - 1)))) && ((w64 (v10.a + v10.d)) == (w64 ((w64 ((w64 (v4.a + v4.d)) + (a0.Cells.length : Int))) - (w64 ((w64 ((w64 (v4.a + v4.d)) + v10.b)) + v10.c))))))

def slab_New_string (a0 : Int) (a1 : Int) : Option slab_Slab_string :=
  if ((((decide (a0 < 0)) || (decide (a0 > 24))) || (decide (a1 < 0))) || (decide (a1 > 9))) then
    some (⟨[], 0⟩ : slab_Slab_string)
  else
  (mk 32 a0 (⟨0, 0, ByteArray.empty⟩ : slab_Cell_string)).bind fun v1 =>
  some (⟨v1, a1⟩ : slab_Slab_string)

def slab_free_string (a0 : slab_Slab_string) : Option slab_Slab_string :=
  some a0

def slices_Clone_slab_Cell_string_slab_Cell_string (a0 : List slab_Cell_string) : Option (List slab_Cell_string) :=
  app 32 [] a0


def slab_with_string (a0 : slab_Slab_string) (a1 : Int) (a2 : slab_Cell_string) : Option slab_Slab_string :=
  (slices_Clone_slab_Cell_string_slab_Cell_string a0.Cells).bind fun v1 =>
  (ix v1 a1).bind fun v2 =>
  some (⟨(v1.set (a1).toNat a2), a0.Last⟩ : slab_Slab_string)

def slab_Take_string (a0 : slab_Slab_string) (a1 : ByteArray) : Option (slab_Slab_string × Int × Int) :=
  jn (fun (_ : Unit) =>
    some (a0, 0, 4)) (fun κ9 =>
    (slab_free_string a0).bind fun v11 =>
    (lp (S := Int) (E := (slab_Slab_string × Int × Int) ⊕ Unit) (fun (s13 : Int) =>
      if (decide (s13 < (v11.Cells.length : Int))) then
        (ix v11.Cells s13).bind fun v15 =>
        if ((v15.State == 0) == true) then
          (ix a0.Cells s13).bind fun v16 =>
          (slab_with_string a0 s13 (⟨1, v16.Gen, a1⟩ : slab_Cell_string)).bind fun v17 =>
          (handle_Pack s13 v16.Gen).bind fun v18 =>
          some (.inr (.inl (v17, v18, 0)))
        else
        some (.inl (w64 (s13 + 1)))
      else
      some (.inr (.inr ()))) 0).bind fun e12 =>
    match e12 with
    | .inl w => some w
    | .inr w => κ9 w)

def slab_Find_string (a0 : slab_Slab_string) (a1 : Int) : Option (Int × Int) :=
  if (a1 == 0) then
    some ((-1), 2)
  else
  (handle_Slot a1).bind fun v1 =>
  if ((decide (v1 < 0)) || (decide (v1 ≥ (a0.Cells.length : Int)))) then
    some ((-1), 3)
  else
  (ix a0.Cells v1).bind fun v2 =>
  (handle_Gen a1).bind fun v3 =>
  if ((v2.Gen != v3) || ((v2.State != 1) && (v2.State != 2))) then
    some ((-1), 3)
  else
  some (v1, 0)

def slab_Get_string (a0 : slab_Slab_string) (a1 : Int) : Option (ByteArray × Int) :=
  (slab_Find_string a0 a1).bind fun v1 =>
  if (v1.2 != 0) then
    some (ByteArray.empty, v1.2)
  else
  (ix a0.Cells v1.1).bind fun v2 =>
  if (v2.State == 2) then
    some (ByteArray.empty, 3)
  else
  some (v2.Val, 0)

def slab_Set_string (a0 : slab_Slab_string) (a1 : Int) (a2 : ByteArray) : Option (slab_Slab_string × Int) :=
  (slab_Find_string a0 a1).bind fun v1 =>
  if (v1.2 != 0) then
    some (a0, v1.2)
  else
  (ix a0.Cells v1.1).bind fun v2 =>
  (slab_with_string a0 v1.1 (⟨v2.State, v2.Gen, a2⟩ : slab_Cell_string)).bind fun v3 =>
  some (v3, 0)

def w03_SlabTexts (a0 : Int) (a1 : List ByteArray) (a2 : ByteArray) : Option Bool :=
  (rem (w64 a0) 24).bind fun v1 =>
  (onlyIf ((decide ((a1.length : Int) > 60)) == false) false w03_shown).bind fun v2 =>
  if ((decide ((a1.length : Int) > 60)) || (!v2)) then
    (w03_shown).bind fun v3 =>
    some v3
  else
  (slab_New_string (w64 (1 + v1)) 2).bind fun v4 =>
  jn (fun ((j18, j19) : slab_Slab_string × (List Int)) =>
    jn (fun (_ : Unit) =>
      some true) (fun κ48 =>
      (lp (S := Int) (E := Bool ⊕ Unit) (fun (s51 : Int) =>
        if (decide (s51 < (j19.length : Int))) then
          jn (fun (_ : Unit) =>
            some (.inl (w64 (s51 + 1)))) (fun κ64 =>
            (ix j19 s51).bind fun v66 =>
            (slab_Get_string j18 v66).bind fun v67 =>
            (slab_Set_string j18 v66 a2).bind fun v68 =>
            (slab_Get_string v68.1 v66).bind fun v69 =>
            (onlyIf (((v67.2 != 0) || (v68.2 != 0)) == false) (ByteArray.empty : ByteArray) (ix a1 s51)).bind fun v70 =>
            if ((((v67.2 != 0) || (v68.2 != 0)) || (!(v67.1.toList == v70.toList))) || (!(v69.1.toList == a2.toList))) then
              some (.inr (.inl false))
            else
            (lp (S := Int) (E := Bool ⊕ Unit) (fun (s72 : Int) =>
              if (decide (s72 < s51)) then
                (ix j19 s72).bind fun v74 =>
                (slab_Get_string v68.1 v74).bind fun v75 =>
                (ix a1 s72).bind fun v76 =>
                if ((!(v75.1.toList == v76.toList)) || (v74 == v66)) then
                  some (.inr (.inl false))
                else
                some (.inl (w64 (s72 + 1)))
              else
              some (.inr (.inr ()))) 0).bind fun e71 =>
            match e71 with
            | .inl w => some (.inr (.inl w))
            | .inr w => κ64 w)
        else
        some (.inr (.inr ()))) 0).bind fun e50 =>
      match e50 with
      | .inl w => some w
      | .inr w => κ48 w)) (fun κ17 =>
    (lp (S := Int × slab_Slab_string × (List Int)) (E := Bool ⊕ (slab_Slab_string × (List Int))) (fun ((s78, s79, s80) : Int × slab_Slab_string × (List Int)) =>
      if (decide (s78 < (a1.length : Int))) then
        (ix a1 s78).bind fun v83 =>
        (slab_Take_string s79 v83).bind fun v84 =>
        if ((v84.2.2 == 0) != (decide (s78 < (w64 (1 + v1))))) then
          some (.inr (.inl false))
        else
        jn (fun (j87 : List Int) =>
          some (.inl (w64 (s78 + 1), v84.1, j87))) (fun κ86 =>
          if (v84.2.2 == 0) then
            (app 8 s80 [v84.2.1]).bind fun v88 =>
            κ86 v88
          else
          κ86 s80)
      else
      some (.inr (.inr (s79, s80)))) (0, v4, [])).bind fun e77 =>
    match e77 with
    | .inl w => some w
    | .inr w => κ17 w)

def w03_SlabFirst (a0 : slab_Slab_int) (a1 : Int) (a2 : Int) : Option Bool :=
  (w03_right a0).bind fun v1 =>
  (onlyIf ((!v1) == false) false w03_shown).bind fun v2 =>
  if ((!v1) || (!v2)) then
    (w03_shown).bind fun v3 =>
    some v3
  else
  (slab_Get_int a0 a2).bind fun v4 =>
  (slab_Take_int a0 a1).bind fun v5 =>
  (slab_Get_int v5.1 a2).bind fun v6 =>
  if (v5.2.2 != 0) then
    some (((v5.2.1 == 0) && (v4.1 == v6.1)) && (v4.2 == v6.2))
  else
  (slab_Find_int v5.1 v5.2.1).bind fun v7 =>
  (onlyIf ((((v7.2 != 0) || (decide (v7.1 < 0))) || (decide (v7.1 ≥ (a0.Cells.length : Int)))) == false) (⟨0, 0, 0⟩ : slab_Cell_int) (ix a0.Cells v7.1)).bind fun v8 =>
  if ((((v7.2 != 0) || (decide (v7.1 < 0))) || (decide (v7.1 ≥ (a0.Cells.length : Int)))) || (v8.State != 0)) then
    some false
  else
  jn (fun (_ : Unit) =>
    (slab_Get_int v5.1 v5.2.1).bind fun v15 =>
    some (((v15.1 == a1) && (v15.2 == 0)) && ((a2 == v5.2.1) || ((v4.1 == v6.1) && (v4.2 == v6.2))))) (fun κ13 =>
    (lp (S := Int) (E := Bool ⊕ Unit) (fun (s17 : Int) =>
      if (decide (s17 < v7.1)) then
        (ix a0.Cells s17).bind fun v19 =>
        if (v19.State == 0) then
          some (.inr (.inl false))
        else
        some (.inl (w64 (s17 + 1)))
      else
      some (.inr (.inr ()))) 0).bind fun e16 =>
    match e16 with
    | .inl w => some w
    | .inr w => κ13 w)

def w03_SlabAlone (a0 : slab_Slab_int) (a1 : Int) (a2 : Int) (a3 : Int) : Option Bool :=
  (w03_right a0).bind fun v1 =>
  (onlyIf (((!v1) || (a1 == a3)) == false) false w03_shown).bind fun v2 =>
  if (((!v1) || (a1 == a3)) || (!v2)) then
    (w03_shown).bind fun v3 =>
    some v3
  else
  (slab_Get_int a0 a3).bind fun v4 =>
  (slab_Set_int a0 a1 a2).bind fun v5 =>
  (slab_Kill_int a0 a1).bind fun v6 =>
  (slab_Give_int a0 a1).bind fun v7 =>
  (slab_Get_int v5.1 a3).bind fun v8 =>
  (slab_Get_int v6.1 a3).bind fun v9 =>
  (slab_Get_int v7.1 a3).bind fun v10 =>
  some ((((((v8.1 == v4.1) && (v8.2 == v4.2)) && (v9.1 == v4.1)) && (v9.2 == v4.2)) && (v10.1 == v4.1)) && (v10.2 == v4.2))

end Go.Sh
