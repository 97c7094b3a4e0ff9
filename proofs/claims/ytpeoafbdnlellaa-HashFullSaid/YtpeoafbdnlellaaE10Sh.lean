/-
  Plain functions: what the functions of the program come to.
-/
import Derived.Test.YtpeoafbdnlellaaSh0
namespace Go.Sh
set_option linter.unusedVariables false
set_option maxRecDepth 100000
structure hash_Place where
  State : Int
  Key : Int
  Val : Int

structure r10_Place where
  State : Int
  Key : Int
  Val : Int

def w10_its (a0 : List hash_Place) : Option (List r10_Place) :=
  jn (fun (j9 : List r10_Place) =>
    some j9) (fun κ8 =>
    (lp (S := Int × (List r10_Place)) (E := (List r10_Place)) (fun ((s11, s12) : Int × (List r10_Place)) =>
      if (decide (s11 < (a0.length : Int))) then
        (ix a0 s11).bind fun v15 =>
        (app 24 s12 [(⟨v15.State, v15.Key, v15.Val⟩ : r10_Place)]).bind fun v16 =>
        some (.inl (w64 (s11 + 1), v16))
      else
      some (.inr s12)) (0, [])).bind fun e10 =>
    κ8 e10)

def r10_Find (a0 : List r10_Place) (a1 : Int) : Option Int :=
  jn (fun (_ : Unit) =>
    some (-1)) (fun κ5 =>
    (lp (S := Int) (E := Int ⊕ Unit) (fun (s8 : Int) =>
      if (decide (s8 < (a0.length : Int))) then
        (ix a0 s8).bind fun v10 =>
        if ((v10.State == 1) && (v10.Key == a1)) then
          some (.inr (.inl s8))
        else
        some (.inl (w64 (s8 + 1)))
      else
      some (.inr (.inr ()))) 0).bind fun e7 =>
    match e7 with
    | .inl w => some w
    | .inr w => κ5 w)

def r10_Home (a0 : Int) (a1 : Int) : Option Int :=
  if (decide (a0 < 1)) then
    some 0
  else
  (rem (w64 ((w64 (5 * a1)) + 1)) a0).bind fun v1 =>
  if (decide (v1 < 0)) then
    some (w64 (v1 + a0))
  else
  some v1

def r10_Right (a0 : List r10_Place) : Option Bool :=
  if ((decide ((a0.length : Int) < 1)) || (decide ((a0.length : Int) > 8))) then
    some false
  else
  jn (fun (_ : Unit) =>
    some true) (fun κ22 =>
    (lp (S := Int) (E := Bool ⊕ Unit) (fun (s25 : Int) =>
      if (decide (s25 < (a0.length : Int))) then
        jn (fun (_ : Unit) =>
          some (.inl (w64 (s25 + 1)))) (fun κ35 =>
          (ix a0 s25).bind fun v37 =>
          if (((decide (v37.State < 0)) || (decide (v37.State > 2))) || ((v37.State != 1) && ((v37.Key != 0) || (v37.Val != 0)))) then
            some (.inr (.inl false))
          else
          if (v37.State != 1) then
            κ35 ()
          else
          (r10_Find a0 v37.Key).bind fun v38 =>
          if (v38 != s25) then
            some (.inr (.inl false))
          else
          (r10_Home (a0.length : Int) v37.Key).bind fun v39 =>
          (lp (S := Int) (E := Bool ⊕ Unit) (fun (s41 : Int) =>
            if (s41 != s25) then
              (ix a0 s41).bind fun v43 =>
              if (v43.State == 0) then
                some (.inr (.inl false))
              else
              (rem (w64 (s41 + 1)) (a0.length : Int)).bind fun v44 =>
              some (.inl v44)
            else
            some (.inr (.inr ()))) v39).bind fun e40 =>
          match e40 with
          | .inl w => some (.inr (.inl w))
          | .inr w => κ35 w)
      else
      some (.inr (.inr ()))) 0).bind fun e24 =>
    match e24 with
    | .inl w => some w
    | .inr w => κ22 w)

def w10_right (a0 : List hash_Place) : Option Bool :=
  (onlyIf ((decide ((a0.length : Int) ≤ 8)) == true) [] (w10_its a0)).bind fun v1 =>
  (onlyIf ((decide ((a0.length : Int) ≤ 8)) == true) false (r10_Right v1)).bind fun v2 =>
  some ((decide ((a0.length : Int) ≤ 8)) && v2)

def hash_New (a0 : Int) : Option (List hash_Place) :=
  if ((decide (a0 < 1)) || (decide (a0 > 8))) then
    some []
  else
  (mk 24 a0 (⟨0, 0, 0⟩ : hash_Place)).bind fun v1 =>
  some v1

def hash_road (a0 : Int) (a1 : Int) : Option (Int × Int) :=
  some (a0, a1)

def hash_Home (a0 : Int) (a1 : Int) : Option Int :=
  if (decide (a0 < 1)) then
    some 0
  else
  (rem (w64 ((w64 (5 * a1)) + 1)) a0).bind fun v1 =>
  if (decide (v1 < 0)) then
    some (w64 (v1 + a0))
  else
  some v1

def hash_Find (a0 : List hash_Place) (a1 : Int) : Option Int :=
  jn (fun (_ : Unit) =>
    some (-1)) (fun κ8 =>
    (hash_road (a0.length : Int) a1).bind fun v10 =>
    (lp (S := Int) (E := Int ⊕ Unit) (fun (s12 : Int) =>
      if (decide (s12 < v10.1)) then
        (hash_Home v10.1 v10.2).bind fun v14 =>
        (rem (w64 (v14 + s12)) v10.1).bind fun v15 =>
        (ix a0 v15).bind fun v16 =>
        if (v16.State == 0) then
          some (.inr (.inr ()))
        else
        if ((v16.State == 1) && (v16.Key == a1)) then
          some (.inr (.inl v15))
        else
        some (.inl (w64 (s12 + 1)))
      else
      some (.inr (.inr ()))) 0).bind fun e11 =>
    match e11 with
    | .inl w => some w
    | .inr w => κ8 w)

def slices_Clone_hash_Place_hash_Place (a0 : List hash_Place) : Option (List hash_Place) :=
  app 24 [] a0


def hash_with (a0 : List hash_Place) (a1 : Int) (a2 : hash_Place) : Option (List hash_Place) :=
  (slices_Clone_hash_Place_hash_Place a0).bind fun v1 =>
  (ix v1 a1).bind fun v2 =>
  some (v1.set (a1).toNat a2)

def hash_Put (a0 : List hash_Place) (a1 : Int) (a2 : Int) : Option ((List hash_Place) × Int) :=
  (hash_Find a0 a1).bind fun v1 =>
  if (decide (v1 ≥ 0)) then
    (hash_with a0 v1 (⟨1, a1, a2⟩ : hash_Place)).bind fun v2 =>
    some (v2, 0)
  else
  jn (fun (_ : Unit) =>
    some (a0, 8)) (fun κ11 =>
    (hash_road (a0.length : Int) a1).bind fun v13 =>
    (lp (S := Int) (E := ((List hash_Place) × Int) ⊕ Unit) (fun (s15 : Int) =>
      if (decide (s15 < v13.1)) then
        (hash_Home v13.1 v13.2).bind fun v17 =>
        (rem (w64 (v17 + s15)) v13.1).bind fun v18 =>
        (ix a0 v18).bind fun v19 =>
        if (v19.State != 1) then
          (hash_with a0 v18 (⟨1, a1, a2⟩ : hash_Place)).bind fun v20 =>
          some (.inr (.inl (v20, 0)))
        else
        some (.inl (w64 (s15 + 1)))
      else
      some (.inr (.inr ()))) 0).bind fun e14 =>
    match e14 with
    | .inl w => some w
    | .inr w => κ11 w)

def hash_Drop (a0 : List hash_Place) (a1 : Int) : Option ((List hash_Place) × Int × Int) :=
  (hash_Find a0 a1).bind fun v1 =>
  if (decide (v1 < 0)) then
    some (a0, 0, 9)
  else
  (hash_with a0 v1 (⟨2, 0, 0⟩ : hash_Place)).bind fun v2 =>
  (ix a0 v1).bind fun v3 =>
  some (v2, v3.Val, 0)

def hash_Get (a0 : List hash_Place) (a1 : Int) : Option (Int × Int) :=
  (hash_Find a0 a1).bind fun v1 =>
  if (decide (v1 < 0)) then
    some (0, 9)
  else
  (ix a0 v1).bind fun v2 =>
  some (v2.Val, 0)

def hash_Keys (a0 : List hash_Place) : Option (List Int) :=
  jn (fun (j13 : List Int) =>
    some j13) (fun κ12 =>
    (lp (S := Int × (List Int)) (E := (List Int)) (fun ((s15, s16) : Int × (List Int)) =>
      if (decide (s15 < (a0.length : Int))) then
        jn (fun (j22 : List Int) =>
          some (.inl (w64 (s15 + 1), j22))) (fun κ21 =>
          (ix a0 s15).bind fun v23 =>
          if (v23.State == 1) then
            (app 8 s16 [v23.Key]).bind fun v24 =>
            κ21 v24
          else
          κ21 s16)
      else
      some (.inr s16)) (0, [])).bind fun e14 =>
    κ12 e14)

def hash_Right (a0 : List hash_Place) : Option Bool :=
  if ((decide ((a0.length : Int) < 1)) || (decide ((a0.length : Int) > 8))) then
    some false
  else
  jn (fun (_ : Unit) =>
    some true) (fun κ6 =>
    (lp (S := Int) (E := Bool ⊕ Unit) (fun (s9 : Int) =>
      if (decide (s9 < (a0.length : Int))) then
        (ix a0 s9).bind fun v11 =>
        (onlyIf (((!(((v11.State == 0) && ((v11.Key == 0) && ((v11.Val == 0) && true))) || ((v11.State == 2) && ((v11.Key == 0) && ((v11.Val == 0) && true))))) == true) && ((v11.State != 1) == false)) 0 (hash_Find a0 v11.Key)).bind fun v12 =>
        if ((!(((v11.State == 0) && ((v11.Key == 0) && ((v11.Val == 0) && true))) || ((v11.State == 2) && ((v11.Key == 0) && ((v11.Val == 0) && true))))) && ((v11.State != 1) || (v12 != s9))) then
          some (.inr (.inl false))
        else
        some (.inl (w64 (s9 + 1)))
      else
      some (.inr (.inr ()))) 0).bind fun e8 =>
    match e8 with
    | .inl w => some w
    | .inr w => κ6 w)

def w10_shown : Option Bool :=
  (hash_New 8).bind fun v1 =>
  (hash_Put v1 0 5).bind fun v2 =>
  (hash_Put v2.1 8 6).bind fun v3 =>
  (hash_Put v3.1 1 7).bind fun v4 =>
  (hash_Drop v4.1 0).bind fun v5 =>
  (hash_Get v5.1 8).bind fun v6 =>
  (hash_Get v5.1 0).bind fun v7 =>
  (hash_Put v5.1 16 9).bind fun v8 =>
  (hash_Keys v8.1).bind fun v9 =>
  (onlyIf (((((((v2.2 == 0) && (v5.2.1 == 5)) && (v5.2.2 == 0)) && (v6.1 == 6)) && (v6.2 == 0)) && (v7.2 == 9)) == true) 0 (hash_Home 8 8)).bind fun v10 =>
  (onlyIf ((((((((v2.2 == 0) && (v5.2.1 == 5)) && (v5.2.2 == 0)) && (v6.1 == 6)) && (v6.2 == 0)) && (v7.2 == 9)) && (v10 == 1)) == true) 0 (hash_Home 8 1)).bind fun v11 =>
  (onlyIf ((((((((((v2.2 == 0) && (v5.2.1 == 5)) && (v5.2.2 == 0)) && (v6.1 == 6)) && (v6.2 == 0)) && (v7.2 == 9)) && (v10 == 1)) && (v11 == 6)) && ((v9.length : Int) == 3)) == true) (0 : Int) (ix v9 0)).bind fun v12 =>
  (onlyIf (((((((((((v2.2 == 0) && (v5.2.1 == 5)) && (v5.2.2 == 0)) && (v6.1 == 6)) && (v6.2 == 0)) && (v7.2 == 9)) && (v10 == 1)) && (v11 == 6)) && ((v9.length : Int) == 3)) && (v12 == 16)) == true) (0 : Int) (ix v9 1)).bind fun v13 =>
  (onlyIf ((((((((((((v2.2 == 0) && (v5.2.1 == 5)) && (v5.2.2 == 0)) && (v6.1 == 6)) && (v6.2 == 0)) && (v7.2 == 9)) && (v10 == 1)) && (v11 == 6)) && ((v9.length : Int) == 3)) && (v12 == 16)) && (v13 == 8)) == true) (0 : Int) (ix v9 2)).bind fun v14 =>
  (onlyIf (((((((((((((v2.2 == 0) && (v5.2.1 == 5)) && (v5.2.2 == 0)) && (v6.1 == 6)) && (v6.2 == 0)) && (v7.2 == 9)) && (v10 == 1)) && (v11 == 6)) && ((v9.length : Int) == 3)) && (v12 == 16)) && (v13 == 8)) && (v14 == 1)) == true) 0 (hash_Find v8.1 8)).bind fun v15 =>
  (onlyIf ((((((((((((((v2.2 == 0) && (v5.2.1 == 5)) && (v5.2.2 == 0)) && (v6.1 == 6)) && (v6.2 == 0)) && (v7.2 == 9)) && (v10 == 1)) && (v11 == 6)) && ((v9.length : Int) == 3)) && (v12 == 16)) && (v13 == 8)) && (v14 == 1)) && (v15 == 2)) == true) false (hash_Right v8.1)).bind fun v16 =>
  (onlyIf (((((((((((((((v2.2 == 0) && (v5.2.1 == 5)) && (v5.2.2 == 0)) && (v6.1 == 6)) && (v6.2 == 0)) && (v7.2 == 9)) && (v10 == 1)) && (v11 == 6)) && ((v9.length : Int) == 3)) && (v12 == 16)) && (v13 == 8)) && (v14 == 1)) && (v15 == 2)) && v16) == true) [] (hash_New 9)).bind fun v17 =>
  some (((((((((((((((v2.2 == 0) && (v5.2.1 == 5)) && (v5.2.2 == 0)) && (v6.1 == 6)) && (v6.2 == 0)) && (v7.2 == 9)) && (v10 == 1)) && (v11 == 6)) && ((v9.length : Int) == 3)) && (v12 == 16)) && (v13 == 8)) && (v14 == 1)) && (v15 == 2)) && v16) && ((v17.length : Int) == 0))

def r10_Get (a0 : List r10_Place) (a1 : Int) : Option (Int × Int) :=
  (r10_Find a0 a1).bind fun v1 =>
  if (decide (v1 < 0)) then
    some (0, 9)
  else
  (ix a0 v1).bind fun v2 =>
  some (v2.Val, 0)

def r10_with (a0 : List r10_Place) (a1 : Int) (a2 : r10_Place) : Option (List r10_Place) :=
  (app 24 [] a0).bind fun v1 =>
  (ix v1 a1).bind fun v2 =>
  some (v1.set (a1).toNat a2)

def r10_Put (a0 : List r10_Place) (a1 : Int) (a2 : Int) : Option ((List r10_Place) × Int) :=
  (r10_Find a0 a1).bind fun v1 =>
  if (decide (v1 ≥ 0)) then
    (r10_with a0 v1 (⟨1, a1, a2⟩ : r10_Place)).bind fun v2 =>
    some (v2, 0)
  else
  (r10_Home (a0.length : Int) a1).bind fun v3 =>
  jn (fun (_ : Unit) =>
    some (a0, 8)) (fun κ12 =>
    (lp (S := Int × Int) (E := ((List r10_Place) × Int) ⊕ Unit) (fun ((s15, s16) : Int × Int) =>
      if (decide (s16 < (a0.length : Int))) then
        (ix a0 s15).bind fun v19 =>
        if (v19.State != 1) then
          (r10_with a0 s15 (⟨1, a1, a2⟩ : r10_Place)).bind fun v20 =>
          some (.inr (.inl (v20, 0)))
        else
        (rem (w64 (s15 + 1)) (a0.length : Int)).bind fun v21 =>
        some (.inl (v21, w64 (s16 + 1)))
      else
      some (.inr (.inr ()))) (v3, 0)).bind fun e14 =>
    match e14 with
    | .inl w => some w
    | .inr w => κ12 w)

def r10_Drop (a0 : List r10_Place) (a1 : Int) : Option ((List r10_Place) × Int × Int) :=
  (r10_Find a0 a1).bind fun v1 =>
  if (decide (v1 < 0)) then
    some (a0, 0, 9)
  else
  (r10_with a0 v1 (⟨2, 0, 0⟩ : r10_Place)).bind fun v2 =>
  (ix a0 v1).bind fun v3 =>
  some (v2, v3.Val, 0)

def r10_Same (a0 : List r10_Place) (a1 : List r10_Place) : Option Bool :=
  if ((a0.length : Int) != (a1.length : Int)) then
    some false
  else
  jn (fun (_ : Unit) =>
    some true) (fun κ6 =>
    (lp (S := Int) (E := Bool ⊕ Unit) (fun (s9 : Int) =>
      if (decide (s9 < (a0.length : Int))) then
        (ix a0 s9).bind fun v11 =>
        (ix a1 s9).bind fun v12 =>
        if (!((v11.State == v12.State) && ((v11.Key == v12.Key) && ((v11.Val == v12.Val) && true)))) then
          some (.inr (.inl false))
        else
        some (.inl (w64 (s9 + 1)))
      else
      some (.inr (.inr ()))) 0).bind fun e8 =>
    match e8 with
    | .inl w => some w
    | .inr w => κ6 w)

def r10_Keys (a0 : List r10_Place) : Option (List Int) :=
  jn (fun (j13 : List Int) =>
    some j13) (fun κ12 =>
    (lp (S := Int × (List Int)) (E := (List Int)) (fun ((s15, s16) : Int × (List Int)) =>
      if (decide (s15 < (a0.length : Int))) then
        jn (fun (j22 : List Int) =>
          some (.inl (w64 (s15 + 1), j22))) (fun κ21 =>
          (ix a0 s15).bind fun v23 =>
          if (v23.State == 1) then
            (app 8 s16 [v23.Key]).bind fun v24 =>
            κ21 v24
          else
          κ21 s16)
      else
      some (.inr s16)) (0, [])).bind fun e14 =>
    κ12 e14)

def r02_Ints (a0 : List Int) (a1 : List Int) : Option Bool :=
  if ((a0.length : Int) != (a1.length : Int)) then
    some false
  else
  jn (fun (_ : Unit) =>
    some true) (fun κ6 =>
    (lp (S := Int) (E := Bool ⊕ Unit) (fun (s9 : Int) =>
      if (decide (s9 < (a0.length : Int))) then
        (ix a0 s9).bind fun v11 =>
        (ix a1 s9).bind fun v12 =>
        if (v11 != v12) then
          some (.inr (.inl false))
        else
        some (.inl (w64 (s9 + 1)))
      else
      some (.inr (.inr ()))) 0).bind fun e8 =>
    match e8 with
    | .inl w => some w
    | .inr w => κ6 w)

def w10_HashActs (a0 : List hash_Place) (a1 : Int) (a2 : Int) : Option Bool :=
  (w10_right a0).bind fun v1 =>
  (onlyIf ((!v1) == false) false w10_shown).bind fun v2 =>
  if ((!v1) || (!v2)) then
    (w10_shown).bind fun v3 =>
    some v3
  else
  (w10_its a0).bind fun v4 =>
  (hash_Get a0 a1).bind fun v5 =>
  (r10_Get v4 a1).bind fun v6 =>
  (hash_Put a0 a1 a2).bind fun v7 =>
  (r10_Put v4 a1 a2).bind fun v8 =>
  (hash_Drop a0 a1).bind fun v9 =>
  (r10_Drop v4 a1).bind fun v10 =>
  (hash_Find a0 a1).bind fun v11 =>
  (r10_Find v4 a1).bind fun v12 =>
  (onlyIf ((((v11 == v12) && (v5.1 == v6.1)) && (v5.2 == v6.2)) == true) [] (w10_its v7.1)).bind fun v13 =>
  (onlyIf ((((v11 == v12) && (v5.1 == v6.1)) && (v5.2 == v6.2)) == true) false (r10_Same v13 v8.1)).bind fun v14 =>
  (onlyIf ((((((v11 == v12) && (v5.1 == v6.1)) && (v5.2 == v6.2)) && v14) && (v7.2 == v8.2)) == true) [] (w10_its v9.1)).bind fun v15 =>
  (onlyIf ((((((v11 == v12) && (v5.1 == v6.1)) && (v5.2 == v6.2)) && v14) && (v7.2 == v8.2)) == true) false (r10_Same v15 v10.1)).bind fun v16 =>
  (onlyIf (((((((((v11 == v12) && (v5.1 == v6.1)) && (v5.2 == v6.2)) && v14) && (v7.2 == v8.2)) && v16) && (v9.2.1 == v10.2.1)) && (v9.2.2 == v10.2.2)) == true) [] (hash_Keys a0)).bind fun v17 =>
  (onlyIf (((((((((v11 == v12) && (v5.1 == v6.1)) && (v5.2 == v6.2)) && v14) && (v7.2 == v8.2)) && v16) && (v9.2.1 == v10.2.1)) && (v9.2.2 == v10.2.2)) == true) [] (r10_Keys v4)).bind fun v18 =>
  (onlyIf (((((((((v11 == v12) && (v5.1 == v6.1)) && (v5.2 == v6.2)) && v14) && (v7.2 == v8.2)) && v16) && (v9.2.1 == v10.2.1)) && (v9.2.2 == v10.2.2)) == true) false (r02_Ints v17 v18)).bind fun v19 =>
  some (((((((((v11 == v12) && (v5.1 == v6.1)) && (v5.2 == v6.2)) && v14) && (v7.2 == v8.2)) && v16) && (v9.2.1 == v10.2.1)) && (v9.2.2 == v10.2.2)) && v19)

def r10_New (a0 : Int) : Option (List r10_Place) :=
  if ((decide (a0 < 1)) || (decide (a0 > 8))) then
    some []
  else
  (mk 24 a0 (⟨0, 0, 0⟩ : r10_Place)).bind fun v1 =>
  some v1

def w10_HashHomes (a0 : Int) (a1 : Int) (a2 : List hash_Place) : Option Bool :=
  (onlyIf ((decide ((a2.length : Int) > 20)) == false) false w10_shown).bind fun v1 =>
  if ((decide ((a2.length : Int) > 20)) || (!v1)) then
    (w10_shown).bind fun v2 =>
    some v2
  else
  (hash_Home a0 a1).bind fun v3 =>
  (r10_Home a0 a1).bind fun v4 =>
  (onlyIf ((v3 == v4) == true) [] (hash_New a0)).bind fun v5 =>
  (onlyIf ((v3 == v4) == true) [] (w10_its v5)).bind fun v6 =>
  (onlyIf ((v3 == v4) == true) [] (r10_New a0)).bind fun v7 =>
  (onlyIf ((v3 == v4) == true) false (r10_Same v6 v7)).bind fun v8 =>
  (onlyIf (((v3 == v4) && v8) == true) false (hash_Right a2)).bind fun v9 =>
  (onlyIf (((v3 == v4) && v8) == true) [] (w10_its a2)).bind fun v10 =>
  (onlyIf (((v3 == v4) && v8) == true) false (r10_Right v10)).bind fun v11 =>
  some (((v3 == v4) && v8) && (v9 == v11))

def w10_HashStays (a0 : List hash_Place) (a1 : List Int) : Option Bool :=
  (w10_right a0).bind fun v1 =>
  (onlyIf (((!v1) || (decide ((a1.length : Int) > 60))) == false) false w10_shown).bind fun v2 =>
  if (((!v1) || (decide ((a1.length : Int) > 60))) || (!v2)) then
    (w10_shown).bind fun v3 =>
    some v3
  else
  jn (fun (_ : Unit) =>
    some true) (fun κ24 =>
    (lp (S := (List hash_Place) × Int) (E := Bool ⊕ Unit) (fun ((s27, s28) : (List hash_Place) × Int) =>
      if (decide ((w64 (s28 + 1)) < (a1.length : Int))) then
        jn (fun (j38 : List hash_Place) =>
          (w10_right j38).bind fun v39 =>
          if (!v39) then
            some (.inr (.inl false))
          else
          some (.inl (j38, w64 (s28 + 2)))) (fun κ37 =>
          (ix a1 s28).bind fun v40 =>
          (rem v40 3).bind fun v41 =>
          if (v41 == 0) then
            (ix a1 (w64 (s28 + 1))).bind fun v42 =>
            (hash_Drop s27 v42).bind fun v43 =>
            κ37 v43.1
          else
          (ix a1 (w64 (s28 + 1))).bind fun v44 =>
          (hash_Put s27 v44 v40).bind fun v45 =>
          κ37 v45.1)
      else
      some (.inr (.inr ()))) (a0, 0)).bind fun e26 =>
    match e26 with
    | .inl w => some w
    | .inr w => κ24 w)

def w10_HashMaps (a0 : List Int) : Option Bool :=
  (onlyIf ((decide ((a0.length : Int) > 60)) == false) false w10_shown).bind fun v1 =>
  if ((decide ((a0.length : Int) > 60)) || (!v1)) then
    (w10_shown).bind fun v2 =>
    some v2
  else
  (hash_New 8).bind fun v3 =>
  jn (fun (_ : Unit) =>
    some true) (fun κ82 =>
    (lp (S := (List hash_Place) × Int × (List (Int × Int))) (E := Bool ⊕ Unit) (fun ((s85, s86, s87) : (List hash_Place) × Int × (List (Int × Int))) =>
      if (decide ((w64 (s86 + 1)) < (a0.length : Int))) then
        jn (fun ((j125, j126) : (List hash_Place) × (List (Int × Int))) =>
          some (.inl (j125, w64 (s86 + 2), j126))) (fun κ124 =>
          (ix a0 (w64 (s86 + 1))).bind fun v128 =>
          jn (fun ((j138, j139) : (List hash_Place) × (List (Int × Int))) =>
            jn (fun (_ : Unit) =>
              (hash_Keys j138).bind fun v148 =>
              if ((v148.length : Int) != (j139.length : Int)) then
                some (.inr (.inl false))
              else
              κ124 (j138, j139)) (fun κ146 =>
              (lp (S := Int) (E := Bool ⊕ Unit) (fun (s150 : Int) =>
                if (decide (s150 ≤ (w64 (s86 + 1)))) then
                  (ix a0 s150).bind fun v152 =>
                  (hash_Get j138 v152).bind fun v153 =>
                  if (((v153.2 == 0) != ((mget j139 v152).isSome)) || ((mget j139 v152).isSome && (v153.1 != ((mget j139 v152).getD (0 : Int))))) then
                    some (.inr (.inl false))
                  else
                  some (.inl (w64 (s150 + 2)))
                else
                some (.inr (.inr ()))) 1).bind fun e149 =>
              match e149 with
              | .inl w => some (.inr (.inl w))
              | .inr w => κ146 w)) (fun κ137 =>
            (ix a0 s86).bind fun v154 =>
            (rem v154 3).bind fun v155 =>
            if (v155 == 0) then
              (hash_Drop s85 v128).bind fun v156 =>
              if ((((v156.2.2 == 0) != ((mget s87 v128).isSome)) == false) && ((mget s87 v128).isSome == true)) then
                if (((v156.2.2 == 0) != ((mget s87 v128).isSome)) || ((mget s87 v128).isSome && (v156.2.1 != ((mget s87 v128).getD (0 : Int))))) then
                  some (.inr (.inl false))
                else
                κ137 (v156.1, (mdel s87 v128))
              else
              if (((v156.2.2 == 0) != ((mget s87 v128).isSome)) || false) then
                some (.inr (.inl false))
              else
              κ137 (v156.1, (mdel s87 v128))
            else
            (hash_Put s85 v128 v154).bind fun v157 =>
            if ((mget s87 v128).isSome == false) then
              if ((v157.2 == 0) != (decide ((s87.length : Int) < 8))) then
                some (.inr (.inl false))
              else
              jn (fun (j159 : List (Int × Int)) =>
                κ137 (v157.1, j159)) (fun κ158 =>
                if (v157.2 == 0) then
                  κ158 (mput s87 v128 v154)
                else
                κ158 s87)
            else
            if ((v157.2 == 0) != true) then
              some (.inr (.inl false))
            else
            jn (fun (j161 : List (Int × Int)) =>
              κ137 (v157.1, j161)) (fun κ160 =>
              if (v157.2 == 0) then
                κ160 (mput s87 v128 v154)
              else
              κ160 s87)))
      else
      some (.inr (.inr ()))) (v3, 0, [])).bind fun e84 =>
    match e84 with
    | .inl w => some w
    | .inr w => κ82 w)

def w10_HashOthers (a0 : List hash_Place) (a1 : Int) (a2 : Int) (a3 : Int) : Option Bool :=
  (w10_right a0).bind fun v1 =>
  (onlyIf (((!v1) || (a1 == a3)) == false) false w10_shown).bind fun v2 =>
  if (((!v1) || (a1 == a3)) || (!v2)) then
    (w10_shown).bind fun v3 =>
    some v3
  else
  (hash_Get a0 a3).bind fun v4 =>
  (hash_Put a0 a1 a2).bind fun v5 =>
  (hash_Drop a0 a1).bind fun v6 =>
  (hash_Get v5.1 a3).bind fun v7 =>
  (hash_Get v6.1 a3).bind fun v8 =>
  some ((((v7.1 == v4.1) && (v7.2 == v4.2)) && (v8.1 == v4.1)) && (v8.2 == v4.2))

def w10_HashFull (a0 : Int) (a1 : List Int) (a2 : Int) : Option Bool :=
  (rem (w64 a0) 8).bind fun v1 =>
  (onlyIf ((decide ((a1.length : Int) > 60)) == false) false w10_shown).bind fun v2 =>
  if ((decide ((a1.length : Int) > 60)) || (!v2)) then
    (w10_shown).bind fun v3 =>
    some v3
  else
  (hash_New (w64 (1 + v1))).bind fun v4 =>
  jn (fun ((j14, j15) : (List hash_Place) × (List (Int × Bool))) =>
    if ((decide ((j15.length : Int) < (w64 (1 + v1)))) == false) then
      if ((mget j15 a2).getD (false : Bool)) then
        some true
      else
      (hash_Keys j14).bind fun v17 =>
      if ((v17.length : Int) != (w64 (1 + v1))) then
        some false
      else
      (hash_Put j14 a2 1).bind fun v18 =>
      (ix v17 0).bind fun v19 =>
      (hash_Drop j14 v19).bind fun v20 =>
      (hash_Put v20.1 a2 1).bind fun v21 =>
      (hash_Get v21.1 a2).bind fun v22 =>
      (onlyIf ((((((v18.2 == 8) && (v20.2.2 == 0)) && (v21.2 == 0)) && (v22.1 == 1)) && (v22.2 == 0)) == true) [] (hash_Keys v21.1)).bind fun v23 =>
      some ((((((v18.2 == 8) && (v20.2.2 == 0)) && (v21.2 == 0)) && (v22.1 == 1)) && (v22.2 == 0)) && ((v23.length : Int) == (w64 (1 + v1))))
    else
    some true) (fun κ13 =>
    (lp (S := (List hash_Place) × Int × (List (Int × Bool))) (E := Bool ⊕ ((List hash_Place) × (List (Int × Bool)))) (fun ((s25, s26, s27) : (List hash_Place) × Int × (List (Int × Bool))) =>
      if ((decide (s26 < (a1.length : Int))) == true) then
        if (decide ((s27.length : Int) < (w64 (1 + v1)))) then
          (ix a1 s26).bind fun v30 =>
          (hash_Put s25 v30 s26).bind fun v31 =>
          if (v31.2 != 0) then
            some (.inr (.inl false))
          else
          some (.inl (v31.1, w64 (s26 + 1), (mput s27 v30 true)))
        else
        some (.inr (.inr (s25, s27)))
      else
      some (.inr (.inr (s25, s27)))) (v4, 0, [])).bind fun e24 =>
    match e24 with
    | .inl w => some w
    | .inr w => κ13 w)

end Go.Sh
