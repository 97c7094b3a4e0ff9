/-
  Plain functions: what the functions of the program come to.
-/
import Derived.Test.YtkjilddlbaibfaaSh0
namespace Go.Sh
set_option linter.unusedVariables false
set_option maxRecDepth 100000
structure hash_Place where
  State : Int
  Key : Int
  Val : Int

structure r10_Place where
  State : Int
  Key : Int
  Val : Int

structure ephem_Pair where
  Key : Int
  Val : Int

structure r11_Pair where
  Key : Int
  Val : Int

def w11_its (a0 : List hash_Place) : Option (List r10_Place) :=
  jn (fun (j9 : List r10_Place) =>
    some j9) (fun κ8 =>
    (lp (S := Int × (List r10_Place)) (E := (List r10_Place)) (fun ((s11, s12) : Int × (List r10_Place)) =>
      if (decide (s11 < (a0.length : Int))) then
        (ix a0 s11).bind fun v15 =>
        (app 24 s12 [(⟨v15.State, v15.Key, v15.Val⟩ : r10_Place)]).bind fun v16 =>
        some (.inl (w64 (s11 + 1), v16))
      else
      some (.inr s12)) (0, [])).bind fun e10 =>
    κ8 e10)

def r10_Find (a0 : List r10_Place) (a1 : Int) : Option Int :=
  jn (fun (_ : Unit) =>
    some (-1)) (fun κ5 =>
    (lp (S := Int) (E := Int ⊕ Unit) (fun (s8 : Int) =>
      if (decide (s8 < (a0.length : Int))) then
        (ix a0 s8).bind fun v10 =>
        if ((v10.State == 1) && (v10.Key == a1)) then
          some (.inr (.inl s8))
        else
        some (.inl (w64 (s8 + 1)))
      else
      some (.inr (.inr ()))) 0).bind fun e7 =>
    match e7 with
    | .inl w => some w
    | .inr w => κ5 w)

def r10_Home (a0 : Int) (a1 : Int) : Option Int :=
  if (decide (a0 < 1)) then
    some 0
  else
  (rem (w64 ((w64 (5 * a1)) + 1)) a0).bind fun v1 =>
  if (decide (v1 < 0)) then
    some (w64 (v1 + a0))
  else
  some v1

def r10_Right (a0 : List r10_Place) : Option Bool :=
  if ((decide ((a0.length : Int) < 1)) || (decide ((a0.length : Int) > 8))) then
    some false
  else
  jn (fun (_ : Unit) =>
    some true) (fun κ22 =>
    (lp (S := Int) (E := Bool ⊕ Unit) (fun (s25 : Int) =>
      if (decide (s25 < (a0.length : Int))) then
        jn (fun (_ : Unit) =>
          some (.inl (w64 (s25 + 1)))) (fun κ35 =>
          (ix a0 s25).bind fun v37 =>
          if (((decide (v37.State < 0)) || (decide (v37.State > 2))) || ((v37.State != 1) && ((v37.Key != 0) || (v37.Val != 0)))) then
            some (.inr (.inl false))
          else
          if (v37.State != 1) then
            κ35 ()
          else
          (r10_Find a0 v37.Key).bind fun v38 =>
          if (v38 != s25) then
            some (.inr (.inl false))
          else
          (r10_Home (a0.length : Int) v37.Key).bind fun v39 =>
          (lp (S := Int) (E := Bool ⊕ Unit) (fun (s41 : Int) =>
            if (s41 != s25) then
              (ix a0 s41).bind fun v43 =>
              if (v43.State == 0) then
                some (.inr (.inl false))
              else
              (rem (w64 (s41 + 1)) (a0.length : Int)).bind fun v44 =>
              some (.inl v44)
            else
            some (.inr (.inr ()))) v39).bind fun e40 =>
          match e40 with
          | .inl w => some (.inr (.inl w))
          | .inr w => κ35 w)
      else
      some (.inr (.inr ()))) 0).bind fun e24 =>
    match e24 with
    | .inl w => some w
    | .inr w => κ22 w)

def w11_right (a0 : List hash_Place) : Option Bool :=
  (onlyIf ((decide ((a0.length : Int) ≤ 8)) == true) [] (w11_its a0)).bind fun v1 =>
  (onlyIf ((decide ((a0.length : Int) ≤ 8)) == true) false (r10_Right v1)).bind fun v2 =>
  some ((decide ((a0.length : Int) ≤ 8)) && v2)

def hash_New (a0 : Int) : Option (List hash_Place) :=
  if ((decide (a0 < 1)) || (decide (a0 > 8))) then
    some []
  else
  (mk 24 a0 (⟨0, 0, 0⟩ : hash_Place)).bind fun v1 =>
  some v1

def hash_road (a0 : Int) (a1 : Int) : Option (Int × Int) :=
  some (a0, a1)

def hash_Home (a0 : Int) (a1 : Int) : Option Int :=
  if (decide (a0 < 1)) then
    some 0
  else
  (rem (w64 ((w64 (5 * a1)) + 1)) a0).bind fun v1 =>
  if (decide (v1 < 0)) then
    some (w64 (v1 + a0))
  else
  some v1

def hash_Find (a0 : List hash_Place) (a1 : Int) : Option Int :=
  jn (fun (_ : Unit) =>
    some (-1)) (fun κ8 =>
    (hash_road (a0.length : Int) a1).bind fun v10 =>
    (lp (S := Int) (E := Int ⊕ Unit) (fun (s12 : Int) =>
      if (decide (s12 < v10.1)) then
        (hash_Home v10.1 v10.2).bind fun v14 =>
        (rem (w64 (v14 + s12)) v10.1).bind fun v15 =>
        (ix a0 v15).bind fun v16 =>
        if (v16.State == 0) then
          some (.inr (.inr ()))
        else
        if ((v16.State == 1) && (v16.Key == a1)) then
          some (.inr (.inl v15))
        else
        some (.inl (w64 (s12 + 1)))
      else
      some (.inr (.inr ()))) 0).bind fun e11 =>
    match e11 with
    | .inl w => some w
    | .inr w => κ8 w)

def hash_Get (a0 : List hash_Place) (a1 : Int) : Option (Int × Int) :=
  (hash_Find a0 a1).bind fun v1 =>
  if (decide (v1 < 0)) then
    some (0, 9)
  else
  (ix a0 v1).bind fun v2 =>
  some (v2.Val, 0)

def slices_Clone_hash_Place_hash_Place (a0 : List hash_Place) : Option (List hash_Place) :=
  app 24 [] a0


def hash_with (a0 : List hash_Place) (a1 : Int) (a2 : hash_Place) : Option (List hash_Place) :=
  (slices_Clone_hash_Place_hash_Place a0).bind fun v1 =>
  (ix v1 a1).bind fun v2 =>
  some (v1.set (a1).toNat a2)

def hash_Drop (a0 : List hash_Place) (a1 : Int) : Option ((List hash_Place) × Int × Int) :=
  (hash_Find a0 a1).bind fun v1 =>
  if (decide (v1 < 0)) then
    some (a0, 0, 9)
  else
  (hash_with a0 v1 (⟨2, 0, 0⟩ : hash_Place)).bind fun v2 =>
  (ix a0 v1).bind fun v3 =>
  some (v2, v3.Val, 0)

def hash_Put (a0 : List hash_Place) (a1 : Int) (a2 : Int) : Option ((List hash_Place) × Int) :=
  (hash_Find a0 a1).bind fun v1 =>
  if (decide (v1 ≥ 0)) then
    (hash_with a0 v1 (⟨1, a1, a2⟩ : hash_Place)).bind fun v2 =>
    some (v2, 0)
  else
  jn (fun (_ : Unit) =>
    some (a0, 8)) (fun κ11 =>
    (hash_road (a0.length : Int) a1).bind fun v13 =>
    (lp (S := Int) (E := ((List hash_Place) × Int) ⊕ Unit) (fun (s15 : Int) =>
      if (decide (s15 < v13.1)) then
        (hash_Home v13.1 v13.2).bind fun v17 =>
        (rem (w64 (v17 + s15)) v13.1).bind fun v18 =>
        (ix a0 v18).bind fun v19 =>
        if (v19.State != 1) then
          (hash_with a0 v18 (⟨1, a1, a2⟩ : hash_Place)).bind fun v20 =>
          some (.inr (.inl (v20, 0)))
        else
        some (.inl (w64 (s15 + 1)))
      else
      some (.inr (.inr ()))) 0).bind fun e14 =>
    match e14 with
    | .inl w => some w
    | .inr w => κ11 w)

def ephem_Set (a0 : List hash_Place) (a1 : Int) (a2 : Int) : Option ((List hash_Place) × Int × Int) :=
  if (a1 == 0) then
    some (a0, 0, 2)
  else
  (hash_Get a0 a1).bind fun v1 =>
  if (a2 == 0) then
    (hash_Drop a0 a1).bind fun v2 =>
    some (v2.1, v1.1, 0)
  else
  (hash_Put a0 a1 a2).bind fun v3 =>
  if (v3.2 != 0) then
    some (a0, 0, v3.2)
  else
  some (v3.1, v1.1, 0)

def ephem_Get (a0 : List hash_Place) (a1 : Int) : Option (Int × Int) :=
  (hash_Get a0 a1).bind fun v1 =>
  some (v1.1, v1.2)

def ephem_Without (a0 : List hash_Place) (a1 : List Int) : Option ((List hash_Place) × (List Int)) :=
  jn (fun ((j18, j19) : (List hash_Place) × (List Int)) =>
    some (j18, j19)) (fun κ17 =>
    (lp (S := (List hash_Place) × Int × (List Int)) (E := ((List hash_Place) × (List Int))) (fun ((s22, s23, s24) : (List hash_Place) × Int × (List Int)) =>
      if (decide (s23 < (a1.length : Int))) then
        jn (fun ((j31, j32) : (List hash_Place) × (List Int)) =>
          some (.inl (j31, w64 (s23 + 1), j32))) (fun κ30 =>
          (ix a1 s23).bind fun v34 =>
          (hash_Drop s22 v34).bind fun v35 =>
          if (v35.2.2 == 0) then
            (app 8 s24 [v35.2.1]).bind fun v36 =>
            κ30 (v35.1, v36)
          else
          κ30 (s22, s24))
      else
      some (.inr (s22, s24))) (a0, 0, [])).bind fun e21 =>
    κ17 e21)

def ephem_pairs (a0 : List hash_Place) : Option (List hash_Place) :=
  some a0

def hash_Keys (a0 : List hash_Place) : Option (List Int) :=
  jn (fun (j13 : List Int) =>
    some j13) (fun κ12 =>
    (lp (S := Int × (List Int)) (E := (List Int)) (fun ((s15, s16) : Int × (List Int)) =>
      if (decide (s15 < (a0.length : Int))) then
        jn (fun (j22 : List Int) =>
          some (.inl (w64 (s15 + 1), j22))) (fun κ21 =>
          (ix a0 s15).bind fun v23 =>
          if (v23.State == 1) then
            (app 8 s16 [v23.Key]).bind fun v24 =>
            κ21 v24
          else
          κ21 s16)
      else
      some (.inr s16)) (0, [])).bind fun e14 =>
    κ12 e14)

def ephem_Owned_1 (a0 : ephem_Pair) (a1 : Int) : Option Bool :=
  some ((a1 != 0) && (a0.Val == a1))

def ephem_gathered_ephem_Pair__ephem_pairs_1__ephem_Owned_1 (a0 : List hash_Place) (a1 : Int) : Option (List ephem_Pair) :=
  jn (fun (j16 : List ephem_Pair) =>
    some j16) (fun κ15 =>
    (hash_Keys a0).bind fun v17 =>
    (lp (S := Int × (List ephem_Pair)) (E := (List ephem_Pair)) (fun ((s19, s20) : Int × (List ephem_Pair)) =>
      if (decide (s19 < (v17.length : Int))) then
        (ix v17 s19).bind fun v23 =>
        (hash_Get a0 v23).bind fun v24 =>
        jn (fun (j28 : List ephem_Pair) =>
          some (.inl (w64 (s19 + 1), j28))) (fun κ27 =>
          (ephem_Owned_1 (⟨v23, v24.1⟩ : ephem_Pair) a1).bind fun v29 =>
          if v29 then
            (app 16 s20 [(⟨v23, v24.1⟩ : ephem_Pair)]).bind fun v30 =>
            κ27 v30
          else
          κ27 s20)
      else
      some (.inr s20)) (0, [])).bind fun e18 =>
    κ15 e18)

def ephem_Owned (a0 : List hash_Place) (a1 : Int) : Option Int :=
  (ephem_pairs a0).bind fun v1 =>
  (ephem_gathered_ephem_Pair__ephem_pairs_1__ephem_Owned_1 v1 a1).bind fun v2 =>
  some (v2.length : Int)

def ephem_Pairs_1 (a0 : ephem_Pair) : Option Bool :=
  some true

def ephem_gathered_ephem_Pair__ephem_pairs_1__ephem_Pairs_1 (a0 : List hash_Place) : Option (List ephem_Pair) :=
  jn (fun (j16 : List ephem_Pair) =>
    some j16) (fun κ15 =>
    (hash_Keys a0).bind fun v17 =>
    (lp (S := Int × (List ephem_Pair)) (E := (List ephem_Pair)) (fun ((s19, s20) : Int × (List ephem_Pair)) =>
      if (decide (s19 < (v17.length : Int))) then
        (ix v17 s19).bind fun v23 =>
        (hash_Get a0 v23).bind fun v24 =>
        jn (fun (j28 : List ephem_Pair) =>
          some (.inl (w64 (s19 + 1), j28))) (fun κ27 =>
          (ephem_Pairs_1 (⟨v23, v24.1⟩ : ephem_Pair)).bind fun v29 =>
          if v29 then
            (app 16 s20 [(⟨v23, v24.1⟩ : ephem_Pair)]).bind fun v30 =>
            κ27 v30
          else
          κ27 s20)
      else
      some (.inr s20)) (0, [])).bind fun e18 =>
    κ15 e18)

def ephem_Pairs (a0 : List hash_Place) : Option (List ephem_Pair) :=
  (ephem_pairs a0).bind fun v1 =>
  (ephem_gathered_ephem_Pair__ephem_pairs_1__ephem_Pairs_1 v1).bind fun v2 =>
  some v2

def w11_shown : Option Bool :=
  (hash_New 8).bind fun v1 =>
  (ephem_Set v1 1 9).bind fun v2 =>
  (ephem_Set v2.1 2 9).bind fun v3 =>
  (ephem_Set v3.1 1 0).bind fun v4 =>
  (ephem_Set v3.1 0 9).bind fun v5 =>
  (ephem_Get v3.1 2).bind fun v6 =>
  (ephem_Without v3.1 [2, 3, 1]).bind fun v7 =>
  (onlyIf (((((((v2.2.1 == 0) && (v2.2.2 == 0)) && (v4.2.1 == 9)) && (v5.2.2 == 2)) && (v6.1 == 9)) && (v6.2 == 0)) == true) 0 (ephem_Owned v3.1 9)).bind fun v8 =>
  (onlyIf ((((((((v2.2.1 == 0) && (v2.2.2 == 0)) && (v4.2.1 == 9)) && (v5.2.2 == 2)) && (v6.1 == 9)) && (v6.2 == 0)) && (v8 == 2)) == true) 0 (ephem_Owned v4.1 9)).bind fun v9 =>
  (onlyIf (((((((((v2.2.1 == 0) && (v2.2.2 == 0)) && (v4.2.1 == 9)) && (v5.2.2 == 2)) && (v6.1 == 9)) && (v6.2 == 0)) && (v8 == 2)) && (v9 == 1)) == true) [] (ephem_Pairs v3.1)).bind fun v10 =>
  (onlyIf ((((((((((v2.2.1 == 0) && (v2.2.2 == 0)) && (v4.2.1 == 9)) && (v5.2.2 == 2)) && (v6.1 == 9)) && (v6.2 == 0)) && (v8 == 2)) && (v9 == 1)) && ((v10.length : Int) == 2)) == true) [] (ephem_Pairs v7.1)).bind fun v11 =>
  some (((((((((((v2.2.1 == 0) && (v2.2.2 == 0)) && (v4.2.1 == 9)) && (v5.2.2 == 2)) && (v6.1 == 9)) && (v6.2 == 0)) && (v8 == 2)) && (v9 == 1)) && ((v10.length : Int) == 2)) && ((v11.length : Int) == 0)) && ((v7.2.length : Int) == 2))

def r10_Get (a0 : List r10_Place) (a1 : Int) : Option (Int × Int) :=
  (r10_Find a0 a1).bind fun v1 =>
  if (decide (v1 < 0)) then
    some (0, 9)
  else
  (ix a0 v1).bind fun v2 =>
  some (v2.Val, 0)

def r10_with (a0 : List r10_Place) (a1 : Int) (a2 : r10_Place) : Option (List r10_Place) :=
  (app 24 [] a0).bind fun v1 =>
  (ix v1 a1).bind fun v2 =>
  some (v1.set (a1).toNat a2)

def r10_Drop (a0 : List r10_Place) (a1 : Int) : Option ((List r10_Place) × Int × Int) :=
  (r10_Find a0 a1).bind fun v1 =>
  if (decide (v1 < 0)) then
    some (a0, 0, 9)
  else
  (r10_with a0 v1 (⟨2, 0, 0⟩ : r10_Place)).bind fun v2 =>
  (ix a0 v1).bind fun v3 =>
  some (v2, v3.Val, 0)

def r10_Put (a0 : List r10_Place) (a1 : Int) (a2 : Int) : Option ((List r10_Place) × Int) :=
  (r10_Find a0 a1).bind fun v1 =>
  if (decide (v1 ≥ 0)) then
    (r10_with a0 v1 (⟨1, a1, a2⟩ : r10_Place)).bind fun v2 =>
    some (v2, 0)
  else
  (r10_Home (a0.length : Int) a1).bind fun v3 =>
  jn (fun (_ : Unit) =>
    some (a0, 8)) (fun κ12 =>
    (lp (S := Int × Int) (E := ((List r10_Place) × Int) ⊕ Unit) (fun ((s15, s16) : Int × Int) =>
      if (decide (s16 < (a0.length : Int))) then
        (ix a0 s15).bind fun v19 =>
        if (v19.State != 1) then
          (r10_with a0 s15 (⟨1, a1, a2⟩ : r10_Place)).bind fun v20 =>
          some (.inr (.inl (v20, 0)))
        else
        (rem (w64 (s15 + 1)) (a0.length : Int)).bind fun v21 =>
        some (.inl (v21, w64 (s16 + 1)))
      else
      some (.inr (.inr ()))) (v3, 0)).bind fun e14 =>
    match e14 with
    | .inl w => some w
    | .inr w => κ12 w)

def r11_Set (a0 : List r10_Place) (a1 : Int) (a2 : Int) : Option ((List r10_Place) × Int × Int) :=
  if (a1 == 0) then
    some (a0, 0, 2)
  else
  (r10_Get a0 a1).bind fun v1 =>
  if (a2 == 0) then
    (r10_Drop a0 a1).bind fun v2 =>
    some (v2.1, v1.1, 0)
  else
  (r10_Put a0 a1 a2).bind fun v3 =>
  if (v3.2 != 0) then
    some (a0, 0, v3.2)
  else
  some (v3.1, v1.1, 0)

def r11_Get (a0 : List r10_Place) (a1 : Int) : Option (Int × Int) :=
  (r10_Get a0 a1).bind fun v1 =>
  some (v1.1, v1.2)

def r11_Without (a0 : List r10_Place) (a1 : List Int) : Option ((List r10_Place) × (List Int)) :=
  jn (fun ((j18, j19) : (List r10_Place) × (List Int)) =>
    some (j18, j19)) (fun κ17 =>
    (lp (S := (List r10_Place) × Int × (List Int)) (E := ((List r10_Place) × (List Int))) (fun ((s22, s23, s24) : (List r10_Place) × Int × (List Int)) =>
      if (decide (s23 < (a1.length : Int))) then
        jn (fun ((j31, j32) : (List r10_Place) × (List Int)) =>
          some (.inl (j31, w64 (s23 + 1), j32))) (fun κ30 =>
          (ix a1 s23).bind fun v34 =>
          (r10_Drop s22 v34).bind fun v35 =>
          if (v35.2.2 == 0) then
            (app 8 s24 [v35.2.1]).bind fun v36 =>
            κ30 (v35.1, v36)
          else
          κ30 (s22, s24))
      else
      some (.inr (s22, s24))) (a0, 0, [])).bind fun e21 =>
    κ17 e21)

def r10_Same (a0 : List r10_Place) (a1 : List r10_Place) : Option Bool :=
  if ((a0.length : Int) != (a1.length : Int)) then
    some false
  else
  jn (fun (_ : Unit) =>
    some true) (fun κ6 =>
    (lp (S := Int) (E := Bool ⊕ Unit) (fun (s9 : Int) =>
      if (decide (s9 < (a0.length : Int))) then
        (ix a0 s9).bind fun v11 =>
        (ix a1 s9).bind fun v12 =>
        if (!((v11.State == v12.State) && ((v11.Key == v12.Key) && ((v11.Val == v12.Val) && true)))) then
          some (.inr (.inl false))
        else
        some (.inl (w64 (s9 + 1)))
      else
      some (.inr (.inr ()))) 0).bind fun e8 =>
    match e8 with
    | .inl w => some w
    | .inr w => κ6 w)

def r02_Ints (a0 : List Int) (a1 : List Int) : Option Bool :=
  if ((a0.length : Int) != (a1.length : Int)) then
    some false
  else
  jn (fun (_ : Unit) =>
    some true) (fun κ6 =>
    (lp (S := Int) (E := Bool ⊕ Unit) (fun (s9 : Int) =>
      if (decide (s9 < (a0.length : Int))) then
        (ix a0 s9).bind fun v11 =>
        (ix a1 s9).bind fun v12 =>
        if (v11 != v12) then
          some (.inr (.inl false))
        else
        some (.inl (w64 (s9 + 1)))
      else
      some (.inr (.inr ()))) 0).bind fun e8 =>
    match e8 with
    | .inl w => some w
    | .inr w => κ6 w)

def w11_pairs (a0 : List ephem_Pair) : Option (List r11_Pair) :=
  jn (fun (j9 : List r11_Pair) =>
    some j9) (fun κ8 =>
    (lp (S := Int × (List r11_Pair)) (E := (List r11_Pair)) (fun ((s11, s12) : Int × (List r11_Pair)) =>
      if (decide (s11 < (a0.length : Int))) then
        (ix a0 s11).bind fun v15 =>
        (app 16 s12 [(⟨v15.Key, v15.Val⟩ : r11_Pair)]).bind fun v16 =>
        some (.inl (w64 (s11 + 1), v16))
      else
      some (.inr s12)) (0, [])).bind fun e10 =>
    κ8 e10)

def r10_Keys (a0 : List r10_Place) : Option (List Int) :=
  jn (fun (j13 : List Int) =>
    some j13) (fun κ12 =>
    (lp (S := Int × (List Int)) (E := (List Int)) (fun ((s15, s16) : Int × (List Int)) =>
      if (decide (s15 < (a0.length : Int))) then
        jn (fun (j22 : List Int) =>
          some (.inl (w64 (s15 + 1), j22))) (fun κ21 =>
          (ix a0 s15).bind fun v23 =>
          if (v23.State == 1) then
            (app 8 s16 [v23.Key]).bind fun v24 =>
            κ21 v24
          else
          κ21 s16)
      else
      some (.inr s16)) (0, [])).bind fun e14 =>
    κ12 e14)

def r11_Pairs (a0 : List r10_Place) : Option (List r11_Pair) :=
  (r10_Keys a0).bind fun v1 =>
  jn (fun (j11 : List r11_Pair) =>
    some j11) (fun κ10 =>
    (lp (S := Int × (List r11_Pair)) (E := (List r11_Pair)) (fun ((s13, s14) : Int × (List r11_Pair)) =>
      if (decide (s13 < (v1.length : Int))) then
        (ix v1 s13).bind fun v17 =>
        (r10_Get a0 v17).bind fun v18 =>
        (app 16 s14 [(⟨v17, v18.1⟩ : r11_Pair)]).bind fun v19 =>
        some (.inl (w64 (s13 + 1), v19))
      else
      some (.inr s14)) (0, [])).bind fun e12 =>
    κ10 e12)

def r11_Same (a0 : List r11_Pair) (a1 : List r11_Pair) : Option Bool :=
  if ((a0.length : Int) != (a1.length : Int)) then
    some false
  else
  jn (fun (_ : Unit) =>
    some true) (fun κ6 =>
    (lp (S := Int) (E := Bool ⊕ Unit) (fun (s9 : Int) =>
      if (decide (s9 < (a0.length : Int))) then
        (ix a0 s9).bind fun v11 =>
        (ix a1 s9).bind fun v12 =>
        if (!((v11.Key == v12.Key) && ((v11.Val == v12.Val) && true))) then
          some (.inr (.inl false))
        else
        some (.inl (w64 (s9 + 1)))
      else
      some (.inr (.inr ()))) 0).bind fun e8 =>
    match e8 with
    | .inl w => some w
    | .inr w => κ6 w)

def r11_Owned (a0 : List r10_Place) (a1 : Int) : Option Int :=
  (r11_Pairs a0).bind fun v1 =>
  jn (fun (j12 : Int) =>
    some j12) (fun κ11 =>
    (lp (S := Int × Int) (E := Int) (fun ((s14, s15) : Int × Int) =>
      if (decide (s15 < (v1.length : Int))) then
        jn (fun (j20 : Int) =>
          some (.inl (j20, w64 (s15 + 1)))) (fun κ19 =>
          (ix v1 s15).bind fun v21 =>
          if ((v21.Val == a1) && (a1 != 0)) then
            κ19 (w64 (s14 + 1))
          else
          κ19 s14)
      else
      some (.inr s14)) (0, 0)).bind fun e13 =>
    κ11 e13)

def w11_EphemActs (a0 : List hash_Place) (a1 : Int) (a2 : Int) (a3 : List Int) : Option Bool :=
  (w11_right a0).bind fun v1 =>
  (onlyIf (((!v1) || (decide ((a3.length : Int) > 30))) == false) false w11_shown).bind fun v2 =>
  if (((!v1) || (decide ((a3.length : Int) > 30))) || (!v2)) then
    (w11_shown).bind fun v3 =>
    some v3
  else
  (w11_its a0).bind fun v4 =>
  (ephem_Set a0 a1 a2).bind fun v5 =>
  (r11_Set v4 a1 a2).bind fun v6 =>
  (ephem_Get a0 a1).bind fun v7 =>
  (r11_Get v4 a1).bind fun v8 =>
  (ephem_Without a0 a3).bind fun v9 =>
  (r11_Without v4 a3).bind fun v10 =>
  (w11_its v5.1).bind fun v11 =>
  (r10_Same v11 v6.1).bind fun v12 =>
  (onlyIf (((((v12 && (v5.2.1 == v6.2.1)) && (v5.2.2 == v6.2.2)) && (v7.1 == v8.1)) && (v7.2 == v8.2)) == true) [] (w11_its v9.1)).bind fun v13 =>
  (onlyIf (((((v12 && (v5.2.1 == v6.2.1)) && (v5.2.2 == v6.2.2)) && (v7.1 == v8.1)) && (v7.2 == v8.2)) == true) false (r10_Same v13 v10.1)).bind fun v14 =>
  (onlyIf ((((((v12 && (v5.2.1 == v6.2.1)) && (v5.2.2 == v6.2.2)) && (v7.1 == v8.1)) && (v7.2 == v8.2)) && v14) == true) false (r02_Ints v9.2 v10.2)).bind fun v15 =>
  (onlyIf (((((((v12 && (v5.2.1 == v6.2.1)) && (v5.2.2 == v6.2.2)) && (v7.1 == v8.1)) && (v7.2 == v8.2)) && v14) && v15) == true) [] (ephem_Pairs a0)).bind fun v16 =>
  (onlyIf (((((((v12 && (v5.2.1 == v6.2.1)) && (v5.2.2 == v6.2.2)) && (v7.1 == v8.1)) && (v7.2 == v8.2)) && v14) && v15) == true) [] (w11_pairs v16)).bind fun v17 =>
  (onlyIf (((((((v12 && (v5.2.1 == v6.2.1)) && (v5.2.2 == v6.2.2)) && (v7.1 == v8.1)) && (v7.2 == v8.2)) && v14) && v15) == true) [] (r11_Pairs v4)).bind fun v18 =>
  (onlyIf (((((((v12 && (v5.2.1 == v6.2.1)) && (v5.2.2 == v6.2.2)) && (v7.1 == v8.1)) && (v7.2 == v8.2)) && v14) && v15) == true) false (r11_Same v17 v18)).bind fun v19 =>
  (onlyIf ((((((((v12 && (v5.2.1 == v6.2.1)) && (v5.2.2 == v6.2.2)) && (v7.1 == v8.1)) && (v7.2 == v8.2)) && v14) && v15) && v19) == true) 0 (ephem_Owned a0 a2)).bind fun v20 =>
  (onlyIf ((((((((v12 && (v5.2.1 == v6.2.1)) && (v5.2.2 == v6.2.2)) && (v7.1 == v8.1)) && (v7.2 == v8.2)) && v14) && v15) && v19) == true) 0 (r11_Owned v4 a2)).bind fun v21 =>
  some ((((((((v12 && (v5.2.1 == v6.2.1)) && (v5.2.2 == v6.2.2)) && (v7.1 == v8.1)) && (v7.2 == v8.2)) && v14) && v15) && v19) && (v20 == v21))

def w11_EphemOwns (a0 : List hash_Place) (a1 : Int) (a2 : Int) : Option Bool :=
  (w11_right a0).bind fun v1 =>
  (onlyIf (((!v1) || (a2 == 0)) == false) false w11_shown).bind fun v2 =>
  if (((!v1) || (a2 == 0)) || (!v2)) then
    (w11_shown).bind fun v3 =>
    some v3
  else
  (ephem_Set a0 a1 a2).bind fun v4 =>
  if ((v4.2.2 != 0) || (v4.2.1 == a2)) then
    (ephem_Owned v4.1 a2).bind fun v5 =>
    (ephem_Owned a0 a2).bind fun v6 =>
    some (v5 == v6)
  else
  (ephem_Owned v4.1 a2).bind fun v7 =>
  (ephem_Owned a0 a2).bind fun v8 =>
  (onlyIf (((v7 == (w64 (v8 + 1))) == true) && ((v4.2.1 == 0) == false)) 0 (ephem_Owned v4.1 v4.2.1)).bind fun v9 =>
  (onlyIf (((v7 == (w64 (v8 + 1))) == true) && ((v4.2.1 == 0) == false)) 0 (ephem_Owned a0 v4.2.1)).bind fun v10 =>
  some ((v7 == (w64 (v8 + 1))) && ((v4.2.1 == 0) || (v9 == (w64 (v10 - 1)))))

def r07_Times (a0 : List Int) (a1 : Int) : Option Int :=
  jn (fun (j11 : Int) =>
    some j11) (fun κ10 =>
    (lp (S := Int × Int) (E := Int) (fun ((s13, s14) : Int × Int) =>
      if (decide (s14 < (a0.length : Int))) then
        jn (fun (j19 : Int) =>
          some (.inl (j19, w64 (s14 + 1)))) (fun κ18 =>
          (ix a0 s14).bind fun v20 =>
          if ((v20 == a1) && (a1 != 0)) then
            κ18 (w64 (s13 + 1))
          else
          κ18 s13)
      else
      some (.inr s13)) (0, 0)).bind fun e12 =>
    κ10 e12)

def w11_EphemGoes (a0 : List hash_Place) (a1 : List Int) : Option Bool :=
  (w11_right a0).bind fun v1 =>
  (onlyIf (((!v1) || (decide ((a1.length : Int) > 30))) == false) false w11_shown).bind fun v2 =>
  if (((!v1) || (decide ((a1.length : Int) > 30))) || (!v2)) then
    (w11_shown).bind fun v3 =>
    some v3
  else
  (ephem_Without a0 a1).bind fun v4 =>
  (w11_its a0).bind fun v5 =>
  (r11_Pairs v5).bind fun v6 =>
  (w11_right v4.1).bind fun v7 =>
  (onlyIf ((!v7) == false) [] (ephem_Pairs v4.1)).bind fun v8 =>
  if ((!v7) || ((w64 ((v8.length : Int) + (v4.2.length : Int))) != (v6.length : Int))) then
    some false
  else
  jn (fun (_ : Unit) =>
    some true) (fun κ52 =>
    (lp (S := Int) (E := Bool ⊕ Unit) (fun (s55 : Int) =>
      if (decide (s55 < (v6.length : Int))) then
        jn (fun (_ : Unit) =>
          some (.inl (w64 (s55 + 1)))) (fun κ76 =>
          jn (fun (j86 : Bool) =>
            (ix v6 s55).bind fun v87 =>
            (ephem_Get v4.1 v87.Key).bind fun v88 =>
            (onlyIf ((((j86 != (v88.2 == 9)) || ((!j86) && (v88.1 != v87.Val))) == false) && ((j86 && (v87.Val != 0)) == true)) 0 (r07_Times v4.2 v87.Val)).bind fun v89 =>
            if (((j86 != (v88.2 == 9)) || ((!j86) && (v88.1 != v87.Val))) || ((j86 && (v87.Val != 0)) && (v89 == 0))) then
              some (.inr (.inl false))
            else
            κ76 ()) (fun κ85 =>
            (lp (S := Bool × Int) (E := Bool) (fun ((s91, s92) : Bool × Int) =>
              if (decide (s92 < (a1.length : Int))) then
                (onlyIf (s91 == false) (0 : Int) (ix a1 s92)).bind fun v95 =>
                (onlyIf (s91 == false) (⟨0, 0⟩ : r11_Pair) (ix v6 s55)).bind fun v96 =>
                some (.inl ((s91 || (v95 == v96.Key)), w64 (s92 + 1)))
              else
              some (.inr s91)) (false, 0)).bind fun e90 =>
            κ85 e90))
      else
      some (.inr (.inr ()))) 0).bind fun e54 =>
    match e54 with
    | .inl w => some w
    | .inr w => κ52 w)

def w11_EphemSum (a0 : List hash_Place) : Option Bool :=
  (w11_right a0).bind fun v1 =>
  (onlyIf ((!v1) == false) false w11_shown).bind fun v2 =>
  if ((!v1) || (!v2)) then
    (w11_shown).bind fun v3 =>
    some v3
  else
  (ephem_Pairs a0).bind fun v4 =>
  jn (fun ((j48, j49) : Int × Int) =>
    some ((j48 == j49) && (decide ((v4.length : Int) ≤ 8)))) (fun κ47 =>
    (lp (S := Int × Int × Int) (E := (Int × Int)) (fun ((s52, s53, s54) : Int × Int × Int) =>
      if ((decide (s54 < (v4.length : Int))) && (decide (s54 < 20))) then
        jn (fun ((j74, j75) : Int × Int) =>
          some (.inl (j74, j75, w64 (s54 + 1)))) (fun κ73 =>
          (ix v4 s54).bind fun v77 =>
          if (v77.Val == 0) then
            κ73 (s52, s53)
          else
          jn (fun (j85 : Bool) =>
            if j85 then
              (ephem_Owned a0 v77.Val).bind fun v86 =>
              κ73 (w64 (s52 + 1), w64 (s53 + v86))
            else
            κ73 (w64 (s52 + 1), s53)) (fun κ84 =>
            (lp (S := Bool × Int) (E := Bool) (fun ((s88, s89) : Bool × Int) =>
              if (decide (s89 < s54)) then
                (onlyIf (s88 == true) (⟨0, 0⟩ : ephem_Pair) (ix v4 s89)).bind fun v92 =>
                some (.inl ((s88 && (v92.Val != v77.Val)), w64 (s89 + 1)))
              else
              some (.inr s88)) (true, 0)).bind fun e87 =>
            κ84 e87))
      else
      some (.inr (s52, s53))) (0, 0, 0)).bind fun e51 =>
    κ47 e51)

def w11_EphemBack (a0 : List hash_Place) (a1 : Int) (a2 : Int) (a3 : Int) : Option Bool :=
  (w11_right a0).bind fun v1 =>
  (onlyIf (((((!v1) || (a1 == 0)) || (a2 == 0)) || (a3 == 0)) == false) false w11_shown).bind fun v2 =>
  if (((((!v1) || (a1 == 0)) || (a2 == 0)) || (a3 == 0)) || (!v2)) then
    (w11_shown).bind fun v3 =>
    some v3
  else
  (ephem_Set a0 a1 a2).bind fun v4 =>
  if (v4.2.2 != 0) then
    (onlyIf ((v4.2.2 == 8) == true) [] (ephem_Pairs a0)).bind fun v5 =>
    some ((v4.2.2 == 8) && ((v5.length : Int) == (a0.length : Int)))
  else
  (ephem_Get v4.1 a1).bind fun v6 =>
  (ephem_Set v4.1 a1 a3).bind fun v7 =>
  (ephem_Set v7.1 a1 0).bind fun v8 =>
  (ephem_Get v8.1 a1).bind fun v9 =>
  some (((((((v6.1 == a2) && (v6.2 == 0)) && (v7.2.1 == a2)) && (v7.2.2 == 0)) && (v8.2.1 == a3)) && (v8.2.2 == 0)) && (v9.2 == 9))

end Go.Sh
