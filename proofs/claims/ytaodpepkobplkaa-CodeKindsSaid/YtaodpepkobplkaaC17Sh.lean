/-
 Plain functions: what the functions of the program come to.
-/
import Derived.Test.YtaodpepkobplkaaC17Sh0
namespace Go.Sh
set_option linter.unusedVariables false
set_option maxRecDepth 100000
structure code_Op where
 Kind : Int
 A : Int
 B : Int
 C : Int
structure code_demand where
 part : Fv
 least : Int
 most : Int
 e : Int
structure r17_Op where
 Kind : Int
 A : Int
 B : Int
 C : Int
def code_root__code_partA : Option code_demand :=
 some (⟨(some 27), 0, 5, 6⟩ : code_demand)
def code_program__code_partC : Option code_demand :=
 some (⟨(some 30), (-1), 5, 13⟩ : code_demand)
def code_asking (a0 : List code_demand) : Option (List code_demand) :=
 some a0
def code_root__code_partB : Option code_demand :=
 some (⟨(some 28), 0, 5, 6⟩ : code_demand)
def code_field__code_partC : Option code_demand :=
 some (⟨(some 30), 0, 3, 5⟩ : code_demand)
def code_field__code_partB : Option code_demand :=
 some (⟨(some 28), 0, 3, 5⟩ : code_demand)
def code_rootOrNone__code_partC : Option code_demand :=
 some (⟨(some 30), (-1), 5, 6⟩ : code_demand)
def code_cell__code_partA : Option code_demand :=
 some (⟨(some 27), 0, 5, 7⟩ : code_demand)
def code_rootOrNone__code_partB : Option code_demand :=
 some (⟨(some 28), (-1), 5, 6⟩ : code_demand)
def code_cell__code_partB : Option code_demand :=
 some (⟨(some 28), 0, 5, 7⟩ : code_demand)
def code_demands : Option (List (Int × (List code_demand))) :=
 (code_root__code_partA).bind fun v1 =>
 (code_program__code_partC).bind fun v2 =>
 (code_asking [v1, (⟨(some 28), 0, 4, 1⟩ : code_demand), v2]).bind fun v3 =>
 (code_root__code_partB).bind fun v4 =>
 (code_asking [v1, v4]).bind fun v5 =>
 (code_asking [v1]).bind fun v6 =>
 (code_field__code_partC).bind fun v7 =>
 (code_asking [v1, v4, v7]).bind fun v8 =>
 (code_field__code_partB).bind fun v9 =>
 (code_rootOrNone__code_partC).bind fun v10 =>
 (code_asking [v1, v9, v10]).bind fun v11 =>
 (code_cell__code_partA).bind fun v12 =>
 (code_rootOrNone__code_partB).bind fun v13 =>
 (code_asking [v12, v13, v2]).bind fun v14 =>
 (code_cell__code_partB).bind fun v15 =>
 (code_asking [v1, v15]).bind fun v16 =>
 (code_asking [v1, v13]).bind fun v17 =>
 (code_asking []).bind fun v18 =>
 (code_asking [(⟨(some 27), 0, 200, 12⟩ : code_demand)]).bind fun v19 =>
 some (mput (mput (mput (mput (mput (mput (mput (mput (mput (mput (mput (mput [] 1 v3) 2 v5) 3 v6) 4 v8) 5 v11) 6 v14) 7 v16) 8 v17) 9 v5) 10 v5) 11 v18) 12 v19)
def code_partA (a0 : code_Op) : Option Int :=
 some a0.A
def code_partB (a0 : code_Op) : Option Int :=
 some a0.B
def code_partC (a0 : code_Op) : Option Int :=
 some a0.C
def fvcall0 (f : Fv) (a0 : code_Op) : Option Int :=
 if f = some 27 then code_partA a0 else
 if f = some 28 then code_partB a0 else
 if f = some 30 then code_partC a0 else
 none
def code_Check (a0 : code_Op) : Option Int :=
 (code_demands).bind fun v1 =>
 if (!((mget v1 a0.Kind).isSome)) then
  some 14
 else
 jn (fun (_ : Unit) =>
  some 0) (fun κ8 =>
  (lp (S := Int) (E := Int ⊕ Unit) (fun (s11 : Int) =>
   if (decide (s11 < (((mget v1 a0.Kind).getD ([] : List code_demand)).length : Int))) then
    (ix ((mget v1 a0.Kind).getD ([] : List code_demand)) s11).bind fun v13 =>
    (fvcall0 v13.part a0).bind fun v14 =>
    if ((decide (v14 < v13.least)) || (decide (v14 > v13.most))) then
     some (.inr (.inl v13.e))
    else
    some (.inl (w64 (s11 + 1)))
   else
   some (.inr (.inr ()))) 0).bind fun e10 =>
  match e10 with
  | .inl w => some w
  | .inr w => κ8 w)
def code_Decode (a0 : List Int) : Option (code_Op × Int) :=
 if ((a0.length : Int) != 4) then
  some ((⟨0, 0, 0, 0⟩ : code_Op), 14)
 else
 (ix a0 0).bind fun v1 =>
 (ix a0 1).bind fun v2 =>
 (ix a0 2).bind fun v3 =>
 (ix a0 3).bind fun v4 =>
 (code_Check (⟨v1, v2, v3, v4⟩ : code_Op)).bind fun v5 =>
 if (v5 != 0) then
  some ((⟨0, 0, 0, 0⟩ : code_Op), v5)
 else
 some ((⟨v1, v2, v3, v4⟩ : code_Op), 0)
def code_Plain (a0 : code_Op) : Option Bool :=
 some ((decide (a0.Kind ≥ 1)) && (decide (a0.Kind ≤ 10)))
def code_Progs (a0 : List (List code_Op)) : Option Bool :=
 if (decide ((a0.length : Int) > 6)) then
  some false
 else
 jn (fun (_ : Unit) =>
  some true) (fun κ20 =>
  (lp (S := Int) (E := Bool ⊕ Unit) (fun (s23 : Int) =>
   if (decide (s23 < (a0.length : Int))) then
    jn (fun (_ : Unit) =>
     some (.inl (w64 (s23 + 1)))) (fun κ32 =>
     (ix a0 s23).bind fun v34 =>
     if (decide ((v34.length : Int) > 6)) then
      some (.inr (.inl false))
     else
     (lp (S := Int) (E := Bool ⊕ Unit) (fun (s36 : Int) =>
      if (decide (s36 < (v34.length : Int))) then
       (ix v34 s36).bind fun v38 =>
       (code_Plain v38).bind fun v39 =>
       (onlyIf ((!v39) == false) 0 (code_Check v38)).bind fun v40 =>
       if ((!v39) || (v40 != 0)) then
        some (.inr (.inl false))
       else
       some (.inl (w64 (s36 + 1)))
      else
      some (.inr (.inr ()))) 0).bind fun e35 =>
     match e35 with
     | .inl w => some (.inr (.inl w))
     | .inr w => κ32 w)
   else
   some (.inr (.inr ()))) 0).bind fun e22 =>
  match e22 with
  | .inl w => some w
  | .inr w => κ20 w)
def code_Encode (a0 : code_Op) : Option (List Int) :=
 some [a0.Kind, a0.A, a0.B, a0.C]
def w17_shown : Option Bool :=
 (code_Decode [1, 5, 4, (-1)]).bind fun v1 =>
 (code_Decode [2, 0, 6, 9]).bind fun v2 =>
 (code_Decode [2, 0, 1]).bind fun v3 =>
 (code_Decode [13, 0, 0, 0]).bind fun v4 =>
 (onlyIf (((((((v1.1.Kind == 1) && ((v1.1.A == 5) && ((v1.1.B == 4) && ((v1.1.C == (-1)) && true)))) && (v1.2 == 0)) && (v2.2 == 6)) && (v3.2 == 14)) && (v4.2 == 14)) == true) 0 (code_Check (⟨12, 201, 0, 0⟩ : code_Op))).bind fun v5 =>
 (onlyIf ((((((((v1.1.Kind == 1) && ((v1.1.A == 5) && ((v1.1.B == 4) && ((v1.1.C == (-1)) && true)))) && (v1.2 == 0)) && (v2.2 == 6)) && (v3.2 == 14)) && (v4.2 == 14)) && (v5 == 12)) == true) false (code_Plain v1.1)).bind fun v6 =>
 (onlyIf (((((((((v1.1.Kind == 1) && ((v1.1.A == 5) && ((v1.1.B == 4) && ((v1.1.C == (-1)) && true)))) && (v1.2 == 0)) && (v2.2 == 6)) && (v3.2 == 14)) && (v4.2 == 14)) && (v5 == 12)) && v6) == true) false (code_Plain (⟨11, 0, 0, 0⟩ : code_Op))).bind fun v7 =>
 (onlyIf ((((((((((v1.1.Kind == 1) && ((v1.1.A == 5) && ((v1.1.B == 4) && ((v1.1.C == (-1)) && true)))) && (v1.2 == 0)) && (v2.2 == 6)) && (v3.2 == 14)) && (v4.2 == 14)) && (v5 == 12)) && v6) && (!v7)) == true) false (code_Progs [[v1.1]])).bind fun v8 =>
 (onlyIf (((((((((((v1.1.Kind == 1) && ((v1.1.A == 5) && ((v1.1.B == 4) && ((v1.1.C == (-1)) && true)))) && (v1.2 == 0)) && (v2.2 == 6)) && (v3.2 == 14)) && (v4.2 == 14)) && (v5 == 12)) && v6) && (!v7)) && v8) == true) false (code_Progs [[(⟨12, 0, 0, 0⟩ : code_Op)]])).bind fun v9 =>
 (onlyIf ((((((((((((v1.1.Kind == 1) && ((v1.1.A == 5) && ((v1.1.B == 4) && ((v1.1.C == (-1)) && true)))) && (v1.2 == 0)) && (v2.2 == 6)) && (v3.2 == 14)) && (v4.2 == 14)) && (v5 == 12)) && v6) && (!v7)) && v8) && (!v9)) == true) [] (code_Encode v1.1)).bind fun v10 =>
 some ((((((((((((v1.1.Kind == 1) && ((v1.1.A == 5) && ((v1.1.B == 4) && ((v1.1.C == (-1)) && true)))) && (v1.2 == 0)) && (v2.2 == 6)) && (v3.2 == 14)) && (v4.2 == 14)) && (v5 == 12)) && v6) && (!v7)) && v8) && (!v9)) && ((v10.length : Int) == 4))
def r17_in (a0 : Int) (a1 : Int) (a2 : Int) (a3 : Int) : Option Int :=
 if ((decide (a0 < a1)) || (decide (a0 > a2))) then
  some a3
 else
 some 0
def r17_first (a0 : Int) (a1 : Int) (a2 : Int) : Option Int :=
 if (a0 != 0) then
  some a0
 else
 if (a1 != 0) then
  some a1
 else
 some a2
def r17_Check (a0 : r17_Op) : Option Int :=
 (r17_in a0.A 0 5 6).bind fun v1 =>
 (r17_in a0.B 0 5 6).bind fun v2 =>
 if (a0.Kind == 1) then
  (r17_in a0.B 0 4 1).bind fun v3 =>
  (r17_in a0.C (-1) 5 13).bind fun v4 =>
  (r17_first v1 v3 v4).bind fun v5 =>
  some v5
 else
 jn (fun (j7 : Bool) =>
  if j7 then
   (r17_first v1 v2 0).bind fun v8 =>
   some v8
  else
  if (a0.Kind == 3) then
   some v1
  else
  if (a0.Kind == 4) then
   (r17_in a0.C 0 3 5).bind fun v9 =>
   (r17_first v1 v2 v9).bind fun v10 =>
   some v10
  else
  if (a0.Kind == 5) then
   (r17_in a0.B 0 3 5).bind fun v11 =>
   (r17_in a0.C (-1) 5 6).bind fun v12 =>
   (r17_first v1 v11 v12).bind fun v13 =>
   some v13
  else
  if (a0.Kind == 6) then
   (r17_in a0.A 0 5 7).bind fun v14 =>
   (r17_in a0.B (-1) 5 6).bind fun v15 =>
   (r17_in a0.C (-1) 5 13).bind fun v16 =>
   (r17_first v14 v15 v16).bind fun v17 =>
   some v17
  else
  if (a0.Kind == 7) then
   (r17_in a0.B 0 5 7).bind fun v18 =>
   (r17_first v1 v18 0).bind fun v19 =>
   some v19
  else
  if (a0.Kind == 8) then
   (r17_in a0.B (-1) 5 6).bind fun v20 =>
   (r17_first v1 v20 0).bind fun v21 =>
   some v21
  else
  if (a0.Kind == 11) then
   some 0
  else
  if (a0.Kind == 12) then
   (r17_in a0.A 0 200 12).bind fun v22 =>
   some v22
  else
  some 14) (fun κ6 =>
  if (a0.Kind == 2) then
   κ6 (a0.Kind == 2)
  else
  if (a0.Kind == 9) then
   κ6 (a0.Kind == 9)
  else
  κ6 (a0.Kind == 10))
def r17_Decode (a0 : List Int) : Option (r17_Op × Int) :=
 if ((a0.length : Int) != 4) then
  some ((⟨0, 0, 0, 0⟩ : r17_Op), 14)
 else
 (ix a0 0).bind fun v1 =>
 (ix a0 1).bind fun v2 =>
 (ix a0 2).bind fun v3 =>
 (ix a0 3).bind fun v4 =>
 (r17_Check (⟨v1, v2, v3, v4⟩ : r17_Op)).bind fun v5 =>
 if (v5 != 0) then
  some ((⟨0, 0, 0, 0⟩ : r17_Op), v5)
 else
 some ((⟨v1, v2, v3, v4⟩ : r17_Op), 0)
def w17_op (a0 : code_Op) : Option r17_Op :=
 some (⟨a0.Kind, a0.A, a0.B, a0.C⟩ : r17_Op)
def r17_Encode (a0 : r17_Op) : Option (List Int) :=
 some [a0.Kind, a0.A, a0.B, a0.C]
def r02_Ints (a0 : List Int) (a1 : List Int) : Option Bool :=
 if ((a0.length : Int) != (a1.length : Int)) then
  some false
 else
 jn (fun (_ : Unit) =>
  some true) (fun κ6 =>
  (lp (S := Int) (E := Bool ⊕ Unit) (fun (s9 : Int) =>
   if (decide (s9 < (a0.length : Int))) then
    (ix a0 s9).bind fun v11 =>
    (ix a1 s9).bind fun v12 =>
    if (v11 != v12) then
     some (.inr (.inl false))
    else
    some (.inl (w64 (s9 + 1)))
   else
   some (.inr (.inr ()))) 0).bind fun e8 =>
  match e8 with
  | .inl w => some w
  | .inr w => κ6 w)
def r17_Plain (a0 : r17_Op) : Option Bool :=
 some ((decide (a0.Kind ≥ 1)) && (decide (a0.Kind ≤ 10)))
def w17_CodeTells (a0 : code_Op) (a1 : List Int) : Option Bool :=
 (onlyIf ((decide ((a1.length : Int) > 20)) == false) false w17_shown).bind fun v1 =>
 if ((decide ((a1.length : Int) > 20)) || (!v1)) then
  (w17_shown).bind fun v2 =>
  some v2
 else
 (code_Decode a1).bind fun v3 =>
 (r17_Decode a1).bind fun v4 =>
 (code_Check a0).bind fun v5 =>
 (w17_op a0).bind fun v6 =>
 (r17_Check v6).bind fun v7 =>
 (onlyIf ((v5 == v7) == true) ⟨0, 0, 0, 0⟩ (w17_op v3.1)).bind fun v8 =>
 (onlyIf ((((v5 == v7) && ((v8.Kind == v4.1.Kind) && ((v8.A == v4.1.A) && ((v8.B == v4.1.B) && ((v8.C == v4.1.C) && true))))) && (v3.2 == v4.2)) == true) [] (code_Encode a0)).bind fun v9 =>
 (onlyIf ((((v5 == v7) && ((v8.Kind == v4.1.Kind) && ((v8.A == v4.1.A) && ((v8.B == v4.1.B) && ((v8.C == v4.1.C) && true))))) && (v3.2 == v4.2)) == true) [] (r17_Encode v6)).bind fun v10 =>
 (onlyIf ((((v5 == v7) && ((v8.Kind == v4.1.Kind) && ((v8.A == v4.1.A) && ((v8.B == v4.1.B) && ((v8.C == v4.1.C) && true))))) && (v3.2 == v4.2)) == true) false (r02_Ints v9 v10)).bind fun v11 =>
 (onlyIf (((((v5 == v7) && ((v8.Kind == v4.1.Kind) && ((v8.A == v4.1.A) && ((v8.B == v4.1.B) && ((v8.C == v4.1.C) && true))))) && (v3.2 == v4.2)) && v11) == true) false (code_Plain a0)).bind fun v12 =>
 (onlyIf (((((v5 == v7) && ((v8.Kind == v4.1.Kind) && ((v8.A == v4.1.A) && ((v8.B == v4.1.B) && ((v8.C == v4.1.C) && true))))) && (v3.2 == v4.2)) && v11) == true) false (r17_Plain v6)).bind fun v13 =>
 some (((((v5 == v7) && ((v8.Kind == v4.1.Kind) && ((v8.A == v4.1.A) && ((v8.B == v4.1.B) && ((v8.C == v4.1.C) && true))))) && (v3.2 == v4.2)) && v11) && (v12 == v13))
def w17_progs (a0 : List (List code_Op)) : Option (List (List r17_Op)) :=
 jn (fun (j51 : List (List r17_Op)) =>
  some j51) (fun κ50 =>
  (lp (S := Int × (List (List r17_Op))) (E := (List (List r17_Op))) (fun ((s53, s54) : Int × (List (List r17_Op))) =>
   if (decide (s53 < (a0.length : Int))) then
    jn (fun (j79 : List (List r17_Op)) =>
     some (.inl (w64 (s53 + 1), j79))) (fun κ78 =>
     jn (fun (j90 : List r17_Op) =>
      (app 24 s54 [j90]).bind fun v91 =>
      κ78 v91) (fun κ89 =>
      (lp (S := Int × (List r17_Op)) (E := (List r17_Op)) (fun ((s93, s94) : Int × (List r17_Op)) =>
       (ix a0 s53).bind fun v97 =>
       if (decide (s93 < (v97.length : Int))) then
        (ix v97 s93).bind fun v98 =>
        (w17_op v98).bind fun v99 =>
        (app 32 s94 [v99]).bind fun v100 =>
        some (.inl (w64 (s93 + 1), v100))
       else
       some (.inr s94)) (0, [])).bind fun e92 =>
      κ89 e92))
   else
   some (.inr s54)) (0, [])).bind fun e52 =>
  κ50 e52)
def r17_Progs (a0 : List (List r17_Op)) : Option Bool :=
 if (decide ((a0.length : Int) > 6)) then
  some false
 else
 jn (fun (_ : Unit) =>
  some true) (fun κ20 =>
  (lp (S := Int) (E := Bool ⊕ Unit) (fun (s23 : Int) =>
   if (decide (s23 < (a0.length : Int))) then
    jn (fun (_ : Unit) =>
     some (.inl (w64 (s23 + 1)))) (fun κ32 =>
     (ix a0 s23).bind fun v34 =>
     if (decide ((v34.length : Int) > 6)) then
      some (.inr (.inl false))
     else
     (lp (S := Int) (E := Bool ⊕ Unit) (fun (s36 : Int) =>
      if (decide (s36 < (v34.length : Int))) then
       (ix v34 s36).bind fun v38 =>
       (r17_Plain v38).bind fun v39 =>
       (onlyIf ((!v39) == false) 0 (r17_Check v38)).bind fun v40 =>
       if ((!v39) || (v40 != 0)) then
        some (.inr (.inl false))
       else
       some (.inl (w64 (s36 + 1)))
      else
      some (.inr (.inr ()))) 0).bind fun e35 =>
     match e35 with
     | .inl w => some (.inr (.inl w))
     | .inr w => κ32 w)
   else
   some (.inr (.inr ()))) 0).bind fun e22 =>
  match e22 with
  | .inl w => some w
  | .inr w => κ20 w)
def w17_CodeProgs (a0 : List (List code_Op)) : Option Bool :=
 (onlyIf ((decide ((a0.length : Int) > 12)) == false) false w17_shown).bind fun v1 =>
 if ((decide ((a0.length : Int) > 12)) || (!v1)) then
  (w17_shown).bind fun v2 =>
  some v2
 else
 jn (fun (_ : Unit) =>
  (code_Progs a0).bind fun v9 =>
  (w17_progs a0).bind fun v10 =>
  (r17_Progs v10).bind fun v11 =>
  some (v9 == v11)) (fun κ7 =>
  (lp (S := Int) (E := Bool ⊕ Unit) (fun (s13 : Int) =>
   if (decide (s13 < (a0.length : Int))) then
    (ix a0 s13).bind fun v15 =>
    if (decide ((v15.length : Int) > 12)) then
     some (.inr (.inl true))
    else
    some (.inl (w64 (s13 + 1)))
   else
   some (.inr (.inr ()))) 0).bind fun e12 =>
  match e12 with
  | .inl w => some w
  | .inr w => κ7 w)
def w17_CodeBack (a0 : code_Op) (a1 : List Int) : Option Bool :=
 (onlyIf ((decide ((a1.length : Int) > 20)) == false) false w17_shown).bind fun v1 =>
 if ((decide ((a1.length : Int) > 20)) || (!v1)) then
  (w17_shown).bind fun v2 =>
  some v2
 else
 (code_Encode a0).bind fun v3 =>
 (code_Decode v3).bind fun v4 =>
 (code_Decode a1).bind fun v5 =>
 (code_Check a0).bind fun v6 =>
 if (((v4.2 != v6) || ((v4.2 == 0) && (!((v4.1.Kind == a0.Kind) && ((v4.1.A == a0.A) && ((v4.1.B == a0.B) && ((v4.1.C == a0.C) && true))))))) || ((v4.2 != 0) && (!((v4.1.Kind == 0) && ((v4.1.A == 0) && ((v4.1.B == 0) && ((v4.1.C == 0) && true))))))) then
  some false
 else
 (onlyIf ((v5.2 != 0) == false) [] (code_Encode v5.1)).bind fun v7 =>
 (onlyIf ((v5.2 != 0) == false) false (r02_Ints v7 a1)).bind fun v8 =>
 some ((v5.2 != 0) || v8)
def w17_CodeLoose (a0 : code_Op) (a1 : Int) : Option Bool :=
 jn (fun (_ : Unit) =>
  (onlyIf (((!((a0.Kind == 3) || (a0.Kind == 12))) && (!(a0.Kind == 11))) == false) 0 (code_Check (⟨a0.Kind, a0.A, a1, a0.C⟩ : code_Op))).bind fun v5 =>
  (onlyIf (((!((a0.Kind == 3) || (a0.Kind == 12))) && (!(a0.Kind == 11))) == false) 0 (code_Check a0)).bind fun v6 =>
  (onlyIf (((((!((a0.Kind == 3) || (a0.Kind == 12))) && (!(a0.Kind == 11))) || (v5 == v6)) == true) && ((!(a0.Kind == 11)) == false)) 0 (code_Check a0)).bind fun v7 =>
  (onlyIf (((((!((a0.Kind == 3) || (a0.Kind == 12))) && (!(a0.Kind == 11))) || (v5 == v6)) && ((!(a0.Kind == 11)) || (v7 == 0))) == true) false w17_shown).bind fun v8 =>
  some (((((!((a0.Kind == 3) || (a0.Kind == 12))) && (!(a0.Kind == 11))) || (v5 == v6)) && ((!(a0.Kind == 11)) || (v7 == 0))) && v8)) (fun κ3 =>
  if (((((((a0.Kind == 2) || (a0.Kind == 7)) || (a0.Kind == 8)) || (a0.Kind == 9)) || (a0.Kind == 10)) || ((a0.Kind == 3) || (a0.Kind == 12))) || (a0.Kind == 11)) then
   (code_Check (⟨a0.Kind, a0.A, a0.B, a1⟩ : code_Op)).bind fun v9 =>
   (code_Check a0).bind fun v10 =>
   if (v9 != v10) then
    some false
   else
   κ3 ()
  else
  κ3 ())
def w17_CodeKinds (a0 : Int) (a1 : Int) (a2 : Int) (a3 : Int) : Option Bool :=
 (rem (w64 a0) 12).bind fun v1 =>
 (code_Check (⟨w64 (1 + v1), a1, a2, a3⟩ : code_Op)).bind fun v2 =>
 if ((w64 (1 + v1)) == 11) then
  (onlyIf ((v2 == 0) == true) false w17_shown).bind fun v3 =>
  some ((v2 == 0) && v3)
 else
 if ((w64 (1 + v1)) == 12) then
  (onlyIf (((v2 == 12) == ((decide (a1 < 0)) || (decide (a1 > 200)))) == true) false w17_shown).bind fun v4 =>
  some (((v2 == 12) == ((decide (a1 < 0)) || (decide (a1 > 200)))) && v4)
 else
 if ((w64 (1 + v1)) == 6) then
  (onlyIf (((!((decide (a1 < 0)) || (decide (a1 > 5)))) || (v2 == 7)) == true) false w17_shown).bind fun v5 =>
  some (((!((decide (a1 < 0)) || (decide (a1 > 5)))) || (v2 == 7)) && v5)
 else
 (onlyIf ((((!((decide (a1 < 0)) || (decide (a1 > 5)))) || (v2 == 6)) == true) && (((decide (a1 < 0)) || (decide (a1 > 5))) == false)) 0 (code_Check (⟨w64 (1 + v1), 0, a2, a3⟩ : code_Op))).bind fun v6 =>
 (onlyIf ((((!((decide (a1 < 0)) || (decide (a1 > 5)))) || (v2 == 6)) && (((decide (a1 < 0)) || (decide (a1 > 5))) || (v2 == v6))) == true) false w17_shown).bind fun v7 =>
 some ((((!((decide (a1 < 0)) || (decide (a1 > 5)))) || (v2 == 6)) && (((decide (a1 < 0)) || (decide (a1 > 5))) || (v2 == v6))) && v7)
end Go.Sh
