/-
 Plain functions: what the functions of the program come to.
-/
import Derived.Test.YtjpgbnlcefhaiaaGreatW24oSh0
import Derived.Test.YtjpgbnlcefhaiaaGreatW24oPwD
import Derived.Test.YtjpgbnlcefhaiaaGreatW24oPwC
set_option linter.unusedVariables false
set_option linter.unusedSimpArgs false
set_option linter.unusedSectionVars false
namespace Go.Sh
set_option maxRecDepth 100000
noncomputable section
structure c5 where
 Kind:Int
 A:Int
 B:Int
 C:Int
structure o8 where
 Kind:Int
 A:Int
 B:Int
 C:Int
structure l5 where
 Serial:Int
 Strong:Int
 Weak:Int
 Prog:Int
 Started:Bool
 Fields:List Int
structure b7 where
 State:Int
 Gen:Int
 Val:l5
structure e6 where
 Target:Int
 Intact:Bool
 Call:Int
structure b8 where
 State:Int
 Key:Int
 Val:Int
structure g7 where
 Kind:Int
 At:Int
 Prog:Int
structure g5 where
 part:Fv
 least:Int
 most:Int
 e:Int
structure c7 where
 a8:List b7
 Last:Int
structure a7 where
 S:c7
 Serial:Int
structure c9 where
 L:List g7
 Cap:Int
structure b6 where
 S:a7
 Roots:List Int
 a8:List e6
 T:List b8
 Q:c9
structure m8 where
 X:b6
 Progs:List (List c5)
structure l4 where
 V:Int
 E:Int
structure o6 where
 x:b6
 o:c5
structure F5 where
 r:Int
 h:Int
structure E3 where
 h:Int
 k:Int
 v:Int
structure F4 where
 t:List b8
structure m7 where
 Key:Int
 Val:Int
structure j5 where
 L:List Int
 Cap:Int
def a7O(a0:List (List c5)):Option (List (List o8)):=
 jn (λ(j47:List (List o8))=>
  some j47) (λκ46=>
  (lp (S:=Int × (List (List o8))) (E:=(List (List o8))) (λ((s49,s50):Int × (List (List o8)))=>
   if (decide (s49<(a0.length:Int))) then
    jn (λ(j73:List (List o8))=>
     some (.inl (u5 (s49+1),j73))) (λκ72=>
     jn (λ(j83:List o8)=>
      (app 24 s50 [j83]).bind λv84=>
      κ72 v84) (λκ82=>
      (lp (S:=Int × (List o8)) (E:=(List o8)) (λ((s86,s87):Int × (List o8))=>
       (ix a0 s49).bind λv90=>
       if (decide (s86<(v90.length:Int))) then
        (ix v90 s86).bind λv91=>
        (app 32 s87 [(⟨v91.Kind,v91.A,v91.B,v91.C⟩:o8)]).bind λv92=>
        some (.inl (u5 (s86+1),v92))
       else
       some (.inr s87)) (0,[])).bind λe85=>
      κ82 e85))
   else
   some (.inr s50)) (0,[])).bind λe48=>
  κ46 e48)
def N9(a0:o8):Option Bool:=
 some ((decide (a0.Kind≥1))&&(decide (a0.Kind≤10)))
def a0E(a0:Int)(a1:Int)(a2:Int)(a3:Int):Option Int:=
 if ((decide (a0<a1))||(decide (a0 > a2))) then
  some a3
 else
 some 0
def V8(a0:Int)(a1:Int)(a2:Int):Option Int:=
 if (a0 != 0) then
  some a0
 else
 if (a1 != 0) then
  some a1
 else
 some a2
def a0k(a0:o8):Option Int:=
 (a0E a0.A 0 5 6).bind λv1=>
 (a0E a0.B 0 5 6).bind λv2=>
 if (a0.Kind==1) then
  (a0E a0.B 0 4 1).bind λv3=>
  (a0E a0.C (-1) 5 13).bind λv4=>
  (V8 v1 v3 v4).bind λv5=>
  some v5
 else
 jn (λ(j7:Bool)=>
  if j7 then
   (V8 v1 v2 0).bind λv8=>
   some v8
  else
  if (a0.Kind==3) then
   some v1
  else
  if (a0.Kind==4) then
   (a0E a0.C 0 3 5).bind λv9=>
   (V8 v1 v2 v9).bind λv10=>
   some v10
  else
  if (a0.Kind==5) then
   (a0E a0.B 0 3 5).bind λv11=>
   (a0E a0.C (-1) 5 6).bind λv12=>
   (V8 v1 v11 v12).bind λv13=>
   some v13
  else
  if (a0.Kind==6) then
   (a0E a0.A 0 5 7).bind λv14=>
   (a0E a0.B (-1) 5 6).bind λv15=>
   (a0E a0.C (-1) 5 13).bind λv16=>
   (V8 v14 v15 v16).bind λv17=>
   some v17
  else
  if (a0.Kind==7) then
   (a0E a0.B 0 5 7).bind λv18=>
   (V8 v1 v18 0).bind λv19=>
   some v19
  else
  if (a0.Kind==8) then
   (a0E a0.B (-1) 5 6).bind λv20=>
   (V8 v1 v20 0).bind λv21=>
   some v21
  else
  if (a0.Kind==11) then
   some 0
  else
  if (a0.Kind==12) then
   (a0E a0.A 0 200 12).bind λv22=>
   some v22
  else
  some 14) (λκ6=>
  if (a0.Kind==2) then
   κ6 (a0.Kind==2)
  else
  if (a0.Kind==9) then
   κ6 (a0.Kind==9)
  else
  κ6 (a0.Kind==10))
def a2h(a0:List (List o8)):Option Bool:=
 if (decide ((a0.length:Int) > 6)) then
  some false
 else
 jn (λ(_:Unit)=>
  some true) (λκ20=>
  (lp (S:=Int) (E:=Bool ⊕ Unit) (λ(s23:Int)=>
   if (decide (s23<(a0.length:Int))) then
    jn (λ(_:Unit)=>
     some (.inl (u5 (s23+1)))) (λκ32=>
     (ix a0 s23).bind λv34=>
     if (decide ((v34.length:Int) > 6)) then
      some (.inr (.inl false))
     else
     (lp (S:=Int) (E:=Bool ⊕ Unit) (λ(s36:Int)=>
      if (decide (s36<(v34.length:Int))) then
       (ix v34 s36).bind λv38=>
       (N9 v38).bind λv39=>
       (y7 ((!v39)==false) 0 (a0k v38)).bind λv40=>
       if ((!v39)||(v40 != 0)) then
        some (.inr (.inl false))
       else
       some (.inl (u5 (s36+1)))
      else
      some (.inr (.inr ()))) 0).bind λe35=>
     match e35 with
     | .inl w=>some (.inr (.inl w))
     | .inr w=>κ32 w)
   else
   some (.inr (.inr ()))) 0).bind λe22=>
  match e22 with
  | .inl w=>some w
  | .inr w=>κ20 w)
def a14(a0:c5):Option Bool:=
 some ((decide (a0.Kind≥1))&&(decide (a0.Kind≤10)))
def W7:Option g5:=
 some (⟨(some 114),0,5,6⟩:g5)
def P4:Option g5:=
 some (⟨(some 117),(-1),5,13⟩:g5)
def G4(a0:List g5):Option (List g5):=
 some a0
def W8:Option g5:=
 some (⟨(some 115),0,5,6⟩:g5)
def T8:Option g5:=
 some (⟨(some 117),0,3,5⟩:g5)
def T7:Option g5:=
 some (⟨(some 115),0,3,5⟩:g5)
def L4:Option g5:=
 some (⟨(some 117),(-1),5,6⟩:g5)
def W5:Option g5:=
 some (⟨(some 114),0,5,7⟩:g5)
def L3:Option g5:=
 some (⟨(some 115),(-1),5,6⟩:g5)
def W6:Option g5:=
 some (⟨(some 115),0,5,7⟩:g5)
def a5P:Option (List (Int × (List g5))):=
 (W7).bind λv1=>
 (P4).bind λv2=>
 (G4 [v1,(⟨(some 115),0,4,1⟩:g5),v2]).bind λv3=>
 (W8).bind λv4=>
 (G4 [v1,v4]).bind λv5=>
 (G4 [v1]).bind λv6=>
 (T8).bind λv7=>
 (G4 [v1,v4,v7]).bind λv8=>
 (T7).bind λv9=>
 (L4).bind λv10=>
 (G4 [v1,v9,v10]).bind λv11=>
 (W5).bind λv12=>
 (L3).bind λv13=>
 (G4 [v12,v13,v2]).bind λv14=>
 (W6).bind λv15=>
 (G4 [v1,v15]).bind λv16=>
 (G4 [v1,v13]).bind λv17=>
 (G4 []).bind λv18=>
 (G4 [(⟨(some 114),0,200,12⟩:g5)]).bind λv19=>
 some (o0 (o0 (o0 (o0 (o0 (o0 (o0 (o0 (o0 (o0 (o0 (o0 [] 1 v3) 2 v5) 3 v6) 4 v8) 5 v11) 6 v14) 7 v16) 8 v17) 9 v5) 10 v5) 11 v18) 12 v19)
def a9d(a0:c5):Option Int:=
 some a0.A
def a9e(a0:c5):Option Int:=
 some a0.B
def a9f(a0:c5):Option Int:=
 some a0.C
def a92(f:Fv)(a0:c5):Option Int:=
 if f=some 114 then a9d a0 else
 if f=some 115 then a9e a0 else
 if f=some 117 then a9f a0 else
 none
def P3(a0:c5):Option Int:=
 (a5P).bind λv1=>
 if (!((A0 v1 a0.Kind).isSome)) then
  some 14
 else
 jn (λ(_:Unit)=>
  some 0) (λκ8=>
  (lp (S:=Int) (E:=Int ⊕ Unit) (λ(s11:Int)=>
   if (decide (s11<(((A0 v1 a0.Kind).getD ([]:List g5)).length:Int))) then
    (ix ((A0 v1 a0.Kind).getD ([]:List g5)) s11).bind λv13=>
    (a92 v13.part a0).bind λv14=>
    if ((decide (v14<v13.least))||(decide (v14 > v13.most))) then
     some (.inr (.inl v13.e))
    else
    some (.inl (u5 (s11+1)))
   else
   some (.inr (.inr ()))) 0).bind λe10=>
  match e10 with
  | .inl w=>some w
  | .inr w=>κ8 w)
def a0Y(a0:List (List c5)):Option Bool:=
 if (decide ((a0.length:Int) > 6)) then
  some false
 else
 jn (λ(_:Unit)=>
  some true) (λκ20=>
  (lp (S:=Int) (E:=Bool ⊕ Unit) (λ(s23:Int)=>
   if (decide (s23<(a0.length:Int))) then
    jn (λ(_:Unit)=>
     some (.inl (u5 (s23+1)))) (λκ32=>
     (ix a0 s23).bind λv34=>
     if (decide ((v34.length:Int) > 6)) then
      some (.inr (.inl false))
     else
     (lp (S:=Int) (E:=Bool ⊕ Unit) (λ(s36:Int)=>
      if (decide (s36<(v34.length:Int))) then
       (ix v34 s36).bind λv38=>
       (a14 v38).bind λv39=>
       (y7 ((!v39)==false) 0 (P3 v38)).bind λv40=>
       if ((!v39)||(v40 != 0)) then
        some (.inr (.inl false))
       else
       some (.inl (u5 (s36+1)))
      else
      some (.inr (.inr ()))) 0).bind λe35=>
     match e35 with
     | .inl w=>some (.inr (.inl w))
     | .inr w=>κ32 w)
   else
   some (.inr (.inr ()))) 0).bind λe22=>
  match e22 with
  | .inl w=>some w
  | .inr w=>κ20 w)
def U3(a0:Int)(a1:Int):Option c7:=
 if ((((decide (a0<0))||(decide (a0 > 24)))||(decide (a1<0)))||(decide (a1 > 9))) then
  some (⟨[],0⟩:c7)
 else
 (mk 80 a0 (⟨0,0,⟨0,0,0,0,false,[]⟩⟩:b7)).bind λv1=>
 some (⟨v1,a1⟩:c7)
def a3F(a0:Int)(a1:Int):Option a7:=
 (U3 a0 a1).bind λv1=>
 some (⟨v1,0⟩:a7)
def b8C(a0:Int):Option (List e6):=
 if ((decide (a0<0))||(decide (a0 > 6))) then
  some []
 else
 (mk 24 a0 (⟨0,false,0⟩:e6)).bind λv1=>
 jn (λ(j9:List e6)=>
  some j9) (λκ8=>
  (lp (S:=Int × (List e6)) (E:=(List e6)) (λ((s11,s12):Int × (List e6))=>
   if (decide (s11<(v1.length:Int))) then
    (ix s12 s11).bind λv15=>
    some (.inl (u5 (s11+1),(s12.set (s11).toNat (⟨v15.Target,v15.Intact,(-1)⟩:e6))))
   else
   some (.inr s12)) (0,v1)).bind λe10=>
  κ8 e10)
def b0a(a0:Int):Option (List b8):=
 if ((decide (a0<1))||(decide (a0 > 8))) then
  some []
 else
 (mk 24 a0 (⟨0,0,0⟩:b8)).bind λv1=>
 some v1
def a0C(a0:Int):Option c9:=
 some (⟨[],a0⟩:c9)
def b8s:Option c9:=
 (a0C 30).bind λv1=>
 some v1
def a2F(a0:Int)(a1:Int)(a2:Int):Option b6:=
 if ((((((decide (a0<1))||(decide (a0 > 24)))||(decide (a1<0)))||(decide (a1 > 9)))||(decide (a2<1)))||(decide (a2 > 8))) then
  some (⟨⟨⟨[],0⟩,0⟩,[],[],[],⟨[],0⟩⟩:b6)
 else
 (a3F a0 a1).bind λv1=>
 (mk 8 6 (0:Int)).bind λv2=>
 (b8C 6).bind λv3=>
 (b0a a2).bind λv4=>
 (b8s).bind λv5=>
 some (⟨v1,v2,v3,v4,v5⟩:b6)
def Y8(a0:Int)(a1:Int)(a2:Int)(a3:List (List c5)):Option (m8 × Int):=
 (a0Y a3).bind λv1=>
 if (!v1) then
  some ((⟨⟨⟨⟨[],0⟩,0⟩,[],[],[],⟨[],0⟩⟩,[]⟩:m8),13)
 else
 (a2F a0 a1 a2).bind λv2=>
 if ((v2.Roots.length:Int)==0) then
  some ((⟨⟨⟨⟨[],0⟩,0⟩,[],[],[],⟨[],0⟩⟩,[]⟩:m8),1)
 else
 some ((⟨v2,a3⟩:m8),0)
def b0Q(a0:Int)(a1:Int):Option m8:=
 (Y8 a0 a1 8 []).bind λv1=>
 some v1.1
def a1b(a0:Int)(a1:Int)(a2:Int)(a3:Int):Option (List Int):=
 some [a0,a1,a2,a3]
def T5(a0:List Int):Option (c5 × Int):=
 if ((a0.length:Int) != 4) then
  some ((⟨0,0,0,0⟩:c5),14)
 else
 (ix a0 0).bind λv1=>
 (ix a0 1).bind λv2=>
 (ix a0 2).bind λv3=>
 (ix a0 3).bind λv4=>
 (P3 (⟨v1,v2,v3,v4⟩:c5)).bind λv5=>
 if (v5 != 0) then
  some ((⟨0,0,0,0⟩:c5),v5)
 else
 some ((⟨v1,v2,v3,v4⟩:c5),0)
def a5S(a0:c5):Option Ifc:=
 if (a0.Kind==11) then
  some (⟨89,[]⟩:Ifc)
 else
 if (a0.Kind==12) then
  some (⟨93,[a0.A]⟩:Ifc)
 else
 some (⟨85,[a0.Kind,a0.A,a0.B,a0.C]⟩:Ifc)
def a2u:Option (List (Int × Fv)):=
 some (o0 (o0 (o0 (o0 (o0 (o0 (o0 (o0 (o0 (o0 [] 1 (some 65)) 2 (some 66)) 3 (some 67)) 4 (some 68)) 5 (some 69)) 6 (some 70)) 7 (some 71)) 8 (some 72)) 9 (some 73)) 10 (some 74))
def b61(a0:Int):Option ((List Int) × Int):=
 if ((decide (a0<0))||(decide (a0 > 4))) then
  some ([],1)
 else
 (mk 8 a0 (0:Int)).bind λv1=>
 some (v1,0)
def O9(a0:Int):Option Bool:=
 some ((decide (a0≥(-1)))&&(decide (a0<6)))
def L2(a0:c7):Option c7:=
 some a0
def u4(a0:List b7):Option (List b7):=
 app 80 [] a0
def B1(a0:c7)(a1:Int)(a2:b7):Option c7:=
 (u4 a0.a8).bind λv1=>
 (ix v1 a1).bind λv2=>
 some (⟨(v1.set (a1).toNat a2),a0.Last⟩:c7)
def a1g(a0:Int)(a1:Int):Option Int:=
 if ((((decide (a0<0))||(decide (a0≥24)))||(decide (a1<0)))||(decide (a1 > 9))) then
  some 0
 else
 some (u5 ((u5 (1+(u5 (a0*1))))+(u5 (a1*32))))
def G3(a0:c7)(a1:l5):Option (c7 × Int × Int):=
 jn (λ(_:Unit)=>
  some (a0,0,4)) (λκ9=>
  (L2 a0).bind λv11=>
  (lp (S:=Int) (E:=(c7 × Int × Int) ⊕ Unit) (λ(s13:Int)=>
   if (decide (s13<(v11.a8.length:Int))) then
    (ix v11.a8 s13).bind λv15=>
    if ((v15.State==0)==true) then
     (ix a0.a8 s13).bind λv16=>
     (B1 a0 s13 (⟨1,v16.Gen,a1⟩:b7)).bind λv17=>
     (a1g s13 v16.Gen).bind λv18=>
     some (.inr (.inl (v17,v18,0)))
    else
    some (.inl (u5 (s13+1)))
   else
   some (.inr (.inr ()))) 0).bind λe12=>
  match e12 with
  | .inl w=>some w
  | .inr w=>κ9 w)
def Q0(a0:a7)(a1:Int)(a2:Int):Option (a7 × Int × Int):=
 (b61 a1).bind λv1=>
 if (v1.2 != 0) then
  some (a0,0,v1.2)
 else
 (O9 a2).bind λv2=>
 if (!v2) then
  some (a0,0,13)
 else
 (G3 a0.S (⟨u5 (a0.Serial+1),0,0,a2,false,v1.1⟩:l5)).bind λv3=>
 if (v3.2.2 != 0) then
  some (a0,0,v3.2.2)
 else
 some ((⟨v3.1,u5 (a0.Serial+1)⟩:a7),v3.2.1,0)
def a1x(a0:Int):Option (Int × Int × Bool):=
 if (decide (a0<1)) then
  some ((-1),(-1),false)
 else
 (rem (u5 (a0-1)) 32).bind λv1=>
 (quo .i64 v1 1).bind λv2=>
 (quo .i64 (u5 (a0-1)) 32).bind λv3=>
 if ((decide (v2≥24))||(decide (v3 > 9))) then
  some ((-1),(-1),false)
 else
 some (v2,v3,true)
def a2E(a0:Int):Option Int:=
 (a1x a0).bind λv1=>
 some v1.1
def a3O(a0:Int):Option Int:=
 (a1x a0).bind λv1=>
 some v1.2.1
def r8(a0:c7)(a1:Int):Option (Int × Int):=
 if (a1==0) then
  some ((-1),2)
 else
 (a2E a1).bind λv1=>
 if ((decide (v1<0))||(decide (v1≥(a0.a8.length:Int)))) then
  some ((-1),3)
 else
 (ix a0.a8 v1).bind λv2=>
 (a3O a1).bind λv3=>
 if ((v2.Gen != v3)||((v2.State != 1)&&(v2.State != 2))) then
  some ((-1),3)
 else
 some (v1,0)
def B7(a0:c7)(a1:Int):Option (l5 × Int):=
 (r8 a0 a1).bind λv1=>
 if (v1.2 != 0) then
  some ((⟨0,0,0,0,false,[]⟩:l5),v1.2)
 else
 (ix a0.a8 v1.1).bind λv2=>
 if (v2.State==2) then
  some ((⟨0,0,0,0,false,[]⟩:l5),3)
 else
 some (v2.Val,0)
def r9(a0:a7)(a1:Int):Option (l5 × Int):=
 (B7 a0.S a1).bind λv1=>
 some (v1.1,v1.2)
def a4q(a0:b6)(a1:Int):Option Bool:=
 (r9 a0.S a1).bind λv1=>
 some (v1.2==0)
def I1(a0:b6)(a1:Int):Option Bool:=
 (y7 ((a1==0)==false) false (a4q a0 a1)).bind λv1=>
 some ((a1==0)||v1)
def D5(a0:Int):Option Bool:=
 some (decide (a0≥12))
def a3I(a0:Int):Option (Int × Int):=
 (D5 a0).bind λv1=>
 if v1 then
  some (12,0)
 else
 some (u5 ((if 0 > a0 then 0 else a0)+1),0)
def a7V(a0:Int):Option Int:=
 (a3I a0).bind λv1=>
 some v1.1
def H5(a0:c7)(a1:Int)(a2:l5):Option (c7 × Int):=
 (r8 a0 a1).bind λv1=>
 if (v1.2 != 0) then
  some (a0,v1.2)
 else
 (ix a0.a8 v1.1).bind λv2=>
 (B1 a0 v1.1 (⟨v2.State,v2.Gen,a2⟩:b7)).bind λv3=>
 some (v3,0)
def H6(a0:a7)(a1:Int)(a2:l5):Option (a7 × Int):=
 (H5 a0.S a1 a2).bind λv1=>
 some ((⟨v1.1,a0.Serial⟩:a7),v1.2)
def R3(a0:b6)(a1:Int):Option b6:=
 (r9 a0.S a1).bind λv1=>
 if (v1.2==0) then
  (a7V v1.1.Strong).bind λv2=>
  (H6 a0.S a1 (⟨v1.1.Serial,v2,v1.1.Weak,v1.1.Prog,v1.1.Started,v1.1.Fields⟩:l5)).bind λv3=>
  some (⟨v3.1,a0.Roots,a0.a8,a0.T,a0.Q⟩:b6)
 else
 some a0
def Z0(a0:b6)(a1:Int):Option b6:=
 (R3 a0 a1).bind λv1=>
 some v1
def J5(a0:List Int):Option (List Int):=
 app 8 [] a0
def M4(a0:F5)(a1:b6):Option b6:=
 (J5 a1.Roots).bind λv1=>
 (ix v1 a0.r).bind λv2=>
 some (⟨a1.S,(v1.set (a0.r).toNat a0.h),a1.a8,a1.T,a1.Q⟩:b6)
def a16(a0:Int):Option (Int × Int):=
 (D5 a0).bind λv1=>
 if v1 then
  some (12,0)
 else
 if (decide (a0<1)) then
  some (0,11)
 else
 some (u5 (a0-1),0)
def b0Y(a0:Int):Option (Int × Int):=
 (a16 a0).bind λv1=>
 some (v1.1,v1.2)
def a1y(a0:Int):Option Int:=
 (b0Y a0).bind λv1=>
 if (v1.2 != 0) then
  some a0
 else
 some v1.1
def K6(a0:b6)(a1:Int):Option b6:=
 (r9 a0.S a1).bind λv1=>
 if (v1.2==0) then
  (a1y v1.1.Strong).bind λv2=>
  (H6 a0.S a1 (⟨v1.1.Serial,v2,v1.1.Weak,v1.1.Prog,v1.1.Started,v1.1.Fields⟩:l5)).bind λv3=>
  some (⟨v3.1,a0.Roots,a0.a8,a0.T,a0.Q⟩:b6)
 else
 some a0
def B0(a0:b6)(a1:Int):Option b6:=
 (K6 a0 a1).bind λv1=>
 some v1
def D1(a0:b6)(a1:Int)(a2:Int)(a3:F5):Option b6:=
 (Z0 a0 a2).bind λv1=>
 (M4 a3 v1).bind λv2=>
 (B0 v2 a1).bind λv3=>
 some v3
def a0g(a0:b6)(a1:Int)(a2:Int):Option (b6 × Int):=
 if ((decide (a1<0))||(decide (a1≥(a0.Roots.length:Int)))) then
  some (a0,6)
 else
 (I1 a0 a2).bind λv1=>
 if (!v1) then
  some (a0,3)
 else
 (ix a0.Roots a1).bind λv2=>
 (D1 a0 v2 a2 (⟨a1,a2⟩:F5)).bind λv3=>
 some (v3,0)
def A2(a0:o6)(a1:Int)(a2:Int):Option (b6 × Int):=
 if (a2 != 0) then
  some (a0.x,a2)
 else
 (a0g a0.x a0.o.A a1).bind λv1=>
 some (v1.1,v1.2)
def Q1(a0:o6):Option (b6 × Int):=
 (Q0 a0.x.S a0.o.B a0.o.C).bind λv1=>
 if (v1.2.2 != 0) then
  some (a0.x,v1.2.2)
 else
 (A2 (⟨⟨v1.1,a0.x.Roots,a0.x.a8,a0.x.T,a0.x.Q⟩,a0.o⟩:o6) v1.2.1 0).bind λv2=>
 some (v2.1,v2.2)
def I3(a0:b6)(a1:Int):Option Int:=
 if ((decide (a1<0))||(decide (a1≥(a0.Roots.length:Int)))) then
  some 0
 else
 (ix a0.Roots a1).bind λv1=>
 some v1
def F7(a0:o6):Option (b6 × Int):=
 (I3 a0.x a0.o.B).bind λv1=>
 (A2 a0 v1 0).bind λv2=>
 some (v2.1,v2.2)
def X8(a0:o6):Option (b6 × Int):=
 (A2 a0 0 0).bind λv1=>
 some (v1.1,v1.2)
def J3(a0:b6)(a1:Int):Option (Int × Int):=
 (I3 a0 a1).bind λv1=>
 if (v1==0) then
  some (0,2)
 else
 some (v1,0)
def a6x(a0:List Int)(a1:Int):Option Bool:=
 some ((decide (a1≥0))&&(decide (a1<(a0.length:Int))))
def b1H(a0:List Int)(a1:Int):Option (Int × Int):=
 (a6x a0 a1).bind λv1=>
 if (!v1) then
  some (0,5)
 else
 (ix a0 a1).bind λv2=>
 some (v2,0)
def Z7(a0:a7)(a1:Int)(a2:Int):Option (Int × Int):=
 (r9 a0 a1).bind λv1=>
 if (v1.2 != 0) then
  some (0,v1.2)
 else
 (b1H v1.1.Fields a2).bind λv2=>
 some (v2.1,v2.2)
def X9(a0:o6):Option (b6 × Int):=
 (J3 a0.x a0.o.B).bind λv1=>
 if (v1.2 != 0) then
  some (a0.x,v1.2)
 else
 (Z7 a0.x.S v1.1 a0.o.C).bind λv2=>
 (A2 a0 v2.1 v2.2).bind λv3=>
 some (v3.1,v3.2)
def b31(a0:List Int)(a1:Int)(a2:Int):Option ((List Int) × Int):=
 (a6x a0 a1).bind λv1=>
 if (!v1) then
  some (a0,5)
 else
 (mk 8 (a0.length:Int) (0:Int)).bind λv2=>
 (cpy v2 a0).bind λv3=>
 (ix v3 a1).bind λv4=>
 some ((v3.set (a1).toNat a2),0)
def a8u(a0:a7)(a1:Int)(a2:Int)(a3:Int):Option (a7 × Int):=
 (r9 a0 a1).bind λv1=>
 if (v1.2 != 0) then
  some (a0,v1.2)
 else
 (b31 v1.1.Fields a2 a3).bind λv2=>
 if (v2.2 != 0) then
  some (a0,v2.2)
 else
 (H6 a0 a1 (⟨v1.1.Serial,v1.1.Strong,v1.1.Weak,v1.1.Prog,v1.1.Started,v2.1⟩:l5)).bind λv3=>
 some (v3.1,v3.2)
def a0z(a0:E3)(a1:b6):Option b6:=
 (a8u a1.S a0.h a0.k a0.v).bind λv1=>
 some (⟨v1.1,a1.Roots,a1.a8,a1.T,a1.Q⟩:b6)
def F6(a0:b6)(a1:Int)(a2:Int)(a3:E3):Option b6:=
 (Z0 a0 a2).bind λv1=>
 (a0z a3 v1).bind λv2=>
 (B0 v2 a1).bind λv3=>
 some v3
def a2a(a0:b6)(a1:Int)(a2:Int)(a3:Int):Option (b6 × Int):=
 (Z7 a0.S a1 a2).bind λv1=>
 if (v1.2 != 0) then
  some (a0,v1.2)
 else
 (I1 a0 a3).bind λv2=>
 if (!v2) then
  some (a0,3)
 else
 (F6 a0 v1.1 a3 (⟨a1,a2,a3⟩:E3)).bind λv3=>
 some (v3,0)
def U0(a0:o6):Option (b6 × Int):=
 (J3 a0.x a0.o.A).bind λv1=>
 if (v1.2 != 0) then
  some (a0.x,v1.2)
 else
 (I3 a0.x a0.o.C).bind λv2=>
 (a2a a0.x v1.1 a0.o.B v2).bind λv3=>
 some (v3.1,v3.2)
def b2F(a0:c9)(a1:Int):Option (c9 × Int):=
 some (a0,a1)
def a38(a0:c9)(a1:Int):Option Bool:=
 jn (λ(_:Unit)=>
  some false) (λκ6=>
  (b2F a0 2).bind λv8=>
  (lp (S:=Int) (E:=Bool ⊕ Unit) (λ(s10:Int)=>
   if (decide (s10<(v8.1.L.length:Int))) then
    (ix v8.1.L s10).bind λv12=>
    if ((v12.Kind==v8.2)==true) then
     if (v12.At==a1) then
      some (.inr (.inl true))
     else
     some (.inl (u5 (s10+1)))
    else
    some (.inl (u5 (s10+1)))
   else
   some (.inr (.inr ()))) 0).bind λe9=>
  match e9 with
  | .inl w=>some w
  | .inr w=>κ6 w)
def a5z(a0:List e6)(a1:Int):Option Bool:=
 some ((decide (a1≥0))&&(decide (a1<(a0.length:Int))))
def Z8(a0:List e6):Option (List e6):=
 (mk 24 (a0.length:Int) (⟨0,false,0⟩:e6)).bind λv1=>
 (cpy v1 a0).bind λv2=>
 some v2
def b0O(a0:List e6)(a1:Int)(a2:Int)(a3:Int):Option ((List e6) × Int × Int):=
 (a5z a0 a1).bind λv1=>
 if (!v1) then
  some (a0,0,7)
 else
 (Z8 a0).bind λv2=>
 (ix v2 a1).bind λv3=>
 (ix a0 a1).bind λv4=>
 some ((v2.set (a1).toNat (⟨a2,(a2 != 0),a3⟩:e6)),v4.Target,0)
def a1i(a0:b6)(a1:Int)(a2:Int):Option b6:=
 (r8 a0.S.S a1).bind λv1=>
 if (v1.2==0) then
  (ix a0.S.S.a8 v1.1).bind λv2=>
  (H6 a0.S a1 (⟨v2.Val.Serial,v2.Val.Strong,u5 (v2.Val.Weak+a2),v2.Val.Prog,v2.Val.Started,v2.Val.Fields⟩:l5)).bind λv3=>
  some (⟨v3.1,a0.Roots,a0.a8,a0.T,a0.Q⟩:b6)
 else
 some a0
def L1(a0:c7)(a1:Int):Option (c7 × Int):=
 (r8 a0 a1).bind λv1=>
 if (v1.2 != 0) then
  some (a0,v1.2)
 else
 (ix a0.a8 v1.1).bind λv2=>
 if (v2.Gen==a0.Last) then
  (B1 a0 v1.1 (⟨3,v2.Gen,⟨0,0,0,0,false,[]⟩⟩:b7)).bind λv3=>
  some (v3,0)
 else
 (B1 a0 v1.1 (⟨0,u5 (v2.Gen+1),⟨0,0,0,0,false,[]⟩⟩:b7)).bind λv4=>
 some (v4,0)
def a2t(a0:b6)(a1:Int):Option b6:=
 (a1i a0 a1 (-1)).bind λv1=>
 (r8 v1.S.S a1).bind λv2=>
 if (v2.2 != 0) then
  some v1
 else
 (ix v1.S.S.a8 v2.1).bind λv3=>
 if ((v3.State==2)&&(v3.Val.Weak==0)) then
  (L1 v1.S.S a1).bind λv4=>
  some (⟨⟨v4.1,v1.S.Serial⟩,v1.Roots,v1.a8,v1.T,v1.Q⟩:b6)
 else
 some v1
def a0h(a0:b6)(a1:Int)(a2:Int)(a3:Int):Option (b6 × Int):=
 (y7 (((decide (a1<0))||(decide (a1≥(a0.a8.length:Int))))==false) false (a38 a0.Q a1)).bind λv1=>
 if (((decide (a1<0))||(decide (a1≥(a0.a8.length:Int))))||v1) then
  some (a0,7)
 else
 (I1 a0 a2).bind λv2=>
 if (!v2) then
  some (a0,3)
 else
 (b0O a0.a8 a1 a2 a3).bind λv3=>
 (a1i (⟨a0.S,a0.Roots,v3.1,a0.T,a0.Q⟩:b6) a2 1).bind λv4=>
 (a2t v4 v3.2.1).bind λv5=>
 some (v5,0)
def Q2(a0:o6):Option (b6 × Int):=
 if (a0.o.B==(-1)) then
  (a0h a0.x a0.o.A 0 a0.o.C).bind λv1=>
  some (v1.1,v1.2)
 else
 (J3 a0.x a0.o.B).bind λv2=>
 if (v2.2 != 0) then
  some (a0.x,v2.2)
 else
 (a0h a0.x a0.o.A v2.1 a0.o.C).bind λv3=>
 some (v3.1,v3.2)
def a5y(a0:List e6)(a1:Int):Option (Int × Int):=
 (a5z a0 a1).bind λv1=>
 if (!v1) then
  some (0,7)
 else
 (ix a0 a1).bind λv2=>
 if ((v2.Target==0)||(!v2.Intact)) then
  some (0,9)
 else
 some (v2.Target,0)
def U9(a0:o6):Option (b6 × Int):=
 (a5y a0.x.a8 a0.o.B).bind λv1=>
 (A2 a0 v1.1 v1.2).bind λv2=>
 some (v2.1,v2.2)
def a3u(a0:Int)(a1:Int):Option (Int × Int):=
 some (a0,a1)
def a0f(a0:Int)(a1:Int):Option Int:=
 if (decide (a0<1)) then
  some 0
 else
 (rem (u5 ((u5 (5*a1))+1)) a0).bind λv1=>
 if (decide (v1<0)) then
  some (u5 (v1+a0))
 else
 some v1
def V7(a0:List b8)(a1:Int):Option Int:=
 jn (λ(_:Unit)=>
  some (-1)) (λκ8=>
  (a3u (a0.length:Int) a1).bind λv10=>
  (lp (S:=Int) (E:=Int ⊕ Unit) (λ(s12:Int)=>
   if (decide (s12<v10.1)) then
    (a0f v10.1 v10.2).bind λv14=>
    (rem (u5 (v14+s12)) v10.1).bind λv15=>
    (ix a0 v15).bind λv16=>
    if (v16.State==0) then
     some (.inr (.inr ()))
    else
    if ((v16.State==1)&&(v16.Key==a1)) then
     some (.inr (.inl v15))
    else
    some (.inl (u5 (s12+1)))
   else
   some (.inr (.inr ()))) 0).bind λe11=>
  match e11 with
  | .inl w=>some w
  | .inr w=>κ8 w)
def J2(a0:List b8)(a1:Int):Option (Int × Int):=
 (V7 a0 a1).bind λv1=>
 if (decide (v1<0)) then
  some (0,9)
 else
 (ix a0 v1).bind λv2=>
 some (v2.Val,0)
def B8(a0:List b8):Option (List b8):=
 app 24 [] a0
def a1h(a0:List b8)(a1:Int)(a2:b8):Option (List b8):=
 (B8 a0).bind λv1=>
 (ix v1 a1).bind λv2=>
 some (v1.set (a1).toNat a2)
def V6(a0:List b8)(a1:Int):Option ((List b8) × Int × Int):=
 (V7 a0 a1).bind λv1=>
 if (decide (v1<0)) then
  some (a0,0,9)
 else
 (a1h a0 v1 (⟨2,0,0⟩:b8)).bind λv2=>
 (ix a0 v1).bind λv3=>
 some (v2,v3.Val,0)
def a7f(a0:List b8)(a1:Int)(a2:Int):Option ((List b8) × Int):=
 (V7 a0 a1).bind λv1=>
 if (decide (v1≥0)) then
  (a1h a0 v1 (⟨1,a1,a2⟩:b8)).bind λv2=>
  some (v2,0)
 else
 jn (λ(_:Unit)=>
  some (a0,8)) (λκ11=>
  (a3u (a0.length:Int) a1).bind λv13=>
  (lp (S:=Int) (E:=((List b8) × Int) ⊕ Unit) (λ(s15:Int)=>
   if (decide (s15<v13.1)) then
    (a0f v13.1 v13.2).bind λv17=>
    (rem (u5 (v17+s15)) v13.1).bind λv18=>
    (ix a0 v18).bind λv19=>
    if (v19.State != 1) then
     (a1h a0 v18 (⟨1,a1,a2⟩:b8)).bind λv20=>
     some (.inr (.inl (v20,0)))
    else
    some (.inl (u5 (s15+1)))
   else
   some (.inr (.inr ()))) 0).bind λe14=>
  match e14 with
  | .inl w=>some w
  | .inr w=>κ11 w)
def R1(a0:List b8)(a1:Int)(a2:Int):Option ((List b8) × Int × Int):=
 if (a1==0) then
  some (a0,0,2)
 else
 (J2 a0 a1).bind λv1=>
 if (a2==0) then
  (V6 a0 a1).bind λv2=>
  some (v2.1,v1.1,0)
 else
 (a7f a0 a1 a2).bind λv3=>
 if (v3.2 != 0) then
  some (a0,0,v3.2)
 else
 some (v3.1,v1.1,0)
def T9(a0:F4)(a1:b6):Option b6:=
 some (⟨a1.S,a1.Roots,a1.a8,a0.t,a1.Q⟩:b6)
def G6(a0:b6)(a1:Int)(a2:Int)(a3:F4):Option b6:=
 (Z0 a0 a2).bind λv1=>
 (T9 a3 v1).bind λv2=>
 (B0 v2 a1).bind λv3=>
 some v3
def a3v(a0:b6)(a1:Int)(a2:Int):Option (b6 × Int):=
 if (a1==0) then
  some (a0,2)
 else
 (I1 a0 a1).bind λv1=>
 (y7 ((!v1)==false) false (I1 a0 a2)).bind λv2=>
 if ((!v1)||(!v2)) then
  some (a0,3)
 else
 (R1 a0.T a1 a2).bind λv3=>
 if (v3.2.2 != 0) then
  some (a0,v3.2.2)
 else
 (G6 a0 v3.2.1 a2 (⟨v3.1⟩:F4)).bind λv4=>
 some (v4,0)
def Y0(a0:o6):Option (b6 × Int):=
 (J3 a0.x a0.o.A).bind λv1=>
 if (v1.2 != 0) then
  some (a0.x,v1.2)
 else
 (I3 a0.x a0.o.B).bind λv2=>
 (a3v a0.x v1.1 v2).bind λv3=>
 some (v3.1,v3.2)
def b0Z(a0:List b8)(a1:Int):Option (Int × Int):=
 (J2 a0 a1).bind λv1=>
 some (v1.1,v1.2)
def a0i(a0:o6):Option (b6 × Int):=
 (J3 a0.x a0.o.B).bind λv1=>
 if (v1.2 != 0) then
  some (a0.x,v1.2)
 else
 (b0Z a0.x.T v1.1).bind λv2=>
 (A2 a0 v2.1 v2.2).bind λv3=>
 some (v3.1,v3.2)
def M5(a0:o6):Option (b6 × Int):=
 some (a0.x,0)
def b2k(f:Fv)(a0:o6):Option (b6 × Int):=
 if f=some 65 then Q1 a0 else
 if f=some 66 then F7 a0 else
 if f=some 67 then X8 a0 else
 if f=some 68 then X9 a0 else
 if f=some 69 then U0 a0 else
 if f=some 70 then Q2 a0 else
 if f=some 71 then U9 a0 else
 if f=some 72 then Y0 a0 else
 if f=some 73 then a0i a0 else
 if f=some 74 then M5 a0 else
 none
def a0I(a0:Int):Option Bool:=
 some (a0 != a0)
def a2W(a0:Int)(a1:Int):Option Int:=
 (a0I a0).bind λv1=>
 (a0I a1).bind λv2=>
 if v1 then
  if v2 then
   some 0
  else
  some (-1)
 else
 if v2 then
  some 1
 else
 if (decide (a0<a1)) then
  some (-1)
 else
 if (decide (a0 > a1)) then
  some 1
 else
 some 0
def a3q(a0:Int)(a1:Int)(a2:List (Int × Int)):Option Int:=
 (a2W ((A0 a2 a0).getD (0:Int)) ((A0 a2 a1).getD (0:Int))).bind λv1=>
 some v1
def B9(a0:a7):Option (List Int):=
 jn (λ((j18,j19):(List (Int × Int)) × (List Int))=>
  (b1B (λp q=>a3q p q j18) j19).bind λv21=>
  some v21) (λκ17=>
  (lp (S:=Int × (List (Int × Int)) × (List Int)) (E:=((List (Int × Int)) × (List Int))) (λ((s23,s24,s25):Int × (List (Int × Int)) × (List Int))=>
   if (decide (s23<(a0.S.a8.length:Int))) then
    jn (λ((j32,j33):(List (Int × Int)) × (List Int))=>
     some (.inl (u5 (s23+1),j32,j33))) (λκ31=>
     (ix a0.S.a8 s23).bind λv35=>
     if (v35.State==1) then
      (a1g s23 v35.Gen).bind λv36=>
      (app 8 s25 [v36]).bind λv37=>
      κ31 ((o0 s24 v36 v35.Val.Serial),v37)
     else
     κ31 (s24,s25))
   else
   some (.inr (s24,s25))) (0,[],[])).bind λe22=>
  κ17 e22)
def a1l(a0:b6):Option (List Int):=
 jn (λ(j16:List Int)=>
  some j16) (λκ15=>
  (B9 a0.S).bind λv17=>
  (lp (S:=Int × (List Int)) (E:=(List Int)) (λ((s19,s20):Int × (List Int))=>
   if (decide (s19<(v17.length:Int))) then
    jn (λ(j27:List Int)=>
     some (.inl (u5 (s19+1),j27))) (λκ26=>
     (ix v17 s19).bind λv28=>
     (r9 a0.S v28).bind λv29=>
     if (v29.1.Strong==0) then
      (app 8 s20 [v28]).bind λv30=>
      κ26 v30
     else
     κ26 s20)
   else
   some (.inr s20)) (0,[])).bind λe18=>
  κ15 e18)
def J4(a0:l5):Option Bool:=
 some ((decide (a0.Prog≥0))&&(!a0.Started))
def G2(a0:c9):Option Int:=
 some (a0.L.length:Int)
def D2(a0:List g7)(a1:Int)(a2:Int):Option (List g7):=
 (cut a0 a1 a2).bind λv1=>
 some v1
def O3(a0:c9)(a1:g7):Option (c9 × Int):=
 (G2 a0).bind λv1=>
 if (decide (v1≥a0.Cap)) then
  some (a0,4)
 else
 (D2 a0.L 0 v1).bind λv2=>
 (app 24 v2 [a1]).bind λv3=>
 some ((⟨v3,a0.Cap⟩:c9),0)
def a7L(a0:c9)(a1:g7):Option (c9 × Int):=
 (O3 a0 a1).bind λv1=>
 some (v1.1,v1.2)
def P8(a0:b6)(a1:Int):Option b6:=
 (r9 a0.S a1).bind λv1=>
 (y7 ((v1.2 != 0)==false) false (J4 v1.1)).bind λv2=>
 if ((v1.2 != 0)||(!v2)) then
  some a0
 else
 (H6 a0.S a1 (⟨v1.1.Serial,v1.1.Strong,v1.1.Weak,v1.1.Prog,true,v1.1.Fields⟩:l5)).bind λv3=>
 (a7L a0.Q (⟨1,a1,v1.1.Prog⟩:g7)).bind λv4=>
 (Z0 (⟨v3.1,a0.Roots,a0.a8,a0.T,v4.1⟩:b6) a1).bind λv5=>
 some v5
def S0(a0:b6)(a1:List Int):Option (List Int):=
 jn (λ(j18:List Int)=>
  some j18) (λκ17=>
  (lp (S:=Int × (List (Int × Bool)) × (List Int)) (E:=(List Int)) (λ((s20,s21,s22):Int × (List (Int × Bool)) × (List Int))=>
   if (decide (s20<(a1.length:Int))) then
    jn (λ((j29,j30):(List Int) × (List (Int × Bool)))=>
     some (.inl (u5 (s20+1),j30,j29))) (λκ28=>
     (ix a1 s20).bind λv32=>
     (r9 a0.S v32).bind λv33=>
     if ((v33.2==0)==true) then
      if (!((A0 s21 v32).getD (false:Bool))) then
       (app 8 s22 [v32]).bind λv34=>
       κ28 (v34,(o0 s21 v32 true))
      else
      κ28 (s22,s21)
     else
     κ28 (s22,s21))
   else
   some (.inr s22)) (0,[],[])).bind λe19=>
  κ17 e19)
def O8(a0:List Int)(a1:Int):Option Int:=
 jn (λ(_:Unit)=>
  some (-1)) (λκ5=>
  (lp (S:=Int) (E:=Int ⊕ Unit) (λ(s8:Int)=>
   if (decide (s8<(a0.length:Int))) then
    (ix a0 s8).bind λv10=>
    if (a1==v10) then
     some (.inr (.inl s8))
    else
    some (.inl (u5 (s8+1)))
   else
   some (.inr (.inr ()))) 0).bind λe7=>
  match e7 with
  | .inl w=>some w
  | .inr w=>κ5 w)
def D0(a0:List Int)(a1:Int):Option Bool:=
 (O8 a0 a1).bind λv1=>
 some (decide (v1≥0))
def a0p(a0:e6)(a1:List Int):Option Bool:=
 (y7 ((a0.Intact&&(a0.Target != 0))==true) false (D0 a1 a0.Target)).bind λv1=>
 some ((a0.Intact&&(a0.Target != 0))&&v1)
def G8(a0:List e6)(a1:List Int):Option (List Int):=
 jn (λ(j15:List Int)=>
  some j15) (λκ14=>
  (lp (S:=Int × (List Int)) (E:=(List Int)) (λ((s17,s18):Int × (List Int))=>
   if (decide (s17<(a0.length:Int))) then
    jn (λ(j25:List Int)=>
     some (.inl (u5 (s17+1),j25))) (λκ24=>
     (ix a0 s17).bind λv26=>
     (a0p v26 a1).bind λv27=>
     if v27 then
      (app 8 s18 [s17]).bind λv28=>
      κ24 v28
     else
     κ24 s18)
   else
   some (.inr s18)) (0,[])).bind λe16=>
  κ14 e16)
def a4b(a0:List e6)(a1:List Int):Option ((List e6) × (List Int)):=
 (G8 a0 a1).bind λv1=>
 (Z8 a0).bind λv2=>
 jn (λ((j22,j23):(List Int) × (List e6))=>
  some (j23,j22)) (λκ21=>
  (lp (S:=Int × (List e6) × (List Int)) (E:=((List Int) × (List e6))) (λ((s26,s27,s28):Int × (List e6) × (List Int))=>
   if (decide (s26<(v1.length:Int))) then
    jn (λ((j36,j37):(List Int) × (List e6))=>
     some (.inl (u5 (s26+1),j37,j36))) (λκ35=>
     (ix v1 s26).bind λv39=>
     (ix s27 v39).bind λv40=>
     (ix (s27.set (v39).toNat (⟨v40.Target,false,v40.Call⟩:e6)) v39).bind λv41=>
     if (decide (v41.Call≥0)) then
      (app 8 s28 [v39]).bind λv42=>
      κ35 (v42,(s27.set (v39).toNat (⟨v40.Target,false,v40.Call⟩:e6)))
     else
     κ35 (s28,(s27.set (v39).toNat (⟨v40.Target,false,v40.Call⟩:e6))))
   else
   some (.inr (s28,s27))) (0,v2,[])).bind λe25=>
  κ21 e25)
def a1N(a0:b6)(a1:List Int):Option b6:=
 (a4b a0.a8 a1).bind λv1=>
 jn (λ(j11:c9)=>
  some (⟨a0.S,a0.Roots,v1.1,a0.T,j11⟩:b6)) (λκ10=>
  (lp (S:=Int × c9) (E:=c9) (λ((s13,s14):Int × c9)=>
   if (decide (s13<(v1.2.length:Int))) then
    (ix v1.2 s13).bind λv17=>
    (ix v1.1 v17).bind λv18=>
    (a7L s14 (⟨2,v17,v18.Call⟩:g7)).bind λv19=>
    some (.inl (u5 (s13+1),v19.1))
   else
   some (.inr s14)) (0,a0.Q)).bind λe12=>
  κ10 e12)
def a8z(a0:List Int):Option (List Int):=
 some a0
def a3G(a0:List Int):Option (List Int):=
 jn (λ(j10:List Int)=>
  some j10) (λκ9=>
  (a8z a0).bind λv11=>
  (lp (S:=Int × (List Int)) (E:=(List Int)) (λ((s13,s14):Int × (List Int))=>
   if (decide (s13<(v11.length:Int))) then
    (ix v11 s13).bind λv17=>
    if ((v17 != 0)==true) then
     (app 8 s14 [v17]).bind λv18=>
     some (.inl (u5 (s13+1),v18))
    else
    some (.inl (u5 (s13+1),s14))
   else
   some (.inr s14)) (0,[])).bind λe12=>
  κ9 e12)
def V4(a0:List b8)(a1:List Int):Option ((List b8) × (List Int)):=
 jn (λ((j18,j19):(List b8) × (List Int))=>
  some (j18,j19)) (λκ17=>
  (lp (S:=(List b8) × Int × (List Int)) (E:=((List b8) × (List Int))) (λ((s22,s23,s24):(List b8) × Int × (List Int))=>
   if (decide (s23<(a1.length:Int))) then
    jn (λ((j31,j32):(List b8) × (List Int))=>
     some (.inl (j31,u5 (s23+1),j32))) (λκ30=>
     (ix a1 s23).bind λv34=>
     (V6 s22 v34).bind λv35=>
     if (v35.2.2==0) then
      (app 8 s24 [v35.2.1]).bind λv36=>
      κ30 (v35.1,v36)
     else
     κ30 (s22,s24))
   else
   some (.inr (s22,s24))) (a0,0,[])).bind λe21=>
  κ17 e21)
def Q3(a0:c7)(a1:Int):Option (c7 × Int):=
 (B7 a0 a1).bind λv1=>
 if (v1.2 != 0) then
  some (a0,v1.2)
 else
 (a2E a1).bind λv2=>
 (a3O a1).bind λv3=>
 (B1 a0 v2 (⟨2,v3,v1.1⟩:b7)).bind λv4=>
 some (v4,0)
def W0(a0:b6)(a1:Int):Option b6:=
 (r9 a0.S a1).bind λv1=>
 (H6 a0.S a1 (⟨v1.1.Serial,0,v1.1.Weak,v1.1.Prog,v1.1.Started,[]⟩:l5)).bind λv2=>
 (Q3 v2.1.S a1).bind λv3=>
 if (v1.1.Weak==0) then
  (L1 v3.1 a1).bind λv4=>
  some (⟨⟨v4.1,v2.1.Serial⟩,a0.Roots,a0.a8,a0.T,a0.Q⟩:b6)
 else
 some (⟨⟨v3.1,v2.1.Serial⟩,a0.Roots,a0.a8,a0.T,a0.Q⟩:b6)
def Z3(a0:b6)(a1:List Int):Option b6:=
 (S0 a0 a1).bind λv1=>
 (a1N a0 v1).bind λv2=>
 jn (λ(j13:List Int)=>
  (V4 v2.T v1).bind λv14=>
  (app 8 j13 v14.2).bind λv15=>
  jn (λ(j24:b6)=>
   jn (λ(j33:b6)=>
    some j33) (λκ32=>
    (lp (S:=Int × b6) (E:=b6) (λ((s35,s36):Int × b6)=>
     if (decide (s35<(v15.length:Int))) then
      (ix v15 s35).bind λv39=>
      (B0 s36 v39).bind λv40=>
      some (.inl (u5 (s35+1),v40))
     else
     some (.inr s36)) (0,j24)).bind λe34=>
    κ32 e34)) (λκ23=>
   (lp (S:=Int × b6) (E:=b6) (λ((s42,s43):Int × b6)=>
    if (decide (s42<(v1.length:Int))) then
     (ix v1 s42).bind λv46=>
     (W0 s43 v46).bind λv47=>
     some (.inl (u5 (s42+1),v47))
    else
    some (.inr s43)) (0,(⟨v2.S,v2.Roots,v2.a8,v14.1,v2.Q⟩:b6))).bind λe41=>
   κ23 e41)) (λκ12=>
  (lp (S:=Int × (List Int)) (E:=(List Int)) (λ((s49,s50):Int × (List Int))=>
   if (decide (s49<(v1.length:Int))) then
    (ix v1 s49).bind λv53=>
    (r9 v2.S v53).bind λv54=>
    (a3G v54.1.Fields).bind λv55=>
    (app 8 s50 v55).bind λv56=>
    some (.inl (u5 (s49+1),v56))
   else
   some (.inr s50)) (0,[])).bind λe48=>
  κ12 e48)
def L9(a0:b6):Option b6:=
 (lp (S:=b6) (E:=b6) (λ(s2:b6)=>
  (a1l s2).bind λv4=>
  if ((v4.length:Int)==0) then
   some (.inr s2)
  else
  (ix v4 0).bind λv5=>
  (r9 s2.S v5).bind λv6=>
  (J4 v6.1).bind λv7=>
  if v7 then
   (P8 s2 v5).bind λv8=>
   some (.inl v8)
  else
  (cut v4 0 1).bind λv9=>
  (Z3 s2 v9).bind λv10=>
  some (.inl v10)) a0).bind λe1=>
 some e1
def Z1(a0:b6)(a1:Int):Option Int:=
 (r9 a0.S a1).bind λv1=>
 some v1.1.Serial
def a05(a0:b6)(a1:Int):Option Int:=
 (I3 a0 a1).bind λv1=>
 (Z1 a0 v1).bind λv2=>
 some v2
def R5(a0:b6)(a1:b6)(a2:c5):Option Int:=
 if (a2.Kind==5) then
  (a05 a0 a2.C).bind λv1=>
  some v1
 else
 jn (λ(j3:Bool)=>
  if j3 then
   (a05 a0 a2.B).bind λv4=>
   some v4
  else
  if (a2.Kind==10) then
   (I3 a0 a2.A).bind λv5=>
   (I3 a0 a2.B).bind λv6=>
   if (v5==v6) then
    some 1
   else
   some 0
  else
  (a05 a1 a2.A).bind λv7=>
  some v7) (λκ2=>
  if (a2.Kind==6) then
   κ2 (a2.Kind==6)
  else
  κ2 (a2.Kind==8))
def p8(a0:b6)(a1:c5):Option (b6 × Int × Int):=
 (P3 a1).bind λv1=>
 if (v1 != 0) then
  some (a0,0,v1)
 else
 (a2u).bind λv2=>
 if (!((A0 v2 a1.Kind).isSome)) then
  some (a0,0,14)
 else
 (b2k ((A0 v2 a1.Kind).getD (none:Fv)) (⟨a0,a1⟩:o6)).bind λv3=>
 if (v3.2 != 0) then
  some (a0,0,v3.2)
 else
 (L9 v3.1).bind λv5=>
 (R5 v3.1 v5 a1).bind λv6=>
 some (v5,v6,0)
def a6i(a0:a7):Option a7:=
 some a0
def a5l(a0:a7)(a1:Int):Option (List Int):=
 (r9 a0 a1).bind λv1=>
 (a3G v1.1.Fields).bind λv2=>
 some v2
def b2D(a0:a7)(a1:Int):Option Int:=
 jn (λ(j31:Int)=>
  some j31) (λκ30=>
  (a6i a0).bind λv32=>
  (B9 v32).bind λv33=>
  (lp (S:=Int × Int) (E:=Int) (λ((s35,s36):Int × Int)=>
   if (decide (s35<(v33.length:Int))) then
    jn (λ(j50:Int)=>
     some (.inl (u5 (s35+1),j50))) (λκ49=>
     (ix v33 s35).bind λv51=>
     (a5l v32 v51).bind λv52=>
     (lp (S:=Int × Int) (E:=Int) (λ((s54,s55):Int × Int)=>
      if (decide (s54<(v52.length:Int))) then
       (ix v52 s54).bind λv58=>
       jn (λ(j60:Int)=>
        some (.inl (u5 (s54+1),j60))) (λκ59=>
        if (v58==a1) then
         κ59 (u5 (s55+1))
        else
        κ59 s55)
      else
      some (.inr s55)) (0,s36)).bind λe53=>
     κ49 e53)
   else
   some (.inr s36)) (0,0)).bind λe34=>
  κ30 e34)
def a1d(a0:List b8):Option (List b8):=
 some a0
def a49(a0:List b8):Option (List Int):=
 jn (λ(j13:List Int)=>
  some j13) (λκ12=>
  (lp (S:=Int × (List Int)) (E:=(List Int)) (λ((s15,s16):Int × (List Int))=>
   if (decide (s15<(a0.length:Int))) then
    jn (λ(j22:List Int)=>
     some (.inl (u5 (s15+1),j22))) (λκ21=>
     (ix a0 s15).bind λv23=>
     if (v23.State==1) then
      (app 8 s16 [v23.Key]).bind λv24=>
      κ21 v24
     else
     κ21 s16)
   else
   some (.inr s16)) (0,[])).bind λe14=>
  κ12 e14)
def a2r(a0:m7)(a1:Int):Option Bool:=
 some ((a1 != 0)&&(a0.Val==a1))
def y8(a0:List b8)(a1:Int):Option (List m7):=
 jn (λ(j16:List m7)=>
  some j16) (λκ15=>
  (a49 a0).bind λv17=>
  (lp (S:=Int × (List m7)) (E:=(List m7)) (λ((s19,s20):Int × (List m7))=>
   if (decide (s19<(v17.length:Int))) then
    (ix v17 s19).bind λv23=>
    (J2 a0 v23).bind λv24=>
    jn (λ(j28:List m7)=>
     some (.inl (u5 (s19+1),j28))) (λκ27=>
     (a2r (⟨v23,v24.1⟩:m7) a1).bind λv29=>
     if v29 then
      (app 16 s20 [(⟨v23,v24.1⟩:m7)]).bind λv30=>
      κ27 v30
     else
     κ27 s20)
   else
   some (.inr s20)) (0,[])).bind λe18=>
  κ15 e18)
def a4m(a0:List b8)(a1:Int):Option Int:=
 (a1d a0).bind λv1=>
 (y8 v1 a1).bind λv2=>
 some (v2.length:Int)
def a4F(a0:a7)(a1:List b8)(a2:Int):Option Int:=
 (b2D a0 a2).bind λv1=>
 (a4m a1 a2).bind λv2=>
 some (u5 (v1+v2))
def a6v(a0:a7)(a1:List b8)(a2:Int):Option Int:=
 (r9 a0 a2).bind λv1=>
 if (v1.2 != 0) then
  some 0
 else
 (a4F a0 a1 a2).bind λv2=>
 some (u5 (v1.1.Strong-v2))
def a63(a0:Int):Option Bool:=
 (D5 a0).bind λv1=>
 some v1
def a6u(a0:Int)(a1:l5)(a2:a7)(a3:List b8):Option Bool:=
 (a6v a2 a3 a0).bind λv1=>
 (y7 ((decide (v1 > 0))==false) false (a63 a1.Strong)).bind λv2=>
 some ((decide (v1 > 0))||v2)
def a6t(a0:a7)(a1:List b8):Option (List Int):=
 jn (λ(j36:List Int)=>
  some j36) (λκ35=>
  jn (λ(j54:List Int)=>
   κ35 j54) (λκ53=>
   (B9 a0).bind λv55=>
   (lp (S:=Int × (List Int)) (E:=(List Int)) (λ((s57,s58):Int × (List Int))=>
    if (decide (s57<(v55.length:Int))) then
     jn (λ(j66:List Int)=>
      some (.inl (u5 (s57+1),j66))) (λκ65=>
      (ix v55 s57).bind λv67=>
      (r9 a0 v67).bind λv68=>
      (a6u v67 v68.1 a0 a1).bind λv69=>
      if v69 then
       (app 8 s58 [v67]).bind λv70=>
       κ65 v70
      else
      κ65 s58)
    else
    some (.inr s58)) (0,[])).bind λe56=>
   κ53 e56))
def a2w(a0:Int):Option j5:=
 some (⟨[],a0⟩:j5)
def a0l(a0:a7)(a1:Int):Option Bool:=
 (r9 a0 a1).bind λv1=>
 some (v1.2==0)
def I5(a0:j5):Option Int:=
 some (a0.L.length:Int)
def M7(a0:List Int)(a1:Int)(a2:Int):Option (List Int):=
 (cut a0 a1 a2).bind λv1=>
 some v1
def M6(a0:j5)(a1:Int):Option (j5 × Int):=
 (I5 a0).bind λv1=>
 if (decide (v1≥a0.Cap)) then
  some (a0,4)
 else
 (M7 a0.L 0 v1).bind λv2=>
 (app 8 v2 [a1]).bind λv3=>
 some ((⟨v3,a0.Cap⟩:j5),0)
def a26(a0:j5)(a1:Int):Option (j5 × (List Int)):=
 (I5 a0).bind λv1=>
 (M7 a0.L 0 (if (if v1<a1 then v1 else a1) > 0 then (if v1<a1 then v1 else a1) else 0)).bind λv2=>
 (M7 a0.L (if (if v1<a1 then v1 else a1) > 0 then (if v1<a1 then v1 else a1) else 0) v1).bind λv3=>
 some ((⟨v3,a0.Cap⟩:j5),v2)
def a0M(a0:j5):Option (j5 × Int × Int):=
 (a26 a0 1).bind λv1=>
 if ((v1.2.length:Int)==0) then
  some (a0,0,10)
 else
 (ix v1.2 0).bind λv2=>
 some (v1.1,v2,0)
def a1J(a0:a7)(a1:List Int):Option (List (Int × Bool)):=
 (B9 a0).bind λv1=>
 (a2w (v1.length:Int)).bind λv2=>
 jn (λ((j20,j21):j5 × (List (Int × Bool)))=>
  jn (λ(j68:List (Int × Bool))=>
   some j68) (λκ67=>
   (lp (S:=j5 × (List (Int × Bool))) (E:=(List (Int × Bool))) (λ((s70,s71):j5 × (List (Int × Bool)))=>
    (I5 s70).bind λv74=>
    if (decide (v74 > 0)) then
     (a0M s70).bind λv75=>
     (a5l a0 v75.2.1).bind λv76=>
     jn (λ((j94,j95):j5 × (List (Int × Bool)))=>
      some (.inl (j94,j95))) (λκ93=>
      (lp (S:=Int × j5 × (List (Int × Bool))) (E:=(j5 × (List (Int × Bool)))) (λ((s98,s99,s100):Int × j5 × (List (Int × Bool)))=>
       if (decide (s98<(v76.length:Int))) then
        jn (λ((j107,j108):j5 × (List (Int × Bool)))=>
         some (.inl (u5 (s98+1),j107,j108))) (λκ106=>
         (ix v76 s98).bind λv110=>
         (a0l a0 v110).bind λv111=>
         if (v111==true) then
          if (!((A0 s100 v110).getD (false:Bool))) then
           (M6 s99 v110).bind λv112=>
           κ106 (v112.1,(o0 s100 v110 true))
          else
          κ106 (s99,s100)
         else
         κ106 (s99,s100))
       else
       some (.inr (s99,s100))) (0,v75.1,s71)).bind λe97=>
      κ93 e97)
    else
    some (.inr s71)) (j20,j21)).bind λe69=>
   κ67 e69)) (λκ19=>
  (lp (S:=Int × j5 × (List (Int × Bool))) (E:=(j5 × (List (Int × Bool)))) (λ((s114,s115,s116):Int × j5 × (List (Int × Bool)))=>
   if (decide (s114<(a1.length:Int))) then
    jn (λ((j123,j124):j5 × (List (Int × Bool)))=>
     some (.inl (u5 (s114+1),j123,j124))) (λκ122=>
     (ix a1 s114).bind λv126=>
     (a0l a0 v126).bind λv127=>
     if (v127==true) then
      if (!((A0 s116 v126).getD (false:Bool))) then
       (M6 s115 v126).bind λv128=>
       κ122 (v128.1,(o0 s116 v126 true))
      else
      κ122 (s115,s116)
     else
     κ122 (s115,s116))
   else
   some (.inr (s115,s116))) (0,v2,[])).bind λe113=>
  κ19 e113)
def a3l(a0:Int)(a1:List (Int × Bool)):Option Bool:=
 some ((A0 a1 a0).getD (false:Bool))
def P6(a0:a7)(a1:List (Int × Bool)):Option (List Int):=
 jn (λ(j16:List Int)=>
  some j16) (λκ15=>
  (B9 a0).bind λv17=>
  (lp (S:=Int × (List Int)) (E:=(List Int)) (λ((s19,s20):Int × (List Int))=>
   if (decide (s19<(v17.length:Int))) then
    jn (λ(j27:List Int)=>
     some (.inl (u5 (s19+1),j27))) (λκ26=>
     (ix v17 s19).bind λv28=>
     (a3l v28 a1).bind λv29=>
     if v29 then
      (app 8 s20 [v28]).bind λv30=>
      κ26 v30
     else
     κ26 s20)
   else
   some (.inr s20)) (0,[])).bind λe18=>
  κ15 e18)
def a32(a0:a7)(a1:List Int):Option (List Int):=
 (a1J a0 a1).bind λv1=>
 (P6 a0 v1).bind λv2=>
 some v2
def a2s(a0:m7):Option Bool:=
 some true
def y9(a0:List b8):Option (List m7):=
 jn (λ(j16:List m7)=>
  some j16) (λκ15=>
  (a49 a0).bind λv17=>
  (lp (S:=Int × (List m7)) (E:=(List m7)) (λ((s19,s20):Int × (List m7))=>
   if (decide (s19<(v17.length:Int))) then
    (ix v17 s19).bind λv23=>
    (J2 a0 v23).bind λv24=>
    jn (λ(j28:List m7)=>
     some (.inl (u5 (s19+1),j28))) (λκ27=>
     (a2s (⟨v23,v24.1⟩:m7)).bind λv29=>
     if v29 then
      (app 16 s20 [(⟨v23,v24.1⟩:m7)]).bind λv30=>
      κ27 v30
     else
     κ27 s20)
   else
   some (.inr s20)) (0,[])).bind λe18=>
  κ15 e18)
def a4n(a0:List b8):Option (List m7):=
 (a1d a0).bind λv1=>
 (y9 v1).bind λv2=>
 some v2
def a3L(a0:Int)(a1:a7):Option Bool:=
 (r9 a1 a0).bind λv1=>
 some (v1.2==0)
def a9Y(a0:a7)(a1:List b8)(a2:List Int):Option (List Int):=
 jn (λ(j20:List Int)=>
  some j20) (λκ19=>
  (a4n a1).bind λv21=>
  (lp (S:=Int × (List Int)) (E:=(List Int)) (λ((s23,s24):Int × (List Int))=>
   if (decide (s23<(v21.length:Int))) then
    jn (λ(j33:List Int)=>
     some (.inl (u5 (s23+1),j33))) (λκ32=>
     (ix v21 s23).bind λv34=>
     (D0 a2 v34.Key).bind λv35=>
     (y7 (v35==true) false (a3L v34.Key a0)).bind λv36=>
     (y7 ((v35&&v36)==true) false (a3L v34.Val a0)).bind λv37=>
     if ((v35&&v36)&&v37) then
      (app 8 s24 [v34.Val]).bind λv38=>
      κ32 v38
     else
     κ32 s24)
   else
   some (.inr s24)) (0,[])).bind λe22=>
  κ19 e22)
def a73(a0:a7)(a1:List b8)(a2:List Int):Option ((List Int) × Int):=
 (a32 a0 a2).bind λv1=>
 (lp (S:=(List Int) × Int) (E:=((List Int) × Int)) (λ((s3,s4):(List Int) × Int)=>
  (a9Y a0 a1 s3).bind λv7=>
  jn (λ(_:Unit)=>
   some (.inr (s3,s4))) (λκ15=>
   (lp (S:=Int) (E:=((List Int) × Int) ⊕ Unit) (λ(s18:Int)=>
    if (decide (s18<(v7.length:Int))) then
     (ix v7 s18).bind λv20=>
     (D0 s3 v20).bind λv21=>
     if (!v21) then
      (app 8 v7 s3).bind λv22=>
      (a32 a0 v22).bind λv23=>
      some (.inr (.inl (v23,u5 (s4+1))))
     else
     some (.inl (u5 (s18+1)))
    else
    some (.inr (.inr ()))) 0).bind λe17=>
   match e17 with
   | .inl w=>some (.inl w)
   | .inr w=>κ15 w)) (v1,0)).bind λe2=>
 some e2
def a9X(a0:a7)(a1:List b8)(a2:List Int):Option (List Int):=
 (a73 a0 a1 a2).bind λv1=>
 some v1.1
def a3m(a0:Int)(a1:List (Int × Bool)):Option Bool:=
 some (!((A0 a1 a0).getD (false:Bool)))
def P7(a0:a7)(a1:List (Int × Bool)):Option (List Int):=
 jn (λ(j16:List Int)=>
  some j16) (λκ15=>
  (B9 a0).bind λv17=>
  (lp (S:=Int × (List Int)) (E:=(List Int)) (λ((s19,s20):Int × (List Int))=>
   if (decide (s19<(v17.length:Int))) then
    jn (λ(j27:List Int)=>
     some (.inl (u5 (s19+1),j27))) (λκ26=>
     (ix v17 s19).bind λv28=>
     (a3m v28 a1).bind λv29=>
     if v29 then
      (app 8 s20 [v28]).bind λv30=>
      κ26 v30
     else
     κ26 s20)
   else
   some (.inr s20)) (0,[])).bind λe18=>
  κ15 e18)
def a6h(a0:a7)(a1:List Int):Option (List Int):=
 (a1J a0 a1).bind λv1=>
 (P7 a0 v1).bind λv2=>
 some v2
def a7a(a0:a7)(a1:List b8)(a2:List Int):Option (List Int):=
 (a9X a0 a1 a2).bind λv1=>
 (a6h a0 v1).bind λv2=>
 some v2
def a0O(a0:a7)(a1:List b8):Option (List Int):=
 (a6t a0 a1).bind λv1=>
 (a7a a0 a1 v1).bind λv2=>
 some v2
def N8(a0:b6):Option (List Int):=
 (a0O a0.S a0.T).bind λv1=>
 some v1
def a2X(a0:Int)(a1:b6):Option Bool:=
 (r9 a1.S a0).bind λv1=>
 some ((decide (v1.1.Prog≥0))&&(!v1.1.Started))
def E9(a0:List Int)(a1:b6):Option (List Int):=
 jn (λ(j15:List Int)=>
  some j15) (λκ14=>
  (lp (S:=Int × (List Int)) (E:=(List Int)) (λ((s17,s18):Int × (List Int))=>
   if (decide (s17<(a0.length:Int))) then
    jn (λ(j25:List Int)=>
     some (.inl (u5 (s17+1),j25))) (λκ24=>
     (ix a0 s17).bind λv26=>
     (a2X v26 a1).bind λv27=>
     if v27 then
      (app 8 s18 [v26]).bind λv28=>
      κ24 v28
     else
     κ24 s18)
   else
   some (.inr s18)) (0,[])).bind λe16=>
  κ14 e16)
def a2q(a0:b6):Option (List Int):=
 (N8 a0).bind λv1=>
 (E9 v1 a0).bind λv2=>
 some v2
def U7(a0:b6):Option (b6 × Int × Int):=
 (a2q a0).bind λv1=>
 jn (λ(j10:b6)=>
  if (decide ((v1.length:Int) > 0)) then
   some (j10,(v1.length:Int),0)
  else
  (N8 j10).bind λv11=>
  (Z3 j10 v11).bind λv12=>
  (L9 v12).bind λv13=>
  (B9 j10.S).bind λv14=>
  (B9 v13.S).bind λv15=>
  some (v13,0,u5 ((v14.length:Int)-(v15.length:Int)))) (λκ9=>
  (lp (S:=Int × b6) (E:=b6) (λ((s17,s18):Int × b6)=>
   if (decide (s17<(v1.length:Int))) then
    (ix v1 s17).bind λv21=>
    (P8 s18 v21).bind λv22=>
    some (.inl (u5 (s17+1),v22))
   else
   some (.inr s18)) (0,a0)).bind λe16=>
  κ9 e16)
def X0(a0:c9)(a1:Int):Option (c9 × (List g7)):=
 (G2 a0).bind λv1=>
 (D2 a0.L 0 (if (if v1<a1 then v1 else a1) > 0 then (if v1<a1 then v1 else a1) else 0)).bind λv2=>
 (D2 a0.L (if (if v1<a1 then v1 else a1) > 0 then (if v1<a1 then v1 else a1) else 0) v1).bind λv3=>
 some ((⟨v3,a0.Cap⟩:c9),v2)
def a0D(a0:c9):Option (c9 × g7 × Int):=
 (X0 a0 1).bind λv1=>
 if ((v1.2.length:Int)==0) then
  some (a0,(⟨0,0,0⟩:g7),10)
 else
 (ix v1.2 0).bind λv2=>
 some (v1.1,v2,0)
def a1m(a0:c9):Option (c9 × g7 × Int):=
 (a0D a0).bind λv1=>
 some (v1.1,v1.2.1,v1.2.2)
def a2B(a0:b6):Option Bool:=
 (a1m a0.Q).bind λv1=>
 some (v1.2.2 != 0)
def a3J(a0:List (List c5))(a1:Int):Option (List c5):=
 if ((decide (a1<0))||(decide (a1≥(a0.length:Int)))) then
  some []
 else
 (ix a0 a1).bind λv1=>
 some v1
def a5Q(a0:List (List c5))(a1:g7):Option Int:=
 (a3J a0 a1.Prog).bind λv1=>
 some (u5 (1+(v1.length:Int)))
def a2G(a0:b6)(a1:List c5):Option (b6 × (List Int)):=
 jn (λ((j11,j12):b6 × (List Int))=>
  some (j11,j12)) (λκ10=>
  (lp (S:=Int × b6 × (List Int)) (E:=(b6 × (List Int))) (λ((s15,s16,s17):Int × b6 × (List Int))=>
   if (decide (s15<(a1.length:Int))) then
    (ix a1 s15).bind λv20=>
    (p8 s16 v20).bind λv21=>
    (app 8 s17 [v21.2.1]).bind λv22=>
    some (.inl (u5 (s15+1),v21.1,v22))
   else
   some (.inr (s16,s17))) (0,a0,[])).bind λe14=>
  κ10 e14)
def a5R(a0:b6)(a1:List (List c5)):Option (b6 × g7 × Int):=
 (a1m a0.Q).bind λv1=>
 if (v1.2.2 != 0) then
  some (a0,(⟨0,0,0⟩:g7),v1.2.2)
 else
 jn (λ(j6:b6)=>
  (a3J a1 v1.2.1.Prog).bind λv7=>
  (a2G j6 v7).bind λv8=>
  if (v1.2.1.Kind==1) then
   (a0g v8.1 5 0).bind λv9=>
   (L9 v9.1).bind λv10=>
   some (v10,v1.2.1,0)
  else
  some (v8.1,v1.2.1,0)) (λκ5=>
  if (v1.2.1.Kind==1) then
   (a0g (⟨a0.S,a0.Roots,a0.a8,a0.T,v1.1⟩:b6) 5 v1.2.1.At).bind λv11=>
   (B0 v11.1 v1.2.1.At).bind λv12=>
   (L9 v12).bind λv13=>
   κ5 v13
  else
  κ5 (⟨a0.S,a0.Roots,a0.a8,a0.T,v1.1⟩:b6))
def a2A(a0:b6)(a1:List (List c5))(a2:Int):Option (b6 × Int × Int × Int):=
 jn (λ((j14,j15,j16):Int × Int × b6)=>
  (a2B j16).bind λv18=>
  if (!v18) then
   some (j16,j14,j15,12)
  else
  some (j16,j14,j15,0)) (λκ13=>
  (lp (S:=Int × b6 × Int × Int × b6) (E:=(Int × Int × b6)) (λ((s20,s21,s22,s23,s24):Int × b6 × Int × Int × b6)=>
   (a2B s21).bind λv27=>
   if (!v27) then
    (a1m s21.Q).bind λv28=>
    (a5Q a1 v28.2.1).bind λv29=>
    if (decide (v29 > s20)) then
     some (.inr (s22,s23,s24))
    else
    (a5R s21 a1).bind λv30=>
    some (.inl (u5 (s20-v29),v30.1,u5 (s22+1),u5 (s20-v29),v30.1))
   else
   some (.inr (s22,s23,s24))) (a2,a0,0,a2,a0)).bind λe19=>
  κ13 e19)
def a7Z(a0:m8)(a1:List Int):Option (m8 × l4):=
 (T5 a1).bind λv1=>
 if (v1.2 != 0) then
  some (a0,(⟨0,v1.2⟩:l4))
 else
 (a5S v1.1).bind λv2=>
 if (decide (v2.t=85)) then
  (p8 a0.X (⟨(ifG v2 85 0),(ifG v2 85 1),(ifG v2 85 2),(ifG v2 85 3)⟩:c5)).bind λv3=>
  some ((⟨v3.1,a0.Progs⟩:m8),(⟨v3.2.1,v3.2.2⟩:l4))
 else
 if (decide (v2.t=89)) then
  (U7 a0.X).bind λv4=>
  some ((⟨v4.1,a0.Progs⟩:m8),(⟨u5 (v4.2.2-v4.2.1),0⟩:l4))
 else
 if (decide (v2.t=93)) then
  (a2A a0.X a0.Progs (ifG v2 93 0)).bind λv5=>
  some ((⟨v5.1,a0.Progs⟩:m8),(⟨v5.2.1,v5.2.2.2⟩:l4))
 else
 some (a0,(⟨0,0⟩:l4))
def a0Z(a0:m8)(a1:List (List Int)):Option (m8 × (List l4)):=
 jn (λ((j11,j12):m8 × (List l4))=>
  some (j11,j12)) (λκ10=>
  (lp (S:=Int × m8 × (List l4)) (E:=(m8 × (List l4))) (λ((s15,s16,s17):Int × m8 × (List l4))=>
   if (decide (s15<(a1.length:Int))) then
    (ix a1 s15).bind λv20=>
    (a7Z s16 v20).bind λv21=>
    (app 16 s17 [v21.2]).bind λv22=>
    some (.inl (u5 (s15+1),v21.1,v22))
   else
   some (.inr (s16,s17))) (0,a0,[])).bind λe14=>
  κ10 e14)
def O7(a0:c7):Option A4:=
 jn (λ(j9:A4)=>
  some j9) (λκ8=>
  (lp (S:=Int × A4) (E:=A4) (λ((s11,s12):Int × A4)=>
   if (decide (s11<(a0.a8.length:Int))) then
    (ix a0.a8 s11).bind λv15=>
    (A4.ix s12 v15.State).bind λv16=>
    some (.inl (u5 (s11+1),(A4.st s12 v15.State (u5 (v16+1)))))
   else
   some (.inr s12)) (0,(⟨0,0,0,0⟩:A4))).bind λe10=>
  κ8 e10)
def a3g(a0:m8):Option A4:=
 (O7 a0.X.S.S).bind λv1=>
 some v1
def a7P:Option Bool:=
 (b0Q 2 3).bind λv1=>
 (a1b 1 0 1 (-1)).bind λv2=>
 (a1b 5 0 0 0).bind λv3=>
 (a1b 3 0 0 0).bind λv4=>
 (a1b 11 0 0 0).bind λv5=>
 (a1b 1 0 0 (-1)).bind λv6=>
 (a1b 1 1 0 (-1)).bind λv7=>
 (a1b 1 2 0 (-1)).bind λv8=>
 (a0Z v1 [v2,v3,v4,v5,v6,v7,v8]).bind λv9=>
 (y7 (((v9.2.length:Int)==7)==true) (⟨0,0⟩:l4) (ix v9.2 3)).bind λv10=>
 (y7 ((((v9.2.length:Int)==7)&&(v10.V==1))==true) (⟨0,0⟩:l4) (ix v9.2 4)).bind λv11=>
 (y7 (((((v9.2.length:Int)==7)&&(v10.V==1))&&(v11.V==2))==true) (⟨0,0⟩:l4) (ix v9.2 5)).bind λv12=>
 (y7 ((((((v9.2.length:Int)==7)&&(v10.V==1))&&(v11.V==2))&&(v12.V==3))==true) (⟨0,0⟩:l4) (ix v9.2 6)).bind λv13=>
 (y7 (((((((v9.2.length:Int)==7)&&(v10.V==1))&&(v11.V==2))&&(v12.V==3))&&(v13.E==4))==true) ⟨0,0,0,0⟩ (a3g v9.1)).bind λv14=>
 some (((((((v9.2.length:Int)==7)&&(v10.V==1))&&(v11.V==2))&&(v12.V==3))&&(v13.E==4))&&((v14.a==0)&&((v14.b==2)&&((v14.c==0)&&((v14.d==0)&&true)))))
def a0b(a0:m8):Option (List Int):=
 jn (λ(j11:List Int)=>
  (a8t j11).bind λv12=>
  some v12) (λκ10=>
  (B9 a0.X.S).bind λv13=>
  (lp (S:=Int × (List Int)) (E:=(List Int)) (λ((s15,s16):Int × (List Int))=>
   if (decide (s15<(v13.length:Int))) then
    (ix v13 s15).bind λv19=>
    (Z1 a0.X v19).bind λv20=>
    (app 8 s16 [v20]).bind λv21=>
    some (.inl (u5 (s15+1),v21))
   else
   some (.inr s16)) (0,[])).bind λe14=>
  κ10 e14)
def a2M(a0:List Int)(a1:List Int):Option Bool:=
 if ((a0.length:Int) != (a1.length:Int)) then
  some false
 else
 jn (λ(_:Unit)=>
  some true) (λκ6=>
  (lp (S:=Int) (E:=Bool ⊕ Unit) (λ(s9:Int)=>
   if (decide (s9<(a0.length:Int))) then
    (ix a0 s9).bind λv11=>
    (ix a1 s9).bind λv12=>
    if (v11 != v12) then
     some (.inr (.inl false))
    else
    some (.inl (u5 (s9+1)))
   else
   some (.inr (.inr ()))) 0).bind λe8=>
  match e8 with
  | .inl w=>some w
  | .inr w=>κ6 w)
def b0P(a0:m8)(a1:Int):Option Bool:=
 (a0b a0).bind λv1=>
 jn (λ(_:Unit)=>
  some false) (λκ6=>
  (lp (S:=Int) (E:=Bool ⊕ Unit) (λ(s9:Int)=>
   if (decide (s9<(v1.length:Int))) then
    (ix v1 s9).bind λv11=>
    if (v11==a1) then
     some (.inr (.inl true))
    else
    some (.inl (u5 (s9+1)))
   else
   some (.inr (.inr ()))) 0).bind λe8=>
  match e8 with
  | .inl w=>some w
  | .inr w=>κ6 w)
def a6z(a0:Int)(a1:List c5):Option Bool:=
 (app 32 [] [(⟨2,4,5,0⟩:c5)]).bind λv1=>
 (app 32 v1 a1).bind λv2=>
 (y7 ((decide ((a1.length:Int) > 4))==false) [] (a7O [v2])).bind λv3=>
 (y7 ((decide ((a1.length:Int) > 4))==false) false (a2h v3)).bind λv4=>
 (y7 (((decide ((a1.length:Int) > 4))||(!v4))==false) false a7P).bind λv5=>
 if (((decide ((a1.length:Int) > 4))||(!v4))||(!v5)) then
  (a7P).bind λv6=>
  some v6
 else
 jn (λ(_:Unit)=>
  (rem (u5 a0) 24).bind λv13=>
  (Y8 (u5 (1+v13)) 9 8 [v2]).bind λv14=>
  (a1b 1 0 0 0).bind λv15=>
  (a1b 3 0 0 0).bind λv16=>
  (a1b 12 200 0 0).bind λv17=>
  (a0Z v14.1 [v15,v16,v17]).bind λv18=>
  (a1b 3 4 0 0).bind λv19=>
  (a0Z v18.1 [v19,v17]).bind λv20=>
  (y7 (((v14.2==0)&&((v18.2.length:Int)==3))==true) (⟨0,0⟩:l4) (ix v18.2 2)).bind λv21=>
  (y7 ((((v14.2==0)&&((v18.2.length:Int)==3))&&(v21.V==1))==true) [] (a0b v18.1)).bind λv22=>
  (y7 ((((v14.2==0)&&((v18.2.length:Int)==3))&&(v21.V==1))==true) false (a2M v22 [1])).bind λv23=>
  (y7 ((((((v14.2==0)&&((v18.2.length:Int)==3))&&(v21.V==1))&&v23)&&((v20.2.length:Int)==2))==true) false (b0P v20.1 1)).bind λv24=>
  some ((((((v14.2==0)&&((v18.2.length:Int)==3))&&(v21.V==1))&&v23)&&((v20.2.length:Int)==2))&&(!v24))) (λκ11=>
  (lp (S:=Int) (E:=Bool ⊕ Unit) (λ(s26:Int)=>
   if (decide (s26<(a1.length:Int))) then
    (ix a1 s26).bind λv28=>
    if ((v28.A==4)||(((v28.Kind != 3)&&(v28.Kind != 10))&&(v28.Kind != 6))) then
     some (.inr (.inl true))
    else
    some (.inl (u5 (s26+1)))
   else
   some (.inr (.inr ()))) 0).bind λe25=>
  match e25 with
  | .inl w=>some w
  | .inr w=>κ11 w)
structure L7 where
 Serial:Int
 Strong:Int
 Weak:Int
 Prog:Int
 Started:Bool
 Fields:List Int
structure F9 where
 State:Int
 Gen:Int
 Val:L7
structure E8 where
 Target:Int
 Intact:Bool
 Call:Int
structure p7 where
 State:Int
 Key:Int
 Val:Int
structure O5 where
 Kind:Int
 At:Int
 Prog:Int
structure L0 where
 State:Int
 Gen:Int
 Val:Int
structure E7 where
 a8:List L0
 Last:Int
structure o5 where
 a8:List F9
 Last:Int
 Serial:Int
structure C4 where
 L:List O5
 Cap:Int
structure g8 where
 S:o5
 Roots:List Int
 a8:List E8
 T:List p7
 Q:C4
structure C7 where
 X:g8
 Progs:List (List o8)
structure a3Y where
 Key:Int
 Val:Int
structure H4 where
 V:Int
 E:Int
def c0W(a0:Int)(a1:Int):Option E7:=
 if ((((decide (a0<0))||(decide (a0 > 24)))||(decide (a1<0)))||(decide (a1 > 9))) then
  some (⟨[],0⟩:E7)
 else
 (mk 24 a0 (⟨0,0,0⟩:L0)).bind λv1=>
 some (⟨v1,a1⟩:E7)
def b6r(a0:Int)(a1:Int):Option o5:=
 (c0W a0 a1).bind λv1=>
 (mk 80 (v1.a8.length:Int) (⟨0,0,⟨0,0,0,0,false,[]⟩⟩:F9)).bind λv2=>
 some (⟨v2,v1.Last,0⟩:o5)
def c6W(a0:Int):Option (List E8):=
 jn (λ(j8:List E8)=>
  some j8) (λκ7=>
  (lp (S:=Int × (List E8)) (E:=(List E8)) (λ((s10,s11):Int × (List E8))=>
   if ((decide (s10<a0))&&(decide (a0≤6))) then
    (app 24 s11 [(⟨0,false,(-1)⟩:E8)]).bind λv14=>
    some (.inl (u5 (s10+1),v14))
   else
   some (.inr s11)) (0,[])).bind λe9=>
  κ7 e9)
def c0X(a0:Int):Option (List p7):=
 if ((decide (a0<1))||(decide (a0 > 8))) then
  some []
 else
 (mk 24 a0 (⟨0,0,0⟩:p7)).bind λv1=>
 some v1
def c6X:Option C4:=
 some (⟨[],30⟩:C4)
def b0v(a0:Int)(a1:Int)(a2:Int):Option g8:=
 if ((((((decide (a0<1))||(decide (a0 > 24)))||(decide (a1<0)))||(decide (a1 > 9)))||(decide (a2<1)))||(decide (a2 > 8))) then
  some (⟨⟨[],0,0⟩,[],[],[],⟨[],0⟩⟩:g8)
 else
 (b6r a0 a1).bind λv1=>
 (mk 8 6 (0:Int)).bind λv2=>
 (c6W 6).bind λv3=>
 (c0X a2).bind λv4=>
 (c6X).bind λv5=>
 some (⟨v1,v2,v3,v4,v5⟩:g8)
def b6z(a0:Int)(a1:Int)(a2:Int)(a3:List (List o8)):Option (C7 × Int):=
 (a2h a3).bind λv1=>
 if (!v1) then
  some ((⟨⟨⟨[],0,0⟩,[],[],[],⟨[],0⟩⟩,[]⟩:C7),13)
 else
 (b0v a0 a1 a2).bind λv2=>
 if ((v2.Roots.length:Int)==0) then
  some ((⟨⟨⟨[],0,0⟩,[],[],[],⟨[],0⟩⟩,[]⟩:C7),1)
 else
 some ((⟨v2,a3⟩:C7),0)
def R9(a0:o5):Option E7:=
 jn (λ(j9:List L0)=>
  some (⟨j9,a0.Last⟩:E7)) (λκ8=>
  (lp (S:=Int × (List L0)) (E:=(List L0)) (λ((s11,s12):Int × (List L0))=>
   if (decide (s11<(a0.a8.length:Int))) then
    (ix a0.a8 s11).bind λv15=>
    (app 24 s12 [(⟨v15.State,v15.Gen,s11⟩:L0)]).bind λv16=>
    some (.inl (u5 (s11+1),v16))
   else
   some (.inr s12)) (0,[])).bind λe10=>
  κ8 e10)
def a2P(a0:List p7)(a1:Int):Option Int:=
 jn (λ(_:Unit)=>
  some (-1)) (λκ5=>
  (lp (S:=Int) (E:=Int ⊕ Unit) (λ(s8:Int)=>
   if (decide (s8<(a0.length:Int))) then
    (ix a0 s8).bind λv10=>
    if ((v10.State==1)&&(v10.Key==a1)) then
     some (.inr (.inl s8))
    else
    some (.inl (u5 (s8+1)))
   else
   some (.inr (.inr ()))) 0).bind λe7=>
  match e7 with
  | .inl w=>some w
  | .inr w=>κ5 w)
def b8c(a0:Int)(a1:Int):Option Int:=
 if (decide (a0<1)) then
  some 0
 else
 (rem (u5 ((u5 (5*a1))+1)) a0).bind λv1=>
 if (decide (v1<0)) then
  some (u5 (v1+a0))
 else
 some v1
def a5i(a0:Int)(a1:Int):Option Int:=
 if ((((decide (a0<0))||(decide (a0 > 23)))||(decide (a1<0)))||(decide (a1 > 9))) then
  some 0
 else
 some (u5 ((u5 (1+a0))+(u5 (32*a1))))
def a8e(a0:Int):Option Bool:=
 if ((decide (a0<1))||(decide (a0 > 400))) then
  some false
 else
 (rem (u5 (a0-1)) 32).bind λv1=>
 (quo .i64 (u5 (a0-1)) 32).bind λv2=>
 (a5i v1 v2).bind λv3=>
 some (v3==a0)
def a7n(a0:Int):Option Int:=
 (a8e a0).bind λv1=>
 if (!v1) then
  some (-1)
 else
 (rem (u5 (a0-1)) 32).bind λv2=>
 some v2
def b6p(a0:Int):Option Int:=
 (a8e a0).bind λv1=>
 if (!v1) then
  some (-1)
 else
 (quo .i64 (u5 (a0-1)) 32).bind λv2=>
 some v2
def O4(a0:E7)(a1:Int):Option (Int × Int):=
 if (a1==0) then
  some ((-1),2)
 else
 (a7n a1).bind λv1=>
 if ((decide (v1<0))||(decide (v1≥(a0.a8.length:Int)))) then
  some ((-1),3)
 else
 (ix a0.a8 v1).bind λv2=>
 (b6p a1).bind λv3=>
 if ((v2.Gen != v3)||((v2.State != 1)&&(v2.State != 2))) then
  some ((-1),3)
 else
 some (v1,0)
def b2v(a0:E7)(a1:Int):Option (Int × Int):=
 (O4 a0 a1).bind λv1=>
 if (v1.2 != 0) then
  some (0,v1.2)
 else
 (ix a0.a8 v1.1).bind λv2=>
 if (v2.State==2) then
  some (0,3)
 else
 some (v2.Val,0)
def E4(a0:o5)(a1:Int):Option (L7 × Int):=
 (R9 a0).bind λv1=>
 (b2v v1 a1).bind λv2=>
 if (v2.2 != 0) then
  some ((⟨0,0,0,0,false,[]⟩:L7),v2.2)
 else
 (ix a0.a8 v2.1).bind λv3=>
 some (v3.Val,0)
def a3B(a0:g8)(a1:Int):Option Bool:=
 (E4 a0.S a1).bind λv1=>
 some (v1.2==0)
def a3C(a0:g8)(a1:Int):Option Bool:=
 (y7 ((a1==0)==false) false (a3B a0 a1)).bind λv1=>
 some ((a1==0)||v1)
def a9w(a0:o5)(a1:List Int):Option (List Int):=
 (app 8 [] a1).bind λv1=>
 jn (λ(j36:List Int)=>
  some j36) (λκ35=>
  (lp (S:=Int × (List Int)) (E:=(List Int)) (λ((s38,s39):Int × (List Int))=>
   if (decide (s38<(s39.length:Int))) then
    jn (λ(j56:List Int)=>
     some (.inl (u5 (s38+1),j56))) (λκ55=>
     (lp (S:=Int × (List Int)) (E:=(List Int)) (λ((s58,s59):Int × (List Int))=>
      if (decide (s58 > 0)) then
       (R9 a0).bind λv62=>
       (ix s59 (u5 (s58-1))).bind λv63=>
       (O4 v62 v63).bind λv64=>
       (ix s59 s58).bind λv65=>
       (O4 v62 v65).bind λv66=>
       (y7 (((decide (v64.1<0))||(decide (v66.1<0)))==false) (⟨0,0,⟨0,0,0,0,false,[]⟩⟩:F9) (ix a0.a8 v64.1)).bind λv67=>
       (y7 (((decide (v64.1<0))||(decide (v66.1<0)))==false) (⟨0,0,⟨0,0,0,0,false,[]⟩⟩:F9) (ix a0.a8 v66.1)).bind λv68=>
       if (((decide (v64.1<0))||(decide (v66.1<0)))||(decide (v67.Val.Serial≤v68.Val.Serial))) then
        some (.inr s59)
       else
       (ix (s59.set (s58).toNat v63) (u5 (s58-1))).bind λv69=>
       some (.inl (u5 (s58-1),((s59.set (s58).toNat v63).set (u5 (s58-1)).toNat v65)))
      else
      some (.inr s59)) (s38,s39)).bind λe57=>
     κ55 e57)
   else
   some (.inr s39)) (1,v1)).bind λe37=>
  κ35 e37)
def a1I(a0:o5):Option (List Int):=
 jn (λ(j15:List Int)=>
  (a9w a0 j15).bind λv16=>
  some v16) (λκ14=>
  (lp (S:=Int × (List Int)) (E:=(List Int)) (λ((s18,s19):Int × (List Int))=>
   if (decide (s18<(a0.a8.length:Int))) then
    jn (λ(j26:List Int)=>
     some (.inl (u5 (s18+1),j26))) (λκ25=>
     (ix a0.a8 s18).bind λv27=>
     if (v27.State==1) then
      (a5i s18 v27.Gen).bind λv28=>
      (app 8 s19 [v28]).bind λv29=>
      κ25 v29
     else
     κ25 s19)
   else
   some (.inr s19)) (0,[])).bind λe17=>
  κ14 e17)
def b3y(a0:List p7):Option (List Int):=
 jn (λ(j13:List Int)=>
  some j13) (λκ12=>
  (lp (S:=Int × (List Int)) (E:=(List Int)) (λ((s15,s16):Int × (List Int))=>
   if (decide (s15<(a0.length:Int))) then
    jn (λ(j22:List Int)=>
     some (.inl (u5 (s15+1),j22))) (λκ21=>
     (ix a0 s15).bind λv23=>
     if (v23.State==1) then
      (app 8 s16 [v23.Key]).bind λv24=>
      κ21 v24
     else
     κ21 s16)
   else
   some (.inr s16)) (0,[])).bind λe14=>
  κ12 e14)
def b0t(a0:List p7)(a1:Int):Option (Int × Int):=
 (a2P a0 a1).bind λv1=>
 if (decide (v1<0)) then
  some (0,9)
 else
 (ix a0 v1).bind λv2=>
 some (v2.Val,0)
def a8h(a0:List p7):Option (List a3Y):=
 (b3y a0).bind λv1=>
 jn (λ(j11:List a3Y)=>
  some j11) (λκ10=>
  (lp (S:=Int × (List a3Y)) (E:=(List a3Y)) (λ((s13,s14):Int × (List a3Y))=>
   if (decide (s13<(v1.length:Int))) then
    (ix v1 s13).bind λv17=>
    (b0t a0 v17).bind λv18=>
    (app 16 s14 [(⟨v17,v18.1⟩:a3Y)]).bind λv19=>
    some (.inl (u5 (s13+1),v19))
   else
   some (.inr s14)) (0,[])).bind λe12=>
  κ10 e12)
def a8j(a0:C4)(a1:Int):Option Bool:=
 jn (λ(_:Unit)=>
  some false) (λκ5=>
  (lp (S:=Int) (E:=Bool ⊕ Unit) (λ(s8:Int)=>
   if (decide (s8<(a0.L.length:Int))) then
    (ix a0.L s8).bind λv10=>
    if ((v10.Kind==2)&&(v10.At==a1)) then
     some (.inr (.inl true))
    else
    some (.inl (u5 (s8+1)))
   else
   some (.inr (.inr ()))) 0).bind λe7=>
  match e7 with
  | .inl w=>some w
  | .inr w=>κ5 w)
def a2f(a0:Int):Option Bool:=
 some (decide (a0≥12))
def b1q(a0:o5)(a1:Int):Option Bool:=
 (E4 a0 a1).bind λv1=>
 (a2f v1.1.Strong).bind λv2=>
 some v2
def a3y(a0:List Int):Option (List Int):=
 jn (λ(j13:List Int)=>
  some j13) (λκ12=>
  (lp (S:=Int × (List Int)) (E:=(List Int)) (λ((s15,s16):Int × (List Int))=>
   if (decide (s15<(a0.length:Int))) then
    jn (λ(j22:List Int)=>
     some (.inl (u5 (s15+1),j22))) (λκ21=>
     (ix a0 s15).bind λv23=>
     if (v23 != 0) then
      (app 8 s16 [v23]).bind λv24=>
      κ21 v24
     else
     κ21 s16)
   else
   some (.inr s16)) (0,[])).bind λe14=>
  κ12 e14)
def b2y(a0:o5)(a1:Int):Option (List Int):=
 (E4 a0 a1).bind λv1=>
 if (v1.2 != 0) then
  some []
 else
 (a3y v1.1.Fields).bind λv2=>
 some v2
def a3A(a0:List Int)(a1:Int):Option Int:=
 jn (λ(j11:Int)=>
  some j11) (λκ10=>
  (lp (S:=Int × Int) (E:=Int) (λ((s13,s14):Int × Int)=>
   if (decide (s14<(a0.length:Int))) then
    jn (λ(j19:Int)=>
     some (.inl (j19,u5 (s14+1)))) (λκ18=>
     (ix a0 s14).bind λv20=>
     if ((v20==a1)&&(a1 != 0)) then
      κ18 (u5 (s13+1))
     else
     κ18 s13)
   else
   some (.inr s13)) (0,0)).bind λe12=>
  κ10 e12)
def b9E(a0:o5)(a1:Int):Option Int:=
 (a1I a0).bind λv1=>
 jn (λ(j11:Int)=>
  some j11) (λκ10=>
  (lp (S:=Int × Int) (E:=Int) (λ((s13,s14):Int × Int)=>
   if (decide (s14<(v1.length:Int))) then
    (ix v1 s14).bind λv17=>
    (b2y a0 v17).bind λv18=>
    (a3A v18 a1).bind λv19=>
    some (.inl (u5 (s13+v19),u5 (s14+1)))
   else
   some (.inr s13)) (0,0)).bind λe12=>
  κ10 e12)
def b1o(a0:List p7)(a1:Int):Option Int:=
 (a8h a0).bind λv1=>
 jn (λ(j12:Int)=>
  some j12) (λκ11=>
  (lp (S:=Int × Int) (E:=Int) (λ((s14,s15):Int × Int)=>
   if (decide (s15<(v1.length:Int))) then
    jn (λ(j20:Int)=>
     some (.inl (j20,u5 (s15+1)))) (λκ19=>
     (ix v1 s15).bind λv21=>
     if ((v21.Val==a1)&&(a1 != 0)) then
      κ19 (u5 (s14+1))
     else
     κ19 s14)
   else
   some (.inr s14)) (0,0)).bind λe13=>
  κ11 e13)
def b1p(a0:o5)(a1:List p7)(a2:Int):Option Int:=
 (b9E a0 a2).bind λv1=>
 (b1o a1 a2).bind λv2=>
 some (u5 (v1+v2))
def b3C(a0:o5)(a1:List p7)(a2:Int):Option Int:=
 (E4 a0 a2).bind λv1=>
 if (v1.2 != 0) then
  some 0
 else
 (b1p a0 a1 a2).bind λv2=>
 some (u5 (v1.1.Strong-v2))
def b0w(a0:g8):Option (List Int):=
 (a1I a0.S).bind λv1=>
 jn (λ(j16:List Int)=>
  some j16) (λκ15=>
  (lp (S:=Int × (List Int)) (E:=(List Int)) (λ((s18,s19):Int × (List Int))=>
   if (decide (s18<(v1.length:Int))) then
    jn (λ(j26:List Int)=>
     some (.inl (u5 (s18+1),j26))) (λκ25=>
     (ix v1 s18).bind λv27=>
     (E4 a0.S v27).bind λv28=>
     if (v28.1.Strong==0) then
      (app 8 s19 [v27]).bind λv29=>
      κ25 v29
     else
     κ25 s19)
   else
   some (.inr s19)) (0,[])).bind λe17=>
  κ15 e17)
def a2g(a0:List Int):Option (o8 × Int):=
 if ((a0.length:Int) != 4) then
  some ((⟨0,0,0,0⟩:o8),14)
 else
 (ix a0 0).bind λv1=>
 (ix a0 1).bind λv2=>
 (ix a0 2).bind λv3=>
 (ix a0 3).bind λv4=>
 (a0k (⟨v1,v2,v3,v4⟩:o8)).bind λv5=>
 if (v5 != 0) then
  some ((⟨0,0,0,0⟩:o8),v5)
 else
 some ((⟨v1,v2,v3,v4⟩:o8),0)
def b3B(a0:o5)(a1:List p7):Option (List Int):=
 (a1I a0).bind λv1=>
 jn (λ(j18:List Int)=>
  some j18) (λκ17=>
  (lp (S:=Int × (List Int)) (E:=(List Int)) (λ((s20,s21):Int × (List Int))=>
   if (decide (s20<(v1.length:Int))) then
    jn (λ(j29:List Int)=>
     some (.inl (u5 (s20+1),j29))) (λκ28=>
     (ix v1 s20).bind λv30=>
     (b3C a0 a1 v30).bind λv31=>
     (y7 ((decide (v31 > 0))==false) false (b1q a0 v30)).bind λv32=>
     if ((decide (v31 > 0))||v32) then
      (app 8 s21 [v30]).bind λv33=>
      κ28 v33
     else
     κ28 s21)
   else
   some (.inr s21)) (0,[])).bind λe19=>
  κ17 e19)
def a8f(a0:List Int)(a1:Int):Option Bool:=
 (a3A a0 a1).bind λv1=>
 some (decide (v1 > 0))
def a8g(a0:List Int)(a1:List Int)(a2:Bool):Option (List Int):=
 jn (λ(j15:List Int)=>
  some j15) (λκ14=>
  (lp (S:=Int × (List Int)) (E:=(List Int)) (λ((s17,s18):Int × (List Int))=>
   if (decide (s17<(a0.length:Int))) then
    jn (λ(j25:List Int)=>
     some (.inl (u5 (s17+1),j25))) (λκ24=>
     (ix a0 s17).bind λv26=>
     (a8f a1 v26).bind λv27=>
     if (v27==a2) then
      (app 8 s18 [v26]).bind λv28=>
      κ24 v28
     else
     κ24 s18)
   else
   some (.inr s18)) (0,[])).bind λe16=>
  κ14 e16)
def a7q(a0:o5)(a1:List Int):Option (List Int):=
 (a1I a0).bind λv1=>
 (a8g v1 a1 true).bind λv2=>
 jn (λ(j51:List Int)=>
  some j51) (λκ50=>
  (lp (S:=(List Int) × Int) (E:=(List Int)) (λ((s53,s54):(List Int) × Int)=>
   if (decide (s54<(v1.length:Int))) then
    jn (λ(j78:List Int)=>
     some (.inl (j78,u5 (s54+1)))) (λκ77=>
     (app 8 [] s53).bind λv79=>
     jn (λ(j89:List Int)=>
      (a8g v1 j89 true).bind λv90=>
      κ77 v90) (λκ88=>
      (lp (S:=Int × (List Int)) (E:=(List Int)) (λ((s92,s93):Int × (List Int))=>
       if (decide (s92<(s53.length:Int))) then
        (ix s53 s92).bind λv96=>
        (b2y a0 v96).bind λv97=>
        (app 8 s93 v97).bind λv98=>
        some (.inl (u5 (s92+1),v98))
       else
       some (.inr s93)) (0,v79)).bind λe91=>
      κ88 e91))
   else
   some (.inr s53)) (v2,0)).bind λe52=>
  κ50 e52)
def a8i(a0:o5)(a1:Int):Option Bool:=
 (E4 a0 a1).bind λv1=>
 some (v1.2==0)
def b0u(a0:o5)(a1:List p7)(a2:List Int):Option (List Int):=
 (a8h a1).bind λv1=>
 jn (λ(j20:List Int)=>
  some j20) (λκ19=>
  (lp (S:=Int × (List Int)) (E:=(List Int)) (λ((s22,s23):Int × (List Int))=>
   if (decide (s22<(v1.length:Int))) then
    jn (λ(j32:List Int)=>
     some (.inl (u5 (s22+1),j32))) (λκ31=>
     (ix v1 s22).bind λv33=>
     (a8i a0 v33.Key).bind λv34=>
     (y7 (v34==true) false (a8f a2 v33.Key)).bind λv35=>
     (y7 ((v34&&v35)==true) false (a8i a0 v33.Val)).bind λv36=>
     if ((v34&&v35)&&v36) then
      (app 8 s23 [v33.Val]).bind λv37=>
      κ31 v37
     else
     κ31 s23)
   else
   some (.inr s23)) (0,[])).bind λe21=>
  κ19 e21)
def a9x(a0:o5)(a1:List p7)(a2:List Int):Option ((List Int) × Int):=
 (a7q a0 a2).bind λv1=>
 jn (λ(j13:List Int)=>
  some (j13,30)) (λκ12=>
  (lp (S:=(List Int) × Int) (E:=((List Int) × Int) ⊕ (List Int)) (λ((s15,s16):(List Int) × Int)=>
   if (decide (s16<30)) then
    (app 8 [] s15).bind λv19=>
    (b0u a0 a1 s15).bind λv20=>
    (app 8 v19 v20).bind λv21=>
    (a7q a0 v21).bind λv22=>
    (a2M v22 s15).bind λv23=>
    if v23 then
     some (.inr (.inl (s15,s16)))
    else
    some (.inl (v22,u5 (s16+1)))
   else
   some (.inr (.inr s15))) (v1,0)).bind λe14=>
  match e14 with
  | .inl w=>some w
  | .inr w=>κ12 w)
def b3z(a0:o5)(a1:List p7)(a2:List Int):Option (List Int):=
 (a9x a0 a1 a2).bind λv1=>
 some v1.1
def b3A(a0:o5)(a1:List p7)(a2:List Int):Option (List Int):=
 (b3z a0 a1 a2).bind λv1=>
 (a1I a0).bind λv2=>
 jn (λ(j17:List Int)=>
  some j17) (λκ16=>
  (lp (S:=Int × (List Int)) (E:=(List Int)) (λ((s19,s20):Int × (List Int))=>
   if (decide (s19<(v2.length:Int))) then
    jn (λ(j27:List Int)=>
     some (.inl (u5 (s19+1),j27))) (λκ26=>
     (ix v2 s19).bind λv28=>
     (a8f v1 v28).bind λv29=>
     if (!v29) then
      (app 8 s20 [v28]).bind λv30=>
      κ26 v30
     else
     κ26 s20)
   else
   some (.inr s20)) (0,[])).bind λe18=>
  κ16 e18)
def a7s(a0:o5)(a1:List p7):Option (List Int):=
 (b3B a0 a1).bind λv1=>
 (b3A a0 a1 v1).bind λv2=>
 some v2
def a4C(a0:g8):Option (List Int):=
 (a7s a0.S a0.T).bind λv1=>
 some v1
def a8k(a0:g8)(a1:Int):Option Bool:=
 (E4 a0.S a1).bind λv1=>
 (a3B a0 a1).bind λv2=>
 some ((v2&&(decide (v1.1.Prog≥0)))&&(!v1.1.Started))
def b1s(a0:g8):Option (List Int):=
 (a4C a0).bind λv1=>
 jn (λ(j16:List Int)=>
  some j16) (λκ15=>
  (lp (S:=Int × (List Int)) (E:=(List Int)) (λ((s18,s19):Int × (List Int))=>
   if (decide (s18<(v1.length:Int))) then
    jn (λ(j26:List Int)=>
     some (.inl (u5 (s18+1),j26))) (λκ25=>
     (ix v1 s18).bind λv27=>
     (a8k a0 v27).bind λv28=>
     if v28 then
      (app 8 s19 [v27]).bind λv29=>
      κ25 v29
     else
     κ25 s19)
   else
   some (.inr s19)) (0,[])).bind λe17=>
  κ15 e17)
def a2O(a0:o5)(a1:Int)(a2:L7):Option o5:=
 (app 80 [] a0.a8).bind λv1=>
 (ix v1 a1).bind λv2=>
 some (⟨(v1.set (a1).toNat (⟨v2.State,v2.Gen,a2⟩:F9)),a0.Last,a0.Serial⟩:o5)
def L8(a0:o5)(a1:Int)(a2:L7):Option (o5 × Int):=
 (R9 a0).bind λv1=>
 (O4 v1 a1).bind λv2=>
 if (v2.2 != 0) then
  some (a0,v2.2)
 else
 (a2O a0 v2.1 a2).bind λv3=>
 some (v3,0)
def a6f(a0:C4)(a1:O5):Option (C4 × Int):=
 if (decide ((a0.L.length:Int)≥a0.Cap)) then
  some (a0,4)
 else
 (app 24 [] a0.L).bind λv1=>
 (app 24 v1 [a1]).bind λv2=>
 some ((⟨v2,a0.Cap⟩:C4),0)
def b2w(a0:Int):Option Int:=
 (a2f a0).bind λv1=>
 if v1 then
  some 12
 else
 if (decide (a0<0)) then
  some 1
 else
 some (u5 (a0+1))
def a6g(a0:g8)(a1:Int)(a2:Int):Option g8:=
 (E4 a0.S a1).bind λv1=>
 if (v1.2 != 0) then
  some a0
 else
 (L8 a0.S a1 (⟨v1.1.Serial,a2,v1.1.Weak,v1.1.Prog,v1.1.Started,v1.1.Fields⟩:L7)).bind λv2=>
 some (⟨v2.1,a0.Roots,a0.a8,a0.T,a0.Q⟩:g8)
def a09(a0:g8)(a1:Int):Option g8:=
 (E4 a0.S a1).bind λv1=>
 (b2w v1.1.Strong).bind λv2=>
 (a6g a0 a1 v2).bind λv3=>
 some v3
def a30(a0:g8)(a1:Int):Option g8:=
 (a8k a0 a1).bind λv1=>
 if (!v1) then
  some a0
 else
 (E4 a0.S a1).bind λv2=>
 (L8 a0.S a1 (⟨v2.1.Serial,v2.1.Strong,v2.1.Weak,v2.1.Prog,true,v2.1.Fields⟩:L7)).bind λv3=>
 (a6f a0.Q (⟨1,a1,v2.1.Prog⟩:O5)).bind λv4=>
 (a09 (⟨v3.1,a0.Roots,a0.a8,a0.T,v4.1⟩:g8) a1).bind λv5=>
 some v5
def b0x(a0:g8)(a1:List Int):Option (List Int):=
 jn (λ(j17:List Int)=>
  some j17) (λκ16=>
  (lp (S:=Int × (List Int)) (E:=(List Int)) (λ((s19,s20):Int × (List Int))=>
   if (decide (s19<(a1.length:Int))) then
    jn (λ(j28:List Int)=>
     some (.inl (u5 (s19+1),j28))) (λκ27=>
     (ix a1 s19).bind λv29=>
     (a3B a0 v29).bind λv30=>
     (y7 (v30==true) false (a8f s20 v29)).bind λv31=>
     if (v30&&(!v31)) then
      (app 8 s20 [v29]).bind λv32=>
      κ27 v32
     else
     κ27 s20)
   else
   some (.inr s20)) (0,[])).bind λe18=>
  κ16 e18)
def b1n(a0:List E8)(a1:List Int):Option ((List E8) × (List Int)):=
 jn (λ((j18,j19):(List Int) × (List E8))=>
  some (j19,j18)) (λκ17=>
  (lp (S:=Int × (List E8) × (List Int)) (E:=((List Int) × (List E8))) (λ((s22,s23,s24):Int × (List E8) × (List Int))=>
   if (decide (s22<(a0.length:Int))) then
    (ix a0 s22).bind λv27=>
    jn (λ((j31,j32):Bool × (List Int))=>
     (app 24 s23 [(⟨v27.Target,j31,v27.Call⟩:E8)]).bind λv34=>
     some (.inl (u5 (s22+1),v34,j32))) (λκ30=>
     (y7 (v27.Intact==true) 0 (a3A a1 v27.Target)).bind λv35=>
     if (v27.Intact&&(decide (v35 > 0))) then
      if (decide (v27.Call≥0)) then
       (app 8 s24 [s22]).bind λv36=>
       κ30 (false,v36)
      else
      κ30 (false,s24)
     else
     κ30 (v27.Intact,s24))
   else
   some (.inr (s24,s23))) (0,[],[])).bind λe21=>
  κ17 e21)
def a2Q(a0:List p7)(a1:Int)(a2:p7):Option (List p7):=
 (app 24 [] a0).bind λv1=>
 (ix v1 a1).bind λv2=>
 some (v1.set (a1).toNat a2)
def a7r(a0:List p7)(a1:Int):Option ((List p7) × Int × Int):=
 (a2P a0 a1).bind λv1=>
 if (decide (v1<0)) then
  some (a0,0,9)
 else
 (a2Q a0 v1 (⟨2,0,0⟩:p7)).bind λv2=>
 (ix a0 v1).bind λv3=>
 some (v2,v3.Val,0)
def a4B(a0:List p7)(a1:List Int):Option ((List p7) × (List Int)):=
 jn (λ((j18,j19):(List p7) × (List Int))=>
  some (j18,j19)) (λκ17=>
  (lp (S:=(List p7) × Int × (List Int)) (E:=((List p7) × (List Int))) (λ((s22,s23,s24):(List p7) × Int × (List Int))=>
   if (decide (s23<(a1.length:Int))) then
    jn (λ((j31,j32):(List p7) × (List Int))=>
     some (.inl (j31,u5 (s23+1),j32))) (λκ30=>
     (ix a1 s23).bind λv34=>
     (a7r s22 v34).bind λv35=>
     if (v35.2.2==0) then
      (app 8 s24 [v35.2.1]).bind λv36=>
      κ30 (v35.1,v36)
     else
     κ30 (s22,s24))
   else
   some (.inr (s22,s24))) (a0,0,[])).bind λe21=>
  κ17 e21)
def a0N(a0:E7)(a1:Int)(a2:L0):Option E7:=
 (app 24 [] a0.a8).bind λv1=>
 (ix v1 a1).bind λv2=>
 some (⟨(v1.set (a1).toNat a2),a0.Last⟩:E7)
def b8a(a0:E7)(a1:Int):Option (E7 × Int):=
 (b2v a0 a1).bind λv1=>
 if (v1.2 != 0) then
  some (a0,v1.2)
 else
 (O4 a0 a1).bind λv2=>
 (ix a0.a8 v2.1).bind λv3=>
 (a0N a0 v2.1 (⟨2,v3.Gen,v3.Val⟩:L0)).bind λv4=>
 some (v4,0)
def a08(a0:o5)(a1:E7):Option o5:=
 jn (λ(j10:List F9)=>
  some (⟨j10,a0.Last,a0.Serial⟩:o5)) (λκ9=>
  (lp (S:=Int × (List F9)) (E:=(List F9)) (λ((s12,s13):Int × (List F9))=>
   if (decide (s12<(a0.a8.length:Int))) then
    (ix a1.a8 s12).bind λv16=>
    (ix a0.a8 s12).bind λv17=>
    (app 80 s13 [(⟨v16.State,v16.Gen,v17.Val⟩:F9)]).bind λv18=>
    some (.inl (u5 (s12+1),v18))
   else
   some (.inr s13)) (0,[])).bind λe11=>
  κ9 e11)
def b3x(a0:o5)(a1:Int):Option o5:=
 (R9 a0).bind λv1=>
 (b8a v1 a1).bind λv2=>
 (a08 a0 v2.1).bind λv3=>
 some v3
def b79(a0:E7)(a1:Int):Option (E7 × Int):=
 (O4 a0 a1).bind λv1=>
 if (v1.2 != 0) then
  some (a0,v1.2)
 else
 (ix a0.a8 v1.1).bind λv2=>
 if (decide (v2.Gen≥a0.Last)) then
  (a0N a0 v1.1 (⟨3,v2.Gen,0⟩:L0)).bind λv3=>
  some (v3,0)
 else
 (a0N a0 v1.1 (⟨0,u5 (v2.Gen+1),0⟩:L0)).bind λv4=>
 some (v4,0)
def b0r(a0:o5)(a1:Int):Option o5:=
 (R9 a0).bind λv1=>
 (b79 v1 a1).bind λv2=>
 if (v2.2 != 0) then
  some a0
 else
 (a08 a0 v2.1).bind λv3=>
 (a7n a1).bind λv4=>
 (a2O v3 v4 (⟨0,0,0,0,false,[]⟩:L7)).bind λv5=>
 some v5
def a7v(a0:g8)(a1:Int):Option g8:=
 (E4 a0.S a1).bind λv1=>
 (L8 a0.S a1 (⟨v1.1.Serial,0,v1.1.Weak,v1.1.Prog,v1.1.Started,[]⟩:L7)).bind λv2=>
 (b3x v2.1 a1).bind λv3=>
 if (v1.1.Weak==0) then
  (b0r v3 a1).bind λv4=>
  some (⟨v4,a0.Roots,a0.a8,a0.T,a0.Q⟩:g8)
 else
 some (⟨v3,a0.Roots,a0.a8,a0.T,a0.Q⟩:g8)
def b6q(a0:Int):Option (Int × Int):=
 (a2f a0).bind λv1=>
 if v1 then
  some (12,0)
 else
 if (decide (a0<1)) then
  some (0,11)
 else
 some (u5 (a0-1),0)
def D3(a0:g8)(a1:Int):Option g8:=
 (E4 a0.S a1).bind λv1=>
 (b6q v1.1.Strong).bind λv2=>
 if (v2.2 != 0) then
  some a0
 else
 (a6g a0 a1 v2.1).bind λv3=>
 some v3
def a7u(a0:g8)(a1:List Int):Option g8:=
 (b0x a0 a1).bind λv1=>
 (b1n a0.a8 v1).bind λv2=>
 jn (λ(j12:C4)=>
  jn (λ(j23:List Int)=>
   (a4B a0.T v1).bind λv24=>
   (app 8 j23 v24.2).bind λv25=>
   jn (λ(j34:g8)=>
    jn (λ(j43:g8)=>
     some j43) (λκ42=>
     (lp (S:=Int × g8) (E:=g8) (λ((s45,s46):Int × g8)=>
      if (decide (s45<(v25.length:Int))) then
       (ix v25 s45).bind λv49=>
       (D3 s46 v49).bind λv50=>
       some (.inl (u5 (s45+1),v50))
      else
      some (.inr s46)) (0,j34)).bind λe44=>
     κ42 e44)) (λκ33=>
    (lp (S:=Int × g8) (E:=g8) (λ((s52,s53):Int × g8)=>
     if (decide (s52<(v1.length:Int))) then
      (ix v1 s52).bind λv56=>
      (a7v s53 v56).bind λv57=>
      some (.inl (u5 (s52+1),v57))
     else
     some (.inr s53)) (0,(⟨a0.S,a0.Roots,v2.1,v24.1,j12⟩:g8))).bind λe51=>
    κ33 e51)) (λκ22=>
   (lp (S:=Int × (List Int)) (E:=(List Int)) (λ((s59,s60):Int × (List Int))=>
    if (decide (s59<(v1.length:Int))) then
     (ix v1 s59).bind λv63=>
     (E4 a0.S v63).bind λv64=>
     (a3y v64.1.Fields).bind λv65=>
     (app 8 s60 v65).bind λv66=>
     some (.inl (u5 (s59+1),v66))
    else
    some (.inr s60)) (0,[])).bind λe58=>
   κ22 e58)) (λκ11=>
  (lp (S:=Int × C4) (E:=C4) (λ((s68,s69):Int × C4)=>
   if (decide (s68<(v2.2.length:Int))) then
    (ix v2.2 s68).bind λv72=>
    (ix v2.1 v72).bind λv73=>
    (a6f s69 (⟨2,v72,v73.Call⟩:O5)).bind λv74=>
    some (.inl (u5 (s68+1),v74.1))
   else
   some (.inr s69)) (0,a0.Q)).bind λe67=>
  κ11 e67)
def M8(a0:g8):Option g8:=
 jn (λ(j21:g8)=>
  some j21) (λκ20=>
  (lp (S:=Int × g8) (E:=g8 ⊕ g8) (λ((s23,s24):Int × g8)=>
   if (decide (s23<100)) then
    jn (λ(j34:g8)=>
     some (.inl (u5 (s23+1),j34))) (λκ33=>
     (b0w s24).bind λv35=>
     if ((v35.length:Int)==0) then
      some (.inr (.inl s24))
     else
     (ix v35 0).bind λv36=>
     (a8k s24 v36).bind λv37=>
     if v37 then
      (a30 s24 v36).bind λv38=>
      κ33 v38
     else
     (cut v35 0 1).bind λv39=>
     (a7u s24 v39).bind λv40=>
     κ33 v40)
   else
   some (.inr (.inr s24))) (0,a0)).bind λe22=>
  match e22 with
  | .inl w=>some w
  | .inr w=>κ20 w)
def a7w(a0:g8):Option (g8 × Int × Int):=
 (b1s a0).bind λv1=>
 jn (λ(_:Unit)=>
  (a4C a0).bind λv20=>
  (a7u a0 v20).bind λv21=>
  (M8 v21).bind λv22=>
  (a1I a0.S).bind λv23=>
  (a1I v22.S).bind λv24=>
  some (v22,0,u5 ((v23.length:Int)-(v24.length:Int)))) (λκ18=>
  if (decide ((v1.length:Int) > 0)) then
   jn (λ(j33:g8)=>
    some (j33,(v1.length:Int),0)) (λκ32=>
    (lp (S:=Int × g8) (E:=g8) (λ((s35,s36):Int × g8)=>
     if (decide (s35<(v1.length:Int))) then
      (ix v1 s35).bind λv39=>
      (a30 s36 v39).bind λv40=>
      some (.inl (u5 (s35+1),v40))
     else
     some (.inr s36)) (0,a0)).bind λe34=>
    κ32 e34)
  else
  κ18 ())
def b1t(a0:g8):Option Bool:=
 some ((a0.Q.L.length:Int)==0)
def a7y(a0:List (List o8))(a1:Int):Option (List o8):=
 if ((decide (a1<0))||(decide (a1≥(a0.length:Int)))) then
  some []
 else
 (ix a0 a1).bind λv1=>
 some v1
def a7x(a0:List (List o8))(a1:O5):Option Int:=
 (a7y a0 a1.Prog).bind λv1=>
 some (u5 (1+(v1.length:Int)))
def b3D(a0:C4):Option (C4 × O5 × Int):=
 if ((a0.L.length:Int)==0) then
  some (a0,(⟨0,0,0⟩:O5),10)
 else
 (cut a0.L 1 (a0.L.length:Int)).bind λv1=>
 (ix a0.L 0).bind λv2=>
 some ((⟨v1,a0.Cap⟩:C4),v2,0)
def V0(a0:g8)(a1:Int)(a2:Int):Option (g8 × Int):=
 if ((decide (a1<0))||(decide (a1 > 5))) then
  some (a0,6)
 else
 (a3C a0 a2).bind λv1=>
 if (!v1) then
  some (a0,3)
 else
 (ix a0.Roots a1).bind λv2=>
 (a09 a0 a2).bind λv3=>
 (app 8 [] a0.Roots).bind λv4=>
 (ix v4 a1).bind λv5=>
 (D3 (⟨v3.S,(v4.set (a1).toNat a2),v3.a8,v3.T,v3.Q⟩:g8) v2).bind λv6=>
 some (v6,0)
def b6t(a0:List E8)(a1:Int)(a2:Int)(a3:Int):Option ((List E8) × Int × Int):=
 if ((decide (a1<0))||(decide (a1≥(a0.length:Int)))) then
  some (a0,0,7)
 else
 (app 24 [] a0).bind λv1=>
 (ix v1 a1).bind λv2=>
 (ix a0 a1).bind λv3=>
 some ((v1.set (a1).toNat (⟨a2,(a2 != 0),a3⟩:E8)),v3.Target,0)
def a1j(a0:g8)(a1:Int):Option g8:=
 (R9 a0.S).bind λv1=>
 (O4 v1 a1).bind λv2=>
 if (v2.2 != 0) then
  some a0
 else
 (ix a0.S.a8 v2.1).bind λv3=>
 (L8 a0.S a1 (⟨v3.Val.Serial,v3.Val.Strong,u5 (v3.Val.Weak-1),v3.Val.Prog,v3.Val.Started,v3.Val.Fields⟩:L7)).bind λv4=>
 (ix v4.1.a8 v2.1).bind λv5=>
 if ((v5.State==2)&&(decide ((u5 (v3.Val.Weak-1))<1))) then
  (b0r v4.1 a1).bind λv6=>
  some (⟨v6,a0.Roots,a0.a8,a0.T,a0.Q⟩:g8)
 else
 some (⟨v4.1,a0.Roots,a0.a8,a0.T,a0.Q⟩:g8)
def a3Z(a0:g8)(a1:Int)(a2:Int)(a3:Int):Option (g8 × Int):=
 (y7 (((decide (a1<0))||(decide (a1 > 5)))==false) false (a8j a0.Q a1)).bind λv1=>
 if (((decide (a1<0))||(decide (a1 > 5)))||v1) then
  some (a0,7)
 else
 (a3C a0 a2).bind λv2=>
 if (!v2) then
  some (a0,3)
 else
 (b6t a0.a8 a1 a2 a3).bind λv3=>
 if (a2 != 0) then
  (E4 a0.S a2).bind λv4=>
  (L8 a0.S a2 (⟨v4.1.Serial,v4.1.Strong,u5 (v4.1.Weak+1),v4.1.Prog,v4.1.Started,v4.1.Fields⟩:L7)).bind λv5=>
  (a1j (⟨v5.1,a0.Roots,v3.1,a0.T,a0.Q⟩:g8) v3.2.1).bind λv6=>
  some (v6,0)
 else
 (a1j (⟨a0.S,a0.Roots,v3.1,a0.T,a0.Q⟩:g8) v3.2.1).bind λv7=>
 some (v7,0)
def V9(a0:g8)(a1:Int):Option (Int × Int):=
 (ix a0.Roots a1).bind λv1=>
 if (v1==0) then
  some (0,2)
 else
 some (v1,0)
def a5k(a0:g8)(a1:Int):Option Int:=
 if (decide (a1<0)) then
  some 0
 else
 (ix a0.Roots a1).bind λv1=>
 some v1
def b3w(a0:List Int)(a1:Int):Option (Int × Int):=
 if ((decide (a1<0))||(decide (a1≥(a0.length:Int)))) then
  some (0,5)
 else
 (ix a0 a1).bind λv1=>
 some (v1,0)
def a3z(a0:o5)(a1:Int)(a2:Int):Option (Int × Int):=
 (E4 a0 a1).bind λv1=>
 if (v1.2 != 0) then
  some (0,v1.2)
 else
 (b3w v1.1.Fields a2).bind λv2=>
 some (v2.1,v2.2)
def b8b(a0:List Int)(a1:Int)(a2:Int):Option ((List Int) × Int):=
 if ((decide (a1<0))||(decide (a1≥(a0.length:Int)))) then
  some (a0,5)
 else
 (app 8 [] a0).bind λv1=>
 (ix v1 a1).bind λv2=>
 some ((v1.set (a1).toNat a2),0)
def b6s(a0:o5)(a1:Int)(a2:Int)(a3:Int):Option (o5 × Int):=
 (E4 a0 a1).bind λv1=>
 if (v1.2 != 0) then
  some (a0,v1.2)
 else
 (b8b v1.1.Fields a2 a3).bind λv2=>
 if (v2.2 != 0) then
  some (a0,v2.2)
 else
 (L8 a0 a1 (⟨v1.1.Serial,v1.1.Strong,v1.1.Weak,v1.1.Prog,v1.1.Started,v2.1⟩:L7)).bind λv3=>
 some (v3.1,v3.2)
def a5j(a0:g8)(a1:Int)(a2:Int)(a3:Int):Option (g8 × Int):=
 (a3z a0.S a1 a2).bind λv1=>
 if (v1.2 != 0) then
  some (a0,v1.2)
 else
 (a3C a0 a3).bind λv2=>
 if (!v2) then
  some (a0,3)
 else
 (a09 a0 a3).bind λv3=>
 (b6s v3.S a1 a2 a3).bind λv4=>
 (D3 (⟨v4.1,v3.Roots,v3.a8,v3.T,v3.Q⟩:g8) v1.1).bind λv5=>
 some (v5,0)
def b6u(a0:List p7)(a1:Int)(a2:Int):Option ((List p7) × Int):=
 (a2P a0 a1).bind λv1=>
 if (decide (v1≥0)) then
  (a2Q a0 v1 (⟨1,a1,a2⟩:p7)).bind λv2=>
  some (v2,0)
 else
 (b8c (a0.length:Int) a1).bind λv3=>
 jn (λ(_:Unit)=>
  some (a0,8)) (λκ12=>
  (lp (S:=Int × Int) (E:=((List p7) × Int) ⊕ Unit) (λ((s15,s16):Int × Int)=>
   if (decide (s16<(a0.length:Int))) then
    (ix a0 s15).bind λv19=>
    if (v19.State != 1) then
     (a2Q a0 s15 (⟨1,a1,a2⟩:p7)).bind λv20=>
     some (.inr (.inl (v20,0)))
    else
    (rem (u5 (s15+1)) (a0.length:Int)).bind λv21=>
    some (.inl (v21,u5 (s16+1)))
   else
   some (.inr (.inr ()))) (v3,0)).bind λe14=>
  match e14 with
  | .inl w=>some w
  | .inr w=>κ12 w)
def b6v(a0:List p7)(a1:Int)(a2:Int):Option ((List p7) × Int × Int):=
 if (a1==0) then
  some (a0,0,2)
 else
 (b0t a0 a1).bind λv1=>
 if (a2==0) then
  (a7r a0 a1).bind λv2=>
  some (v2.1,v1.1,0)
 else
 (b6u a0 a1 a2).bind λv3=>
 if (v3.2 != 0) then
  some (a0,0,v3.2)
 else
 some (v3.1,v1.1,0)
def a7t(a0:g8)(a1:Int)(a2:Int):Option (g8 × Int):=
 if (a1==0) then
  some (a0,2)
 else
 (a3B a0 a1).bind λv1=>
 (y7 ((!v1)==false) false (a3C a0 a2)).bind λv2=>
 if ((!v1)||(!v2)) then
  some (a0,3)
 else
 (b6v a0.T a1 a2).bind λv3=>
 if (v3.2.2 != 0) then
  some (a0,v3.2.2)
 else
 (a09 a0 a2).bind λv4=>
 (D3 (⟨v4.S,v4.Roots,v4.a8,v3.1,v4.Q⟩:g8) v3.2.1).bind λv5=>
 some (v5,0)
def a1k(a0:g8)(a1:o8):Option (g8 × Int × Int):=
 if ((a1.Kind==6)&&(decide (a1.B<0))) then
  (a3Z a0 a1.A 0 a1.C).bind λv1=>
  some (v1.1,0,v1.2)
 else
 jn (λ(j3:Int)=>
  (V9 a0 j3).bind λv4=>
  if (v4.2 != 0) then
   some (a0,0,v4.2)
  else
  if (a1.Kind==5) then
   (a5k a0 a1.C).bind λv5=>
   (a5j a0 v4.1 a1.B v5).bind λv6=>
   some (v6.1,v5,v6.2)
  else
  if (a1.Kind==6) then
   (a3Z a0 a1.A v4.1 a1.C).bind λv7=>
   some (v7.1,v4.1,v7.2)
  else
  (a5k a0 a1.B).bind λv8=>
  (a7t a0 v4.1 v8).bind λv9=>
  some (v9.1,v8,v9.2)) (λκ2=>
  if (a1.Kind==6) then
   κ2 a1.B
  else
  κ2 a1.A)
def a31(a0:g8)(a1:Int):Option Int:=
 (E4 a0.S a1).bind λv1=>
 some v1.1.Serial
def b2x(a0:Int):Option ((List Int) × Int):=
 if ((decide (a0<0))||(decide (a0 > 4))) then
  some ([],1)
 else
 (mk 8 a0 (0:Int)).bind λv1=>
 some (v1,0)
def a7p(a0:E7)(a1:Int):Option (E7 × Int × Int):=
 jn (λ(_:Unit)=>
  some (a0,0,4)) (λκ7=>
  (lp (S:=Int) (E:=(E7 × Int × Int) ⊕ Unit) (λ(s10:Int)=>
   if (decide (s10<(a0.a8.length:Int))) then
    (ix a0.a8 s10).bind λv12=>
    if (v12.State==0) then
     (a0N a0 s10 (⟨1,v12.Gen,a1⟩:L0)).bind λv13=>
     (a5i s10 v12.Gen).bind λv14=>
     some (.inr (.inl (v13,v14,0)))
    else
    some (.inl (u5 (s10+1)))
   else
   some (.inr (.inr ()))) 0).bind λe9=>
  match e9 with
  | .inl w=>some w
  | .inr w=>κ7 w)
def a2N(a0:o5)(a1:Int)(a2:Int):Option (o5 × Int × Int):=
 (b2x a1).bind λv1=>
 if (v1.2 != 0) then
  some (a0,0,v1.2)
 else
 if ((decide (a2<(-1)))||(decide (a2 > 5))) then
  some (a0,0,13)
 else
 (R9 a0).bind λv2=>
 (a7p v2 0).bind λv3=>
 if (v3.2.2 != 0) then
  some (a0,0,v3.2.2)
 else
 (a08 a0 v3.1).bind λv4=>
 (a7n v3.2.1).bind λv5=>
 (a2O v4 v5 (⟨u5 (a0.Serial+1),0,0,a2,false,v1.1⟩:L7)).bind λv6=>
 some ((⟨v6.a8,v6.Last,u5 (a0.Serial+1)⟩:o5),v3.2.1,0)
def b1r(a0:g8)(a1:Int):Option Int:=
 if ((decide (a1<0))||(decide (a1 > 5))) then
  some 0
 else
 (ix a0.Roots a1).bind λv1=>
 (a31 a0 v1).bind λv2=>
 some v2
def b0s(a0:List E8)(a1:Int):Option (Int × Int):=
 if ((decide (a1<0))||(decide (a1≥(a0.length:Int)))) then
  some (0,7)
 else
 (ix a0 a1).bind λv1=>
 if ((v1.Target==0)||(!v1.Intact)) then
  some (0,9)
 else
 some (v1.Target,0)
def b2z(a0:List p7)(a1:Int):Option (Int × Int):=
 (b0t a0 a1).bind λv1=>
 some (v1.1,v1.2)
def a2i(a0:g8)(a1:o8):Option (Int × Int):=
 if (a1.Kind==2) then
  (ix a0.Roots a1.B).bind λv1=>
  some (v1,0)
 else
 if (a1.Kind==4) then
  (V9 a0 a1.B).bind λv2=>
  if (v2.2 != 0) then
   some (0,v2.2)
  else
  (a3z a0.S v2.1 a1.C).bind λv3=>
  some (v3.1,v3.2)
 else
 if (a1.Kind==7) then
  (b0s a0.a8 a1.B).bind λv4=>
  some (v4.1,v4.2)
 else
 if (a1.Kind==9) then
  (V9 a0 a1.B).bind λv5=>
  if (v5.2 != 0) then
   some (0,v5.2)
  else
  (b2z a0.T v5.1).bind λv6=>
  some (v6.1,v6.2)
 else
 some (0,0)
def B3(a0:g8)(a1:o8):Option (g8 × Int × Int):=
 (a0k a1).bind λv1=>
 if (v1 != 0) then
  some (a0,0,v1)
 else
 (N9 a1).bind λv2=>
 if (!v2) then
  some (a0,0,14)
 else
 if (a1.Kind==10) then
  (ix a0.Roots a1.A).bind λv3=>
  (ix a0.Roots a1.B).bind λv4=>
  if (v3==v4) then
   some (a0,1,0)
  else
  some (a0,0,0)
 else
 jn (λ(j6:Bool)=>
  if j6 then
   (a1k a0 a1).bind λv7=>
   if (v7.2.2 != 0) then
    some (a0,0,v7.2.2)
   else
   (M8 v7.1).bind λv8=>
   (a31 a0 v7.2.1).bind λv9=>
   some (v8,v9,0)
  else
  if (a1.Kind==1) then
   (a2N a0.S a1.B a1.C).bind λv10=>
   if (v10.2.2 != 0) then
    some (a0,0,v10.2.2)
   else
   (V0 (⟨v10.1,a0.Roots,a0.a8,a0.T,a0.Q⟩:g8) a1.A v10.2.1).bind λv11=>
   (M8 v11.1).bind λv12=>
   (b1r v12 a1.A).bind λv13=>
   some (v12,v13,0)
  else
  (a2i a0 a1).bind λv14=>
  if (v14.2 != 0) then
   some (a0,0,v14.2)
  else
  (V0 a0 a1.A v14.1).bind λv15=>
  (M8 v15.1).bind λv16=>
  (b1r v16 a1.A).bind λv17=>
  some (v16,v17,0)) (λκ5=>
  if (a1.Kind==5) then
   κ5 (a1.Kind==5)
  else
  if (a1.Kind==6) then
   κ5 (a1.Kind==6)
  else
  κ5 (a1.Kind==8))
def b2A(a0:g8)(a1:List o8):Option (g8 × (List Int)):=
 jn (λ((j11,j12):g8 × (List Int))=>
  some (j11,j12)) (λκ10=>
  (lp (S:=Int × g8 × (List Int)) (E:=(g8 × (List Int))) (λ((s15,s16,s17):Int × g8 × (List Int))=>
   if (decide (s15<(a1.length:Int))) then
    (ix a1 s15).bind λv20=>
    (B3 s16 v20).bind λv21=>
    (app 8 s17 [v21.2.1]).bind λv22=>
    some (.inl (u5 (s15+1),v21.1,v22))
   else
   some (.inr (s16,s17))) (0,a0,[])).bind λe14=>
  κ10 e14)
def b3E(a0:g8)(a1:List (List o8)):Option (g8 × O5 × Int):=
 (b3D a0.Q).bind λv1=>
 if (v1.2.2 != 0) then
  some (a0,(⟨0,0,0⟩:O5),v1.2.2)
 else
 jn (λ(j6:g8)=>
  (a7y a1 v1.2.1.Prog).bind λv7=>
  (b2A j6 v7).bind λv8=>
  if (v1.2.1.Kind==1) then
   (V0 v8.1 5 0).bind λv9=>
   (M8 v9.1).bind λv10=>
   some (v10,v1.2.1,0)
  else
  some (v8.1,v1.2.1,0)) (λκ5=>
  if (v1.2.1.Kind==1) then
   (V0 (⟨a0.S,a0.Roots,a0.a8,a0.T,v1.1⟩:g8) 5 v1.2.1.At).bind λv11=>
   (D3 v11.1 v1.2.1.At).bind λv12=>
   (M8 v12).bind λv13=>
   κ5 v13
  else
  κ5 (⟨a0.S,a0.Roots,a0.a8,a0.T,v1.1⟩:g8))
def a8l(a0:g8)(a1:List (List o8))(a2:Int):Option (g8 × Int × Int × Int):=
 jn (λ((j12,j13,j14):Int × Int × g8)=>
  some (j14,j13,j12,0)) (λκ11=>
  (lp (S:=Int × Int × g8) (E:=(g8 × Int × Int × Int) ⊕ (Int × Int × g8)) (λ((s17,s18,s19):Int × Int × g8)=>
   (b1t s19).bind λv22=>
   if (!v22) then
    (ix s19.Q.L 0).bind λv23=>
    (a7x a1 v23).bind λv24=>
    if (decide (v24 > s17)) then
     some (.inr (.inl (s19,s18,s17,12)))
    else
    (b3E s19 a1).bind λv25=>
    some (.inl (u5 (s17-v24),u5 (s18+1),v25.1))
   else
   some (.inr (.inr (s17,s18,s19)))) (a2,0,a0)).bind λe16=>
  match e16 with
  | .inl w=>some w
  | .inr w=>κ11 w)
def b9F(a0:C7)(a1:List Int):Option (C7 × H4):=
 (a2g a1).bind λv1=>
 if (v1.2 != 0) then
  some (a0,(⟨0,v1.2⟩:H4))
 else
 if (v1.1.Kind==11) then
  (a7w a0.X).bind λv2=>
  some ((⟨v2.1,a0.Progs⟩:C7),(⟨u5 (v2.2.2-v2.2.1),0⟩:H4))
 else
 if (v1.1.Kind==12) then
  (a8l a0.X a0.Progs v1.1.A).bind λv3=>
  some ((⟨v3.1,a0.Progs⟩:C7),(⟨v3.2.1,v3.2.2.2⟩:H4))
 else
 (B3 a0.X v1.1).bind λv4=>
 some ((⟨v4.1,a0.Progs⟩:C7),(⟨v4.2.1,v4.2.2⟩:H4))
def b2B(a0:C7)(a1:List (List Int)):Option (C7 × (List H4)):=
 jn (λ((j11,j12):C7 × (List H4))=>
  some (j11,j12)) (λκ10=>
  (lp (S:=Int × C7 × (List H4)) (E:=(C7 × (List H4))) (λ((s15,s16,s17):Int × C7 × (List H4))=>
   if (decide (s15<(a1.length:Int))) then
    (ix a1 s15).bind λv20=>
    (b9F s16 v20).bind λv21=>
    (app 16 s17 [v21.2]).bind λv22=>
    some (.inl (u5 (s15+1),v21.1,v22))
   else
   some (.inr (s16,s17))) (0,a0,[])).bind λe14=>
  κ10 e14)
end
end Go.Sh
