/-
 Plain functions: what the functions of the program come to.
-/
import Derived.Test.YtjpgbnlcefhaiaaGreatW24bSh0
import Derived.Test.YtjpgbnlcefhaiaaGreatW24bPwD
import Derived.Test.YtjpgbnlcefhaiaaGreatW24bPwC
set_option linter.unusedVariables false
set_option linter.unusedSimpArgs false
set_option linter.unusedSectionVars false
namespace Go.Sh
set_option maxRecDepth 100000
noncomputable section
structure m7 where
 Serial:Int
 Strong:Int
 Weak:Int
 Prog:Int
 Started:Bool
 Fields:List Int
structure b7 where
 State:Int
 Gen:Int
 Val:m7
structure e6 where
 Target:Int
 Intact:Bool
 Call:Int
structure b8 where
 State:Int
 Key:Int
 Val:Int
structure k7 where
 Kind:Int
 At:Int
 Prog:Int
structure g8 where
 Kind:Int
 A:Int
 B:Int
 C:Int
structure g7 where
 part:Fv
 least:Int
 most:Int
 e:Int
structure c7 where
 a8:List b7
 Last:Int
structure a7 where
 S:c7
 Serial:Int
structure c9 where
 L:List k7
 Cap:Int
structure b6 where
 S:a7
 Roots:List Int
 a8:List e6
 T:List b8
 Q:c9
structure c8 where
 X:b6
 Progs:List (List g8)
structure l5 where
 V:Int
 E:Int
structure o8 where
 x:b6
 o:g8
structure G2 where
 r:Int
 h:Int
structure E8 where
 h:Int
 k:Int
 v:Int
structure G1 where
 t:List b8
structure m9 where
 Key:Int
 Val:Int
structure j5 where
 L:List Int
 Cap:Int
def a1Z(a0:g8):Option Bool:=
 some ((decide (a0.Kind≥1))&&(decide (a0.Kind≤10)))
def W5:Option g7:=
 some (⟨(some 114),0,5,6⟩:g7)
def P6:Option g7:=
 some (⟨(some 117),(-1),5,13⟩:g7)
def H2(a0:List g7):Option (List g7):=
 some a0
def W6:Option g7:=
 some (⟨(some 115),0,5,6⟩:g7)
def T6:Option g7:=
 some (⟨(some 117),0,3,5⟩:g7)
def T5:Option g7:=
 some (⟨(some 115),0,3,5⟩:g7)
def L5:Option g7:=
 some (⟨(some 117),(-1),5,6⟩:g7)
def W3:Option g7:=
 some (⟨(some 114),0,5,7⟩:g7)
def L4:Option g7:=
 some (⟨(some 115),(-1),5,6⟩:g7)
def W4:Option g7:=
 some (⟨(some 115),0,5,7⟩:g7)
def a5L:Option (List (Int × (List g7))):=
 (W5).bind λv1=>
 (P6).bind λv2=>
 (H2 [v1,(⟨(some 115),0,4,1⟩:g7),v2]).bind λv3=>
 (W6).bind λv4=>
 (H2 [v1,v4]).bind λv5=>
 (H2 [v1]).bind λv6=>
 (T6).bind λv7=>
 (H2 [v1,v4,v7]).bind λv8=>
 (T5).bind λv9=>
 (L5).bind λv10=>
 (H2 [v1,v9,v10]).bind λv11=>
 (W3).bind λv12=>
 (L4).bind λv13=>
 (H2 [v12,v13,v2]).bind λv14=>
 (W4).bind λv15=>
 (H2 [v1,v15]).bind λv16=>
 (H2 [v1,v13]).bind λv17=>
 (H2 []).bind λv18=>
 (H2 [(⟨(some 114),0,200,12⟩:g7)]).bind λv19=>
 some (o6 (o6 (o6 (o6 (o6 (o6 (o6 (o6 (o6 (o6 (o6 (o6 [] 1 v3) 2 v5) 3 v6) 4 v8) 5 v11) 6 v14) 7 v16) 8 v17) 9 v5) 10 v5) 11 v18) 12 v19)
def a9c(a0:g8):Option Int:=
 some a0.A
def a9d(a0:g8):Option Int:=
 some a0.B
def a9e(a0:g8):Option Int:=
 some a0.C
def a9X(f:Fv)(a0:g8):Option Int:=
 if f=some 114 then a9c a0 else
 if f=some 115 then a9d a0 else
 if f=some 117 then a9e a0 else
 none
def P5(a0:g8):Option Int:=
 (a5L).bind λv1=>
 if (!((A0 v1 a0.Kind).isSome)) then
  some 14
 else
 jn (λ(_:Unit)=>
  some 0) (λκ8=>
  (lp (S:=Int) (E:=Int ⊕ Unit) (λ(s11:Int)=>
   if (decide (s11<(((A0 v1 a0.Kind).getD ([]:List g7)).length:Int))) then
    (ix ((A0 v1 a0.Kind).getD ([]:List g7)) s11).bind λv13=>
    (a9X v13.part a0).bind λv14=>
    if ((decide (v14<v13.least))||(decide (v14 > v13.most))) then
     some (.inr (.inl v13.e))
    else
    some (.inl (p7 (s11+1)))
   else
   some (.inr (.inr ()))) 0).bind λe10=>
  match e10 with
  | .inl w=>some w
  | .inr w=>κ8 w)
def a10(a0:List (List g8)):Option Bool:=
 if (decide ((a0.length:Int) > 6)) then
  some false
 else
 jn (λ(_:Unit)=>
  some true) (λκ20=>
  (lp (S:=Int) (E:=Bool ⊕ Unit) (λ(s23:Int)=>
   if (decide (s23<(a0.length:Int))) then
    jn (λ(_:Unit)=>
     some (.inl (p7 (s23+1)))) (λκ32=>
     (ix a0 s23).bind λv34=>
     if (decide ((v34.length:Int) > 6)) then
      some (.inr (.inl false))
     else
     (lp (S:=Int) (E:=Bool ⊕ Unit) (λ(s36:Int)=>
      if (decide (s36<(v34.length:Int))) then
       (ix v34 s36).bind λv38=>
       (a1Z v38).bind λv39=>
       (w7 ((!v39)==false) 0 (P5 v38)).bind λv40=>
       if ((!v39)||(v40 != 0)) then
        some (.inr (.inl false))
       else
       some (.inl (p7 (s36+1)))
      else
      some (.inr (.inr ()))) 0).bind λe35=>
     match e35 with
     | .inl w=>some (.inr (.inl w))
     | .inr w=>κ32 w)
   else
   some (.inr (.inr ()))) 0).bind λe22=>
  match e22 with
  | .inl w=>some w
  | .inr w=>κ20 w)
def U1(a0:Int)(a1:Int):Option c7:=
 if ((((decide (a0<0))||(decide (a0 > 24)))||(decide (a1<0)))||(decide (a1 > 9))) then
  some (⟨[],0⟩:c7)
 else
 (mk 80 a0 (⟨0,0,⟨0,0,0,0,false,[]⟩⟩:b7)).bind λv1=>
 some (⟨v1,a1⟩:c7)
def a3z(a0:Int)(a1:Int):Option a7:=
 (U1 a0 a1).bind λv1=>
 some (⟨v1,0⟩:a7)
def b8F(a0:Int):Option (List e6):=
 if ((decide (a0<0))||(decide (a0 > 6))) then
  some []
 else
 (mk 24 a0 (⟨0,false,0⟩:e6)).bind λv1=>
 jn (λ(j9:List e6)=>
  some j9) (λκ8=>
  (lp (S:=Int × (List e6)) (E:=(List e6)) (λ((s11,s12):Int × (List e6))=>
   if (decide (s11<(v1.length:Int))) then
    (ix s12 s11).bind λv15=>
    some (.inl (p7 (s11+1),(s12.set (s11).toNat (⟨v15.Target,v15.Intact,(-1)⟩:e6))))
   else
   some (.inr s12)) (0,v1)).bind λe10=>
  κ8 e10)
def a95(a0:Int):Option (List b8):=
 if ((decide (a0<1))||(decide (a0 > 8))) then
  some []
 else
 (mk 24 a0 (⟨0,0,0⟩:b8)).bind λv1=>
 some v1
def a0v(a0:Int):Option c9:=
 some (⟨[],a0⟩:c9)
def b8u:Option c9:=
 (a0v 30).bind λv1=>
 some v1
def a3K(a0:Int)(a1:Int)(a2:Int):Option b6:=
 if ((((((decide (a0<1))||(decide (a0 > 24)))||(decide (a1<0)))||(decide (a1 > 9)))||(decide (a2<1)))||(decide (a2 > 8))) then
  some (⟨⟨⟨[],0⟩,0⟩,[],[],[],⟨[],0⟩⟩:b6)
 else
 (a3z a0 a1).bind λv1=>
 (mk 8 6 (0:Int)).bind λv2=>
 (b8F 6).bind λv3=>
 (a95 a2).bind λv4=>
 (b8u).bind λv5=>
 some (⟨v1,v2,v3,v4,v5⟩:b6)
def a13(a0:Int)(a1:Int)(a2:Int)(a3:List (List g8)):Option (c8 × Int):=
 (a10 a3).bind λv1=>
 if (!v1) then
  some ((⟨⟨⟨⟨[],0⟩,0⟩,[],[],[],⟨[],0⟩⟩,[]⟩:c8),13)
 else
 (a3K a0 a1 a2).bind λv2=>
 if ((v2.Roots.length:Int)==0) then
  some ((⟨⟨⟨⟨[],0⟩,0⟩,[],[],[],⟨[],0⟩⟩,[]⟩:c8),1)
 else
 some ((⟨v2,a3⟩:c8),0)
def a1M(a0:Int)(a1:Int):Option c8:=
 (a13 a0 a1 8 []).bind λv1=>
 some v1.1
def E6(a0:Int)(a1:Int)(a2:Int)(a3:Int):Option (List Int):=
 some [a0,a1,a2,a3]
def T3(a0:List Int):Option (g8 × Int):=
 if ((a0.length:Int) != 4) then
  some ((⟨0,0,0,0⟩:g8),14)
 else
 (ix a0 0).bind λv1=>
 (ix a0 1).bind λv2=>
 (ix a0 2).bind λv3=>
 (ix a0 3).bind λv4=>
 (P5 (⟨v1,v2,v3,v4⟩:g8)).bind λv5=>
 if (v5 != 0) then
  some ((⟨0,0,0,0⟩:g8),v5)
 else
 some ((⟨v1,v2,v3,v4⟩:g8),0)
def a5O(a0:g8):Option Ifc:=
 if (a0.Kind==11) then
  some (⟨89,[]⟩:Ifc)
 else
 if (a0.Kind==12) then
  some (⟨93,[a0.A]⟩:Ifc)
 else
 some (⟨85,[a0.Kind,a0.A,a0.B,a0.C]⟩:Ifc)
def a2q:Option (List (Int × Fv)):=
 some (o6 (o6 (o6 (o6 (o6 (o6 (o6 (o6 (o6 (o6 [] 1 (some 65)) 2 (some 66)) 3 (some 67)) 4 (some 68)) 5 (some 69)) 6 (some 70)) 7 (some 71)) 8 (some 72)) 9 (some 73)) 10 (some 74))
def b63(a0:Int):Option ((List Int) × Int):=
 if ((decide (a0<0))||(decide (a0 > 4))) then
  some ([],1)
 else
 (mk 8 a0 (0:Int)).bind λv1=>
 some (v1,0)
def P3(a0:Int):Option Bool:=
 some ((decide (a0≥(-1)))&&(decide (a0<6)))
def L2(a0:c7):Option c7:=
 some a0
def u7(a0:List b7):Option (List b7):=
 app 80 [] a0
def B2(a0:c7)(a1:Int)(a2:b7):Option c7:=
 (u7 a0.a8).bind λv1=>
 (ix v1 a1).bind λv2=>
 some (⟨(v1.set (a1).toNat a2),a0.Last⟩:c7)
def a09(a0:Int)(a1:Int):Option Int:=
 if ((((decide (a0<0))||(decide (a0≥24)))||(decide (a1<0)))||(decide (a1 > 9))) then
  some 0
 else
 some (p7 ((p7 (1+(p7 (a0*1))))+(p7 (a1*32))))
def H0(a0:c7)(a1:m7):Option (c7 × Int × Int):=
 jn (λ(_:Unit)=>
  some (a0,0,4)) (λκ9=>
  (L2 a0).bind λv11=>
  (lp (S:=Int) (E:=(c7 × Int × Int) ⊕ Unit) (λ(s13:Int)=>
   if (decide (s13<(v11.a8.length:Int))) then
    (ix v11.a8 s13).bind λv15=>
    if ((v15.State==0)==true) then
     (ix a0.a8 s13).bind λv16=>
     (B2 a0 s13 (⟨1,v16.Gen,a1⟩:b7)).bind λv17=>
     (a09 s13 v16.Gen).bind λv18=>
     some (.inr (.inl (v17,v18,0)))
    else
    some (.inl (p7 (s13+1)))
   else
   some (.inr (.inr ()))) 0).bind λe12=>
  match e12 with
  | .inl w=>some w
  | .inr w=>κ9 w)
def Q2(a0:a7)(a1:Int)(a2:Int):Option (a7 × Int × Int):=
 (b63 a1).bind λv1=>
 if (v1.2 != 0) then
  some (a0,0,v1.2)
 else
 (P3 a2).bind λv2=>
 if (!v2) then
  some (a0,0,13)
 else
 (H0 a0.S (⟨p7 (a0.Serial+1),0,0,a2,false,v1.1⟩:m7)).bind λv3=>
 if (v3.2.2 != 0) then
  some (a0,0,v3.2.2)
 else
 some ((⟨v3.1,p7 (a0.Serial+1)⟩:a7),v3.2.1,0)
def a1r(a0:Int):Option (Int × Int × Bool):=
 if (decide (a0<1)) then
  some ((-1),(-1),false)
 else
 (rem (p7 (a0-1)) 32).bind λv1=>
 (quo .i64 v1 1).bind λv2=>
 (quo .i64 (p7 (a0-1)) 32).bind λv3=>
 if ((decide (v2≥24))||(decide (v3 > 9))) then
  some ((-1),(-1),false)
 else
 some (v2,v3,true)
def a2A(a0:Int):Option Int:=
 (a1r a0).bind λv1=>
 some v1.1
def a3I(a0:Int):Option Int:=
 (a1r a0).bind λv1=>
 some v1.2.1
def r8(a0:c7)(a1:Int):Option (Int × Int):=
 if (a1==0) then
  some ((-1),2)
 else
 (a2A a1).bind λv1=>
 if ((decide (v1<0))||(decide (v1≥(a0.a8.length:Int)))) then
  some ((-1),3)
 else
 (ix a0.a8 v1).bind λv2=>
 (a3I a1).bind λv3=>
 if ((v2.Gen != v3)||((v2.State != 1)&&(v2.State != 2))) then
  some ((-1),3)
 else
 some (v1,0)
def C0(a0:c7)(a1:Int):Option (m7 × Int):=
 (r8 a0 a1).bind λv1=>
 if (v1.2 != 0) then
  some ((⟨0,0,0,0,false,[]⟩:m7),v1.2)
 else
 (ix a0.a8 v1.1).bind λv2=>
 if (v2.State==2) then
  some ((⟨0,0,0,0,false,[]⟩:m7),3)
 else
 some (v2.Val,0)
def u6(a0:a7)(a1:Int):Option (m7 × Int):=
 (C0 a0.S a1).bind λv1=>
 some (v1.1,v1.2)
def a4n(a0:b6)(a1:Int):Option Bool:=
 (u6 a0.S a1).bind λv1=>
 some (v1.2==0)
def I6(a0:b6)(a1:Int):Option Bool:=
 (w7 ((a1==0)==false) false (a4n a0 a1)).bind λv1=>
 some ((a1==0)||v1)
def E0(a0:Int):Option Bool:=
 some (decide (a0≥12))
def a3D(a0:Int):Option (Int × Int):=
 (E0 a0).bind λv1=>
 if v1 then
  some (12,0)
 else
 some (p7 ((if 0 > a0 then 0 else a0)+1),0)
def a7U(a0:Int):Option Int:=
 (a3D a0).bind λv1=>
 some v1.1
def I0(a0:c7)(a1:Int)(a2:m7):Option (c7 × Int):=
 (r8 a0 a1).bind λv1=>
 if (v1.2 != 0) then
  some (a0,v1.2)
 else
 (ix a0.a8 v1.1).bind λv2=>
 (B2 a0 v1.1 (⟨v2.State,v2.Gen,a2⟩:b7)).bind λv3=>
 some (v3,0)
def I1(a0:a7)(a1:Int)(a2:m7):Option (a7 × Int):=
 (I0 a0.S a1 a2).bind λv1=>
 some ((⟨v1.1,a0.Serial⟩:a7),v1.2)
def R4(a0:b6)(a1:Int):Option b6:=
 (u6 a0.S a1).bind λv1=>
 if (v1.2==0) then
  (a7U v1.1.Strong).bind λv2=>
  (I1 a0.S a1 (⟨v1.1.Serial,v2,v1.1.Weak,v1.1.Prog,v1.1.Started,v1.1.Fields⟩:m7)).bind λv3=>
  some (⟨v3.1,a0.Roots,a0.a8,a0.T,a0.Q⟩:b6)
 else
 some a0
def Y9(a0:b6)(a1:Int):Option b6:=
 (R4 a0 a1).bind λv1=>
 some v1
def J7(a0:List Int):Option (List Int):=
 app 8 [] a0
def M8(a0:G2)(a1:b6):Option b6:=
 (J7 a1.Roots).bind λv1=>
 (ix v1 a0.r).bind λv2=>
 some (⟨a1.S,(v1.set (a0.r).toNat a0.h),a1.a8,a1.T,a1.Q⟩:b6)
def a12(a0:Int):Option (Int × Int):=
 (E0 a0).bind λv1=>
 if v1 then
  some (12,0)
 else
 if (decide (a0<1)) then
  some (0,11)
 else
 some (p7 (a0-1),0)
def b00(a0:Int):Option (Int × Int):=
 (a12 a0).bind λv1=>
 some (v1.1,v1.2)
def a1s(a0:Int):Option Int:=
 (b00 a0).bind λv1=>
 if (v1.2 != 0) then
  some a0
 else
 some v1.1
def K8(a0:b6)(a1:Int):Option b6:=
 (u6 a0.S a1).bind λv1=>
 if (v1.2==0) then
  (a1s v1.1.Strong).bind λv2=>
  (I1 a0.S a1 (⟨v1.1.Serial,v2,v1.1.Weak,v1.1.Prog,v1.1.Started,v1.1.Fields⟩:m7)).bind λv3=>
  some (⟨v3.1,a0.Roots,a0.a8,a0.T,a0.Q⟩:b6)
 else
 some a0
def B1(a0:b6)(a1:Int):Option b6:=
 (K8 a0 a1).bind λv1=>
 some v1
def D4(a0:b6)(a1:Int)(a2:Int)(a3:G2):Option b6:=
 (Y9 a0 a2).bind λv1=>
 (M8 a3 v1).bind λv2=>
 (B1 v2 a1).bind λv3=>
 some v3
def a0f(a0:b6)(a1:Int)(a2:Int):Option (b6 × Int):=
 if ((decide (a1<0))||(decide (a1≥(a0.Roots.length:Int)))) then
  some (a0,6)
 else
 (I6 a0 a2).bind λv1=>
 if (!v1) then
  some (a0,3)
 else
 (ix a0.Roots a1).bind λv2=>
 (D4 a0 v2 a2 (⟨a1,a2⟩:G2)).bind λv3=>
 some (v3,0)
def A3(a0:o8)(a1:Int)(a2:Int):Option (b6 × Int):=
 if (a2 != 0) then
  some (a0.x,a2)
 else
 (a0f a0.x a0.o.A a1).bind λv1=>
 some (v1.1,v1.2)
def Q4(a0:o8):Option (b6 × Int):=
 (Q2 a0.x.S a0.o.B a0.o.C).bind λv1=>
 if (v1.2.2 != 0) then
  some (a0.x,v1.2.2)
 else
 (A3 (⟨⟨v1.1,a0.x.Roots,a0.x.a8,a0.x.T,a0.x.Q⟩,a0.o⟩:o8) v1.2.1 0).bind λv2=>
 some (v2.1,v2.2)
def I8(a0:b6)(a1:Int):Option Int:=
 if ((decide (a1<0))||(decide (a1≥(a0.Roots.length:Int)))) then
  some 0
 else
 (ix a0.Roots a1).bind λv1=>
 some v1
def G4(a0:o8):Option (b6 × Int):=
 (I8 a0.x a0.o.B).bind λv1=>
 (A3 a0 v1 0).bind λv2=>
 some (v2.1,v2.2)
def X7(a0:o8):Option (b6 × Int):=
 (A3 a0 0 0).bind λv1=>
 some (v1.1,v1.2)
def J5(a0:b6)(a1:Int):Option (Int × Int):=
 (I8 a0 a1).bind λv1=>
 if (v1==0) then
  some (0,2)
 else
 some (v1,0)
def a6x(a0:List Int)(a1:Int):Option Bool:=
 some ((decide (a1≥0))&&(decide (a1<(a0.length:Int))))
def b1K(a0:List Int)(a1:Int):Option (Int × Int):=
 (a6x a0 a1).bind λv1=>
 if (!v1) then
  some (0,5)
 else
 (ix a0 a1).bind λv2=>
 some (v2,0)
def Z8(a0:a7)(a1:Int)(a2:Int):Option (Int × Int):=
 (u6 a0 a1).bind λv1=>
 if (v1.2 != 0) then
  some (0,v1.2)
 else
 (b1K v1.1.Fields a2).bind λv2=>
 some (v2.1,v2.2)
def X8(a0:o8):Option (b6 × Int):=
 (J5 a0.x a0.o.B).bind λv1=>
 if (v1.2 != 0) then
  some (a0.x,v1.2)
 else
 (Z8 a0.x.S v1.1 a0.o.C).bind λv2=>
 (A3 a0 v2.1 v2.2).bind λv3=>
 some (v3.1,v3.2)
def b33(a0:List Int)(a1:Int)(a2:Int):Option ((List Int) × Int):=
 (a6x a0 a1).bind λv1=>
 if (!v1) then
  some (a0,5)
 else
 (mk 8 (a0.length:Int) (0:Int)).bind λv2=>
 (cpy v2 a0).bind λv3=>
 (ix v3 a1).bind λv4=>
 some ((v3.set (a1).toNat a2),0)
def a8r(a0:a7)(a1:Int)(a2:Int)(a3:Int):Option (a7 × Int):=
 (u6 a0 a1).bind λv1=>
 if (v1.2 != 0) then
  some (a0,v1.2)
 else
 (b33 v1.1.Fields a2 a3).bind λv2=>
 if (v2.2 != 0) then
  some (a0,v2.2)
 else
 (I1 a0 a1 (⟨v1.1.Serial,v1.1.Strong,v1.1.Weak,v1.1.Prog,v1.1.Started,v2.1⟩:m7)).bind λv3=>
 some (v3.1,v3.2)
def a0t(a0:E8)(a1:b6):Option b6:=
 (a8r a1.S a0.h a0.k a0.v).bind λv1=>
 some (⟨v1.1,a1.Roots,a1.a8,a1.T,a1.Q⟩:b6)
def G3(a0:b6)(a1:Int)(a2:Int)(a3:E8):Option b6:=
 (Y9 a0 a2).bind λv1=>
 (a0t a3 v1).bind λv2=>
 (B1 v2 a1).bind λv3=>
 some v3
def a16(a0:b6)(a1:Int)(a2:Int)(a3:Int):Option (b6 × Int):=
 (Z8 a0.S a1 a2).bind λv1=>
 if (v1.2 != 0) then
  some (a0,v1.2)
 else
 (I6 a0 a3).bind λv2=>
 if (!v2) then
  some (a0,3)
 else
 (G3 a0 v1.1 a3 (⟨a1,a2,a3⟩:E8)).bind λv3=>
 some (v3,0)
def T9(a0:o8):Option (b6 × Int):=
 (J5 a0.x a0.o.A).bind λv1=>
 if (v1.2 != 0) then
  some (a0.x,v1.2)
 else
 (I8 a0.x a0.o.C).bind λv2=>
 (a16 a0.x v1.1 a0.o.B v2).bind λv3=>
 some (v3.1,v3.2)
def b2I(a0:c9)(a1:Int):Option (c9 × Int):=
 some (a0,a1)
def a32(a0:c9)(a1:Int):Option Bool:=
 jn (λ(_:Unit)=>
  some false) (λκ6=>
  (b2I a0 2).bind λv8=>
  (lp (S:=Int) (E:=Bool ⊕ Unit) (λ(s10:Int)=>
   if (decide (s10<(v8.1.L.length:Int))) then
    (ix v8.1.L s10).bind λv12=>
    if ((v12.Kind==v8.2)==true) then
     if (v12.At==a1) then
      some (.inr (.inl true))
     else
     some (.inl (p7 (s10+1)))
    else
    some (.inl (p7 (s10+1)))
   else
   some (.inr (.inr ()))) 0).bind λe9=>
  match e9 with
  | .inl w=>some w
  | .inr w=>κ6 w)
def a5z(a0:List e6)(a1:Int):Option Bool:=
 some ((decide (a1≥0))&&(decide (a1<(a0.length:Int))))
def Z9(a0:List e6):Option (List e6):=
 (mk 24 (a0.length:Int) (⟨0,false,0⟩:e6)).bind λv1=>
 (cpy v1 a0).bind λv2=>
 some v2
def b0Q(a0:List e6)(a1:Int)(a2:Int)(a3:Int):Option ((List e6) × Int × Int):=
 (a5z a0 a1).bind λv1=>
 if (!v1) then
  some (a0,0,7)
 else
 (Z9 a0).bind λv2=>
 (ix v2 a1).bind λv3=>
 (ix a0 a1).bind λv4=>
 some ((v2.set (a1).toNat (⟨a2,(a2 != 0),a3⟩:e6)),v4.Target,0)
def a1b(a0:b6)(a1:Int)(a2:Int):Option b6:=
 (r8 a0.S.S a1).bind λv1=>
 if (v1.2==0) then
  (ix a0.S.S.a8 v1.1).bind λv2=>
  (I1 a0.S a1 (⟨v2.Val.Serial,v2.Val.Strong,p7 (v2.Val.Weak+a2),v2.Val.Prog,v2.Val.Started,v2.Val.Fields⟩:m7)).bind λv3=>
  some (⟨v3.1,a0.Roots,a0.a8,a0.T,a0.Q⟩:b6)
 else
 some a0
def L1(a0:c7)(a1:Int):Option (c7 × Int):=
 (r8 a0 a1).bind λv1=>
 if (v1.2 != 0) then
  some (a0,v1.2)
 else
 (ix a0.a8 v1.1).bind λv2=>
 if (v2.Gen==a0.Last) then
  (B2 a0 v1.1 (⟨3,v2.Gen,⟨0,0,0,0,false,[]⟩⟩:b7)).bind λv3=>
  some (v3,0)
 else
 (B2 a0 v1.1 (⟨0,p7 (v2.Gen+1),⟨0,0,0,0,false,[]⟩⟩:b7)).bind λv4=>
 some (v4,0)
def a2p(a0:b6)(a1:Int):Option b6:=
 (a1b a0 a1 (-1)).bind λv1=>
 (r8 v1.S.S a1).bind λv2=>
 if (v2.2 != 0) then
  some v1
 else
 (ix v1.S.S.a8 v2.1).bind λv3=>
 if ((v3.State==2)&&(v3.Val.Weak==0)) then
  (L1 v1.S.S a1).bind λv4=>
  some (⟨⟨v4.1,v1.S.Serial⟩,v1.Roots,v1.a8,v1.T,v1.Q⟩:b6)
 else
 some v1
def a0g(a0:b6)(a1:Int)(a2:Int)(a3:Int):Option (b6 × Int):=
 (w7 (((decide (a1<0))||(decide (a1≥(a0.a8.length:Int))))==false) false (a32 a0.Q a1)).bind λv1=>
 if (((decide (a1<0))||(decide (a1≥(a0.a8.length:Int))))||v1) then
  some (a0,7)
 else
 (I6 a0 a2).bind λv2=>
 if (!v2) then
  some (a0,3)
 else
 (b0Q a0.a8 a1 a2 a3).bind λv3=>
 (a1b (⟨a0.S,a0.Roots,v3.1,a0.T,a0.Q⟩:b6) a2 1).bind λv4=>
 (a2p v4 v3.2.1).bind λv5=>
 some (v5,0)
def Q5(a0:o8):Option (b6 × Int):=
 if (a0.o.B==(-1)) then
  (a0g a0.x a0.o.A 0 a0.o.C).bind λv1=>
  some (v1.1,v1.2)
 else
 (J5 a0.x a0.o.B).bind λv2=>
 if (v2.2 != 0) then
  some (a0.x,v2.2)
 else
 (a0g a0.x a0.o.A v2.1 a0.o.C).bind λv3=>
 some (v3.1,v3.2)
def a5y(a0:List e6)(a1:Int):Option (Int × Int):=
 (a5z a0 a1).bind λv1=>
 if (!v1) then
  some (0,7)
 else
 (ix a0 a1).bind λv2=>
 if ((v2.Target==0)||(!v2.Intact)) then
  some (0,9)
 else
 some (v2.Target,0)
def U7(a0:o8):Option (b6 × Int):=
 (a5y a0.x.a8 a0.o.B).bind λv1=>
 (A3 a0 v1.1 v1.2).bind λv2=>
 some (v2.1,v2.2)
def a3o(a0:Int)(a1:Int):Option (Int × Int):=
 some (a0,a1)
def a0e(a0:Int)(a1:Int):Option Int:=
 if (decide (a0<1)) then
  some 0
 else
 (rem (p7 ((p7 (5*a1))+1)) a0).bind λv1=>
 if (decide (v1<0)) then
  some (p7 (v1+a0))
 else
 some v1
def V5(a0:List b8)(a1:Int):Option Int:=
 jn (λ(_:Unit)=>
  some (-1)) (λκ8=>
  (a3o (a0.length:Int) a1).bind λv10=>
  (lp (S:=Int) (E:=Int ⊕ Unit) (λ(s12:Int)=>
   if (decide (s12<v10.1)) then
    (a0e v10.1 v10.2).bind λv14=>
    (rem (p7 (v14+s12)) v10.1).bind λv15=>
    (ix a0 v15).bind λv16=>
    if (v16.State==0) then
     some (.inr (.inr ()))
    else
    if ((v16.State==1)&&(v16.Key==a1)) then
     some (.inr (.inl v15))
    else
    some (.inl (p7 (s12+1)))
   else
   some (.inr (.inr ()))) 0).bind λe11=>
  match e11 with
  | .inl w=>some w
  | .inr w=>κ8 w)
def J4(a0:List b8)(a1:Int):Option (Int × Int):=
 (V5 a0 a1).bind λv1=>
 if (decide (v1<0)) then
  some (0,9)
 else
 (ix a0 v1).bind λv2=>
 some (v2.Val,0)
def C1(a0:List b8):Option (List b8):=
 app 24 [] a0
def a1a(a0:List b8)(a1:Int)(a2:b8):Option (List b8):=
 (C1 a0).bind λv1=>
 (ix v1 a1).bind λv2=>
 some (v1.set (a1).toNat a2)
def V4(a0:List b8)(a1:Int):Option ((List b8) × Int × Int):=
 (V5 a0 a1).bind λv1=>
 if (decide (v1<0)) then
  some (a0,0,9)
 else
 (a1a a0 v1 (⟨2,0,0⟩:b8)).bind λv2=>
 (ix a0 v1).bind λv3=>
 some (v2,v3.Val,0)
def a7f(a0:List b8)(a1:Int)(a2:Int):Option ((List b8) × Int):=
 (V5 a0 a1).bind λv1=>
 if (decide (v1≥0)) then
  (a1a a0 v1 (⟨1,a1,a2⟩:b8)).bind λv2=>
  some (v2,0)
 else
 jn (λ(_:Unit)=>
  some (a0,8)) (λκ11=>
  (a3o (a0.length:Int) a1).bind λv13=>
  (lp (S:=Int) (E:=((List b8) × Int) ⊕ Unit) (λ(s15:Int)=>
   if (decide (s15<v13.1)) then
    (a0e v13.1 v13.2).bind λv17=>
    (rem (p7 (v17+s15)) v13.1).bind λv18=>
    (ix a0 v18).bind λv19=>
    if (v19.State != 1) then
     (a1a a0 v18 (⟨1,a1,a2⟩:b8)).bind λv20=>
     some (.inr (.inl (v20,0)))
    else
    some (.inl (p7 (s15+1)))
   else
   some (.inr (.inr ()))) 0).bind λe14=>
  match e14 with
  | .inl w=>some w
  | .inr w=>κ11 w)
def R2(a0:List b8)(a1:Int)(a2:Int):Option ((List b8) × Int × Int):=
 if (a1==0) then
  some (a0,0,2)
 else
 (J4 a0 a1).bind λv1=>
 if (a2==0) then
  (V4 a0 a1).bind λv2=>
  some (v2.1,v1.1,0)
 else
 (a7f a0 a1 a2).bind λv3=>
 if (v3.2 != 0) then
  some (a0,0,v3.2)
 else
 some (v3.1,v1.1,0)
def T8(a0:G1)(a1:b6):Option b6:=
 some (⟨a1.S,a1.Roots,a1.a8,a0.t,a1.Q⟩:b6)
def H4(a0:b6)(a1:Int)(a2:Int)(a3:G1):Option b6:=
 (Y9 a0 a2).bind λv1=>
 (T8 a3 v1).bind λv2=>
 (B1 v2 a1).bind λv3=>
 some v3
def a3p(a0:b6)(a1:Int)(a2:Int):Option (b6 × Int):=
 if (a1==0) then
  some (a0,2)
 else
 (I6 a0 a1).bind λv1=>
 (w7 ((!v1)==false) false (I6 a0 a2)).bind λv2=>
 if ((!v1)||(!v2)) then
  some (a0,3)
 else
 (R2 a0.T a1 a2).bind λv3=>
 if (v3.2.2 != 0) then
  some (a0,v3.2.2)
 else
 (H4 a0 v3.2.1 a2 (⟨v3.1⟩:G1)).bind λv4=>
 some (v4,0)
def X9(a0:o8):Option (b6 × Int):=
 (J5 a0.x a0.o.A).bind λv1=>
 if (v1.2 != 0) then
  some (a0.x,v1.2)
 else
 (I8 a0.x a0.o.B).bind λv2=>
 (a3p a0.x v1.1 v2).bind λv3=>
 some (v3.1,v3.2)
def b02(a0:List b8)(a1:Int):Option (Int × Int):=
 (J4 a0 a1).bind λv1=>
 some (v1.1,v1.2)
def a0h(a0:o8):Option (b6 × Int):=
 (J5 a0.x a0.o.B).bind λv1=>
 if (v1.2 != 0) then
  some (a0.x,v1.2)
 else
 (b02 a0.x.T v1.1).bind λv2=>
 (A3 a0 v2.1 v2.2).bind λv3=>
 some (v3.1,v3.2)
def N2(a0:o8):Option (b6 × Int):=
 some (a0.x,0)
def b2q(f:Fv)(a0:o8):Option (b6 × Int):=
 if f=some 65 then Q4 a0 else
 if f=some 66 then G4 a0 else
 if f=some 67 then X7 a0 else
 if f=some 68 then X8 a0 else
 if f=some 69 then T9 a0 else
 if f=some 70 then Q5 a0 else
 if f=some 71 then U7 a0 else
 if f=some 72 then X9 a0 else
 if f=some 73 then a0h a0 else
 if f=some 74 then N2 a0 else
 none
def a0B(a0:Int):Option Bool:=
 some (a0 != a0)
def a2P(a0:Int)(a1:Int):Option Int:=
 (a0B a0).bind λv1=>
 (a0B a1).bind λv2=>
 if v1 then
  if v2 then
   some 0
  else
  some (-1)
 else
 if v2 then
  some 1
 else
 if (decide (a0<a1)) then
  some (-1)
 else
 if (decide (a0 > a1)) then
  some 1
 else
 some 0
def a3l(a0:Int)(a1:Int)(a2:List (Int × Int)):Option Int:=
 (a2P ((A0 a2 a0).getD (0:Int)) ((A0 a2 a1).getD (0:Int))).bind λv1=>
 some v1
def C2(a0:a7):Option (List Int):=
 jn (λ((j18,j19):(List (Int × Int)) × (List Int))=>
  (b1E (λp q=>a3l p q j18) j19).bind λv21=>
  some v21) (λκ17=>
  (lp (S:=Int × (List (Int × Int)) × (List Int)) (E:=((List (Int × Int)) × (List Int))) (λ((s23,s24,s25):Int × (List (Int × Int)) × (List Int))=>
   if (decide (s23<(a0.S.a8.length:Int))) then
    jn (λ((j32,j33):(List (Int × Int)) × (List Int))=>
     some (.inl (p7 (s23+1),j32,j33))) (λκ31=>
     (ix a0.S.a8 s23).bind λv35=>
     if (v35.State==1) then
      (a09 s23 v35.Gen).bind λv36=>
      (app 8 s25 [v36]).bind λv37=>
      κ31 ((o6 s24 v36 v35.Val.Serial),v37)
     else
     κ31 (s24,s25))
   else
   some (.inr (s24,s25))) (0,[],[])).bind λe22=>
  κ17 e22)
def a1f(a0:b6):Option (List Int):=
 jn (λ(j16:List Int)=>
  some j16) (λκ15=>
  (C2 a0.S).bind λv17=>
  (lp (S:=Int × (List Int)) (E:=(List Int)) (λ((s19,s20):Int × (List Int))=>
   if (decide (s19<(v17.length:Int))) then
    jn (λ(j27:List Int)=>
     some (.inl (p7 (s19+1),j27))) (λκ26=>
     (ix v17 s19).bind λv28=>
     (u6 a0.S v28).bind λv29=>
     if (v29.1.Strong==0) then
      (app 8 s20 [v28]).bind λv30=>
      κ26 v30
     else
     κ26 s20)
   else
   some (.inr s20)) (0,[])).bind λe18=>
  κ15 e18)
def J6(a0:m7):Option Bool:=
 some ((decide (a0.Prog≥0))&&(!a0.Started))
def G9(a0:c9):Option Int:=
 some (a0.L.length:Int)
def D5(a0:List k7)(a1:Int)(a2:Int):Option (List k7):=
 (cut a0 a1 a2).bind λv1=>
 some v1
def O8(a0:c9)(a1:k7):Option (c9 × Int):=
 (G9 a0).bind λv1=>
 if (decide (v1≥a0.Cap)) then
  some (a0,4)
 else
 (D5 a0.L 0 v1).bind λv2=>
 (app 24 v2 [a1]).bind λv3=>
 some ((⟨v3,a0.Cap⟩:c9),0)
def a7M(a0:c9)(a1:k7):Option (c9 × Int):=
 (O8 a0 a1).bind λv1=>
 some (v1.1,v1.2)
def Q0(a0:b6)(a1:Int):Option b6:=
 (u6 a0.S a1).bind λv1=>
 (w7 ((v1.2 != 0)==false) false (J6 v1.1)).bind λv2=>
 if ((v1.2 != 0)||(!v2)) then
  some a0
 else
 (I1 a0.S a1 (⟨v1.1.Serial,v1.1.Strong,v1.1.Weak,v1.1.Prog,true,v1.1.Fields⟩:m7)).bind λv3=>
 (a7M a0.Q (⟨1,a1,v1.1.Prog⟩:k7)).bind λv4=>
 (Y9 (⟨v3.1,a0.Roots,a0.a8,a0.T,v4.1⟩:b6) a1).bind λv5=>
 some v5
def S9(a0:b6)(a1:List Int):Option (List Int):=
 jn (λ(j18:List Int)=>
  some j18) (λκ17=>
  (lp (S:=Int × (List (Int × Bool)) × (List Int)) (E:=(List Int)) (λ((s20,s21,s22):Int × (List (Int × Bool)) × (List Int))=>
   if (decide (s20<(a1.length:Int))) then
    jn (λ((j29,j30):(List Int) × (List (Int × Bool)))=>
     some (.inl (p7 (s20+1),j30,j29))) (λκ28=>
     (ix a1 s20).bind λv32=>
     (u6 a0.S v32).bind λv33=>
     if ((v33.2==0)==true) then
      if (!((A0 s21 v32).getD (false:Bool))) then
       (app 8 s22 [v32]).bind λv34=>
       κ28 (v34,(o6 s21 v32 true))
      else
      κ28 (s22,s21)
     else
     κ28 (s22,s21))
   else
   some (.inr s22)) (0,[],[])).bind λe19=>
  κ17 e19)
def P2(a0:List Int)(a1:Int):Option Int:=
 jn (λ(_:Unit)=>
  some (-1)) (λκ5=>
  (lp (S:=Int) (E:=Int ⊕ Unit) (λ(s8:Int)=>
   if (decide (s8<(a0.length:Int))) then
    (ix a0 s8).bind λv10=>
    if (a1==v10) then
     some (.inr (.inl s8))
    else
    some (.inl (p7 (s8+1)))
   else
   some (.inr (.inr ()))) 0).bind λe7=>
  match e7 with
  | .inl w=>some w
  | .inr w=>κ5 w)
def D3(a0:List Int)(a1:Int):Option Bool:=
 (P2 a0 a1).bind λv1=>
 some (decide (v1≥0))
def a0o(a0:e6)(a1:List Int):Option Bool:=
 (w7 ((a0.Intact&&(a0.Target != 0))==true) false (D3 a1 a0.Target)).bind λv1=>
 some ((a0.Intact&&(a0.Target != 0))&&v1)
def H6(a0:List e6)(a1:List Int):Option (List Int):=
 jn (λ(j15:List Int)=>
  some j15) (λκ14=>
  (lp (S:=Int × (List Int)) (E:=(List Int)) (λ((s17,s18):Int × (List Int))=>
   if (decide (s17<(a0.length:Int))) then
    jn (λ(j25:List Int)=>
     some (.inl (p7 (s17+1),j25))) (λκ24=>
     (ix a0 s17).bind λv26=>
     (a0o v26 a1).bind λv27=>
     if v27 then
      (app 8 s18 [s17]).bind λv28=>
      κ24 v28
     else
     κ24 s18)
   else
   some (.inr s18)) (0,[])).bind λe16=>
  κ14 e16)
def a33(a0:List e6)(a1:List Int):Option ((List e6) × (List Int)):=
 (H6 a0 a1).bind λv1=>
 (Z9 a0).bind λv2=>
 jn (λ((j22,j23):(List Int) × (List e6))=>
  some (j23,j22)) (λκ21=>
  (lp (S:=Int × (List e6) × (List Int)) (E:=((List Int) × (List e6))) (λ((s26,s27,s28):Int × (List e6) × (List Int))=>
   if (decide (s26<(v1.length:Int))) then
    jn (λ((j36,j37):(List Int) × (List e6))=>
     some (.inl (p7 (s26+1),j37,j36))) (λκ35=>
     (ix v1 s26).bind λv39=>
     (ix s27 v39).bind λv40=>
     (ix (s27.set (v39).toNat (⟨v40.Target,false,v40.Call⟩:e6)) v39).bind λv41=>
     if (decide (v41.Call≥0)) then
      (app 8 s28 [v39]).bind λv42=>
      κ35 (v42,(s27.set (v39).toNat (⟨v40.Target,false,v40.Call⟩:e6)))
     else
     κ35 (s28,(s27.set (v39).toNat (⟨v40.Target,false,v40.Call⟩:e6))))
   else
   some (.inr (s28,s27))) (0,v2,[])).bind λe25=>
  κ21 e25)
def a1H(a0:b6)(a1:List Int):Option b6:=
 (a33 a0.a8 a1).bind λv1=>
 jn (λ(j11:c9)=>
  some (⟨a0.S,a0.Roots,v1.1,a0.T,j11⟩:b6)) (λκ10=>
  (lp (S:=Int × c9) (E:=c9) (λ((s13,s14):Int × c9)=>
   if (decide (s13<(v1.2.length:Int))) then
    (ix v1.2 s13).bind λv17=>
    (ix v1.1 v17).bind λv18=>
    (a7M s14 (⟨2,v17,v18.Call⟩:k7)).bind λv19=>
    some (.inl (p7 (s13+1),v19.1))
   else
   some (.inr s14)) (0,a0.Q)).bind λe12=>
  κ10 e12)
def a8w(a0:List Int):Option (List Int):=
 some a0
def a3A(a0:List Int):Option (List Int):=
 jn (λ(j10:List Int)=>
  some j10) (λκ9=>
  (a8w a0).bind λv11=>
  (lp (S:=Int × (List Int)) (E:=(List Int)) (λ((s13,s14):Int × (List Int))=>
   if (decide (s13<(v11.length:Int))) then
    (ix v11 s13).bind λv17=>
    if ((v17 != 0)==true) then
     (app 8 s14 [v17]).bind λv18=>
     some (.inl (p7 (s13+1),v18))
    else
    some (.inl (p7 (s13+1),s14))
   else
   some (.inr s14)) (0,[])).bind λe12=>
  κ9 e12)
def V2(a0:List b8)(a1:List Int):Option ((List b8) × (List Int)):=
 jn (λ((j18,j19):(List b8) × (List Int))=>
  some (j18,j19)) (λκ17=>
  (lp (S:=(List b8) × Int × (List Int)) (E:=((List b8) × (List Int))) (λ((s22,s23,s24):(List b8) × Int × (List Int))=>
   if (decide (s23<(a1.length:Int))) then
    jn (λ((j31,j32):(List b8) × (List Int))=>
     some (.inl (j31,p7 (s23+1),j32))) (λκ30=>
     (ix a1 s23).bind λv34=>
     (V4 s22 v34).bind λv35=>
     if (v35.2.2==0) then
      (app 8 s24 [v35.2.1]).bind λv36=>
      κ30 (v35.1,v36)
     else
     κ30 (s22,s24))
   else
   some (.inr (s22,s24))) (a0,0,[])).bind λe21=>
  κ17 e21)
def Q6(a0:c7)(a1:Int):Option (c7 × Int):=
 (C0 a0 a1).bind λv1=>
 if (v1.2 != 0) then
  some (a0,v1.2)
 else
 (a2A a1).bind λv2=>
 (a3I a1).bind λv3=>
 (B2 a0 v2 (⟨2,v3,v1.1⟩:b7)).bind λv4=>
 some (v4,0)
def V8(a0:b6)(a1:Int):Option b6:=
 (u6 a0.S a1).bind λv1=>
 (I1 a0.S a1 (⟨v1.1.Serial,0,v1.1.Weak,v1.1.Prog,v1.1.Started,[]⟩:m7)).bind λv2=>
 (Q6 v2.1.S a1).bind λv3=>
 if (v1.1.Weak==0) then
  (L1 v3.1 a1).bind λv4=>
  some (⟨⟨v4.1,v2.1.Serial⟩,a0.Roots,a0.a8,a0.T,a0.Q⟩:b6)
 else
 some (⟨⟨v3.1,v2.1.Serial⟩,a0.Roots,a0.a8,a0.T,a0.Q⟩:b6)
def Z5(a0:b6)(a1:List Int):Option b6:=
 (S9 a0 a1).bind λv1=>
 (a1H a0 v1).bind λv2=>
 jn (λ(j13:List Int)=>
  (V2 v2.T v1).bind λv14=>
  (app 8 j13 v14.2).bind λv15=>
  jn (λ(j24:b6)=>
   jn (λ(j33:b6)=>
    some j33) (λκ32=>
    (lp (S:=Int × b6) (E:=b6) (λ((s35,s36):Int × b6)=>
     if (decide (s35<(v15.length:Int))) then
      (ix v15 s35).bind λv39=>
      (B1 s36 v39).bind λv40=>
      some (.inl (p7 (s35+1),v40))
     else
     some (.inr s36)) (0,j24)).bind λe34=>
    κ32 e34)) (λκ23=>
   (lp (S:=Int × b6) (E:=b6) (λ((s42,s43):Int × b6)=>
    if (decide (s42<(v1.length:Int))) then
     (ix v1 s42).bind λv46=>
     (V8 s43 v46).bind λv47=>
     some (.inl (p7 (s42+1),v47))
    else
    some (.inr s43)) (0,(⟨v2.S,v2.Roots,v2.a8,v14.1,v2.Q⟩:b6))).bind λe41=>
   κ23 e41)) (λκ12=>
  (lp (S:=Int × (List Int)) (E:=(List Int)) (λ((s49,s50):Int × (List Int))=>
   if (decide (s49<(v1.length:Int))) then
    (ix v1 s49).bind λv53=>
    (u6 v2.S v53).bind λv54=>
    (a3A v54.1.Fields).bind λv55=>
    (app 8 s50 v55).bind λv56=>
    some (.inl (p7 (s49+1),v56))
   else
   some (.inr s50)) (0,[])).bind λe48=>
  κ12 e48)
def M3(a0:b6):Option b6:=
 (lp (S:=b6) (E:=b6) (λ(s2:b6)=>
  (a1f s2).bind λv4=>
  if ((v4.length:Int)==0) then
   some (.inr s2)
  else
  (ix v4 0).bind λv5=>
  (u6 s2.S v5).bind λv6=>
  (J6 v6.1).bind λv7=>
  if v7 then
   (Q0 s2 v5).bind λv8=>
   some (.inl v8)
  else
  (cut v4 0 1).bind λv9=>
  (Z5 s2 v9).bind λv10=>
  some (.inl v10)) a0).bind λe1=>
 some e1
def Z0(a0:b6)(a1:Int):Option Int:=
 (u6 a0.S a1).bind λv1=>
 some v1.1.Serial
def a0Y(a0:b6)(a1:Int):Option Int:=
 (I8 a0 a1).bind λv1=>
 (Z0 a0 v1).bind λv2=>
 some v2
def R7(a0:b6)(a1:b6)(a2:g8):Option Int:=
 if (a2.Kind==5) then
  (a0Y a0 a2.C).bind λv1=>
  some v1
 else
 jn (λ(j3:Bool)=>
  if j3 then
   (a0Y a0 a2.B).bind λv4=>
   some v4
  else
  if (a2.Kind==10) then
   (I8 a0 a2.A).bind λv5=>
   (I8 a0 a2.B).bind λv6=>
   if (v5==v6) then
    some 1
   else
   some 0
  else
  (a0Y a1 a2.A).bind λv7=>
  some v7) (λκ2=>
  if (a2.Kind==6) then
   κ2 (a2.Kind==6)
  else
  κ2 (a2.Kind==8))
def r7(a0:b6)(a1:g8):Option (b6 × Int × Int):=
 (P5 a1).bind λv1=>
 if (v1 != 0) then
  some (a0,0,v1)
 else
 (a2q).bind λv2=>
 if (!((A0 v2 a1.Kind).isSome)) then
  some (a0,0,14)
 else
 (b2q ((A0 v2 a1.Kind).getD (none:Fv)) (⟨a0,a1⟩:o8)).bind λv3=>
 if (v3.2 != 0) then
  some (a0,0,v3.2)
 else
 (M3 v3.1).bind λv5=>
 (R7 v3.1 v5 a1).bind λv6=>
 some (v5,v6,0)
def a6i(a0:a7):Option a7:=
 some a0
def a5m(a0:a7)(a1:Int):Option (List Int):=
 (u6 a0 a1).bind λv1=>
 (a3A v1.1.Fields).bind λv2=>
 some v2
def b2G(a0:a7)(a1:Int):Option Int:=
 jn (λ(j31:Int)=>
  some j31) (λκ30=>
  (a6i a0).bind λv32=>
  (C2 v32).bind λv33=>
  (lp (S:=Int × Int) (E:=Int) (λ((s35,s36):Int × Int)=>
   if (decide (s35<(v33.length:Int))) then
    jn (λ(j50:Int)=>
     some (.inl (p7 (s35+1),j50))) (λκ49=>
     (ix v33 s35).bind λv51=>
     (a5m v32 v51).bind λv52=>
     (lp (S:=Int × Int) (E:=Int) (λ((s54,s55):Int × Int)=>
      if (decide (s54<(v52.length:Int))) then
       (ix v52 s54).bind λv58=>
       jn (λ(j60:Int)=>
        some (.inl (p7 (s54+1),j60))) (λκ59=>
        if (v58==a1) then
         κ59 (p7 (s55+1))
        else
        κ59 s55)
      else
      some (.inr s55)) (0,s36)).bind λe53=>
     κ49 e53)
   else
   some (.inr s36)) (0,0)).bind λe34=>
  κ30 e34)
def a06(a0:List b8):Option (List b8):=
 some a0
def a47(a0:List b8):Option (List Int):=
 jn (λ(j13:List Int)=>
  some j13) (λκ12=>
  (lp (S:=Int × (List Int)) (E:=(List Int)) (λ((s15,s16):Int × (List Int))=>
   if (decide (s15<(a0.length:Int))) then
    jn (λ(j22:List Int)=>
     some (.inl (p7 (s15+1),j22))) (λκ21=>
     (ix a0 s15).bind λv23=>
     if (v23.State==1) then
      (app 8 s16 [v23.Key]).bind λv24=>
      κ21 v24
     else
     κ21 s16)
   else
   some (.inr s16)) (0,[])).bind λe14=>
  κ12 e14)
def a2n(a0:m9)(a1:Int):Option Bool:=
 some ((a1 != 0)&&(a0.Val==a1))
def y6(a0:List b8)(a1:Int):Option (List m9):=
 jn (λ(j16:List m9)=>
  some j16) (λκ15=>
  (a47 a0).bind λv17=>
  (lp (S:=Int × (List m9)) (E:=(List m9)) (λ((s19,s20):Int × (List m9))=>
   if (decide (s19<(v17.length:Int))) then
    (ix v17 s19).bind λv23=>
    (J4 a0 v23).bind λv24=>
    jn (λ(j28:List m9)=>
     some (.inl (p7 (s19+1),j28))) (λκ27=>
     (a2n (⟨v23,v24.1⟩:m9) a1).bind λv29=>
     if v29 then
      (app 16 s20 [(⟨v23,v24.1⟩:m9)]).bind λv30=>
      κ27 v30
     else
     κ27 s20)
   else
   some (.inr s20)) (0,[])).bind λe18=>
  κ15 e18)
def a4j(a0:List b8)(a1:Int):Option Int:=
 (a06 a0).bind λv1=>
 (y6 v1 a1).bind λv2=>
 some (v2.length:Int)
def a4B(a0:a7)(a1:List b8)(a2:Int):Option Int:=
 (b2G a0 a2).bind λv1=>
 (a4j a1 a2).bind λv2=>
 some (p7 (v1+v2))
def a6w(a0:a7)(a1:List b8)(a2:Int):Option Int:=
 (u6 a0 a2).bind λv1=>
 if (v1.2 != 0) then
  some 0
 else
 (a4B a0 a1 a2).bind λv2=>
 some (p7 (v1.1.Strong-v2))
def a64(a0:Int):Option Bool:=
 (E0 a0).bind λv1=>
 some v1
def a6v(a0:Int)(a1:m7)(a2:a7)(a3:List b8):Option Bool:=
 (a6w a2 a3 a0).bind λv1=>
 (w7 ((decide (v1 > 0))==false) false (a64 a1.Strong)).bind λv2=>
 some ((decide (v1 > 0))||v2)
def a6u(a0:a7)(a1:List b8):Option (List Int):=
 jn (λ(j36:List Int)=>
  some j36) (λκ35=>
  jn (λ(j54:List Int)=>
   κ35 j54) (λκ53=>
   (C2 a0).bind λv55=>
   (lp (S:=Int × (List Int)) (E:=(List Int)) (λ((s57,s58):Int × (List Int))=>
    if (decide (s57<(v55.length:Int))) then
     jn (λ(j66:List Int)=>
      some (.inl (p7 (s57+1),j66))) (λκ65=>
      (ix v55 s57).bind λv67=>
      (u6 a0 v67).bind λv68=>
      (a6v v67 v68.1 a0 a1).bind λv69=>
      if v69 then
       (app 8 s58 [v67]).bind λv70=>
       κ65 v70
      else
      κ65 s58)
    else
    some (.inr s58)) (0,[])).bind λe56=>
   κ53 e56))
def a2s(a0:Int):Option j5:=
 some (⟨[],a0⟩:j5)
def a0k(a0:a7)(a1:Int):Option Bool:=
 (u6 a0 a1).bind λv1=>
 some (v1.2==0)
def I9(a0:j5):Option Int:=
 some (a0.L.length:Int)
def N4(a0:List Int)(a1:Int)(a2:Int):Option (List Int):=
 (cut a0 a1 a2).bind λv1=>
 some v1
def N3(a0:j5)(a1:Int):Option (j5 × Int):=
 (I9 a0).bind λv1=>
 if (decide (v1≥a0.Cap)) then
  some (a0,4)
 else
 (N4 a0.L 0 v1).bind λv2=>
 (app 8 v2 [a1]).bind λv3=>
 some ((⟨v3,a0.Cap⟩:j5),0)
def a20(a0:j5)(a1:Int):Option (j5 × (List Int)):=
 (I9 a0).bind λv1=>
 (N4 a0.L 0 (if (if v1<a1 then v1 else a1) > 0 then (if v1<a1 then v1 else a1) else 0)).bind λv2=>
 (N4 a0.L (if (if v1<a1 then v1 else a1) > 0 then (if v1<a1 then v1 else a1) else 0) v1).bind λv3=>
 some ((⟨v3,a0.Cap⟩:j5),v2)
def a0H(a0:j5):Option (j5 × Int × Int):=
 (a20 a0 1).bind λv1=>
 if ((v1.2.length:Int)==0) then
  some (a0,0,10)
 else
 (ix v1.2 0).bind λv2=>
 some (v1.1,v2,0)
def a1E(a0:a7)(a1:List Int):Option (List (Int × Bool)):=
 (C2 a0).bind λv1=>
 (a2s (v1.length:Int)).bind λv2=>
 jn (λ((j20,j21):j5 × (List (Int × Bool)))=>
  jn (λ(j68:List (Int × Bool))=>
   some j68) (λκ67=>
   (lp (S:=j5 × (List (Int × Bool))) (E:=(List (Int × Bool))) (λ((s70,s71):j5 × (List (Int × Bool)))=>
    (I9 s70).bind λv74=>
    if (decide (v74 > 0)) then
     (a0H s70).bind λv75=>
     (a5m a0 v75.2.1).bind λv76=>
     jn (λ((j94,j95):j5 × (List (Int × Bool)))=>
      some (.inl (j94,j95))) (λκ93=>
      (lp (S:=Int × j5 × (List (Int × Bool))) (E:=(j5 × (List (Int × Bool)))) (λ((s98,s99,s100):Int × j5 × (List (Int × Bool)))=>
       if (decide (s98<(v76.length:Int))) then
        jn (λ((j107,j108):j5 × (List (Int × Bool)))=>
         some (.inl (p7 (s98+1),j107,j108))) (λκ106=>
         (ix v76 s98).bind λv110=>
         (a0k a0 v110).bind λv111=>
         if (v111==true) then
          if (!((A0 s100 v110).getD (false:Bool))) then
           (N3 s99 v110).bind λv112=>
           κ106 (v112.1,(o6 s100 v110 true))
          else
          κ106 (s99,s100)
         else
         κ106 (s99,s100))
       else
       some (.inr (s99,s100))) (0,v75.1,s71)).bind λe97=>
      κ93 e97)
    else
    some (.inr s71)) (j20,j21)).bind λe69=>
   κ67 e69)) (λκ19=>
  (lp (S:=Int × j5 × (List (Int × Bool))) (E:=(j5 × (List (Int × Bool)))) (λ((s114,s115,s116):Int × j5 × (List (Int × Bool)))=>
   if (decide (s114<(a1.length:Int))) then
    jn (λ((j123,j124):j5 × (List (Int × Bool)))=>
     some (.inl (p7 (s114+1),j123,j124))) (λκ122=>
     (ix a1 s114).bind λv126=>
     (a0k a0 v126).bind λv127=>
     if (v127==true) then
      if (!((A0 s116 v126).getD (false:Bool))) then
       (N3 s115 v126).bind λv128=>
       κ122 (v128.1,(o6 s116 v126 true))
      else
      κ122 (s115,s116)
     else
     κ122 (s115,s116))
   else
   some (.inr (s115,s116))) (0,v2,[])).bind λe113=>
  κ19 e113)
def a3h(a0:Int)(a1:List (Int × Bool)):Option Bool:=
 some ((A0 a1 a0).getD (false:Bool))
def P8(a0:a7)(a1:List (Int × Bool)):Option (List Int):=
 jn (λ(j16:List Int)=>
  some j16) (λκ15=>
  (C2 a0).bind λv17=>
  (lp (S:=Int × (List Int)) (E:=(List Int)) (λ((s19,s20):Int × (List Int))=>
   if (decide (s19<(v17.length:Int))) then
    jn (λ(j27:List Int)=>
     some (.inl (p7 (s19+1),j27))) (λκ26=>
     (ix v17 s19).bind λv28=>
     (a3h v28 a1).bind λv29=>
     if v29 then
      (app 8 s20 [v28]).bind λv30=>
      κ26 v30
     else
     κ26 s20)
   else
   some (.inr s20)) (0,[])).bind λe18=>
  κ15 e18)
def a3S(a0:a7)(a1:List Int):Option (List Int):=
 (a1E a0 a1).bind λv1=>
 (P8 a0 v1).bind λv2=>
 some v2
def a2o(a0:m9):Option Bool:=
 some true
def y7(a0:List b8):Option (List m9):=
 jn (λ(j16:List m9)=>
  some j16) (λκ15=>
  (a47 a0).bind λv17=>
  (lp (S:=Int × (List m9)) (E:=(List m9)) (λ((s19,s20):Int × (List m9))=>
   if (decide (s19<(v17.length:Int))) then
    (ix v17 s19).bind λv23=>
    (J4 a0 v23).bind λv24=>
    jn (λ(j28:List m9)=>
     some (.inl (p7 (s19+1),j28))) (λκ27=>
     (a2o (⟨v23,v24.1⟩:m9)).bind λv29=>
     if v29 then
      (app 16 s20 [(⟨v23,v24.1⟩:m9)]).bind λv30=>
      κ27 v30
     else
     κ27 s20)
   else
   some (.inr s20)) (0,[])).bind λe18=>
  κ15 e18)
def a4k(a0:List b8):Option (List m9):=
 (a06 a0).bind λv1=>
 (y7 v1).bind λv2=>
 some v2
def a3G(a0:Int)(a1:a7):Option Bool:=
 (u6 a1 a0).bind λv1=>
 some (v1.2==0)
def a9T(a0:a7)(a1:List b8)(a2:List Int):Option (List Int):=
 jn (λ(j20:List Int)=>
  some j20) (λκ19=>
  (a4k a1).bind λv21=>
  (lp (S:=Int × (List Int)) (E:=(List Int)) (λ((s23,s24):Int × (List Int))=>
   if (decide (s23<(v21.length:Int))) then
    jn (λ(j33:List Int)=>
     some (.inl (p7 (s23+1),j33))) (λκ32=>
     (ix v21 s23).bind λv34=>
     (D3 a2 v34.Key).bind λv35=>
     (w7 (v35==true) false (a3G v34.Key a0)).bind λv36=>
     (w7 ((v35&&v36)==true) false (a3G v34.Val a0)).bind λv37=>
     if ((v35&&v36)&&v37) then
      (app 8 s24 [v34.Val]).bind λv38=>
      κ32 v38
     else
     κ32 s24)
   else
   some (.inr s24)) (0,[])).bind λe22=>
  κ19 e22)
def a7Y(a0:a7)(a1:List b8)(a2:List Int):Option ((List Int) × Int):=
 (a3S a0 a2).bind λv1=>
 (lp (S:=(List Int) × Int) (E:=((List Int) × Int)) (λ((s3,s4):(List Int) × Int)=>
  (a9T a0 a1 s3).bind λv7=>
  jn (λ(_:Unit)=>
   some (.inr (s3,s4))) (λκ15=>
   (lp (S:=Int) (E:=((List Int) × Int) ⊕ Unit) (λ(s18:Int)=>
    if (decide (s18<(v7.length:Int))) then
     (ix v7 s18).bind λv20=>
     (D3 s3 v20).bind λv21=>
     if (!v21) then
      (app 8 v7 s3).bind λv22=>
      (a3S a0 v22).bind λv23=>
      some (.inr (.inl (v23,p7 (s4+1))))
     else
     some (.inl (p7 (s18+1)))
    else
    some (.inr (.inr ()))) 0).bind λe17=>
   match e17 with
   | .inl w=>some (.inl w)
   | .inr w=>κ15 w)) (v1,0)).bind λe2=>
 some e2
def a9S(a0:a7)(a1:List b8)(a2:List Int):Option (List Int):=
 (a7Y a0 a1 a2).bind λv1=>
 some v1.1
def a3i(a0:Int)(a1:List (Int × Bool)):Option Bool:=
 some (!((A0 a1 a0).getD (false:Bool)))
def P9(a0:a7)(a1:List (Int × Bool)):Option (List Int):=
 jn (λ(j16:List Int)=>
  some j16) (λκ15=>
  (C2 a0).bind λv17=>
  (lp (S:=Int × (List Int)) (E:=(List Int)) (λ((s19,s20):Int × (List Int))=>
   if (decide (s19<(v17.length:Int))) then
    jn (λ(j27:List Int)=>
     some (.inl (p7 (s19+1),j27))) (λκ26=>
     (ix v17 s19).bind λv28=>
     (a3i v28 a1).bind λv29=>
     if v29 then
      (app 8 s20 [v28]).bind λv30=>
      κ26 v30
     else
     κ26 s20)
   else
   some (.inr s20)) (0,[])).bind λe18=>
  κ15 e18)
def a6h(a0:a7)(a1:List Int):Option (List Int):=
 (a1E a0 a1).bind λv1=>
 (P9 a0 v1).bind λv2=>
 some v2
def a7a(a0:a7)(a1:List b8)(a2:List Int):Option (List Int):=
 (a9S a0 a1 a2).bind λv1=>
 (a6h a0 v1).bind λv2=>
 some v2
def a0K(a0:a7)(a1:List b8):Option (List Int):=
 (a6u a0 a1).bind λv1=>
 (a7a a0 a1 v1).bind λv2=>
 some v2
def O3(a0:b6):Option (List Int):=
 (a0K a0.S a0.T).bind λv1=>
 some v1
def a2Q(a0:Int)(a1:b6):Option Bool:=
 (u6 a1.S a0).bind λv1=>
 some ((decide (v1.1.Prog≥0))&&(!v1.1.Started))
def F4(a0:List Int)(a1:b6):Option (List Int):=
 jn (λ(j15:List Int)=>
  some j15) (λκ14=>
  (lp (S:=Int × (List Int)) (E:=(List Int)) (λ((s17,s18):Int × (List Int))=>
   if (decide (s17<(a0.length:Int))) then
    jn (λ(j25:List Int)=>
     some (.inl (p7 (s17+1),j25))) (λκ24=>
     (ix a0 s17).bind λv26=>
     (a2Q v26 a1).bind λv27=>
     if v27 then
      (app 8 s18 [v26]).bind λv28=>
      κ24 v28
     else
     κ24 s18)
   else
   some (.inr s18)) (0,[])).bind λe16=>
  κ14 e16)
def a2l(a0:b6):Option (List Int):=
 (O3 a0).bind λv1=>
 (F4 v1 a0).bind λv2=>
 some v2
def U4(a0:b6):Option (b6 × Int × Int):=
 (a2l a0).bind λv1=>
 jn (λ(j10:b6)=>
  if (decide ((v1.length:Int) > 0)) then
   some (j10,(v1.length:Int),0)
  else
  (O3 j10).bind λv11=>
  (Z5 j10 v11).bind λv12=>
  (M3 v12).bind λv13=>
  (C2 j10.S).bind λv14=>
  (C2 v13.S).bind λv15=>
  some (v13,0,p7 ((v14.length:Int)-(v15.length:Int)))) (λκ9=>
  (lp (S:=Int × b6) (E:=b6) (λ((s17,s18):Int × b6)=>
   if (decide (s17<(v1.length:Int))) then
    (ix v1 s17).bind λv21=>
    (Q0 s18 v21).bind λv22=>
    some (.inl (p7 (s17+1),v22))
   else
   some (.inr s18)) (0,a0)).bind λe16=>
  κ9 e16)
def W8(a0:c9)(a1:Int):Option (c9 × (List k7)):=
 (G9 a0).bind λv1=>
 (D5 a0.L 0 (if (if v1<a1 then v1 else a1) > 0 then (if v1<a1 then v1 else a1) else 0)).bind λv2=>
 (D5 a0.L (if (if v1<a1 then v1 else a1) > 0 then (if v1<a1 then v1 else a1) else 0) v1).bind λv3=>
 some ((⟨v3,a0.Cap⟩:c9),v2)
def a0w(a0:c9):Option (c9 × k7 × Int):=
 (W8 a0 1).bind λv1=>
 if ((v1.2.length:Int)==0) then
  some (a0,(⟨0,0,0⟩:k7),10)
 else
 (ix v1.2 0).bind λv2=>
 some (v1.1,v2,0)
def a1g(a0:c9):Option (c9 × k7 × Int):=
 (a0w a0).bind λv1=>
 some (v1.1,v1.2.1,v1.2.2)
def a2x(a0:b6):Option Bool:=
 (a1g a0.Q).bind λv1=>
 some (v1.2.2 != 0)
def a3E(a0:List (List g8))(a1:Int):Option (List g8):=
 if ((decide (a1<0))||(decide (a1≥(a0.length:Int)))) then
  some []
 else
 (ix a0 a1).bind λv1=>
 some v1
def a5M(a0:List (List g8))(a1:k7):Option Int:=
 (a3E a0 a1.Prog).bind λv1=>
 some (p7 (1+(v1.length:Int)))
def a2C(a0:b6)(a1:List g8):Option (b6 × (List Int)):=
 jn (λ((j11,j12):b6 × (List Int))=>
  some (j11,j12)) (λκ10=>
  (lp (S:=Int × b6 × (List Int)) (E:=(b6 × (List Int))) (λ((s15,s16,s17):Int × b6 × (List Int))=>
   if (decide (s15<(a1.length:Int))) then
    (ix a1 s15).bind λv20=>
    (r7 s16 v20).bind λv21=>
    (app 8 s17 [v21.2.1]).bind λv22=>
    some (.inl (p7 (s15+1),v21.1,v22))
   else
   some (.inr (s16,s17))) (0,a0,[])).bind λe14=>
  κ10 e14)
def a5N(a0:b6)(a1:List (List g8)):Option (b6 × k7 × Int):=
 (a1g a0.Q).bind λv1=>
 if (v1.2.2 != 0) then
  some (a0,(⟨0,0,0⟩:k7),v1.2.2)
 else
 jn (λ(j6:b6)=>
  (a3E a1 v1.2.1.Prog).bind λv7=>
  (a2C j6 v7).bind λv8=>
  if (v1.2.1.Kind==1) then
   (a0f v8.1 5 0).bind λv9=>
   (M3 v9.1).bind λv10=>
   some (v10,v1.2.1,0)
  else
  some (v8.1,v1.2.1,0)) (λκ5=>
  if (v1.2.1.Kind==1) then
   (a0f (⟨a0.S,a0.Roots,a0.a8,a0.T,v1.1⟩:b6) 5 v1.2.1.At).bind λv11=>
   (B1 v11.1 v1.2.1.At).bind λv12=>
   (M3 v12).bind λv13=>
   κ5 v13
  else
  κ5 (⟨a0.S,a0.Roots,a0.a8,a0.T,v1.1⟩:b6))
def a2w(a0:b6)(a1:List (List g8))(a2:Int):Option (b6 × Int × Int × Int):=
 jn (λ((j14,j15,j16):Int × Int × b6)=>
  (a2x j16).bind λv18=>
  if (!v18) then
   some (j16,j14,j15,12)
  else
  some (j16,j14,j15,0)) (λκ13=>
  (lp (S:=Int × b6 × Int × Int × b6) (E:=(Int × Int × b6)) (λ((s20,s21,s22,s23,s24):Int × b6 × Int × Int × b6)=>
   (a2x s21).bind λv27=>
   if (!v27) then
    (a1g s21.Q).bind λv28=>
    (a5M a1 v28.2.1).bind λv29=>
    if (decide (v29 > s20)) then
     some (.inr (s22,s23,s24))
    else
    (a5N s21 a1).bind λv30=>
    some (.inl (p7 (s20-v29),v30.1,p7 (s22+1),p7 (s20-v29),v30.1))
   else
   some (.inr (s22,s23,s24))) (a2,a0,0,a2,a0)).bind λe19=>
  κ13 e19)
def B7(a0:c8)(a1:List Int):Option (c8 × l5):=
 (T3 a1).bind λv1=>
 if (v1.2 != 0) then
  some (a0,(⟨0,v1.2⟩:l5))
 else
 (a5O v1.1).bind λv2=>
 if (decide (v2.t=85)) then
  (r7 a0.X (⟨(ifG v2 85 0),(ifG v2 85 1),(ifG v2 85 2),(ifG v2 85 3)⟩:g8)).bind λv3=>
  some ((⟨v3.1,a0.Progs⟩:c8),(⟨v3.2.1,v3.2.2⟩:l5))
 else
 if (decide (v2.t=89)) then
  (U4 a0.X).bind λv4=>
  some ((⟨v4.1,a0.Progs⟩:c8),(⟨p7 (v4.2.2-v4.2.1),0⟩:l5))
 else
 if (decide (v2.t=93)) then
  (a2w a0.X a0.Progs (ifG v2 93 0)).bind λv5=>
  some ((⟨v5.1,a0.Progs⟩:c8),(⟨v5.2.1,v5.2.2.2⟩:l5))
 else
 some (a0,(⟨0,0⟩:l5))
def K7(a0:c8)(a1:List (List Int)):Option (c8 × (List l5)):=
 jn (λ((j11,j12):c8 × (List l5))=>
  some (j11,j12)) (λκ10=>
  (lp (S:=Int × c8 × (List l5)) (E:=(c8 × (List l5))) (λ((s15,s16,s17):Int × c8 × (List l5))=>
   if (decide (s15<(a1.length:Int))) then
    (ix a1 s15).bind λv20=>
    (B7 s16 v20).bind λv21=>
    (app 16 s17 [v21.2]).bind λv22=>
    some (.inl (p7 (s15+1),v21.1,v22))
   else
   some (.inr (s16,s17))) (0,a0,[])).bind λe14=>
  κ10 e14)
def b0R(a0:c8)(a1:Int):Option (c8 × Bool):=
 jn (λ(j11:c8)=>
  some (j11,false)) (λκ10=>
  (lp (S:=Int × c8) (E:=(c8 × Bool) ⊕ c8) (λ((s13,s14):Int × c8)=>
   if (decide (s13<a1)) then
    (E6 11 0 0 0).bind λv17=>
    (B7 s14 v17).bind λv18=>
    (E6 12 200 0 0).bind λv19=>
    (B7 v18.1 v19).bind λv20=>
    if (((v18.2.V==0)&&(v20.2.V==0))&&(v20.2.E==0)) then
     some (.inr (.inl (v20.1,true)))
    else
    some (.inl (p7 (s13+1),v20.1))
   else
   some (.inr (.inr s14))) (0,a0)).bind λe12=>
  match e12 with
  | .inl w=>some w
  | .inr w=>κ10 w)
def P1(a0:c7):Option A4:=
 jn (λ(j9:A4)=>
  some j9) (λκ8=>
  (lp (S:=Int × A4) (E:=A4) (λ((s11,s12):Int × A4)=>
   if (decide (s11<(a0.a8.length:Int))) then
    (ix a0.a8 s11).bind λv15=>
    (A4.ix s12 v15.State).bind λv16=>
    some (.inl (p7 (s11+1),(A4.st s12 v15.State (p7 (v16+1)))))
   else
   some (.inr s12)) (0,(⟨0,0,0,0⟩:A4))).bind λe10=>
  κ8 e10)
def L7(a0:c8):Option A4:=
 (P1 a0.X.S.S).bind λv1=>
 some v1
def a35:Option Bool:=
 (a1M 2 3).bind λv1=>
 (E6 1 0 1 (-1)).bind λv2=>
 (E6 5 0 0 0).bind λv3=>
 (E6 3 0 0 0).bind λv4=>
 (E6 11 0 0 0).bind λv5=>
 (E6 1 0 0 (-1)).bind λv6=>
 (E6 1 1 0 (-1)).bind λv7=>
 (E6 1 2 0 (-1)).bind λv8=>
 (K7 v1 [v2,v3,v4,v5,v6,v7,v8]).bind λv9=>
 (w7 (((v9.2.length:Int)==7)==true) (⟨0,0⟩:l5) (ix v9.2 3)).bind λv10=>
 (w7 ((((v9.2.length:Int)==7)&&(v10.V==1))==true) (⟨0,0⟩:l5) (ix v9.2 4)).bind λv11=>
 (w7 (((((v9.2.length:Int)==7)&&(v10.V==1))&&(v11.V==2))==true) (⟨0,0⟩:l5) (ix v9.2 5)).bind λv12=>
 (w7 ((((((v9.2.length:Int)==7)&&(v10.V==1))&&(v11.V==2))&&(v12.V==3))==true) (⟨0,0⟩:l5) (ix v9.2 6)).bind λv13=>
 (w7 (((((((v9.2.length:Int)==7)&&(v10.V==1))&&(v11.V==2))&&(v12.V==3))&&(v13.E==4))==true) ⟨0,0,0,0⟩ (L7 v9.1)).bind λv14=>
 some (((((((v9.2.length:Int)==7)&&(v10.V==1))&&(v11.V==2))&&(v12.V==3))&&(v13.E==4))&&((v14.a==0)&&((v14.b==2)&&((v14.c==0)&&((v14.d==0)&&true)))))
def a6z(a0:Int):Option Bool:=
 (rem (p7 a0) 22).bind λv1=>
 (a1M 24 9).bind λv2=>
 jn (λ(j13:c8)=>
  (E6 3 1 0 0).bind λv14=>
  (B7 j13 v14).bind λv15=>
  (b0R v15.1 3).bind λv16=>
  (E6 3 0 0 0).bind λv17=>
  (B7 v16.1 v17).bind λv18=>
  (w7 (v16.2==true) ⟨0,0,0,0⟩ (L7 v16.1)).bind λv19=>
  (w7 (((v16.2&&((v19.a==(p7 (24-(p7 (1+v1)))))&&((v19.b==(p7 (1+v1)))&&((v19.c==0)&&((v19.d==0)&&true)))))&&(v18.2.V==0))==true) ⟨0,0,0,0⟩ (L7 v18.1)).bind λv20=>
  (w7 ((((v16.2&&((v19.a==(p7 (24-(p7 (1+v1)))))&&((v19.b==(p7 (1+v1)))&&((v19.c==0)&&((v19.d==0)&&true)))))&&(v18.2.V==0))&&((v20.a==24)&&((v20.b==0)&&((v20.c==0)&&((v20.d==0)&&true)))))==true) false a35).bind λv21=>
  some ((((v16.2&&((v19.a==(p7 (24-(p7 (1+v1)))))&&((v19.b==(p7 (1+v1)))&&((v19.c==0)&&((v19.d==0)&&true)))))&&(v18.2.V==0))&&((v20.a==24)&&((v20.b==0)&&((v20.c==0)&&((v20.d==0)&&true)))))&&v21)) (λκ12=>
  (lp (S:=Int × c8) (E:=c8) (λ((s23,s24):Int × c8)=>
   if (decide (s23<(p7 (1+v1)))) then
    (E6 1 1 1 (-1)).bind λv27=>
    (E6 5 1 0 0).bind λv28=>
    (E6 2 0 1 0).bind λv29=>
    (K7 s24 [v27,v28,v29]).bind λv30=>
    some (.inl (p7 (s23+1),v30.1))
   else
   some (.inr s24)) (0,v2)).bind λe22=>
  κ12 e22)
def G0(a0:c8):Option (List Int):=
 jn (λ(j11:List Int)=>
  (a8q j11).bind λv12=>
  some v12) (λκ10=>
  (C2 a0.X.S).bind λv13=>
  (lp (S:=Int × (List Int)) (E:=(List Int)) (λ((s15,s16):Int × (List Int))=>
   if (decide (s15<(v13.length:Int))) then
    (ix v13 s15).bind λv19=>
    (Z0 a0.X v19).bind λv20=>
    (app 8 s16 [v20]).bind λv21=>
    some (.inl (p7 (s15+1),v21))
   else
   some (.inr s16)) (0,[])).bind λe14=>
  κ10 e14)
def a4D(a0:Int)(a1:Bool):Option Bool:=
 (rem (p7 a0) 22).bind λv1=>
 (a1M (p7 (2+v1)) 9).bind λv2=>
 (E6 1 0 1 (-1)).bind λv3=>
 (E6 1 1 1 (-1)).bind λv4=>
 (E6 8 0 1 0).bind λv5=>
 (K7 v2 [v3,v4,v5]).bind λv6=>
 jn (λ(j10:c8)=>
  (E6 3 1 0 0).bind λv11=>
  (B7 j10 v11).bind λv12=>
  (E6 11 0 0 0).bind λv13=>
  (B7 v12.1 v13).bind λv14=>
  (E6 9 1 0 0).bind λv15=>
  (E6 3 0 0 0).bind λv16=>
  (K7 v14.1 [v15,v11,v16,v13]).bind λv17=>
  jn (λ(j19:Int)=>
   (w7 ((v14.2.V==0)==true) [] (G0 v14.1)).bind λv20=>
   (w7 ((((v14.2.V==0)&&((v20.length:Int)==2))&&((v17.2.length:Int)==4))==true) (⟨0,0⟩:l5) (ix v17.2 0)).bind λv21=>
   (w7 (((((v14.2.V==0)&&((v20.length:Int)==2))&&((v17.2.length:Int)==4))&&(v21.V==2))==true) (⟨0,0⟩:l5) (ix v17.2 3)).bind λv22=>
   (w7 ((((((v14.2.V==0)&&((v20.length:Int)==2))&&((v17.2.length:Int)==4))&&(v21.V==2))&&(v22.V==j19))==true) [] (G0 v17.1)).bind λv23=>
   (w7 (((((((v14.2.V==0)&&((v20.length:Int)==2))&&((v17.2.length:Int)==4))&&(v21.V==2))&&(v22.V==j19))&&((v23.length:Int)==0))==true) false a35).bind λv24=>
   some (((((((v14.2.V==0)&&((v20.length:Int)==2))&&((v17.2.length:Int)==4))&&(v21.V==2))&&(v22.V==j19))&&((v23.length:Int)==0))&&v24)) (λκ18=>
   if a1 then
    κ18 2
   else
   κ18 0)) (λκ9=>
  if a1 then
   (E6 5 1 0 0).bind λv25=>
   (B7 v6.1 v25).bind λv26=>
   κ9 v26.1
  else
  κ9 v6.1)
def b0S(a0:c8)(a1:Int):Option Bool:=
 (G0 a0).bind λv1=>
 jn (λ(_:Unit)=>
  some false) (λκ6=>
  (lp (S:=Int) (E:=Bool ⊕ Unit) (λ(s9:Int)=>
   if (decide (s9<(v1.length:Int))) then
    (ix v1 s9).bind λv11=>
    if (v11==a1) then
     some (.inr (.inl true))
    else
    some (.inl (p7 (s9+1)))
   else
   some (.inr (.inr ()))) 0).bind λe8=>
  match e8 with
  | .inl w=>some w
  | .inr w=>κ6 w)
def a7P(a0:Int):Option Bool:=
 (a1M 24 9).bind λv1=>
 (E6 1 0 0 (-1)).bind λv2=>
 (B7 v1 v2).bind λv3=>
 (rem (p7 a0) 12).bind λv4=>
 jn (λ(j23:c8)=>
  jn (λ(j32:c8)=>
   (b0R j32 3).bind λv33=>
   (w7 (v33.2==true) false (b0S v33.1 1)).bind λv34=>
   (w7 ((v33.2&&(v34==(decide ((p7 (1+v4))≥11))))==true) false a35).bind λv35=>
   some ((v33.2&&(v34==(decide ((p7 (1+v4))≥11))))&&v35)) (λκ31=>
   (lp (S:=Int × c8) (E:=c8) (λ((s37,s38):Int × c8)=>
    if (decide (s37<6)) then
     (E6 3 s37 0 0).bind λv41=>
     (B7 s38 v41).bind λv42=>
     some (.inl (p7 (s37+1),v42.1))
    else
    some (.inr s38)) (0,j23)).bind λe36=>
   κ31 e36)) (λκ22=>
  (lp (S:=Int × c8) (E:=c8) (λ((s44,s45):Int × c8)=>
   if (decide (s44<(p7 (1+v4)))) then
    (quo .i64 s44 4).bind λv48=>
    jn (λ(j53:c8)=>
     (rem s44 4).bind λv54=>
     (E6 5 (p7 (1+v48)) v54 0).bind λv55=>
     (B7 j53 v55).bind λv56=>
     some (.inl (p7 (s44+1),v56.1))) (λκ52=>
     (rem s44 4).bind λv57=>
     if (v57==0) then
      (E6 1 (p7 (1+v48)) 4 (-1)).bind λv58=>
      (B7 s45 v58).bind λv59=>
      κ52 v59.1
     else
     κ52 s45)
   else
   some (.inr s45)) (0,v3.1)).bind λe43=>
  κ22 e43)
structure N6 where
 Kind:Int
 A:Int
 B:Int
 C:Int
structure M1 where
 Serial:Int
 Strong:Int
 Weak:Int
 Prog:Int
 Started:Bool
 Fields:List Int
structure G6 where
 State:Int
 Gen:Int
 Val:M1
structure F3 where
 Target:Int
 Intact:Bool
 Call:Int
structure p8 where
 State:Int
 Key:Int
 Val:Int
structure P0 where
 Kind:Int
 At:Int
 Prog:Int
structure L0 where
 State:Int
 Gen:Int
 Val:Int
structure E4 where
 a8:List L0
 Last:Int
structure o7 where
 a8:List G6
 Last:Int
 Serial:Int
structure C6 where
 L:List P0
 Cap:Int
structure g6 where
 S:o7
 Roots:List Int
 a8:List F3
 T:List p8
 Q:C6
structure A1 where
 X:g6
 Progs:List (List N6)
structure a3P where
 Key:Int
 Val:Int
structure D0 where
 V:Int
 E:Int
def V6(a0:N6):Option Bool:=
 some ((decide (a0.Kind≥1))&&(decide (a0.Kind≤10)))
def a02(a0:Int)(a1:Int)(a2:Int)(a3:Int):Option Int:=
 if ((decide (a0<a1))||(decide (a0 > a2))) then
  some a3
 else
 some 0
def a0j(a0:Int)(a1:Int)(a2:Int):Option Int:=
 if (a0 != 0) then
  some a0
 else
 if (a1 != 0) then
  some a1
 else
 some a2
def a1d(a0:N6):Option Int:=
 (a02 a0.A 0 5 6).bind λv1=>
 (a02 a0.B 0 5 6).bind λv2=>
 if (a0.Kind==1) then
  (a02 a0.B 0 4 1).bind λv3=>
  (a02 a0.C (-1) 5 13).bind λv4=>
  (a0j v1 v3 v4).bind λv5=>
  some v5
 else
 jn (λ(j7:Bool)=>
  if j7 then
   (a0j v1 v2 0).bind λv8=>
   some v8
  else
  if (a0.Kind==3) then
   some v1
  else
  if (a0.Kind==4) then
   (a02 a0.C 0 3 5).bind λv9=>
   (a0j v1 v2 v9).bind λv10=>
   some v10
  else
  if (a0.Kind==5) then
   (a02 a0.B 0 3 5).bind λv11=>
   (a02 a0.C (-1) 5 6).bind λv12=>
   (a0j v1 v11 v12).bind λv13=>
   some v13
  else
  if (a0.Kind==6) then
   (a02 a0.A 0 5 7).bind λv14=>
   (a02 a0.B (-1) 5 6).bind λv15=>
   (a02 a0.C (-1) 5 13).bind λv16=>
   (a0j v14 v15 v16).bind λv17=>
   some v17
  else
  if (a0.Kind==7) then
   (a02 a0.B 0 5 7).bind λv18=>
   (a0j v1 v18 0).bind λv19=>
   some v19
  else
  if (a0.Kind==8) then
   (a02 a0.B (-1) 5 6).bind λv20=>
   (a0j v1 v20 0).bind λv21=>
   some v21
  else
  if (a0.Kind==11) then
   some 0
  else
  if (a0.Kind==12) then
   (a02 a0.A 0 200 12).bind λv22=>
   some v22
  else
  some 14) (λκ6=>
  if (a0.Kind==2) then
   κ6 (a0.Kind==2)
  else
  if (a0.Kind==9) then
   κ6 (a0.Kind==9)
  else
  κ6 (a0.Kind==10))
def a8g(a0:List (List N6)):Option Bool:=
 if (decide ((a0.length:Int) > 6)) then
  some false
 else
 jn (λ(_:Unit)=>
  some true) (λκ20=>
  (lp (S:=Int) (E:=Bool ⊕ Unit) (λ(s23:Int)=>
   if (decide (s23<(a0.length:Int))) then
    jn (λ(_:Unit)=>
     some (.inl (p7 (s23+1)))) (λκ32=>
     (ix a0 s23).bind λv34=>
     if (decide ((v34.length:Int) > 6)) then
      some (.inr (.inl false))
     else
     (lp (S:=Int) (E:=Bool ⊕ Unit) (λ(s36:Int)=>
      if (decide (s36<(v34.length:Int))) then
       (ix v34 s36).bind λv38=>
       (V6 v38).bind λv39=>
       (w7 ((!v39)==false) 0 (a1d v38)).bind λv40=>
       if ((!v39)||(v40 != 0)) then
        some (.inr (.inl false))
       else
       some (.inl (p7 (s36+1)))
      else
      some (.inr (.inr ()))) 0).bind λe35=>
     match e35 with
     | .inl w=>some (.inr (.inl w))
     | .inr w=>κ32 w)
   else
   some (.inr (.inr ()))) 0).bind λe22=>
  match e22 with
  | .inl w=>some w
  | .inr w=>κ20 w)
def c03(a0:Int)(a1:Int):Option E4:=
 if ((((decide (a0<0))||(decide (a0 > 24)))||(decide (a1<0)))||(decide (a1 > 9))) then
  some (⟨[],0⟩:E4)
 else
 (mk 24 a0 (⟨0,0,0⟩:L0)).bind λv1=>
 some (⟨v1,a1⟩:E4)
def b6u(a0:Int)(a1:Int):Option o7:=
 (c03 a0 a1).bind λv1=>
 (mk 80 (v1.a8.length:Int) (⟨0,0,⟨0,0,0,0,false,[]⟩⟩:G6)).bind λv2=>
 some (⟨v2,v1.Last,0⟩:o7)
def c63(a0:Int):Option (List F3):=
 jn (λ(j8:List F3)=>
  some j8) (λκ7=>
  (lp (S:=Int × (List F3)) (E:=(List F3)) (λ((s10,s11):Int × (List F3))=>
   if ((decide (s10<a0))&&(decide (a0≤6))) then
    (app 24 s11 [(⟨0,false,(-1)⟩:F3)]).bind λv14=>
    some (.inl (p7 (s10+1),v14))
   else
   some (.inr s11)) (0,[])).bind λe9=>
  κ7 e9)
def c04(a0:Int):Option (List p8):=
 if ((decide (a0<1))||(decide (a0 > 8))) then
  some []
 else
 (mk 24 a0 (⟨0,0,0⟩:p8)).bind λv1=>
 some v1
def c64:Option C6:=
 some (⟨[],30⟩:C6)
def b0t(a0:Int)(a1:Int)(a2:Int):Option g6:=
 if ((((((decide (a0<1))||(decide (a0 > 24)))||(decide (a1<0)))||(decide (a1 > 9)))||(decide (a2<1)))||(decide (a2 > 8))) then
  some (⟨⟨[],0,0⟩,[],[],[],⟨[],0⟩⟩:g6)
 else
 (b6u a0 a1).bind λv1=>
 (mk 8 6 (0:Int)).bind λv2=>
 (c63 6).bind λv3=>
 (c04 a2).bind λv4=>
 (c64).bind λv5=>
 some (⟨v1,v2,v3,v4,v5⟩:g6)
def b6z(a0:Int)(a1:Int)(a2:Int)(a3:List (List N6)):Option (A1 × Int):=
 (a8g a3).bind λv1=>
 if (!v1) then
  some ((⟨⟨⟨[],0,0⟩,[],[],[],⟨[],0⟩⟩,[]⟩:A1),13)
 else
 (b0t a0 a1 a2).bind λv2=>
 if ((v2.Roots.length:Int)==0) then
  some ((⟨⟨⟨[],0,0⟩,[],[],[],⟨[],0⟩⟩,[]⟩:A1),1)
 else
 some ((⟨v2,a3⟩:A1),0)
def b3w(a0:List Int)(a1:List Int):Option Bool:=
 if ((a0.length:Int) != (a1.length:Int)) then
  some false
 else
 jn (λ(_:Unit)=>
  some true) (λκ6=>
  (lp (S:=Int) (E:=Bool ⊕ Unit) (λ(s9:Int)=>
   if (decide (s9<(a0.length:Int))) then
    (ix a0 s9).bind λv11=>
    (ix a1 s9).bind λv12=>
    if (v11 != v12) then
     some (.inr (.inl false))
    else
    some (.inl (p7 (s9+1)))
   else
   some (.inr (.inr ()))) 0).bind λe8=>
  match e8 with
  | .inl w=>some w
  | .inr w=>κ6 w)
def M4(a0:o7):Option E4:=
 jn (λ(j9:List L0)=>
  some (⟨j9,a0.Last⟩:E4)) (λκ8=>
  (lp (S:=Int × (List L0)) (E:=(List L0)) (λ((s11,s12):Int × (List L0))=>
   if (decide (s11<(a0.a8.length:Int))) then
    (ix a0.a8 s11).bind λv15=>
    (app 24 s12 [(⟨v15.State,v15.Gen,s11⟩:L0)]).bind λv16=>
    some (.inl (p7 (s11+1),v16))
   else
   some (.inr s12)) (0,[])).bind λe10=>
  κ8 e10)
def a2K(a0:List p8)(a1:Int):Option Int:=
 jn (λ(_:Unit)=>
  some (-1)) (λκ5=>
  (lp (S:=Int) (E:=Int ⊕ Unit) (λ(s8:Int)=>
   if (decide (s8<(a0.length:Int))) then
    (ix a0 s8).bind λv10=>
    if ((v10.State==1)&&(v10.Key==a1)) then
     some (.inr (.inl s8))
    else
    some (.inl (p7 (s8+1)))
   else
   some (.inr (.inr ()))) 0).bind λe7=>
  match e7 with
  | .inl w=>some w
  | .inr w=>κ5 w)
def b8d(a0:Int)(a1:Int):Option Int:=
 if (decide (a0<1)) then
  some 0
 else
 (rem (p7 ((p7 (5*a1))+1)) a0).bind λv1=>
 if (decide (v1<0)) then
  some (p7 (v1+a0))
 else
 some v1
def a5i(a0:Int)(a1:Int):Option Int:=
 if ((((decide (a0<0))||(decide (a0 > 23)))||(decide (a1<0)))||(decide (a1 > 9))) then
  some 0
 else
 some (p7 ((p7 (1+a0))+(p7 (32*a1))))
def a79(a0:Int):Option Bool:=
 if ((decide (a0<1))||(decide (a0 > 400))) then
  some false
 else
 (rem (p7 (a0-1)) 32).bind λv1=>
 (quo .i64 (p7 (a0-1)) 32).bind λv2=>
 (a5i v1 v2).bind λv3=>
 some (v3==a0)
def a7n(a0:Int):Option Int:=
 (a79 a0).bind λv1=>
 if (!v1) then
  some (-1)
 else
 (rem (p7 (a0-1)) 32).bind λv2=>
 some v2
def b6s(a0:Int):Option Int:=
 (a79 a0).bind λv1=>
 if (!v1) then
  some (-1)
 else
 (quo .i64 (p7 (a0-1)) 32).bind λv2=>
 some v2
def O9(a0:E4)(a1:Int):Option (Int × Int):=
 if (a1==0) then
  some ((-1),2)
 else
 (a7n a1).bind λv1=>
 if ((decide (v1<0))||(decide (v1≥(a0.a8.length:Int)))) then
  some ((-1),3)
 else
 (ix a0.a8 v1).bind λv2=>
 (b6s a1).bind λv3=>
 if ((v2.Gen != v3)||((v2.State != 1)&&(v2.State != 2))) then
  some ((-1),3)
 else
 some (v1,0)
def b2A(a0:E4)(a1:Int):Option (Int × Int):=
 (O9 a0 a1).bind λv1=>
 if (v1.2 != 0) then
  some (0,v1.2)
 else
 (ix a0.a8 v1.1).bind λv2=>
 if (v2.State==2) then
  some (0,3)
 else
 some (v2.Val,0)
def E9(a0:o7)(a1:Int):Option (M1 × Int):=
 (M4 a0).bind λv1=>
 (b2A v1 a1).bind λv2=>
 if (v2.2 != 0) then
  some ((⟨0,0,0,0,false,[]⟩:M1),v2.2)
 else
 (ix a0.a8 v2.1).bind λv3=>
 some (v3.Val,0)
def a3v(a0:g6)(a1:Int):Option Bool:=
 (E9 a0.S a1).bind λv1=>
 some (v1.2==0)
def a3w(a0:g6)(a1:Int):Option Bool:=
 (w7 ((a1==0)==false) false (a3v a0 a1)).bind λv1=>
 some ((a1==0)||v1)
def a9u(a0:o7)(a1:List Int):Option (List Int):=
 (app 8 [] a1).bind λv1=>
 jn (λ(j36:List Int)=>
  some j36) (λκ35=>
  (lp (S:=Int × (List Int)) (E:=(List Int)) (λ((s38,s39):Int × (List Int))=>
   if (decide (s38<(s39.length:Int))) then
    jn (λ(j56:List Int)=>
     some (.inl (p7 (s38+1),j56))) (λκ55=>
     (lp (S:=Int × (List Int)) (E:=(List Int)) (λ((s58,s59):Int × (List Int))=>
      if (decide (s58 > 0)) then
       (M4 a0).bind λv62=>
       (ix s59 (p7 (s58-1))).bind λv63=>
       (O9 v62 v63).bind λv64=>
       (ix s59 s58).bind λv65=>
       (O9 v62 v65).bind λv66=>
       (w7 (((decide (v64.1<0))||(decide (v66.1<0)))==false) (⟨0,0,⟨0,0,0,0,false,[]⟩⟩:G6) (ix a0.a8 v64.1)).bind λv67=>
       (w7 (((decide (v64.1<0))||(decide (v66.1<0)))==false) (⟨0,0,⟨0,0,0,0,false,[]⟩⟩:G6) (ix a0.a8 v66.1)).bind λv68=>
       if (((decide (v64.1<0))||(decide (v66.1<0)))||(decide (v67.Val.Serial≤v68.Val.Serial))) then
        some (.inr s59)
       else
       (ix (s59.set (s58).toNat v63) (p7 (s58-1))).bind λv69=>
       some (.inl (p7 (s58-1),((s59.set (s58).toNat v63).set (p7 (s58-1)).toNat v65)))
      else
      some (.inr s59)) (s38,s39)).bind λe57=>
     κ55 e57)
   else
   some (.inr s39)) (1,v1)).bind λe37=>
  κ35 e37)
def Z2(a0:o7):Option (List Int):=
 jn (λ(j15:List Int)=>
  (a9u a0 j15).bind λv16=>
  some v16) (λκ14=>
  (lp (S:=Int × (List Int)) (E:=(List Int)) (λ((s18,s19):Int × (List Int))=>
   if (decide (s18<(a0.a8.length:Int))) then
    jn (λ(j26:List Int)=>
     some (.inl (p7 (s18+1),j26))) (λκ25=>
     (ix a0.a8 s18).bind λv27=>
     if (v27.State==1) then
      (a5i s18 v27.Gen).bind λv28=>
      (app 8 s19 [v28]).bind λv29=>
      κ25 v29
     else
     κ25 s19)
   else
   some (.inr s19)) (0,[])).bind λe17=>
  κ14 e17)
def b3z(a0:List p8):Option (List Int):=
 jn (λ(j13:List Int)=>
  some j13) (λκ12=>
  (lp (S:=Int × (List Int)) (E:=(List Int)) (λ((s15,s16):Int × (List Int))=>
   if (decide (s15<(a0.length:Int))) then
    jn (λ(j22:List Int)=>
     some (.inl (p7 (s15+1),j22))) (λκ21=>
     (ix a0 s15).bind λv23=>
     if (v23.State==1) then
      (app 8 s16 [v23.Key]).bind λv24=>
      κ21 v24
     else
     κ21 s16)
   else
   some (.inr s16)) (0,[])).bind λe14=>
  κ12 e14)
def b0r(a0:List p8)(a1:Int):Option (Int × Int):=
 (a2K a0 a1).bind λv1=>
 if (decide (v1<0)) then
  some (0,9)
 else
 (ix a0 v1).bind λv2=>
 some (v2.Val,0)
def a8c(a0:List p8):Option (List a3P):=
 (b3z a0).bind λv1=>
 jn (λ(j11:List a3P)=>
  some j11) (λκ10=>
  (lp (S:=Int × (List a3P)) (E:=(List a3P)) (λ((s13,s14):Int × (List a3P))=>
   if (decide (s13<(v1.length:Int))) then
    (ix v1 s13).bind λv17=>
    (b0r a0 v17).bind λv18=>
    (app 16 s14 [(⟨v17,v18.1⟩:a3P)]).bind λv19=>
    some (.inl (p7 (s13+1),v19))
   else
   some (.inr s14)) (0,[])).bind λe12=>
  κ10 e12)
def a8e(a0:C6)(a1:Int):Option Bool:=
 jn (λ(_:Unit)=>
  some false) (λκ5=>
  (lp (S:=Int) (E:=Bool ⊕ Unit) (λ(s8:Int)=>
   if (decide (s8<(a0.L.length:Int))) then
    (ix a0.L s8).bind λv10=>
    if ((v10.Kind==2)&&(v10.At==a1)) then
     some (.inr (.inl true))
    else
    some (.inl (p7 (s8+1)))
   else
   some (.inr (.inr ()))) 0).bind λe7=>
  match e7 with
  | .inl w=>some w
  | .inr w=>κ5 w)
def a2a(a0:Int):Option Bool:=
 some (decide (a0≥12))
def b1s(a0:o7)(a1:Int):Option Bool:=
 (E9 a0 a1).bind λv1=>
 (a2a v1.1.Strong).bind λv2=>
 some v2
def a3s(a0:List Int):Option (List Int):=
 jn (λ(j13:List Int)=>
  some j13) (λκ12=>
  (lp (S:=Int × (List Int)) (E:=(List Int)) (λ((s15,s16):Int × (List Int))=>
   if (decide (s15<(a0.length:Int))) then
    jn (λ(j22:List Int)=>
     some (.inl (p7 (s15+1),j22))) (λκ21=>
     (ix a0 s15).bind λv23=>
     if (v23 != 0) then
      (app 8 s16 [v23]).bind λv24=>
      κ21 v24
     else
     κ21 s16)
   else
   some (.inr s16)) (0,[])).bind λe14=>
  κ12 e14)
def b2D(a0:o7)(a1:Int):Option (List Int):=
 (E9 a0 a1).bind λv1=>
 if (v1.2 != 0) then
  some []
 else
 (a3s v1.1.Fields).bind λv2=>
 some v2
def a3u(a0:List Int)(a1:Int):Option Int:=
 jn (λ(j11:Int)=>
  some j11) (λκ10=>
  (lp (S:=Int × Int) (E:=Int) (λ((s13,s14):Int × Int)=>
   if (decide (s14<(a0.length:Int))) then
    jn (λ(j19:Int)=>
     some (.inl (j19,p7 (s14+1)))) (λκ18=>
     (ix a0 s14).bind λv20=>
     if ((v20==a1)&&(a1 != 0)) then
      κ18 (p7 (s13+1))
     else
     κ18 s13)
   else
   some (.inr s13)) (0,0)).bind λe12=>
  κ10 e12)
def b9M(a0:o7)(a1:Int):Option Int:=
 (Z2 a0).bind λv1=>
 jn (λ(j11:Int)=>
  some j11) (λκ10=>
  (lp (S:=Int × Int) (E:=Int) (λ((s13,s14):Int × Int)=>
   if (decide (s14<(v1.length:Int))) then
    (ix v1 s14).bind λv17=>
    (b2D a0 v17).bind λv18=>
    (a3u v18 a1).bind λv19=>
    some (.inl (p7 (s13+v19),p7 (s14+1)))
   else
   some (.inr s13)) (0,0)).bind λe12=>
  κ10 e12)
def b1q(a0:List p8)(a1:Int):Option Int:=
 (a8c a0).bind λv1=>
 jn (λ(j12:Int)=>
  some j12) (λκ11=>
  (lp (S:=Int × Int) (E:=Int) (λ((s14,s15):Int × Int)=>
   if (decide (s15<(v1.length:Int))) then
    jn (λ(j20:Int)=>
     some (.inl (j20,p7 (s15+1)))) (λκ19=>
     (ix v1 s15).bind λv21=>
     if ((v21.Val==a1)&&(a1 != 0)) then
      κ19 (p7 (s14+1))
     else
     κ19 s14)
   else
   some (.inr s14)) (0,0)).bind λe13=>
  κ11 e13)
def b1r(a0:o7)(a1:List p8)(a2:Int):Option Int:=
 (b9M a0 a2).bind λv1=>
 (b1q a1 a2).bind λv2=>
 some (p7 (v1+v2))
def b3D(a0:o7)(a1:List p8)(a2:Int):Option Int:=
 (E9 a0 a2).bind λv1=>
 if (v1.2 != 0) then
  some 0
 else
 (b1r a0 a1 a2).bind λv2=>
 some (p7 (v1.1.Strong-v2))
def b0u(a0:g6):Option (List Int):=
 (Z2 a0.S).bind λv1=>
 jn (λ(j16:List Int)=>
  some j16) (λκ15=>
  (lp (S:=Int × (List Int)) (E:=(List Int)) (λ((s18,s19):Int × (List Int))=>
   if (decide (s18<(v1.length:Int))) then
    jn (λ(j26:List Int)=>
     some (.inl (p7 (s18+1),j26))) (λκ25=>
     (ix v1 s18).bind λv27=>
     (E9 a0.S v27).bind λv28=>
     if (v28.1.Strong==0) then
      (app 8 s19 [v27]).bind λv29=>
      κ25 v29
     else
     κ25 s19)
   else
   some (.inr s19)) (0,[])).bind λe17=>
  κ15 e17)
def a2b(a0:List Int):Option (N6 × Int):=
 if ((a0.length:Int) != 4) then
  some ((⟨0,0,0,0⟩:N6),14)
 else
 (ix a0 0).bind λv1=>
 (ix a0 1).bind λv2=>
 (ix a0 2).bind λv3=>
 (ix a0 3).bind λv4=>
 (a1d (⟨v1,v2,v3,v4⟩:N6)).bind λv5=>
 if (v5 != 0) then
  some ((⟨0,0,0,0⟩:N6),v5)
 else
 some ((⟨v1,v2,v3,v4⟩:N6),0)
def b3C(a0:o7)(a1:List p8):Option (List Int):=
 (Z2 a0).bind λv1=>
 jn (λ(j18:List Int)=>
  some j18) (λκ17=>
  (lp (S:=Int × (List Int)) (E:=(List Int)) (λ((s20,s21):Int × (List Int))=>
   if (decide (s20<(v1.length:Int))) then
    jn (λ(j29:List Int)=>
     some (.inl (p7 (s20+1),j29))) (λκ28=>
     (ix v1 s20).bind λv30=>
     (b3D a0 a1 v30).bind λv31=>
     (w7 ((decide (v31 > 0))==false) false (b1s a0 v30)).bind λv32=>
     if ((decide (v31 > 0))||v32) then
      (app 8 s21 [v30]).bind λv33=>
      κ28 v33
     else
     κ28 s21)
   else
   some (.inr s21)) (0,[])).bind λe19=>
  κ17 e19)
def a8a(a0:List Int)(a1:Int):Option Bool:=
 (a3u a0 a1).bind λv1=>
 some (decide (v1 > 0))
def a8b(a0:List Int)(a1:List Int)(a2:Bool):Option (List Int):=
 jn (λ(j15:List Int)=>
  some j15) (λκ14=>
  (lp (S:=Int × (List Int)) (E:=(List Int)) (λ((s17,s18):Int × (List Int))=>
   if (decide (s17<(a0.length:Int))) then
    jn (λ(j25:List Int)=>
     some (.inl (p7 (s17+1),j25))) (λκ24=>
     (ix a0 s17).bind λv26=>
     (a8a a1 v26).bind λv27=>
     if (v27==a2) then
      (app 8 s18 [v26]).bind λv28=>
      κ24 v28
     else
     κ24 s18)
   else
   some (.inr s18)) (0,[])).bind λe16=>
  κ14 e16)
def a7q(a0:o7)(a1:List Int):Option (List Int):=
 (Z2 a0).bind λv1=>
 (a8b v1 a1 true).bind λv2=>
 jn (λ(j51:List Int)=>
  some j51) (λκ50=>
  (lp (S:=(List Int) × Int) (E:=(List Int)) (λ((s53,s54):(List Int) × Int)=>
   if (decide (s54<(v1.length:Int))) then
    jn (λ(j78:List Int)=>
     some (.inl (j78,p7 (s54+1)))) (λκ77=>
     (app 8 [] s53).bind λv79=>
     jn (λ(j89:List Int)=>
      (a8b v1 j89 true).bind λv90=>
      κ77 v90) (λκ88=>
      (lp (S:=Int × (List Int)) (E:=(List Int)) (λ((s92,s93):Int × (List Int))=>
       if (decide (s92<(s53.length:Int))) then
        (ix s53 s92).bind λv96=>
        (b2D a0 v96).bind λv97=>
        (app 8 s93 v97).bind λv98=>
        some (.inl (p7 (s92+1),v98))
       else
       some (.inr s93)) (0,v79)).bind λe91=>
      κ88 e91))
   else
   some (.inr s53)) (v2,0)).bind λe52=>
  κ50 e52)
def a8d(a0:o7)(a1:Int):Option Bool:=
 (E9 a0 a1).bind λv1=>
 some (v1.2==0)
def b0s(a0:o7)(a1:List p8)(a2:List Int):Option (List Int):=
 (a8c a1).bind λv1=>
 jn (λ(j20:List Int)=>
  some j20) (λκ19=>
  (lp (S:=Int × (List Int)) (E:=(List Int)) (λ((s22,s23):Int × (List Int))=>
   if (decide (s22<(v1.length:Int))) then
    jn (λ(j32:List Int)=>
     some (.inl (p7 (s22+1),j32))) (λκ31=>
     (ix v1 s22).bind λv33=>
     (a8d a0 v33.Key).bind λv34=>
     (w7 (v34==true) false (a8a a2 v33.Key)).bind λv35=>
     (w7 ((v34&&v35)==true) false (a8d a0 v33.Val)).bind λv36=>
     if ((v34&&v35)&&v36) then
      (app 8 s23 [v33.Val]).bind λv37=>
      κ31 v37
     else
     κ31 s23)
   else
   some (.inr s23)) (0,[])).bind λe21=>
  κ19 e21)
def a9v(a0:o7)(a1:List p8)(a2:List Int):Option ((List Int) × Int):=
 (a7q a0 a2).bind λv1=>
 jn (λ(j13:List Int)=>
  some (j13,30)) (λκ12=>
  (lp (S:=(List Int) × Int) (E:=((List Int) × Int) ⊕ (List Int)) (λ((s15,s16):(List Int) × Int)=>
   if (decide (s16<30)) then
    (app 8 [] s15).bind λv19=>
    (b0s a0 a1 s15).bind λv20=>
    (app 8 v19 v20).bind λv21=>
    (a7q a0 v21).bind λv22=>
    (b3w v22 s15).bind λv23=>
    if v23 then
     some (.inr (.inl (s15,s16)))
    else
    some (.inl (v22,p7 (s16+1)))
   else
   some (.inr (.inr s15))) (v1,0)).bind λe14=>
  match e14 with
  | .inl w=>some w
  | .inr w=>κ12 w)
def b3A(a0:o7)(a1:List p8)(a2:List Int):Option (List Int):=
 (a9v a0 a1 a2).bind λv1=>
 some v1.1
def b3B(a0:o7)(a1:List p8)(a2:List Int):Option (List Int):=
 (b3A a0 a1 a2).bind λv1=>
 (Z2 a0).bind λv2=>
 jn (λ(j17:List Int)=>
  some j17) (λκ16=>
  (lp (S:=Int × (List Int)) (E:=(List Int)) (λ((s19,s20):Int × (List Int))=>
   if (decide (s19<(v2.length:Int))) then
    jn (λ(j27:List Int)=>
     some (.inl (p7 (s19+1),j27))) (λκ26=>
     (ix v2 s19).bind λv28=>
     (a8a v1 v28).bind λv29=>
     if (!v29) then
      (app 8 s20 [v28]).bind λv30=>
      κ26 v30
     else
     κ26 s20)
   else
   some (.inr s20)) (0,[])).bind λe18=>
  κ16 e18)
def a7s(a0:o7)(a1:List p8):Option (List Int):=
 (b3C a0 a1).bind λv1=>
 (b3B a0 a1 v1).bind λv2=>
 some v2
def a4x(a0:g6):Option (List Int):=
 (a7s a0.S a0.T).bind λv1=>
 some v1
def a8f(a0:g6)(a1:Int):Option Bool:=
 (E9 a0.S a1).bind λv1=>
 (a3v a0 a1).bind λv2=>
 some ((v2&&(decide (v1.1.Prog≥0)))&&(!v1.1.Started))
def b1u(a0:g6):Option (List Int):=
 (a4x a0).bind λv1=>
 jn (λ(j16:List Int)=>
  some j16) (λκ15=>
  (lp (S:=Int × (List Int)) (E:=(List Int)) (λ((s18,s19):Int × (List Int))=>
   if (decide (s18<(v1.length:Int))) then
    jn (λ(j26:List Int)=>
     some (.inl (p7 (s18+1),j26))) (λκ25=>
     (ix v1 s18).bind λv27=>
     (a8f a0 v27).bind λv28=>
     if v28 then
      (app 8 s19 [v27]).bind λv29=>
      κ25 v29
     else
     κ25 s19)
   else
   some (.inr s19)) (0,[])).bind λe17=>
  κ15 e17)
def a2J(a0:o7)(a1:Int)(a2:M1):Option o7:=
 (app 80 [] a0.a8).bind λv1=>
 (ix v1 a1).bind λv2=>
 some (⟨(v1.set (a1).toNat (⟨v2.State,v2.Gen,a2⟩:G6)),a0.Last,a0.Serial⟩:o7)
def M2(a0:o7)(a1:Int)(a2:M1):Option (o7 × Int):=
 (M4 a0).bind λv1=>
 (O9 v1 a1).bind λv2=>
 if (v2.2 != 0) then
  some (a0,v2.2)
 else
 (a2J a0 v2.1 a2).bind λv3=>
 some (v3,0)
def a6f(a0:C6)(a1:P0):Option (C6 × Int):=
 if (decide ((a0.L.length:Int)≥a0.Cap)) then
  some (a0,4)
 else
 (app 24 [] a0.L).bind λv1=>
 (app 24 v1 [a1]).bind λv2=>
 some ((⟨v2,a0.Cap⟩:C6),0)
def b2B(a0:Int):Option Int:=
 (a2a a0).bind λv1=>
 if v1 then
  some 12
 else
 if (decide (a0<0)) then
  some 1
 else
 some (p7 (a0+1))
def a6g(a0:g6)(a1:Int)(a2:Int):Option g6:=
 (E9 a0.S a1).bind λv1=>
 if (v1.2 != 0) then
  some a0
 else
 (M2 a0.S a1 (⟨v1.1.Serial,a2,v1.1.Weak,v1.1.Prog,v1.1.Started,v1.1.Fields⟩:M1)).bind λv2=>
 some (⟨v2.1,a0.Roots,a0.a8,a0.T,a0.Q⟩:g6)
def a01(a0:g6)(a1:Int):Option g6:=
 (E9 a0.S a1).bind λv1=>
 (b2B v1.1.Strong).bind λv2=>
 (a6g a0 a1 v2).bind λv3=>
 some v3
def a3R(a0:g6)(a1:Int):Option g6:=
 (a8f a0 a1).bind λv1=>
 if (!v1) then
  some a0
 else
 (E9 a0.S a1).bind λv2=>
 (M2 a0.S a1 (⟨v2.1.Serial,v2.1.Strong,v2.1.Weak,v2.1.Prog,true,v2.1.Fields⟩:M1)).bind λv3=>
 (a6f a0.Q (⟨1,a1,v2.1.Prog⟩:P0)).bind λv4=>
 (a01 (⟨v3.1,a0.Roots,a0.a8,a0.T,v4.1⟩:g6) a1).bind λv5=>
 some v5
def b0v(a0:g6)(a1:List Int):Option (List Int):=
 jn (λ(j17:List Int)=>
  some j17) (λκ16=>
  (lp (S:=Int × (List Int)) (E:=(List Int)) (λ((s19,s20):Int × (List Int))=>
   if (decide (s19<(a1.length:Int))) then
    jn (λ(j28:List Int)=>
     some (.inl (p7 (s19+1),j28))) (λκ27=>
     (ix a1 s19).bind λv29=>
     (a3v a0 v29).bind λv30=>
     (w7 (v30==true) false (a8a s20 v29)).bind λv31=>
     if (v30&&(!v31)) then
      (app 8 s20 [v29]).bind λv32=>
      κ27 v32
     else
     κ27 s20)
   else
   some (.inr s20)) (0,[])).bind λe18=>
  κ16 e18)
def b1p(a0:List F3)(a1:List Int):Option ((List F3) × (List Int)):=
 jn (λ((j18,j19):(List Int) × (List F3))=>
  some (j19,j18)) (λκ17=>
  (lp (S:=Int × (List F3) × (List Int)) (E:=((List Int) × (List F3))) (λ((s22,s23,s24):Int × (List F3) × (List Int))=>
   if (decide (s22<(a0.length:Int))) then
    (ix a0 s22).bind λv27=>
    jn (λ((j31,j32):Bool × (List Int))=>
     (app 24 s23 [(⟨v27.Target,j31,v27.Call⟩:F3)]).bind λv34=>
     some (.inl (p7 (s22+1),v34,j32))) (λκ30=>
     (w7 (v27.Intact==true) 0 (a3u a1 v27.Target)).bind λv35=>
     if (v27.Intact&&(decide (v35 > 0))) then
      if (decide (v27.Call≥0)) then
       (app 8 s24 [s22]).bind λv36=>
       κ30 (false,v36)
      else
      κ30 (false,s24)
     else
     κ30 (v27.Intact,s24))
   else
   some (.inr (s24,s23))) (0,[],[])).bind λe21=>
  κ17 e21)
def a2L(a0:List p8)(a1:Int)(a2:p8):Option (List p8):=
 (app 24 [] a0).bind λv1=>
 (ix v1 a1).bind λv2=>
 some (v1.set (a1).toNat a2)
def a7r(a0:List p8)(a1:Int):Option ((List p8) × Int × Int):=
 (a2K a0 a1).bind λv1=>
 if (decide (v1<0)) then
  some (a0,0,9)
 else
 (a2L a0 v1 (⟨2,0,0⟩:p8)).bind λv2=>
 (ix a0 v1).bind λv3=>
 some (v2,v3.Val,0)
def a4w(a0:List p8)(a1:List Int):Option ((List p8) × (List Int)):=
 jn (λ((j18,j19):(List p8) × (List Int))=>
  some (j18,j19)) (λκ17=>
  (lp (S:=(List p8) × Int × (List Int)) (E:=((List p8) × (List Int))) (λ((s22,s23,s24):(List p8) × Int × (List Int))=>
   if (decide (s23<(a1.length:Int))) then
    jn (λ((j31,j32):(List p8) × (List Int))=>
     some (.inl (j31,p7 (s23+1),j32))) (λκ30=>
     (ix a1 s23).bind λv34=>
     (a7r s22 v34).bind λv35=>
     if (v35.2.2==0) then
      (app 8 s24 [v35.2.1]).bind λv36=>
      κ30 (v35.1,v36)
     else
     κ30 (s22,s24))
   else
   some (.inr (s22,s24))) (a0,0,[])).bind λe21=>
  κ17 e21)
def a0I(a0:E4)(a1:Int)(a2:L0):Option E4:=
 (app 24 [] a0.a8).bind λv1=>
 (ix v1 a1).bind λv2=>
 some (⟨(v1.set (a1).toNat a2),a0.Last⟩:E4)
def b8b(a0:E4)(a1:Int):Option (E4 × Int):=
 (b2A a0 a1).bind λv1=>
 if (v1.2 != 0) then
  some (a0,v1.2)
 else
 (O9 a0 a1).bind λv2=>
 (ix a0.a8 v2.1).bind λv3=>
 (a0I a0 v2.1 (⟨2,v3.Gen,v3.Val⟩:L0)).bind λv4=>
 some (v4,0)
def a00(a0:o7)(a1:E4):Option o7:=
 jn (λ(j10:List G6)=>
  some (⟨j10,a0.Last,a0.Serial⟩:o7)) (λκ9=>
  (lp (S:=Int × (List G6)) (E:=(List G6)) (λ((s12,s13):Int × (List G6))=>
   if (decide (s12<(a0.a8.length:Int))) then
    (ix a1.a8 s12).bind λv16=>
    (ix a0.a8 s12).bind λv17=>
    (app 80 s13 [(⟨v16.State,v16.Gen,v17.Val⟩:G6)]).bind λv18=>
    some (.inl (p7 (s12+1),v18))
   else
   some (.inr s13)) (0,[])).bind λe11=>
  κ9 e11)
def b3y(a0:o7)(a1:Int):Option o7:=
 (M4 a0).bind λv1=>
 (b8b v1 a1).bind λv2=>
 (a00 a0 v2.1).bind λv3=>
 some v3
def b8a(a0:E4)(a1:Int):Option (E4 × Int):=
 (O9 a0 a1).bind λv1=>
 if (v1.2 != 0) then
  some (a0,v1.2)
 else
 (ix a0.a8 v1.1).bind λv2=>
 if (decide (v2.Gen≥a0.Last)) then
  (a0I a0 v1.1 (⟨3,v2.Gen,0⟩:L0)).bind λv3=>
  some (v3,0)
 else
 (a0I a0 v1.1 (⟨0,p7 (v2.Gen+1),0⟩:L0)).bind λv4=>
 some (v4,0)
def b0p(a0:o7)(a1:Int):Option o7:=
 (M4 a0).bind λv1=>
 (b8a v1 a1).bind λv2=>
 if (v2.2 != 0) then
  some a0
 else
 (a00 a0 v2.1).bind λv3=>
 (a7n a1).bind λv4=>
 (a2J v3 v4 (⟨0,0,0,0,false,[]⟩:M1)).bind λv5=>
 some v5
def a7v(a0:g6)(a1:Int):Option g6:=
 (E9 a0.S a1).bind λv1=>
 (M2 a0.S a1 (⟨v1.1.Serial,0,v1.1.Weak,v1.1.Prog,v1.1.Started,[]⟩:M1)).bind λv2=>
 (b3y v2.1 a1).bind λv3=>
 if (v1.1.Weak==0) then
  (b0p v3 a1).bind λv4=>
  some (⟨v4,a0.Roots,a0.a8,a0.T,a0.Q⟩:g6)
 else
 some (⟨v3,a0.Roots,a0.a8,a0.T,a0.Q⟩:g6)
def b6t(a0:Int):Option (Int × Int):=
 (a2a a0).bind λv1=>
 if v1 then
  some (12,0)
 else
 if (decide (a0<1)) then
  some (0,11)
 else
 some (p7 (a0-1),0)
def D6(a0:g6)(a1:Int):Option g6:=
 (E9 a0.S a1).bind λv1=>
 (b6t v1.1.Strong).bind λv2=>
 if (v2.2 != 0) then
  some a0
 else
 (a6g a0 a1 v2.1).bind λv3=>
 some v3
def a7u(a0:g6)(a1:List Int):Option g6:=
 (b0v a0 a1).bind λv1=>
 (b1p a0.a8 v1).bind λv2=>
 jn (λ(j12:C6)=>
  jn (λ(j23:List Int)=>
   (a4w a0.T v1).bind λv24=>
   (app 8 j23 v24.2).bind λv25=>
   jn (λ(j34:g6)=>
    jn (λ(j43:g6)=>
     some j43) (λκ42=>
     (lp (S:=Int × g6) (E:=g6) (λ((s45,s46):Int × g6)=>
      if (decide (s45<(v25.length:Int))) then
       (ix v25 s45).bind λv49=>
       (D6 s46 v49).bind λv50=>
       some (.inl (p7 (s45+1),v50))
      else
      some (.inr s46)) (0,j34)).bind λe44=>
     κ42 e44)) (λκ33=>
    (lp (S:=Int × g6) (E:=g6) (λ((s52,s53):Int × g6)=>
     if (decide (s52<(v1.length:Int))) then
      (ix v1 s52).bind λv56=>
      (a7v s53 v56).bind λv57=>
      some (.inl (p7 (s52+1),v57))
     else
     some (.inr s53)) (0,(⟨a0.S,a0.Roots,v2.1,v24.1,j12⟩:g6))).bind λe51=>
    κ33 e51)) (λκ22=>
   (lp (S:=Int × (List Int)) (E:=(List Int)) (λ((s59,s60):Int × (List Int))=>
    if (decide (s59<(v1.length:Int))) then
     (ix v1 s59).bind λv63=>
     (E9 a0.S v63).bind λv64=>
     (a3s v64.1.Fields).bind λv65=>
     (app 8 s60 v65).bind λv66=>
     some (.inl (p7 (s59+1),v66))
    else
    some (.inr s60)) (0,[])).bind λe58=>
   κ22 e58)) (λκ11=>
  (lp (S:=Int × C6) (E:=C6) (λ((s68,s69):Int × C6)=>
   if (decide (s68<(v2.2.length:Int))) then
    (ix v2.2 s68).bind λv72=>
    (ix v2.1 v72).bind λv73=>
    (a6f s69 (⟨2,v72,v73.Call⟩:P0)).bind λv74=>
    some (.inl (p7 (s68+1),v74.1))
   else
   some (.inr s69)) (0,a0.Q)).bind λe67=>
  κ11 e67)
def N5(a0:g6):Option g6:=
 jn (λ(j21:g6)=>
  some j21) (λκ20=>
  (lp (S:=Int × g6) (E:=g6 ⊕ g6) (λ((s23,s24):Int × g6)=>
   if (decide (s23<100)) then
    jn (λ(j34:g6)=>
     some (.inl (p7 (s23+1),j34))) (λκ33=>
     (b0u s24).bind λv35=>
     if ((v35.length:Int)==0) then
      some (.inr (.inl s24))
     else
     (ix v35 0).bind λv36=>
     (a8f s24 v36).bind λv37=>
     if v37 then
      (a3R s24 v36).bind λv38=>
      κ33 v38
     else
     (cut v35 0 1).bind λv39=>
     (a7u s24 v39).bind λv40=>
     κ33 v40)
   else
   some (.inr (.inr s24))) (0,a0)).bind λe22=>
  match e22 with
  | .inl w=>some w
  | .inr w=>κ20 w)
def a7w(a0:g6):Option (g6 × Int × Int):=
 (b1u a0).bind λv1=>
 jn (λ(_:Unit)=>
  (a4x a0).bind λv20=>
  (a7u a0 v20).bind λv21=>
  (N5 v21).bind λv22=>
  (Z2 a0.S).bind λv23=>
  (Z2 v22.S).bind λv24=>
  some (v22,0,p7 ((v23.length:Int)-(v24.length:Int)))) (λκ18=>
  if (decide ((v1.length:Int) > 0)) then
   jn (λ(j33:g6)=>
    some (j33,(v1.length:Int),0)) (λκ32=>
    (lp (S:=Int × g6) (E:=g6) (λ((s35,s36):Int × g6)=>
     if (decide (s35<(v1.length:Int))) then
      (ix v1 s35).bind λv39=>
      (a3R s36 v39).bind λv40=>
      some (.inl (p7 (s35+1),v40))
     else
     some (.inr s36)) (0,a0)).bind λe34=>
    κ32 e34)
  else
  κ18 ())
def b1v(a0:g6):Option Bool:=
 some ((a0.Q.L.length:Int)==0)
def a7y(a0:List (List N6))(a1:Int):Option (List N6):=
 if ((decide (a1<0))||(decide (a1≥(a0.length:Int)))) then
  some []
 else
 (ix a0 a1).bind λv1=>
 some v1
def a7x(a0:List (List N6))(a1:P0):Option Int:=
 (a7y a0 a1.Prog).bind λv1=>
 some (p7 (1+(v1.length:Int)))
def b3E(a0:C6):Option (C6 × P0 × Int):=
 if ((a0.L.length:Int)==0) then
  some (a0,(⟨0,0,0⟩:P0),10)
 else
 (cut a0.L 1 (a0.L.length:Int)).bind λv1=>
 (ix a0.L 0).bind λv2=>
 some ((⟨v1,a0.Cap⟩:C6),v2,0)
def U8(a0:g6)(a1:Int)(a2:Int):Option (g6 × Int):=
 if ((decide (a1<0))||(decide (a1 > 5))) then
  some (a0,6)
 else
 (a3w a0 a2).bind λv1=>
 if (!v1) then
  some (a0,3)
 else
 (ix a0.Roots a1).bind λv2=>
 (a01 a0 a2).bind λv3=>
 (app 8 [] a0.Roots).bind λv4=>
 (ix v4 a1).bind λv5=>
 (D6 (⟨v3.S,(v4.set (a1).toNat a2),v3.a8,v3.T,v3.Q⟩:g6) v2).bind λv6=>
 some (v6,0)
def b6w(a0:List F3)(a1:Int)(a2:Int)(a3:Int):Option ((List F3) × Int × Int):=
 if ((decide (a1<0))||(decide (a1≥(a0.length:Int)))) then
  some (a0,0,7)
 else
 (app 24 [] a0).bind λv1=>
 (ix v1 a1).bind λv2=>
 (ix a0 a1).bind λv3=>
 some ((v1.set (a1).toNat (⟨a2,(a2 != 0),a3⟩:F3)),v3.Target,0)
def a1c(a0:g6)(a1:Int):Option g6:=
 (M4 a0.S).bind λv1=>
 (O9 v1 a1).bind λv2=>
 if (v2.2 != 0) then
  some a0
 else
 (ix a0.S.a8 v2.1).bind λv3=>
 (M2 a0.S a1 (⟨v3.Val.Serial,v3.Val.Strong,p7 (v3.Val.Weak-1),v3.Val.Prog,v3.Val.Started,v3.Val.Fields⟩:M1)).bind λv4=>
 (ix v4.1.a8 v2.1).bind λv5=>
 if ((v5.State==2)&&(decide ((p7 (v3.Val.Weak-1))<1))) then
  (b0p v4.1 a1).bind λv6=>
  some (⟨v6,a0.Roots,a0.a8,a0.T,a0.Q⟩:g6)
 else
 some (⟨v4.1,a0.Roots,a0.a8,a0.T,a0.Q⟩:g6)
def a3Q(a0:g6)(a1:Int)(a2:Int)(a3:Int):Option (g6 × Int):=
 (w7 (((decide (a1<0))||(decide (a1 > 5)))==false) false (a8e a0.Q a1)).bind λv1=>
 if (((decide (a1<0))||(decide (a1 > 5)))||v1) then
  some (a0,7)
 else
 (a3w a0 a2).bind λv2=>
 if (!v2) then
  some (a0,3)
 else
 (b6w a0.a8 a1 a2 a3).bind λv3=>
 if (a2 != 0) then
  (E9 a0.S a2).bind λv4=>
  (M2 a0.S a2 (⟨v4.1.Serial,v4.1.Strong,p7 (v4.1.Weak+1),v4.1.Prog,v4.1.Started,v4.1.Fields⟩:M1)).bind λv5=>
  (a1c (⟨v5.1,a0.Roots,v3.1,a0.T,a0.Q⟩:g6) v3.2.1).bind λv6=>
  some (v6,0)
 else
 (a1c (⟨a0.S,a0.Roots,v3.1,a0.T,a0.Q⟩:g6) v3.2.1).bind λv7=>
 some (v7,0)
def V7(a0:g6)(a1:Int):Option (Int × Int):=
 (ix a0.Roots a1).bind λv1=>
 if (v1==0) then
  some (0,2)
 else
 some (v1,0)
def a5k(a0:g6)(a1:Int):Option Int:=
 if (decide (a1<0)) then
  some 0
 else
 (ix a0.Roots a1).bind λv1=>
 some v1
def b3x(a0:List Int)(a1:Int):Option (Int × Int):=
 if ((decide (a1<0))||(decide (a1≥(a0.length:Int)))) then
  some (0,5)
 else
 (ix a0 a1).bind λv1=>
 some (v1,0)
def a3t(a0:o7)(a1:Int)(a2:Int):Option (Int × Int):=
 (E9 a0 a1).bind λv1=>
 if (v1.2 != 0) then
  some (0,v1.2)
 else
 (b3x v1.1.Fields a2).bind λv2=>
 some (v2.1,v2.2)
def b8c(a0:List Int)(a1:Int)(a2:Int):Option ((List Int) × Int):=
 if ((decide (a1<0))||(decide (a1≥(a0.length:Int)))) then
  some (a0,5)
 else
 (app 8 [] a0).bind λv1=>
 (ix v1 a1).bind λv2=>
 some ((v1.set (a1).toNat a2),0)
def b6v(a0:o7)(a1:Int)(a2:Int)(a3:Int):Option (o7 × Int):=
 (E9 a0 a1).bind λv1=>
 if (v1.2 != 0) then
  some (a0,v1.2)
 else
 (b8c v1.1.Fields a2 a3).bind λv2=>
 if (v2.2 != 0) then
  some (a0,v2.2)
 else
 (M2 a0 a1 (⟨v1.1.Serial,v1.1.Strong,v1.1.Weak,v1.1.Prog,v1.1.Started,v2.1⟩:M1)).bind λv3=>
 some (v3.1,v3.2)
def a5j(a0:g6)(a1:Int)(a2:Int)(a3:Int):Option (g6 × Int):=
 (a3t a0.S a1 a2).bind λv1=>
 if (v1.2 != 0) then
  some (a0,v1.2)
 else
 (a3w a0 a3).bind λv2=>
 if (!v2) then
  some (a0,3)
 else
 (a01 a0 a3).bind λv3=>
 (b6v v3.S a1 a2 a3).bind λv4=>
 (D6 (⟨v4.1,v3.Roots,v3.a8,v3.T,v3.Q⟩:g6) v1.1).bind λv5=>
 some (v5,0)
def b6x(a0:List p8)(a1:Int)(a2:Int):Option ((List p8) × Int):=
 (a2K a0 a1).bind λv1=>
 if (decide (v1≥0)) then
  (a2L a0 v1 (⟨1,a1,a2⟩:p8)).bind λv2=>
  some (v2,0)
 else
 (b8d (a0.length:Int) a1).bind λv3=>
 jn (λ(_:Unit)=>
  some (a0,8)) (λκ12=>
  (lp (S:=Int × Int) (E:=((List p8) × Int) ⊕ Unit) (λ((s15,s16):Int × Int)=>
   if (decide (s16<(a0.length:Int))) then
    (ix a0 s15).bind λv19=>
    if (v19.State != 1) then
     (a2L a0 s15 (⟨1,a1,a2⟩:p8)).bind λv20=>
     some (.inr (.inl (v20,0)))
    else
    (rem (p7 (s15+1)) (a0.length:Int)).bind λv21=>
    some (.inl (v21,p7 (s16+1)))
   else
   some (.inr (.inr ()))) (v3,0)).bind λe14=>
  match e14 with
  | .inl w=>some w
  | .inr w=>κ12 w)
def b6y(a0:List p8)(a1:Int)(a2:Int):Option ((List p8) × Int × Int):=
 if (a1==0) then
  some (a0,0,2)
 else
 (b0r a0 a1).bind λv1=>
 if (a2==0) then
  (a7r a0 a1).bind λv2=>
  some (v2.1,v1.1,0)
 else
 (b6x a0 a1 a2).bind λv3=>
 if (v3.2 != 0) then
  some (a0,0,v3.2)
 else
 some (v3.1,v1.1,0)
def a7t(a0:g6)(a1:Int)(a2:Int):Option (g6 × Int):=
 if (a1==0) then
  some (a0,2)
 else
 (a3v a0 a1).bind λv1=>
 (w7 ((!v1)==false) false (a3w a0 a2)).bind λv2=>
 if ((!v1)||(!v2)) then
  some (a0,3)
 else
 (b6y a0.T a1 a2).bind λv3=>
 if (v3.2.2 != 0) then
  some (a0,v3.2.2)
 else
 (a01 a0 a2).bind λv4=>
 (D6 (⟨v4.S,v4.Roots,v4.a8,v3.1,v4.Q⟩:g6) v3.2.1).bind λv5=>
 some (v5,0)
def a1e(a0:g6)(a1:N6):Option (g6 × Int × Int):=
 if ((a1.Kind==6)&&(decide (a1.B<0))) then
  (a3Q a0 a1.A 0 a1.C).bind λv1=>
  some (v1.1,0,v1.2)
 else
 jn (λ(j3:Int)=>
  (V7 a0 j3).bind λv4=>
  if (v4.2 != 0) then
   some (a0,0,v4.2)
  else
  if (a1.Kind==5) then
   (a5k a0 a1.C).bind λv5=>
   (a5j a0 v4.1 a1.B v5).bind λv6=>
   some (v6.1,v5,v6.2)
  else
  if (a1.Kind==6) then
   (a3Q a0 a1.A v4.1 a1.C).bind λv7=>
   some (v7.1,v4.1,v7.2)
  else
  (a5k a0 a1.B).bind λv8=>
  (a7t a0 v4.1 v8).bind λv9=>
  some (v9.1,v8,v9.2)) (λκ2=>
  if (a1.Kind==6) then
   κ2 a1.B
  else
  κ2 a1.A)
def a2c(a0:g6)(a1:Int):Option Int:=
 (E9 a0.S a1).bind λv1=>
 some v1.1.Serial
def b2C(a0:Int):Option ((List Int) × Int):=
 if ((decide (a0<0))||(decide (a0 > 4))) then
  some ([],1)
 else
 (mk 8 a0 (0:Int)).bind λv1=>
 some (v1,0)
def a7p(a0:E4)(a1:Int):Option (E4 × Int × Int):=
 jn (λ(_:Unit)=>
  some (a0,0,4)) (λκ7=>
  (lp (S:=Int) (E:=(E4 × Int × Int) ⊕ Unit) (λ(s10:Int)=>
   if (decide (s10<(a0.a8.length:Int))) then
    (ix a0.a8 s10).bind λv12=>
    if (v12.State==0) then
     (a0I a0 s10 (⟨1,v12.Gen,a1⟩:L0)).bind λv13=>
     (a5i s10 v12.Gen).bind λv14=>
     some (.inr (.inl (v13,v14,0)))
    else
    some (.inl (p7 (s10+1)))
   else
   some (.inr (.inr ()))) 0).bind λe9=>
  match e9 with
  | .inl w=>some w
  | .inr w=>κ7 w)
def a2I(a0:o7)(a1:Int)(a2:Int):Option (o7 × Int × Int):=
 (b2C a1).bind λv1=>
 if (v1.2 != 0) then
  some (a0,0,v1.2)
 else
 if ((decide (a2<(-1)))||(decide (a2 > 5))) then
  some (a0,0,13)
 else
 (M4 a0).bind λv2=>
 (a7p v2 0).bind λv3=>
 if (v3.2.2 != 0) then
  some (a0,0,v3.2.2)
 else
 (a00 a0 v3.1).bind λv4=>
 (a7n v3.2.1).bind λv5=>
 (a2J v4 v5 (⟨p7 (a0.Serial+1),0,0,a2,false,v1.1⟩:M1)).bind λv6=>
 some ((⟨v6.a8,v6.Last,p7 (a0.Serial+1)⟩:o7),v3.2.1,0)
def b1t(a0:g6)(a1:Int):Option Int:=
 if ((decide (a1<0))||(decide (a1 > 5))) then
  some 0
 else
 (ix a0.Roots a1).bind λv1=>
 (a2c a0 v1).bind λv2=>
 some v2
def b0q(a0:List F3)(a1:Int):Option (Int × Int):=
 if ((decide (a1<0))||(decide (a1≥(a0.length:Int)))) then
  some (0,7)
 else
 (ix a0 a1).bind λv1=>
 if ((v1.Target==0)||(!v1.Intact)) then
  some (0,9)
 else
 some (v1.Target,0)
def b2E(a0:List p8)(a1:Int):Option (Int × Int):=
 (b0r a0 a1).bind λv1=>
 some (v1.1,v1.2)
def a2d(a0:g6)(a1:N6):Option (Int × Int):=
 if (a1.Kind==2) then
  (ix a0.Roots a1.B).bind λv1=>
  some (v1,0)
 else
 if (a1.Kind==4) then
  (V7 a0 a1.B).bind λv2=>
  if (v2.2 != 0) then
   some (0,v2.2)
  else
  (a3t a0.S v2.1 a1.C).bind λv3=>
  some (v3.1,v3.2)
 else
 if (a1.Kind==7) then
  (b0q a0.a8 a1.B).bind λv4=>
  some (v4.1,v4.2)
 else
 if (a1.Kind==9) then
  (V7 a0 a1.B).bind λv5=>
  if (v5.2 != 0) then
   some (0,v5.2)
  else
  (b2E a0.T v5.1).bind λv6=>
  some (v6.1,v6.2)
 else
 some (0,0)
def B3(a0:g6)(a1:N6):Option (g6 × Int × Int):=
 (a1d a1).bind λv1=>
 if (v1 != 0) then
  some (a0,0,v1)
 else
 (V6 a1).bind λv2=>
 if (!v2) then
  some (a0,0,14)
 else
 if (a1.Kind==10) then
  (ix a0.Roots a1.A).bind λv3=>
  (ix a0.Roots a1.B).bind λv4=>
  if (v3==v4) then
   some (a0,1,0)
  else
  some (a0,0,0)
 else
 jn (λ(j6:Bool)=>
  if j6 then
   (a1e a0 a1).bind λv7=>
   if (v7.2.2 != 0) then
    some (a0,0,v7.2.2)
   else
   (N5 v7.1).bind λv8=>
   (a2c a0 v7.2.1).bind λv9=>
   some (v8,v9,0)
  else
  if (a1.Kind==1) then
   (a2I a0.S a1.B a1.C).bind λv10=>
   if (v10.2.2 != 0) then
    some (a0,0,v10.2.2)
   else
   (U8 (⟨v10.1,a0.Roots,a0.a8,a0.T,a0.Q⟩:g6) a1.A v10.2.1).bind λv11=>
   (N5 v11.1).bind λv12=>
   (b1t v12 a1.A).bind λv13=>
   some (v12,v13,0)
  else
  (a2d a0 a1).bind λv14=>
  if (v14.2 != 0) then
   some (a0,0,v14.2)
  else
  (U8 a0 a1.A v14.1).bind λv15=>
  (N5 v15.1).bind λv16=>
  (b1t v16 a1.A).bind λv17=>
  some (v16,v17,0)) (λκ5=>
  if (a1.Kind==5) then
   κ5 (a1.Kind==5)
  else
  if (a1.Kind==6) then
   κ5 (a1.Kind==6)
  else
  κ5 (a1.Kind==8))
def b2F(a0:g6)(a1:List N6):Option (g6 × (List Int)):=
 jn (λ((j11,j12):g6 × (List Int))=>
  some (j11,j12)) (λκ10=>
  (lp (S:=Int × g6 × (List Int)) (E:=(g6 × (List Int))) (λ((s15,s16,s17):Int × g6 × (List Int))=>
   if (decide (s15<(a1.length:Int))) then
    (ix a1 s15).bind λv20=>
    (B3 s16 v20).bind λv21=>
    (app 8 s17 [v21.2.1]).bind λv22=>
    some (.inl (p7 (s15+1),v21.1,v22))
   else
   some (.inr (s16,s17))) (0,a0,[])).bind λe14=>
  κ10 e14)
def b3F(a0:g6)(a1:List (List N6)):Option (g6 × P0 × Int):=
 (b3E a0.Q).bind λv1=>
 if (v1.2.2 != 0) then
  some (a0,(⟨0,0,0⟩:P0),v1.2.2)
 else
 jn (λ(j6:g6)=>
  (a7y a1 v1.2.1.Prog).bind λv7=>
  (b2F j6 v7).bind λv8=>
  if (v1.2.1.Kind==1) then
   (U8 v8.1 5 0).bind λv9=>
   (N5 v9.1).bind λv10=>
   some (v10,v1.2.1,0)
  else
  some (v8.1,v1.2.1,0)) (λκ5=>
  if (v1.2.1.Kind==1) then
   (U8 (⟨a0.S,a0.Roots,a0.a8,a0.T,v1.1⟩:g6) 5 v1.2.1.At).bind λv11=>
   (D6 v11.1 v1.2.1.At).bind λv12=>
   (N5 v12).bind λv13=>
   κ5 v13
  else
  κ5 (⟨a0.S,a0.Roots,a0.a8,a0.T,v1.1⟩:g6))
def a8h(a0:g6)(a1:List (List N6))(a2:Int):Option (g6 × Int × Int × Int):=
 jn (λ((j12,j13,j14):Int × Int × g6)=>
  some (j14,j13,j12,0)) (λκ11=>
  (lp (S:=Int × Int × g6) (E:=(g6 × Int × Int × Int) ⊕ (Int × Int × g6)) (λ((s17,s18,s19):Int × Int × g6)=>
   (b1v s19).bind λv22=>
   if (!v22) then
    (ix s19.Q.L 0).bind λv23=>
    (a7x a1 v23).bind λv24=>
    if (decide (v24 > s17)) then
     some (.inr (.inl (s19,s18,s17,12)))
    else
    (b3F s19 a1).bind λv25=>
    some (.inl (p7 (s17-v24),p7 (s18+1),v25.1))
   else
   some (.inr (.inr (s17,s18,s19)))) (a2,0,a0)).bind λe16=>
  match e16 with
  | .inl w=>some w
  | .inr w=>κ11 w)
def b3G(a0:A1)(a1:List Int):Option (A1 × D0):=
 (a2b a1).bind λv1=>
 if (v1.2 != 0) then
  some (a0,(⟨0,v1.2⟩:D0))
 else
 if (v1.1.Kind==11) then
  (a7w a0.X).bind λv2=>
  some ((⟨v2.1,a0.Progs⟩:A1),(⟨p7 (v2.2.2-v2.2.1),0⟩:D0))
 else
 if (v1.1.Kind==12) then
  (a8h a0.X a0.Progs v1.1.A).bind λv3=>
  some ((⟨v3.1,a0.Progs⟩:A1),(⟨v3.2.1,v3.2.2.2⟩:D0))
 else
 (B3 a0.X v1.1).bind λv4=>
 some ((⟨v4.1,a0.Progs⟩:A1),(⟨v4.2.1,v4.2.2⟩:D0))
def b1o(a0:E4):Option A4:=
 jn (λ(j9:A4)=>
  some j9) (λκ8=>
  (lp (S:=Int × A4) (E:=A4) (λ((s11,s12):Int × A4)=>
   if (decide (s11<(a0.a8.length:Int))) then
    (ix a0.a8 s11).bind λv15=>
    (A4.ix s12 (b81 .i64 v15.State 3)).bind λv16=>
    some (.inl (p7 (s11+1),(A4.st s12 (b81 .i64 v15.State 3) (p7 (v16+1)))))
   else
   some (.inr s12)) (0,(⟨0,0,0,0⟩:A4))).bind λe10=>
  κ8 e10)
def a8j(a0:A1):Option A4:=
 (M4 a0.X.S).bind λv1=>
 (b1o v1).bind λv2=>
 some v2
def a5l(a0:A1):Option (List Int):=
 (Z2 a0.X.S).bind λv1=>
 jn (λ(j11:List Int)=>
  some j11) (λκ10=>
  (lp (S:=Int × (List Int)) (E:=(List Int)) (λ((s13,s14):Int × (List Int))=>
   if (decide (s13<(v1.length:Int))) then
    (ix v1 s13).bind λv17=>
    (a2c a0.X v17).bind λv18=>
    (app 8 s14 [v18]).bind λv19=>
    some (.inl (p7 (s13+1),v19))
   else
   some (.inr s14)) (0,[])).bind λe12=>
  κ10 e12)
def a8i(a0:A1)(a1:List (List Int)):Option (A1 × (List D0)):=
 jn (λ((j11,j12):A1 × (List D0))=>
  some (j11,j12)) (λκ10=>
  (lp (S:=Int × A1 × (List D0)) (E:=(A1 × (List D0))) (λ((s15,s16,s17):Int × A1 × (List D0))=>
   if (decide (s15<(a1.length:Int))) then
    (ix a1 s15).bind λv20=>
    (b3G s16 v20).bind λv21=>
    (app 16 s17 [v21.2]).bind λv22=>
    some (.inl (p7 (s15+1),v21.1,v22))
   else
   some (.inr (s16,s17))) (0,a0,[])).bind λe14=>
  κ10 e14)
end
end Go.Sh
