/-
 Plain functions: what the functions of the program come to.
-/
import Derived.Test.YtjpgbnlcefhaiaaGreatW24rSh0
import Derived.Test.YtjpgbnlcefhaiaaGreatW24rPwD
import Derived.Test.YtjpgbnlcefhaiaaGreatW24rPwC
set_option linter.unusedVariables false
set_option linter.unusedSimpArgs false
set_option linter.unusedSectionVars false
namespace Go.Sh
set_option maxRecDepth 100000
noncomputable section
structure l4 where
 Serial:Int
 Strong:Int
 Weak:Int
 Prog:Int
 Started:Bool
 Fields:List Int
structure b7 where
 State:Int
 Gen:Int
 Val:l4
structure c5 where
 Target:Int
 Intact:Bool
 Call:Int
structure b8 where
 State:Int
 Key:Int
 Val:Int
structure g7 where
 Kind:Int
 At:Int
 Prog:Int
structure e6 where
 Kind:Int
 A:Int
 B:Int
 C:Int
structure c9 where
 part:Fv
 least:Int
 most:Int
 e:Int
structure c4 where
 a8:List b7
 Last:Int
structure a7 where
 S:c4
 Serial:Int
structure c7 where
 L:List g7
 Cap:Int
structure b6 where
 S:a7
 Roots:List Int
 a8:List c5
 T:List b8
 Q:c7
structure l7 where
 X:b6
 Progs:List (List e6)
structure k9 where
 V:Int
 E:Int
structure o5 where
 x:b6
 o:e6
structure E9 where
 r:Int
 h:Int
structure D6 where
 h:Int
 k:Int
 v:Int
structure E8 where
 t:List b8
structure l6 where
 Key:Int
 Val:Int
structure g6 where
 L:List Int
 Cap:Int
def a1K(a0:e6):Option Bool:=
 some ((decide (a0.Kind≥1))&&(decide (a0.Kind≤10)))
def V1:Option c9:=
 some (⟨(some 114),0,5,6⟩:c9)
def O2:Option c9:=
 some (⟨(some 117),(-1),5,13⟩:c9)
def F9(a0:List c9):Option (List c9):=
 some a0
def V2:Option c9:=
 some (⟨(some 115),0,5,6⟩:c9)
def R6:Option c9:=
 some (⟨(some 117),0,3,5⟩:c9)
def R5:Option c9:=
 some (⟨(some 115),0,3,5⟩:c9)
def K4:Option c9:=
 some (⟨(some 117),(-1),5,6⟩:c9)
def U9:Option c9:=
 some (⟨(some 114),0,5,7⟩:c9)
def K3:Option c9:=
 some (⟨(some 115),(-1),5,6⟩:c9)
def V0:Option c9:=
 some (⟨(some 115),0,5,7⟩:c9)
def a5p:Option (List (Int × (List c9))):=
 (V1).bind λv1=>
 (O2).bind λv2=>
 (F9 [v1,(⟨(some 115),0,4,1⟩:c9),v2]).bind λv3=>
 (V2).bind λv4=>
 (F9 [v1,v4]).bind λv5=>
 (F9 [v1]).bind λv6=>
 (R6).bind λv7=>
 (F9 [v1,v4,v7]).bind λv8=>
 (R5).bind λv9=>
 (K4).bind λv10=>
 (F9 [v1,v9,v10]).bind λv11=>
 (U9).bind λv12=>
 (K3).bind λv13=>
 (F9 [v12,v13,v2]).bind λv14=>
 (V0).bind λv15=>
 (F9 [v1,v15]).bind λv16=>
 (F9 [v1,v13]).bind λv17=>
 (F9 []).bind λv18=>
 (F9 [(⟨(some 114),0,200,12⟩:c9)]).bind λv19=>
 some (n9 (n9 (n9 (n9 (n9 (n9 (n9 (n9 (n9 (n9 (n9 (n9 [] 1 v3) 2 v5) 3 v6) 4 v8) 5 v11) 6 v14) 7 v16) 8 v17) 9 v5) 10 v5) 11 v18) 12 v19)
def a8M(a0:e6):Option Int:=
 some a0.A
def a8N(a0:e6):Option Int:=
 some a0.B
def a8O(a0:e6):Option Int:=
 some a0.C
def a9y(f:Fv)(a0:e6):Option Int:=
 if f=some 114 then a8M a0 else
 if f=some 115 then a8N a0 else
 if f=some 117 then a8O a0 else
 none
def O1(a0:e6):Option Int:=
 (a5p).bind λv1=>
 if (!((y8 v1 a0.Kind).isSome)) then
  some 14
 else
 jn (λ(_:Unit)=>
  some 0) (λκ8=>
  (lp (S:=Int) (E:=Int ⊕ Unit) (λ(s11:Int)=>
   if (decide (s11<(((y8 v1 a0.Kind).getD ([]:List c9)).length:Int))) then
    (ix ((y8 v1 a0.Kind).getD ([]:List c9)) s11).bind λv13=>
    (a9y v13.part a0).bind λv14=>
    if ((decide (v14<v13.least))||(decide (v14 > v13.most))) then
     some (.inr (.inl v13.e))
    else
    some (.inl (p9 (s11+1)))
   else
   some (.inr (.inr ()))) 0).bind λe10=>
  match e10 with
  | .inl w=>some w
  | .inr w=>κ8 w)
def a1L(a0:List (List e6)):Option Bool:=
 if (decide ((a0.length:Int) > 6)) then
  some false
 else
 jn (λ(_:Unit)=>
  some true) (λκ20=>
  (lp (S:=Int) (E:=Bool ⊕ Unit) (λ(s23:Int)=>
   if (decide (s23<(a0.length:Int))) then
    jn (λ(_:Unit)=>
     some (.inl (p9 (s23+1)))) (λκ32=>
     (ix a0 s23).bind λv34=>
     if (decide ((v34.length:Int) > 6)) then
      some (.inr (.inl false))
     else
     (lp (S:=Int) (E:=Bool ⊕ Unit) (λ(s36:Int)=>
      if (decide (s36<(v34.length:Int))) then
       (ix v34 s36).bind λv38=>
       (a1K v38).bind λv39=>
       (z7 ((!v39)==false) 0 (O1 v38)).bind λv40=>
       if ((!v39)||(v40 != 0)) then
        some (.inr (.inl false))
       else
       some (.inl (p9 (s36+1)))
      else
      some (.inr (.inr ()))) 0).bind λe35=>
     match e35 with
     | .inl w=>some (.inr (.inl w))
     | .inr w=>κ32 w)
   else
   some (.inr (.inr ()))) 0).bind λe22=>
  match e22 with
  | .inl w=>some w
  | .inr w=>κ20 w)
def S0(a0:Int)(a1:Int):Option c4:=
 if ((((decide (a0<0))||(decide (a0 > 24)))||(decide (a1<0)))||(decide (a1 > 9))) then
  some (⟨[],0⟩:c4)
 else
 (mk 80 a0 (⟨0,0,⟨0,0,0,0,false,[]⟩⟩:b7)).bind λv1=>
 some (⟨v1,a1⟩:c4)
def a3j(a0:Int)(a1:Int):Option a7:=
 (S0 a0 a1).bind λv1=>
 some (⟨v1,0⟩:a7)
def b71(a0:Int):Option (List c5):=
 if ((decide (a0<0))||(decide (a0 > 6))) then
  some []
 else
 (mk 24 a0 (⟨0,false,0⟩:c5)).bind λv1=>
 jn (λ(j9:List c5)=>
  some j9) (λκ8=>
  (lp (S:=Int × (List c5)) (E:=(List c5)) (λ((s11,s12):Int × (List c5))=>
   if (decide (s11<(v1.length:Int))) then
    (ix s12 s11).bind λv15=>
    some (.inl (p9 (s11+1),(s12.set (s11).toNat (⟨v15.Target,v15.Intact,(-1)⟩:c5))))
   else
   some (.inr s12)) (0,v1)).bind λe10=>
  κ8 e10)
def a9G(a0:Int):Option (List b8):=
 if ((decide (a0<1))||(decide (a0 > 8))) then
  some []
 else
 (mk 24 a0 (⟨0,0,0⟩:b8)).bind λv1=>
 some v1
def a0f(a0:Int):Option c7:=
 some (⟨[],a0⟩:c7)
def b7Q:Option c7:=
 (a0f 30).bind λv1=>
 some v1
def a3u(a0:Int)(a1:Int)(a2:Int):Option b6:=
 if ((((((decide (a0<1))||(decide (a0 > 24)))||(decide (a1<0)))||(decide (a1 > 9)))||(decide (a2<1)))||(decide (a2 > 8))) then
  some (⟨⟨⟨[],0⟩,0⟩,[],[],[],⟨[],0⟩⟩:b6)
 else
 (a3j a0 a1).bind λv1=>
 (mk 8 6 (0:Int)).bind λv2=>
 (b71 6).bind λv3=>
 (a9G a2).bind λv4=>
 (b7Q).bind λv5=>
 some (⟨v1,v2,v3,v4,v5⟩:b6)
def a1O(a0:Int)(a1:Int)(a2:Int)(a3:List (List e6)):Option (l7 × Int):=
 (a1L a3).bind λv1=>
 if (!v1) then
  some ((⟨⟨⟨⟨[],0⟩,0⟩,[],[],[],⟨[],0⟩⟩,[]⟩:l7),13)
 else
 (a3u a0 a1 a2).bind λv2=>
 if ((v2.Roots.length:Int)==0) then
  some ((⟨⟨⟨⟨[],0⟩,0⟩,[],[],[],⟨[],0⟩⟩,[]⟩:l7),1)
 else
 some ((⟨v2,a3⟩:l7),0)
def a5b(a0:Int)(a1:Int):Option l7:=
 (a1O a0 a1 8 []).bind λv1=>
 some v1.1
def a1A(a0:Int)(a1:Int)(a2:Int)(a3:Int):Option (List Int):=
 some [a0,a1,a2,a3]
def R2(a0:List Int):Option (e6 × Int):=
 if ((a0.length:Int) != 4) then
  some ((⟨0,0,0,0⟩:e6),14)
 else
 (ix a0 0).bind λv1=>
 (ix a0 1).bind λv2=>
 (ix a0 2).bind λv3=>
 (ix a0 3).bind λv4=>
 (O1 (⟨v1,v2,v3,v4⟩:e6)).bind λv5=>
 if (v5 != 0) then
  some ((⟨0,0,0,0⟩:e6),v5)
 else
 some ((⟨v1,v2,v3,v4⟩:e6),0)
def a5t(a0:e6):Option Ifc:=
 if (a0.Kind==11) then
  some (⟨89,[]⟩:Ifc)
 else
 if (a0.Kind==12) then
  some (⟨93,[a0.A]⟩:Ifc)
 else
 some (⟨85,[a0.Kind,a0.A,a0.B,a0.C]⟩:Ifc)
def a2e:Option (List (Int × Fv)):=
 some (n9 (n9 (n9 (n9 (n9 (n9 (n9 (n9 (n9 (n9 [] 1 (some 65)) 2 (some 66)) 3 (some 67)) 4 (some 68)) 5 (some 69)) 6 (some 70)) 7 (some 71)) 8 (some 72)) 9 (some 73)) 10 (some 74))
def b6v(a0:Int):Option ((List Int) × Int):=
 if ((decide (a0<0))||(decide (a0 > 4))) then
  some ([],1)
 else
 (mk 8 a0 (0:Int)).bind λv1=>
 some (v1,0)
def N8(a0:Int):Option Bool:=
 some ((decide (a0≥(-1)))&&(decide (a0<6)))
def K2(a0:c4):Option c4:=
 some a0
def s6(a0:List b7):Option (List b7):=
 app 80 [] a0
def A6(a0:c4)(a1:Int)(a2:b7):Option c4:=
 (s6 a0.a8).bind λv1=>
 (ix v1 a1).bind λv2=>
 some (⟨(v1.set (a1).toNat a2),a0.Last⟩:c4)
def a0X(a0:Int)(a1:Int):Option Int:=
 if ((((decide (a0<0))||(decide (a0≥24)))||(decide (a1<0)))||(decide (a1 > 9))) then
  some 0
 else
 some (p9 ((p9 (1+(p9 (a0*1))))+(p9 (a1*32))))
def F8(a0:c4)(a1:l4):Option (c4 × Int × Int):=
 jn (λ(_:Unit)=>
  some (a0,0,4)) (λκ9=>
  (K2 a0).bind λv11=>
  (lp (S:=Int) (E:=(c4 × Int × Int) ⊕ Unit) (λ(s13:Int)=>
   if (decide (s13<(v11.a8.length:Int))) then
    (ix v11.a8 s13).bind λv15=>
    if ((v15.State==0)==true) then
     (ix a0.a8 s13).bind λv16=>
     (A6 a0 s13 (⟨1,v16.Gen,a1⟩:b7)).bind λv17=>
     (a0X s13 v16.Gen).bind λv18=>
     some (.inr (.inl (v17,v18,0)))
    else
    some (.inl (p9 (s13+1)))
   else
   some (.inr (.inr ()))) 0).bind λe12=>
  match e12 with
  | .inl w=>some w
  | .inr w=>κ9 w)
def O8(a0:a7)(a1:Int)(a2:Int):Option (a7 × Int × Int):=
 (b6v a1).bind λv1=>
 if (v1.2 != 0) then
  some (a0,0,v1.2)
 else
 (N8 a2).bind λv2=>
 if (!v2) then
  some (a0,0,13)
 else
 (F8 a0.S (⟨p9 (a0.Serial+1),0,0,a2,false,v1.1⟩:l4)).bind λv3=>
 if (v3.2.2 != 0) then
  some (a0,0,v3.2.2)
 else
 some ((⟨v3.1,p9 (a0.Serial+1)⟩:a7),v3.2.1,0)
def a1f(a0:Int):Option (Int × Int × Bool):=
 if (decide (a0<1)) then
  some ((-1),(-1),false)
 else
 (rem (p9 (a0-1)) 32).bind λv1=>
 (quo .i64 v1 1).bind λv2=>
 (quo .i64 (p9 (a0-1)) 32).bind λv3=>
 if ((decide (v2≥24))||(decide (v3 > 9))) then
  some ((-1),(-1),false)
 else
 some (v2,v3,true)
def a2o(a0:Int):Option Int:=
 (a1f a0).bind λv1=>
 some v1.1
def a3s(a0:Int):Option Int:=
 (a1f a0).bind λv1=>
 some v1.2.1
def p6(a0:c4)(a1:Int):Option (Int × Int):=
 if (a1==0) then
  some ((-1),2)
 else
 (a2o a1).bind λv1=>
 if ((decide (v1<0))||(decide (v1≥(a0.a8.length:Int)))) then
  some ((-1),3)
 else
 (ix a0.a8 v1).bind λv2=>
 (a3s a1).bind λv3=>
 if ((v2.Gen != v3)||((v2.State != 1)&&(v2.State != 2))) then
  some ((-1),3)
 else
 some (v1,0)
def B4(a0:c4)(a1:Int):Option (l4 × Int):=
 (p6 a0 a1).bind λv1=>
 if (v1.2 != 0) then
  some ((⟨0,0,0,0,false,[]⟩:l4),v1.2)
 else
 (ix a0.a8 v1.1).bind λv2=>
 if (v2.State==2) then
  some ((⟨0,0,0,0,false,[]⟩:l4),3)
 else
 some (v2.Val,0)
def r8(a0:a7)(a1:Int):Option (l4 × Int):=
 (B4 a0.S a1).bind λv1=>
 some (v1.1,v1.2)
def a31(a0:b6)(a1:Int):Option Bool:=
 (r8 a0.S a1).bind λv1=>
 some (v1.2==0)
def H9(a0:b6)(a1:Int):Option Bool:=
 (z7 ((a1==0)==false) false (a31 a0 a1)).bind λv1=>
 some ((a1==0)||v1)
def D2(a0:Int):Option Bool:=
 some (decide (a0≥12))
def a3o(a0:Int):Option (Int × Int):=
 (D2 a0).bind λv1=>
 if v1 then
  some (12,0)
 else
 some (p9 ((if 0 > a0 then 0 else a0)+1),0)
def a7v(a0:Int):Option Int:=
 (a3o a0).bind λv1=>
 some v1.1
def H2(a0:c4)(a1:Int)(a2:l4):Option (c4 × Int):=
 (p6 a0 a1).bind λv1=>
 if (v1.2 != 0) then
  some (a0,v1.2)
 else
 (ix a0.a8 v1.1).bind λv2=>
 (A6 a0 v1.1 (⟨v2.State,v2.Gen,a2⟩:b7)).bind λv3=>
 some (v3,0)
def H3(a0:a7)(a1:Int)(a2:l4):Option (a7 × Int):=
 (H2 a0.S a1 a2).bind λv1=>
 some ((⟨v1.1,a0.Serial⟩:a7),v1.2)
def Q0(a0:b6)(a1:Int):Option b6:=
 (r8 a0.S a1).bind λv1=>
 if (v1.2==0) then
  (a7v v1.1.Strong).bind λv2=>
  (H3 a0.S a1 (⟨v1.1.Serial,v2,v1.1.Weak,v1.1.Prog,v1.1.Started,v1.1.Fields⟩:l4)).bind λv3=>
  some (⟨v3.1,a0.Roots,a0.a8,a0.T,a0.Q⟩:b6)
 else
 some a0
def W9(a0:b6)(a1:Int):Option b6:=
 (Q0 a0 a1).bind λv1=>
 some v1
def I9(a0:List Int):Option (List Int):=
 app 8 [] a0
def L3(a0:E9)(a1:b6):Option b6:=
 (I9 a1.Roots).bind λv1=>
 (ix v1 a0.r).bind λv2=>
 some (⟨a1.S,(v1.set (a0.r).toNat a0.h),a1.a8,a1.T,a1.Q⟩:b6)
def a1N(a0:Int):Option (Int × Int):=
 (D2 a0).bind λv1=>
 if v1 then
  some (12,0)
 else
 if (decide (a0<1)) then
  some (0,11)
 else
 some (p9 (a0-1),0)
def b0z(a0:Int):Option (Int × Int):=
 (a1N a0).bind λv1=>
 some (v1.1,v1.2)
def a1g(a0:Int):Option Int:=
 (b0z a0).bind λv1=>
 if (v1.2 != 0) then
  some a0
 else
 some v1.1
def J7(a0:b6)(a1:Int):Option b6:=
 (r8 a0.S a1).bind λv1=>
 if (v1.2==0) then
  (a1g v1.1.Strong).bind λv2=>
  (H3 a0.S a1 (⟨v1.1.Serial,v2,v1.1.Weak,v1.1.Prog,v1.1.Started,v1.1.Fields⟩:l4)).bind λv3=>
  some (⟨v3.1,a0.Roots,a0.a8,a0.T,a0.Q⟩:b6)
 else
 some a0
def A3(a0:b6)(a1:Int):Option b6:=
 (J7 a0 a1).bind λv1=>
 some v1
def C8(a0:b6)(a1:Int)(a2:Int)(a3:E9):Option b6:=
 (W9 a0 a2).bind λv1=>
 (L3 a3 v1).bind λv2=>
 (A3 v2 a1).bind λv3=>
 some v3
def Y8(a0:b6)(a1:Int)(a2:Int):Option (b6 × Int):=
 if ((decide (a1<0))||(decide (a1≥(a0.Roots.length:Int)))) then
  some (a0,6)
 else
 (H9 a0 a2).bind λv1=>
 if (!v1) then
  some (a0,3)
 else
 (ix a0.Roots a1).bind λv2=>
 (C8 a0 v2 a2 (⟨a1,a2⟩:E9)).bind λv3=>
 some (v3,0)
def y9(a0:o5)(a1:Int)(a2:Int):Option (b6 × Int):=
 if (a2 != 0) then
  some (a0.x,a2)
 else
 (Y8 a0.x a0.o.A a1).bind λv1=>
 some (v1.1,v1.2)
def P1(a0:o5):Option (b6 × Int):=
 (O8 a0.x.S a0.o.B a0.o.C).bind λv1=>
 if (v1.2.2 != 0) then
  some (a0.x,v1.2.2)
 else
 (y9 (⟨⟨v1.1,a0.x.Roots,a0.x.a8,a0.x.T,a0.x.Q⟩,a0.o⟩:o5) v1.2.1 0).bind λv2=>
 some (v2.1,v2.2)
def I1(a0:b6)(a1:Int):Option Int:=
 if ((decide (a1<0))||(decide (a1≥(a0.Roots.length:Int)))) then
  some 0
 else
 (ix a0.Roots a1).bind λv1=>
 some v1
def F1(a0:o5):Option (b6 × Int):=
 (I1 a0.x a0.o.B).bind λv1=>
 (y9 a0 v1 0).bind λv2=>
 some (v2.1,v2.2)
def W0(a0:o5):Option (b6 × Int):=
 (y9 a0 0 0).bind λv1=>
 some (v1.1,v1.2)
def I7(a0:b6)(a1:Int):Option (Int × Int):=
 (I1 a0 a1).bind λv1=>
 if (v1==0) then
  some (0,2)
 else
 some (v1,0)
def a6a(a0:List Int)(a1:Int):Option Bool:=
 some ((decide (a1≥0))&&(decide (a1<(a0.length:Int))))
def b1e(a0:List Int)(a1:Int):Option (Int × Int):=
 (a6a a0 a1).bind λv1=>
 if (!v1) then
  some (0,5)
 else
 (ix a0 a1).bind λv2=>
 some (v2,0)
def Y0(a0:a7)(a1:Int)(a2:Int):Option (Int × Int):=
 (r8 a0 a1).bind λv1=>
 if (v1.2 != 0) then
  some (0,v1.2)
 else
 (b1e v1.1.Fields a2).bind λv2=>
 some (v2.1,v2.2)
def W1(a0:o5):Option (b6 × Int):=
 (I7 a0.x a0.o.B).bind λv1=>
 if (v1.2 != 0) then
  some (a0.x,v1.2)
 else
 (Y0 a0.x.S v1.1 a0.o.C).bind λv2=>
 (y9 a0 v2.1 v2.2).bind λv3=>
 some (v3.1,v3.2)
def b3u(a0:List Int)(a1:Int)(a2:Int):Option ((List Int) × Int):=
 (a6a a0 a1).bind λv1=>
 if (!v1) then
  some (a0,5)
 else
 (mk 8 (a0.length:Int) (0:Int)).bind λv2=>
 (cpy v2 a0).bind λv3=>
 (ix v3 a1).bind λv4=>
 some ((v3.set (a1).toNat a2),0)
def a7Y(a0:a7)(a1:Int)(a2:Int)(a3:Int):Option (a7 × Int):=
 (r8 a0 a1).bind λv1=>
 if (v1.2 != 0) then
  some (a0,v1.2)
 else
 (b3u v1.1.Fields a2 a3).bind λv2=>
 if (v2.2 != 0) then
  some (a0,v2.2)
 else
 (H3 a0 a1 (⟨v1.1.Serial,v1.1.Strong,v1.1.Weak,v1.1.Prog,v1.1.Started,v2.1⟩:l4)).bind λv3=>
 some (v3.1,v3.2)
def a0d(a0:D6)(a1:b6):Option b6:=
 (a7Y a1.S a0.h a0.k a0.v).bind λv1=>
 some (⟨v1.1,a1.Roots,a1.a8,a1.T,a1.Q⟩:b6)
def F0(a0:b6)(a1:Int)(a2:Int)(a3:D6):Option b6:=
 (W9 a0 a2).bind λv1=>
 (a0d a3 v1).bind λv2=>
 (A3 v2 a1).bind λv3=>
 some v3
def a1R(a0:b6)(a1:Int)(a2:Int)(a3:Int):Option (b6 × Int):=
 (Y0 a0.S a1 a2).bind λv1=>
 if (v1.2 != 0) then
  some (a0,v1.2)
 else
 (H9 a0 a3).bind λv2=>
 if (!v2) then
  some (a0,3)
 else
 (F0 a0 v1.1 a3 (⟨a1,a2,a3⟩:D6)).bind λv3=>
 some (v3,0)
def R8(a0:o5):Option (b6 × Int):=
 (I7 a0.x a0.o.A).bind λv1=>
 if (v1.2 != 0) then
  some (a0.x,v1.2)
 else
 (I1 a0.x a0.o.C).bind λv2=>
 (a1R a0.x v1.1 a0.o.B v2).bind λv3=>
 some (v3.1,v3.2)
def b2a(a0:c7)(a1:Int):Option (c7 × Int):=
 some (a0,a1)
def a3J(a0:c7)(a1:Int):Option Bool:=
 jn (λ(_:Unit)=>
  some false) (λκ6=>
  (b2a a0 2).bind λv8=>
  (lp (S:=Int) (E:=Bool ⊕ Unit) (λ(s10:Int)=>
   if (decide (s10<(v8.1.L.length:Int))) then
    (ix v8.1.L s10).bind λv12=>
    if ((v12.Kind==v8.2)==true) then
     if (v12.At==a1) then
      some (.inr (.inl true))
     else
     some (.inl (p9 (s10+1)))
    else
    some (.inl (p9 (s10+1)))
   else
   some (.inr (.inr ()))) 0).bind λe9=>
  match e9 with
  | .inl w=>some w
  | .inr w=>κ6 w)
def a48(a0:List c5)(a1:Int):Option Bool:=
 some ((decide (a1≥0))&&(decide (a1<(a0.length:Int))))
def Y1(a0:List c5):Option (List c5):=
 (mk 24 (a0.length:Int) (⟨0,false,0⟩:c5)).bind λv1=>
 (cpy v1 a0).bind λv2=>
 some v2
def b0p(a0:List c5)(a1:Int)(a2:Int)(a3:Int):Option ((List c5) × Int × Int):=
 (a48 a0 a1).bind λv1=>
 if (!v1) then
  some (a0,0,7)
 else
 (Y1 a0).bind λv2=>
 (ix v2 a1).bind λv3=>
 (ix a0 a1).bind λv4=>
 some ((v2.set (a1).toNat (⟨a2,(a2 != 0),a3⟩:c5)),v4.Target,0)
def a0Z(a0:b6)(a1:Int)(a2:Int):Option b6:=
 (p6 a0.S.S a1).bind λv1=>
 if (v1.2==0) then
  (ix a0.S.S.a8 v1.1).bind λv2=>
  (H3 a0.S a1 (⟨v2.Val.Serial,v2.Val.Strong,p9 (v2.Val.Weak+a2),v2.Val.Prog,v2.Val.Started,v2.Val.Fields⟩:l4)).bind λv3=>
  some (⟨v3.1,a0.Roots,a0.a8,a0.T,a0.Q⟩:b6)
 else
 some a0
def K1(a0:c4)(a1:Int):Option (c4 × Int):=
 (p6 a0 a1).bind λv1=>
 if (v1.2 != 0) then
  some (a0,v1.2)
 else
 (ix a0.a8 v1.1).bind λv2=>
 if (v2.Gen==a0.Last) then
  (A6 a0 v1.1 (⟨3,v2.Gen,⟨0,0,0,0,false,[]⟩⟩:b7)).bind λv3=>
  some (v3,0)
 else
 (A6 a0 v1.1 (⟨0,p9 (v2.Gen+1),⟨0,0,0,0,false,[]⟩⟩:b7)).bind λv4=>
 some (v4,0)
def a2c(a0:b6)(a1:Int):Option b6:=
 (a0Z a0 a1 (-1)).bind λv1=>
 (p6 v1.S.S a1).bind λv2=>
 if (v2.2 != 0) then
  some v1
 else
 (ix v1.S.S.a8 v2.1).bind λv3=>
 if ((v3.State==2)&&(v3.Val.Weak==0)) then
  (K1 v1.S.S a1).bind λv4=>
  some (⟨⟨v4.1,v1.S.Serial⟩,v1.Roots,v1.a8,v1.T,v1.Q⟩:b6)
 else
 some v1
def Y9(a0:b6)(a1:Int)(a2:Int)(a3:Int):Option (b6 × Int):=
 (z7 (((decide (a1<0))||(decide (a1≥(a0.a8.length:Int))))==false) false (a3J a0.Q a1)).bind λv1=>
 if (((decide (a1<0))||(decide (a1≥(a0.a8.length:Int))))||v1) then
  some (a0,7)
 else
 (H9 a0 a2).bind λv2=>
 if (!v2) then
  some (a0,3)
 else
 (b0p a0.a8 a1 a2 a3).bind λv3=>
 (a0Z (⟨a0.S,a0.Roots,v3.1,a0.T,a0.Q⟩:b6) a2 1).bind λv4=>
 (a2c v4 v3.2.1).bind λv5=>
 some (v5,0)
def P2(a0:o5):Option (b6 × Int):=
 if (a0.o.B==(-1)) then
  (Y9 a0.x a0.o.A 0 a0.o.C).bind λv1=>
  some (v1.1,v1.2)
 else
 (I7 a0.x a0.o.B).bind λv2=>
 if (v2.2 != 0) then
  some (a0.x,v2.2)
 else
 (Y9 a0.x a0.o.A v2.1 a0.o.C).bind λv3=>
 some (v3.1,v3.2)
def a47(a0:List c5)(a1:Int):Option (Int × Int):=
 (a48 a0 a1).bind λv1=>
 if (!v1) then
  some (0,7)
 else
 (ix a0 a1).bind λv2=>
 if ((v2.Target==0)||(!v2.Intact)) then
  some (0,9)
 else
 some (v2.Target,0)
def T4(a0:o5):Option (b6 × Int):=
 (a47 a0.x.a8 a0.o.B).bind λv1=>
 (y9 a0 v1.1 v1.2).bind λv2=>
 some (v2.1,v2.2)
def a28(a0:Int)(a1:Int):Option (Int × Int):=
 some (a0,a1)
def Y7(a0:Int)(a1:Int):Option Int:=
 if (decide (a0<1)) then
  some 0
 else
 (rem (p9 ((p9 (5*a1))+1)) a0).bind λv1=>
 if (decide (v1<0)) then
  some (p9 (v1+a0))
 else
 some v1
def U1(a0:List b8)(a1:Int):Option Int:=
 jn (λ(_:Unit)=>
  some (-1)) (λκ8=>
  (a28 (a0.length:Int) a1).bind λv10=>
  (lp (S:=Int) (E:=Int ⊕ Unit) (λ(s12:Int)=>
   if (decide (s12<v10.1)) then
    (Y7 v10.1 v10.2).bind λv14=>
    (rem (p9 (v14+s12)) v10.1).bind λv15=>
    (ix a0 v15).bind λv16=>
    if (v16.State==0) then
     some (.inr (.inr ()))
    else
    if ((v16.State==1)&&(v16.Key==a1)) then
     some (.inr (.inl v15))
    else
    some (.inl (p9 (s12+1)))
   else
   some (.inr (.inr ()))) 0).bind λe11=>
  match e11 with
  | .inl w=>some w
  | .inr w=>κ8 w)
def I5(a0:List b8)(a1:Int):Option (Int × Int):=
 (U1 a0 a1).bind λv1=>
 if (decide (v1<0)) then
  some (0,9)
 else
 (ix a0 v1).bind λv2=>
 some (v2.Val,0)
def B5(a0:List b8):Option (List b8):=
 app 24 [] a0
def a0Y(a0:List b8)(a1:Int)(a2:b8):Option (List b8):=
 (B5 a0).bind λv1=>
 (ix v1 a1).bind λv2=>
 some (v1.set (a1).toNat a2)
def U0(a0:List b8)(a1:Int):Option ((List b8) × Int × Int):=
 (U1 a0 a1).bind λv1=>
 if (decide (v1<0)) then
  some (a0,0,9)
 else
 (a0Y a0 v1 (⟨2,0,0⟩:b8)).bind λv2=>
 (ix a0 v1).bind λv3=>
 some (v2,v3.Val,0)
def a6P(a0:List b8)(a1:Int)(a2:Int):Option ((List b8) × Int):=
 (U1 a0 a1).bind λv1=>
 if (decide (v1≥0)) then
  (a0Y a0 v1 (⟨1,a1,a2⟩:b8)).bind λv2=>
  some (v2,0)
 else
 jn (λ(_:Unit)=>
  some (a0,8)) (λκ11=>
  (a28 (a0.length:Int) a1).bind λv13=>
  (lp (S:=Int) (E:=((List b8) × Int) ⊕ Unit) (λ(s15:Int)=>
   if (decide (s15<v13.1)) then
    (Y7 v13.1 v13.2).bind λv17=>
    (rem (p9 (v17+s15)) v13.1).bind λv18=>
    (ix a0 v18).bind λv19=>
    if (v19.State != 1) then
     (a0Y a0 v18 (⟨1,a1,a2⟩:b8)).bind λv20=>
     some (.inr (.inl (v20,0)))
    else
    some (.inl (p9 (s15+1)))
   else
   some (.inr (.inr ()))) 0).bind λe14=>
  match e14 with
  | .inl w=>some w
  | .inr w=>κ11 w)
def P8(a0:List b8)(a1:Int)(a2:Int):Option ((List b8) × Int × Int):=
 if (a1==0) then
  some (a0,0,2)
 else
 (I5 a0 a1).bind λv1=>
 if (a2==0) then
  (U0 a0 a1).bind λv2=>
  some (v2.1,v1.1,0)
 else
 (a6P a0 a1 a2).bind λv3=>
 if (v3.2 != 0) then
  some (a0,0,v3.2)
 else
 some (v3.1,v1.1,0)
def R7(a0:E8)(a1:b6):Option b6:=
 some (⟨a1.S,a1.Roots,a1.a8,a0.t,a1.Q⟩:b6)
def G1(a0:b6)(a1:Int)(a2:Int)(a3:E8):Option b6:=
 (W9 a0 a2).bind λv1=>
 (R7 a3 v1).bind λv2=>
 (A3 v2 a1).bind λv3=>
 some v3
def a29(a0:b6)(a1:Int)(a2:Int):Option (b6 × Int):=
 if (a1==0) then
  some (a0,2)
 else
 (H9 a0 a1).bind λv1=>
 (z7 ((!v1)==false) false (H9 a0 a2)).bind λv2=>
 if ((!v1)||(!v2)) then
  some (a0,3)
 else
 (P8 a0.T a1 a2).bind λv3=>
 if (v3.2.2 != 0) then
  some (a0,v3.2.2)
 else
 (G1 a0 v3.2.1 a2 (⟨v3.1⟩:E8)).bind λv4=>
 some (v4,0)
def W2(a0:o5):Option (b6 × Int):=
 (I7 a0.x a0.o.A).bind λv1=>
 if (v1.2 != 0) then
  some (a0.x,v1.2)
 else
 (I1 a0.x a0.o.B).bind λv2=>
 (a29 a0.x v1.1 v2).bind λv3=>
 some (v3.1,v3.2)
def b0A(a0:List b8)(a1:Int):Option (Int × Int):=
 (I5 a0 a1).bind λv1=>
 some (v1.1,v1.2)
def Z0(a0:o5):Option (b6 × Int):=
 (I7 a0.x a0.o.B).bind λv1=>
 if (v1.2 != 0) then
  some (a0.x,v1.2)
 else
 (b0A a0.x.T v1.1).bind λv2=>
 (y9 a0 v2.1 v2.2).bind λv3=>
 some (v3.1,v3.2)
def L4(a0:o5):Option (b6 × Int):=
 some (a0.x,0)
def b1S(f:Fv)(a0:o5):Option (b6 × Int):=
 if f=some 65 then P1 a0 else
 if f=some 66 then F1 a0 else
 if f=some 67 then W0 a0 else
 if f=some 68 then W1 a0 else
 if f=some 69 then R8 a0 else
 if f=some 70 then P2 a0 else
 if f=some 71 then T4 a0 else
 if f=some 72 then W2 a0 else
 if f=some 73 then Z0 a0 else
 if f=some 74 then L4 a0 else
 none
def a0m(a0:Int):Option Bool:=
 some (a0 != a0)
def a2E(a0:Int)(a1:Int):Option Int:=
 (a0m a0).bind λv1=>
 (a0m a1).bind λv2=>
 if v1 then
  if v2 then
   some 0
  else
  some (-1)
 else
 if v2 then
  some 1
 else
 if (decide (a0<a1)) then
  some (-1)
 else
 if (decide (a0 > a1)) then
  some 1
 else
 some 0
def a26(a0:Int)(a1:Int)(a2:List (Int × Int)):Option Int:=
 (a2E ((y8 a2 a0).getD (0:Int)) ((y8 a2 a1).getD (0:Int))).bind λv1=>
 some v1
def C3(a0:a7):Option (List Int):=
 jn (λ((j18,j19):(List (Int × Int)) × (List Int))=>
  (b09 (λp q=>a26 p q j18) j19).bind λv21=>
  some v21) (λκ17=>
  (lp (S:=Int × (List (Int × Int)) × (List Int)) (E:=((List (Int × Int)) × (List Int))) (λ((s23,s24,s25):Int × (List (Int × Int)) × (List Int))=>
   if (decide (s23<(a0.S.a8.length:Int))) then
    jn (λ((j32,j33):(List (Int × Int)) × (List Int))=>
     some (.inl (p9 (s23+1),j32,j33))) (λκ31=>
     (ix a0.S.a8 s23).bind λv35=>
     if (v35.State==1) then
      (a0X s23 v35.Gen).bind λv36=>
      (app 8 s25 [v36]).bind λv37=>
      κ31 ((n9 s24 v36 v35.Val.Serial),v37)
     else
     κ31 (s24,s25))
   else
   some (.inr (s24,s25))) (0,[],[])).bind λe22=>
  κ17 e22)
def a03(a0:b6):Option (List Int):=
 jn (λ(j16:List Int)=>
  some j16) (λκ15=>
  (C3 a0.S).bind λv17=>
  (lp (S:=Int × (List Int)) (E:=(List Int)) (λ((s19,s20):Int × (List Int))=>
   if (decide (s19<(v17.length:Int))) then
    jn (λ(j27:List Int)=>
     some (.inl (p9 (s19+1),j27))) (λκ26=>
     (ix v17 s19).bind λv28=>
     (r8 a0.S v28).bind λv29=>
     if (v29.1.Strong==0) then
      (app 8 s20 [v28]).bind λv30=>
      κ26 v30
     else
     κ26 s20)
   else
   some (.inr s20)) (0,[])).bind λe18=>
  κ15 e18)
def I8(a0:l4):Option Bool:=
 some ((decide (a0.Prog≥0))&&(!a0.Started))
def F7(a0:c7):Option Int:=
 some (a0.L.length:Int)
def D0(a0:List g7)(a1:Int)(a2:Int):Option (List g7):=
 (cut a0 a1 a2).bind λv1=>
 some v1
def N3(a0:c7)(a1:g7):Option (c7 × Int):=
 (F7 a0).bind λv1=>
 if (decide (v1≥a0.Cap)) then
  some (a0,4)
 else
 (D0 a0.L 0 v1).bind λv2=>
 (app 24 v2 [a1]).bind λv3=>
 some ((⟨v3,a0.Cap⟩:c7),0)
def a7o(a0:c7)(a1:g7):Option (c7 × Int):=
 (N3 a0 a1).bind λv1=>
 some (v1.1,v1.2)
def O7(a0:b6)(a1:Int):Option b6:=
 (r8 a0.S a1).bind λv1=>
 (z7 ((v1.2 != 0)==false) false (I8 v1.1)).bind λv2=>
 if ((v1.2 != 0)||(!v2)) then
  some a0
 else
 (H3 a0.S a1 (⟨v1.1.Serial,v1.1.Strong,v1.1.Weak,v1.1.Prog,true,v1.1.Fields⟩:l4)).bind λv3=>
 (a7o a0.Q (⟨1,a1,v1.1.Prog⟩:g7)).bind λv4=>
 (W9 (⟨v3.1,a0.Roots,a0.a8,a0.T,v4.1⟩:b6) a1).bind λv5=>
 some v5
def Q7(a0:b6)(a1:List Int):Option (List Int):=
 jn (λ(j18:List Int)=>
  some j18) (λκ17=>
  (lp (S:=Int × (List (Int × Bool)) × (List Int)) (E:=(List Int)) (λ((s20,s21,s22):Int × (List (Int × Bool)) × (List Int))=>
   if (decide (s20<(a1.length:Int))) then
    jn (λ((j29,j30):(List Int) × (List (Int × Bool)))=>
     some (.inl (p9 (s20+1),j30,j29))) (λκ28=>
     (ix a1 s20).bind λv32=>
     (r8 a0.S v32).bind λv33=>
     if ((v33.2==0)==true) then
      if (!((y8 s21 v32).getD (false:Bool))) then
       (app 8 s22 [v32]).bind λv34=>
       κ28 (v34,(n9 s21 v32 true))
      else
      κ28 (s22,s21)
     else
     κ28 (s22,s21))
   else
   some (.inr s22)) (0,[],[])).bind λe19=>
  κ17 e19)
def N7(a0:List Int)(a1:Int):Option Int:=
 jn (λ(_:Unit)=>
  some (-1)) (λκ5=>
  (lp (S:=Int) (E:=Int ⊕ Unit) (λ(s8:Int)=>
   if (decide (s8<(a0.length:Int))) then
    (ix a0 s8).bind λv10=>
    if (a1==v10) then
     some (.inr (.inl s8))
    else
    some (.inl (p9 (s8+1)))
   else
   some (.inr (.inr ()))) 0).bind λe7=>
  match e7 with
  | .inl w=>some w
  | .inr w=>κ5 w)
def C7(a0:List Int)(a1:Int):Option Bool:=
 (N7 a0 a1).bind λv1=>
 some (decide (v1≥0))
def Z8(a0:c5)(a1:List Int):Option Bool:=
 (z7 ((a0.Intact&&(a0.Target != 0))==true) false (C7 a1 a0.Target)).bind λv1=>
 some ((a0.Intact&&(a0.Target != 0))&&v1)
def G4(a0:List c5)(a1:List Int):Option (List Int):=
 jn (λ(j15:List Int)=>
  some j15) (λκ14=>
  (lp (S:=Int × (List Int)) (E:=(List Int)) (λ((s17,s18):Int × (List Int))=>
   if (decide (s17<(a0.length:Int))) then
    jn (λ(j25:List Int)=>
     some (.inl (p9 (s17+1),j25))) (λκ24=>
     (ix a0 s17).bind λv26=>
     (Z8 v26 a1).bind λv27=>
     if v27 then
      (app 8 s18 [s17]).bind λv28=>
      κ24 v28
     else
     κ24 s18)
   else
   some (.inr s18)) (0,[])).bind λe16=>
  κ14 e16)
def a3K(a0:List c5)(a1:List Int):Option ((List c5) × (List Int)):=
 (G4 a0 a1).bind λv1=>
 (Y1 a0).bind λv2=>
 jn (λ((j22,j23):(List Int) × (List c5))=>
  some (j23,j22)) (λκ21=>
  (lp (S:=Int × (List c5) × (List Int)) (E:=((List Int) × (List c5))) (λ((s26,s27,s28):Int × (List c5) × (List Int))=>
   if (decide (s26<(v1.length:Int))) then
    jn (λ((j36,j37):(List Int) × (List c5))=>
     some (.inl (p9 (s26+1),j37,j36))) (λκ35=>
     (ix v1 s26).bind λv39=>
     (ix s27 v39).bind λv40=>
     (ix (s27.set (v39).toNat (⟨v40.Target,false,v40.Call⟩:c5)) v39).bind λv41=>
     if (decide (v41.Call≥0)) then
      (app 8 s28 [v39]).bind λv42=>
      κ35 (v42,(s27.set (v39).toNat (⟨v40.Target,false,v40.Call⟩:c5)))
     else
     κ35 (s28,(s27.set (v39).toNat (⟨v40.Target,false,v40.Call⟩:c5))))
   else
   some (.inr (s28,s27))) (0,v2,[])).bind λe25=>
  κ21 e25)
def a1v(a0:b6)(a1:List Int):Option b6:=
 (a3K a0.a8 a1).bind λv1=>
 jn (λ(j11:c7)=>
  some (⟨a0.S,a0.Roots,v1.1,a0.T,j11⟩:b6)) (λκ10=>
  (lp (S:=Int × c7) (E:=c7) (λ((s13,s14):Int × c7)=>
   if (decide (s13<(v1.2.length:Int))) then
    (ix v1.2 s13).bind λv17=>
    (ix v1.1 v17).bind λv18=>
    (a7o s14 (⟨2,v17,v18.Call⟩:g7)).bind λv19=>
    some (.inl (p9 (s13+1),v19.1))
   else
   some (.inr s14)) (0,a0.Q)).bind λe12=>
  κ10 e12)
def a74(a0:List Int):Option (List Int):=
 some a0
def a3k(a0:List Int):Option (List Int):=
 jn (λ(j10:List Int)=>
  some j10) (λκ9=>
  (a74 a0).bind λv11=>
  (lp (S:=Int × (List Int)) (E:=(List Int)) (λ((s13,s14):Int × (List Int))=>
   if (decide (s13<(v11.length:Int))) then
    (ix v11 s13).bind λv17=>
    if ((v17 != 0)==true) then
     (app 8 s14 [v17]).bind λv18=>
     some (.inl (p9 (s13+1),v18))
    else
    some (.inl (p9 (s13+1),s14))
   else
   some (.inr s14)) (0,[])).bind λe12=>
  κ9 e12)
def T8(a0:List b8)(a1:List Int):Option ((List b8) × (List Int)):=
 jn (λ((j18,j19):(List b8) × (List Int))=>
  some (j18,j19)) (λκ17=>
  (lp (S:=(List b8) × Int × (List Int)) (E:=((List b8) × (List Int))) (λ((s22,s23,s24):(List b8) × Int × (List Int))=>
   if (decide (s23<(a1.length:Int))) then
    jn (λ((j31,j32):(List b8) × (List Int))=>
     some (.inl (j31,p9 (s23+1),j32))) (λκ30=>
     (ix a1 s23).bind λv34=>
     (U0 s22 v34).bind λv35=>
     if (v35.2.2==0) then
      (app 8 s24 [v35.2.1]).bind λv36=>
      κ30 (v35.1,v36)
     else
     κ30 (s22,s24))
   else
   some (.inr (s22,s24))) (a0,0,[])).bind λe21=>
  κ17 e21)
def P3(a0:c4)(a1:Int):Option (c4 × Int):=
 (B4 a0 a1).bind λv1=>
 if (v1.2 != 0) then
  some (a0,v1.2)
 else
 (a2o a1).bind λv2=>
 (a3s a1).bind λv3=>
 (A6 a0 v2 (⟨2,v3,v1.1⟩:b7)).bind λv4=>
 some (v4,0)
def U4(a0:b6)(a1:Int):Option b6:=
 (r8 a0.S a1).bind λv1=>
 (H3 a0.S a1 (⟨v1.1.Serial,0,v1.1.Weak,v1.1.Prog,v1.1.Started,[]⟩:l4)).bind λv2=>
 (P3 v2.1.S a1).bind λv3=>
 if (v1.1.Weak==0) then
  (K1 v3.1 a1).bind λv4=>
  some (⟨⟨v4.1,v2.1.Serial⟩,a0.Roots,a0.a8,a0.T,a0.Q⟩:b6)
 else
 some (⟨⟨v3.1,v2.1.Serial⟩,a0.Roots,a0.a8,a0.T,a0.Q⟩:b6)
def X7(a0:b6)(a1:List Int):Option b6:=
 (Q7 a0 a1).bind λv1=>
 (a1v a0 v1).bind λv2=>
 jn (λ(j13:List Int)=>
  (T8 v2.T v1).bind λv14=>
  (app 8 j13 v14.2).bind λv15=>
  jn (λ(j24:b6)=>
   jn (λ(j33:b6)=>
    some j33) (λκ32=>
    (lp (S:=Int × b6) (E:=b6) (λ((s35,s36):Int × b6)=>
     if (decide (s35<(v15.length:Int))) then
      (ix v15 s35).bind λv39=>
      (A3 s36 v39).bind λv40=>
      some (.inl (p9 (s35+1),v40))
     else
     some (.inr s36)) (0,j24)).bind λe34=>
    κ32 e34)) (λκ23=>
   (lp (S:=Int × b6) (E:=b6) (λ((s42,s43):Int × b6)=>
    if (decide (s42<(v1.length:Int))) then
     (ix v1 s42).bind λv46=>
     (U4 s43 v46).bind λv47=>
     some (.inl (p9 (s42+1),v47))
    else
    some (.inr s43)) (0,(⟨v2.S,v2.Roots,v2.a8,v14.1,v2.Q⟩:b6))).bind λe41=>
   κ23 e41)) (λκ12=>
  (lp (S:=Int × (List Int)) (E:=(List Int)) (λ((s49,s50):Int × (List Int))=>
   if (decide (s49<(v1.length:Int))) then
    (ix v1 s49).bind λv53=>
    (r8 v2.S v53).bind λv54=>
    (a3k v54.1.Fields).bind λv55=>
    (app 8 s50 v55).bind λv56=>
    some (.inl (p9 (s49+1),v56))
   else
   some (.inr s50)) (0,[])).bind λe48=>
  κ12 e48)
def L0(a0:b6):Option b6:=
 (lp (S:=b6) (E:=b6) (λ(s2:b6)=>
  (a03 s2).bind λv4=>
  if ((v4.length:Int)==0) then
   some (.inr s2)
  else
  (ix v4 0).bind λv5=>
  (r8 s2.S v5).bind λv6=>
  (I8 v6.1).bind λv7=>
  if v7 then
   (O7 s2 v5).bind λv8=>
   some (.inl v8)
  else
  (cut v4 0 1).bind λv9=>
  (X7 s2 v9).bind λv10=>
  some (.inl v10)) a0).bind λe1=>
 some e1
def a1k(a0:b6)(a1:Int):Option Int:=
 (r8 a0.S a1).bind λv1=>
 some v1.1.Serial
def a0L(a0:b6)(a1:Int):Option Int:=
 (I1 a0 a1).bind λv1=>
 (a1k a0 v1).bind λv2=>
 some v2
def Q2(a0:b6)(a1:b6)(a2:e6):Option Int:=
 if (a2.Kind==5) then
  (a0L a0 a2.C).bind λv1=>
  some v1
 else
 jn (λ(j3:Bool)=>
  if j3 then
   (a0L a0 a2.B).bind λv4=>
   some v4
  else
  if (a2.Kind==10) then
   (I1 a0 a2.A).bind λv5=>
   (I1 a0 a2.B).bind λv6=>
   if (v5==v6) then
    some 1
   else
   some 0
  else
  (a0L a1 a2.A).bind λv7=>
  some v7) (λκ2=>
  if (a2.Kind==6) then
   κ2 (a2.Kind==6)
  else
  κ2 (a2.Kind==8))
def o9(a0:b6)(a1:e6):Option (b6 × Int × Int):=
 (O1 a1).bind λv1=>
 if (v1 != 0) then
  some (a0,0,v1)
 else
 (a2e).bind λv2=>
 if (!((y8 v2 a1.Kind).isSome)) then
  some (a0,0,14)
 else
 (b1S ((y8 v2 a1.Kind).getD (none:Fv)) (⟨a0,a1⟩:o5)).bind λv3=>
 if (v3.2 != 0) then
  some (a0,0,v3.2)
 else
 (L0 v3.1).bind λv5=>
 (Q2 v3.1 v5 a1).bind λv6=>
 some (v5,v6,0)
def a5T(a0:a7):Option a7:=
 some a0
def a4S(a0:a7)(a1:Int):Option (List Int):=
 (r8 a0 a1).bind λv1=>
 (a3k v1.1.Fields).bind λv2=>
 some v2
def b18(a0:a7)(a1:Int):Option Int:=
 jn (λ(j31:Int)=>
  some j31) (λκ30=>
  (a5T a0).bind λv32=>
  (C3 v32).bind λv33=>
  (lp (S:=Int × Int) (E:=Int) (λ((s35,s36):Int × Int)=>
   if (decide (s35<(v33.length:Int))) then
    jn (λ(j50:Int)=>
     some (.inl (p9 (s35+1),j50))) (λκ49=>
     (ix v33 s35).bind λv51=>
     (a4S v32 v51).bind λv52=>
     (lp (S:=Int × Int) (E:=Int) (λ((s54,s55):Int × Int)=>
      if (decide (s54<(v52.length:Int))) then
       (ix v52 s54).bind λv58=>
       jn (λ(j60:Int)=>
        some (.inl (p9 (s54+1),j60))) (λκ59=>
        if (v58==a1) then
         κ59 (p9 (s55+1))
        else
        κ59 s55)
      else
      some (.inr s55)) (0,s36)).bind λe53=>
     κ49 e53)
   else
   some (.inr s36)) (0,0)).bind λe34=>
  κ30 e34)
def a0U(a0:List b8):Option (List b8):=
 some a0
def a4F(a0:List b8):Option (List Int):=
 jn (λ(j13:List Int)=>
  some j13) (λκ12=>
  (lp (S:=Int × (List Int)) (E:=(List Int)) (λ((s15,s16):Int × (List Int))=>
   if (decide (s15<(a0.length:Int))) then
    jn (λ(j22:List Int)=>
     some (.inl (p9 (s15+1),j22))) (λκ21=>
     (ix a0 s15).bind λv23=>
     if (v23.State==1) then
      (app 8 s16 [v23.Key]).bind λv24=>
      κ21 v24
     else
     κ21 s16)
   else
   some (.inr s16)) (0,[])).bind λe14=>
  κ12 e14)
def a2a(a0:l6)(a1:Int):Option Bool:=
 some ((a1 != 0)&&(a0.Val==a1))
def w9(a0:List b8)(a1:Int):Option (List l6):=
 jn (λ(j16:List l6)=>
  some j16) (λκ15=>
  (a4F a0).bind λv17=>
  (lp (S:=Int × (List l6)) (E:=(List l6)) (λ((s19,s20):Int × (List l6))=>
   if (decide (s19<(v17.length:Int))) then
    (ix v17 s19).bind λv23=>
    (I5 a0 v23).bind λv24=>
    jn (λ(j28:List l6)=>
     some (.inl (p9 (s19+1),j28))) (λκ27=>
     (a2a (⟨v23,v24.1⟩:l6) a1).bind λv29=>
     if v29 then
      (app 16 s20 [(⟨v23,v24.1⟩:l6)]).bind λv30=>
      κ27 v30
     else
     κ27 s20)
   else
   some (.inr s20)) (0,[])).bind λe18=>
  κ15 e18)
def a3X(a0:List b8)(a1:Int):Option Int:=
 (a0U a0).bind λv1=>
 (w9 v1 a1).bind λv2=>
 some (v2.length:Int)
def a4f(a0:a7)(a1:List b8)(a2:Int):Option Int:=
 (b18 a0 a2).bind λv1=>
 (a3X a1 a2).bind λv2=>
 some (p9 (v1+v2))
def a59(a0:a7)(a1:List b8)(a2:Int):Option Int:=
 (r8 a0 a2).bind λv1=>
 if (v1.2 != 0) then
  some 0
 else
 (a4f a0 a1 a2).bind λv2=>
 some (p9 (v1.1.Strong-v2))
def a6E(a0:Int):Option Bool:=
 (D2 a0).bind λv1=>
 some v1
def a58(a0:Int)(a1:l4)(a2:a7)(a3:List b8):Option Bool:=
 (a59 a2 a3 a0).bind λv1=>
 (z7 ((decide (v1 > 0))==false) false (a6E a1.Strong)).bind λv2=>
 some ((decide (v1 > 0))||v2)
def a57(a0:a7)(a1:List b8):Option (List Int):=
 jn (λ(j36:List Int)=>
  some j36) (λκ35=>
  jn (λ(j54:List Int)=>
   κ35 j54) (λκ53=>
   (C3 a0).bind λv55=>
   (lp (S:=Int × (List Int)) (E:=(List Int)) (λ((s57,s58):Int × (List Int))=>
    if (decide (s57<(v55.length:Int))) then
     jn (λ(j66:List Int)=>
      some (.inl (p9 (s57+1),j66))) (λκ65=>
      (ix v55 s57).bind λv67=>
      (r8 a0 v67).bind λv68=>
      (a58 v67 v68.1 a0 a1).bind λv69=>
      if v69 then
       (app 8 s58 [v67]).bind λv70=>
       κ65 v70
      else
      κ65 s58)
    else
    some (.inr s58)) (0,[])).bind λe56=>
   κ53 e56))
def a2f(a0:Int):Option g6:=
 some (⟨[],a0⟩:g6)
def Z4(a0:a7)(a1:Int):Option Bool:=
 (r8 a0 a1).bind λv1=>
 some (v1.2==0)
def I2(a0:g6):Option Int:=
 some (a0.L.length:Int)
def L6(a0:List Int)(a1:Int)(a2:Int):Option (List Int):=
 (cut a0 a1 a2).bind λv1=>
 some v1
def L5(a0:g6)(a1:Int):Option (g6 × Int):=
 (I2 a0).bind λv1=>
 if (decide (v1≥a0.Cap)) then
  some (a0,4)
 else
 (L6 a0.L 0 v1).bind λv2=>
 (app 8 v2 [a1]).bind λv3=>
 some ((⟨v3,a0.Cap⟩:g6),0)
def a2O(a0:g6)(a1:Int):Option (g6 × (List Int)):=
 (I2 a0).bind λv1=>
 (L6 a0.L 0 (if (if v1<a1 then v1 else a1) > 0 then (if v1<a1 then v1 else a1) else 0)).bind λv2=>
 (L6 a0.L (if (if v1<a1 then v1 else a1) > 0 then (if v1<a1 then v1 else a1) else 0) v1).bind λv3=>
 some ((⟨v3,a0.Cap⟩:g6),v2)
def a0r(a0:g6):Option (g6 × Int × Int):=
 (a2O a0 1).bind λv1=>
 if ((v1.2.length:Int)==0) then
  some (a0,0,10)
 else
 (ix v1.2 0).bind λv2=>
 some (v1.1,v2,0)
def a1s(a0:a7)(a1:List Int):Option (List (Int × Bool)):=
 (C3 a0).bind λv1=>
 (a2f (v1.length:Int)).bind λv2=>
 jn (λ((j20,j21):g6 × (List (Int × Bool)))=>
  jn (λ(j68:List (Int × Bool))=>
   some j68) (λκ67=>
   (lp (S:=g6 × (List (Int × Bool))) (E:=(List (Int × Bool))) (λ((s70,s71):g6 × (List (Int × Bool)))=>
    (I2 s70).bind λv74=>
    if (decide (v74 > 0)) then
     (a0r s70).bind λv75=>
     (a4S a0 v75.2.1).bind λv76=>
     jn (λ((j94,j95):g6 × (List (Int × Bool)))=>
      some (.inl (j94,j95))) (λκ93=>
      (lp (S:=Int × g6 × (List (Int × Bool))) (E:=(g6 × (List (Int × Bool)))) (λ((s98,s99,s100):Int × g6 × (List (Int × Bool)))=>
       if (decide (s98<(v76.length:Int))) then
        jn (λ((j107,j108):g6 × (List (Int × Bool)))=>
         some (.inl (p9 (s98+1),j107,j108))) (λκ106=>
         (ix v76 s98).bind λv110=>
         (Z4 a0 v110).bind λv111=>
         if (v111==true) then
          if (!((y8 s100 v110).getD (false:Bool))) then
           (L5 s99 v110).bind λv112=>
           κ106 (v112.1,(n9 s100 v110 true))
          else
          κ106 (s99,s100)
         else
         κ106 (s99,s100))
       else
       some (.inr (s99,s100))) (0,v75.1,s71)).bind λe97=>
      κ93 e97)
    else
    some (.inr s71)) (j20,j21)).bind λe69=>
   κ67 e69)) (λκ19=>
  (lp (S:=Int × g6 × (List (Int × Bool))) (E:=(g6 × (List (Int × Bool)))) (λ((s114,s115,s116):Int × g6 × (List (Int × Bool)))=>
   if (decide (s114<(a1.length:Int))) then
    jn (λ((j123,j124):g6 × (List (Int × Bool)))=>
     some (.inl (p9 (s114+1),j123,j124))) (λκ122=>
     (ix a1 s114).bind λv126=>
     (Z4 a0 v126).bind λv127=>
     if (v127==true) then
      if (!((y8 s116 v126).getD (false:Bool))) then
       (L5 s115 v126).bind λv128=>
       κ122 (v128.1,(n9 s116 v126 true))
      else
      κ122 (s115,s116)
     else
     κ122 (s115,s116))
   else
   some (.inr (s115,s116))) (0,v2,[])).bind λe113=>
  κ19 e113)
def a20(a0:Int)(a1:List (Int × Bool)):Option Bool:=
 some ((y8 a1 a0).getD (false:Bool))
def O5(a0:a7)(a1:List (Int × Bool)):Option (List Int):=
 jn (λ(j16:List Int)=>
  some j16) (λκ15=>
  (C3 a0).bind λv17=>
  (lp (S:=Int × (List Int)) (E:=(List Int)) (λ((s19,s20):Int × (List Int))=>
   if (decide (s19<(v17.length:Int))) then
    jn (λ(j27:List Int)=>
     some (.inl (p9 (s19+1),j27))) (λκ26=>
     (ix v17 s19).bind λv28=>
     (a20 v28 a1).bind λv29=>
     if v29 then
      (app 8 s20 [v28]).bind λv30=>
      κ26 v30
     else
     κ26 s20)
   else
   some (.inr s20)) (0,[])).bind λe18=>
  κ15 e18)
def a3E(a0:a7)(a1:List Int):Option (List Int):=
 (a1s a0 a1).bind λv1=>
 (O5 a0 v1).bind λv2=>
 some v2
def a2b(a0:l6):Option Bool:=
 some true
def x4(a0:List b8):Option (List l6):=
 jn (λ(j16:List l6)=>
  some j16) (λκ15=>
  (a4F a0).bind λv17=>
  (lp (S:=Int × (List l6)) (E:=(List l6)) (λ((s19,s20):Int × (List l6))=>
   if (decide (s19<(v17.length:Int))) then
    (ix v17 s19).bind λv23=>
    (I5 a0 v23).bind λv24=>
    jn (λ(j28:List l6)=>
     some (.inl (p9 (s19+1),j28))) (λκ27=>
     (a2b (⟨v23,v24.1⟩:l6)).bind λv29=>
     if v29 then
      (app 16 s20 [(⟨v23,v24.1⟩:l6)]).bind λv30=>
      κ27 v30
     else
     κ27 s20)
   else
   some (.inr s20)) (0,[])).bind λe18=>
  κ15 e18)
def a3Y(a0:List b8):Option (List l6):=
 (a0U a0).bind λv1=>
 (x4 v1).bind λv2=>
 some v2
def a3r(a0:Int)(a1:a7):Option Bool:=
 (r8 a1 a0).bind λv1=>
 some (v1.2==0)
def a9u(a0:a7)(a1:List b8)(a2:List Int):Option (List Int):=
 jn (λ(j20:List Int)=>
  some j20) (λκ19=>
  (a3Y a1).bind λv21=>
  (lp (S:=Int × (List Int)) (E:=(List Int)) (λ((s23,s24):Int × (List Int))=>
   if (decide (s23<(v21.length:Int))) then
    jn (λ(j33:List Int)=>
     some (.inl (p9 (s23+1),j33))) (λκ32=>
     (ix v21 s23).bind λv34=>
     (C7 a2 v34.Key).bind λv35=>
     (z7 (v35==true) false (a3r v34.Key a0)).bind λv36=>
     (z7 ((v35&&v36)==true) false (a3r v34.Val a0)).bind λv37=>
     if ((v35&&v36)&&v37) then
      (app 8 s24 [v34.Val]).bind λv38=>
      κ32 v38
     else
     κ32 s24)
   else
   some (.inr s24)) (0,[])).bind λe22=>
  κ19 e22)
def a7z(a0:a7)(a1:List b8)(a2:List Int):Option ((List Int) × Int):=
 (a3E a0 a2).bind λv1=>
 (lp (S:=(List Int) × Int) (E:=((List Int) × Int)) (λ((s3,s4):(List Int) × Int)=>
  (a9u a0 a1 s3).bind λv7=>
  jn (λ(_:Unit)=>
   some (.inr (s3,s4))) (λκ15=>
   (lp (S:=Int) (E:=((List Int) × Int) ⊕ Unit) (λ(s18:Int)=>
    if (decide (s18<(v7.length:Int))) then
     (ix v7 s18).bind λv20=>
     (C7 s3 v20).bind λv21=>
     if (!v21) then
      (app 8 v7 s3).bind λv22=>
      (a3E a0 v22).bind λv23=>
      some (.inr (.inl (v23,p9 (s4+1))))
     else
     some (.inl (p9 (s18+1)))
    else
    some (.inr (.inr ()))) 0).bind λe17=>
   match e17 with
   | .inl w=>some (.inl w)
   | .inr w=>κ15 w)) (v1,0)).bind λe2=>
 some e2
def a9t(a0:a7)(a1:List b8)(a2:List Int):Option (List Int):=
 (a7z a0 a1 a2).bind λv1=>
 some v1.1
def a21(a0:Int)(a1:List (Int × Bool)):Option Bool:=
 some (!((y8 a1 a0).getD (false:Bool)))
def O6(a0:a7)(a1:List (Int × Bool)):Option (List Int):=
 jn (λ(j16:List Int)=>
  some j16) (λκ15=>
  (C3 a0).bind λv17=>
  (lp (S:=Int × (List Int)) (E:=(List Int)) (λ((s19,s20):Int × (List Int))=>
   if (decide (s19<(v17.length:Int))) then
    jn (λ(j27:List Int)=>
     some (.inl (p9 (s19+1),j27))) (λκ26=>
     (ix v17 s19).bind λv28=>
     (a21 v28 a1).bind λv29=>
     if v29 then
      (app 8 s20 [v28]).bind λv30=>
      κ26 v30
     else
     κ26 s20)
   else
   some (.inr s20)) (0,[])).bind λe18=>
  κ15 e18)
def a5S(a0:a7)(a1:List Int):Option (List Int):=
 (a1s a0 a1).bind λv1=>
 (O6 a0 v1).bind λv2=>
 some v2
def a6J(a0:a7)(a1:List b8)(a2:List Int):Option (List Int):=
 (a9t a0 a1 a2).bind λv1=>
 (a5S a0 v1).bind λv2=>
 some v2
def a0v(a0:a7)(a1:List b8):Option (List Int):=
 (a57 a0 a1).bind λv1=>
 (a6J a0 a1 v1).bind λv2=>
 some v2
def M7(a0:b6):Option (List Int):=
 (a0v a0.S a0.T).bind λv1=>
 some v1
def a2F(a0:Int)(a1:b6):Option Bool:=
 (r8 a1.S a0).bind λv1=>
 some ((decide (v1.1.Prog≥0))&&(!v1.1.Started))
def E2(a0:List Int)(a1:b6):Option (List Int):=
 jn (λ(j15:List Int)=>
  some j15) (λκ14=>
  (lp (S:=Int × (List Int)) (E:=(List Int)) (λ((s17,s18):Int × (List Int))=>
   if (decide (s17<(a0.length:Int))) then
    jn (λ(j25:List Int)=>
     some (.inl (p9 (s17+1),j25))) (λκ24=>
     (ix a0 s17).bind λv26=>
     (a2F v26 a1).bind λv27=>
     if v27 then
      (app 8 s18 [v26]).bind λv28=>
      κ24 v28
     else
     κ24 s18)
   else
   some (.inr s18)) (0,[])).bind λe16=>
  κ14 e16)
def a19(a0:b6):Option (List Int):=
 (M7 a0).bind λv1=>
 (E2 v1 a0).bind λv2=>
 some v2
def T2(a0:b6):Option (b6 × Int × Int):=
 (a19 a0).bind λv1=>
 jn (λ(j10:b6)=>
  if (decide ((v1.length:Int) > 0)) then
   some (j10,(v1.length:Int),0)
  else
  (M7 j10).bind λv11=>
  (X7 j10 v11).bind λv12=>
  (L0 v12).bind λv13=>
  (C3 j10.S).bind λv14=>
  (C3 v13.S).bind λv15=>
  some (v13,0,p9 ((v14.length:Int)-(v15.length:Int)))) (λκ9=>
  (lp (S:=Int × b6) (E:=b6) (λ((s17,s18):Int × b6)=>
   if (decide (s17<(v1.length:Int))) then
    (ix v1 s17).bind λv21=>
    (O7 s18 v21).bind λv22=>
    some (.inl (p9 (s17+1),v22))
   else
   some (.inr s18)) (0,a0)).bind λe16=>
  κ9 e16)
def V4(a0:c7)(a1:Int):Option (c7 × (List g7)):=
 (F7 a0).bind λv1=>
 (D0 a0.L 0 (if (if v1<a1 then v1 else a1) > 0 then (if v1<a1 then v1 else a1) else 0)).bind λv2=>
 (D0 a0.L (if (if v1<a1 then v1 else a1) > 0 then (if v1<a1 then v1 else a1) else 0) v1).bind λv3=>
 some ((⟨v3,a0.Cap⟩:c7),v2)
def a0g(a0:c7):Option (c7 × g7 × Int):=
 (V4 a0 1).bind λv1=>
 if ((v1.2.length:Int)==0) then
  some (a0,(⟨0,0,0⟩:g7),10)
 else
 (ix v1.2 0).bind λv2=>
 some (v1.1,v2,0)
def a04(a0:c7):Option (c7 × g7 × Int):=
 (a0g a0).bind λv1=>
 some (v1.1,v1.2.1,v1.2.2)
def a2l(a0:b6):Option Bool:=
 (a04 a0.Q).bind λv1=>
 some (v1.2.2 != 0)
def a3p(a0:List (List e6))(a1:Int):Option (List e6):=
 if ((decide (a1<0))||(decide (a1≥(a0.length:Int)))) then
  some []
 else
 (ix a0 a1).bind λv1=>
 some v1
def a5r(a0:List (List e6))(a1:g7):Option Int:=
 (a3p a0 a1.Prog).bind λv1=>
 some (p9 (1+(v1.length:Int)))
def a2q(a0:b6)(a1:List e6):Option (b6 × (List Int)):=
 jn (λ((j11,j12):b6 × (List Int))=>
  some (j11,j12)) (λκ10=>
  (lp (S:=Int × b6 × (List Int)) (E:=(b6 × (List Int))) (λ((s15,s16,s17):Int × b6 × (List Int))=>
   if (decide (s15<(a1.length:Int))) then
    (ix a1 s15).bind λv20=>
    (o9 s16 v20).bind λv21=>
    (app 8 s17 [v21.2.1]).bind λv22=>
    some (.inl (p9 (s15+1),v21.1,v22))
   else
   some (.inr (s16,s17))) (0,a0,[])).bind λe14=>
  κ10 e14)
def a5s(a0:b6)(a1:List (List e6)):Option (b6 × g7 × Int):=
 (a04 a0.Q).bind λv1=>
 if (v1.2.2 != 0) then
  some (a0,(⟨0,0,0⟩:g7),v1.2.2)
 else
 jn (λ(j6:b6)=>
  (a3p a1 v1.2.1.Prog).bind λv7=>
  (a2q j6 v7).bind λv8=>
  if (v1.2.1.Kind==1) then
   (Y8 v8.1 5 0).bind λv9=>
   (L0 v9.1).bind λv10=>
   some (v10,v1.2.1,0)
  else
  some (v8.1,v1.2.1,0)) (λκ5=>
  if (v1.2.1.Kind==1) then
   (Y8 (⟨a0.S,a0.Roots,a0.a8,a0.T,v1.1⟩:b6) 5 v1.2.1.At).bind λv11=>
   (A3 v11.1 v1.2.1.At).bind λv12=>
   (L0 v12).bind λv13=>
   κ5 v13
  else
  κ5 (⟨a0.S,a0.Roots,a0.a8,a0.T,v1.1⟩:b6))
def a2k(a0:b6)(a1:List (List e6))(a2:Int):Option (b6 × Int × Int × Int):=
 jn (λ((j14,j15,j16):Int × Int × b6)=>
  (a2l j16).bind λv18=>
  if (!v18) then
   some (j16,j14,j15,12)
  else
  some (j16,j14,j15,0)) (λκ13=>
  (lp (S:=Int × b6 × Int × Int × b6) (E:=(Int × Int × b6)) (λ((s20,s21,s22,s23,s24):Int × b6 × Int × Int × b6)=>
   (a2l s21).bind λv27=>
   if (!v27) then
    (a04 s21.Q).bind λv28=>
    (a5r a1 v28.2.1).bind λv29=>
    if (decide (v29 > s20)) then
     some (.inr (s22,s23,s24))
    else
    (a5s s21 a1).bind λv30=>
    some (.inl (p9 (s20-v29),v30.1,p9 (s22+1),p9 (s20-v29),v30.1))
   else
   some (.inr (s22,s23,s24))) (a2,a0,0,a2,a0)).bind λe19=>
  κ13 e19)
def a4A(a0:l7)(a1:List Int):Option (l7 × k9):=
 (R2 a1).bind λv1=>
 if (v1.2 != 0) then
  some (a0,(⟨0,v1.2⟩:k9))
 else
 (a5t v1.1).bind λv2=>
 if (decide (v2.t=85)) then
  (o9 a0.X (⟨(ifG v2 85 0),(ifG v2 85 1),(ifG v2 85 2),(ifG v2 85 3)⟩:e6)).bind λv3=>
  some ((⟨v3.1,a0.Progs⟩:l7),(⟨v3.2.1,v3.2.2⟩:k9))
 else
 if (decide (v2.t=89)) then
  (T2 a0.X).bind λv4=>
  some ((⟨v4.1,a0.Progs⟩:l7),(⟨p9 (v4.2.2-v4.2.1),0⟩:k9))
 else
 if (decide (v2.t=93)) then
  (a2k a0.X a0.Progs (ifG v2 93 0)).bind λv5=>
  some ((⟨v5.1,a0.Progs⟩:l7),(⟨v5.2.1,v5.2.2.2⟩:k9))
 else
 some (a0,(⟨0,0⟩:k9))
def a0D(a0:l7)(a1:List (List Int)):Option (l7 × (List k9)):=
 jn (λ((j11,j12):l7 × (List k9))=>
  some (j11,j12)) (λκ10=>
  (lp (S:=Int × l7 × (List k9)) (E:=(l7 × (List k9))) (λ((s15,s16,s17):Int × l7 × (List k9))=>
   if (decide (s15<(a1.length:Int))) then
    (ix a1 s15).bind λv20=>
    (a4A s16 v20).bind λv21=>
    (app 16 s17 [v21.2]).bind λv22=>
    some (.inl (p9 (s15+1),v21.1,v22))
   else
   some (.inr (s16,s17))) (0,a0,[])).bind λe14=>
  κ10 e14)
def N6(a0:c4):Option A4:=
 jn (λ(j9:A4)=>
  some j9) (λκ8=>
  (lp (S:=Int × A4) (E:=A4) (λ((s11,s12):Int × A4)=>
   if (decide (s11<(a0.a8.length:Int))) then
    (ix a0.a8 s11).bind λv15=>
    (A4.ix s12 v15.State).bind λv16=>
    some (.inl (p9 (s11+1),(A4.st s12 v15.State (p9 (v16+1)))))
   else
   some (.inr s12)) (0,(⟨0,0,0,0⟩:A4))).bind λe10=>
  κ8 e10)
def a1c(a0:l7):Option A4:=
 (N6 a0.X.S.S).bind λv1=>
 some v1
def b0q:Option Bool:=
 (a5b 2 3).bind λv1=>
 (a1A 1 0 1 (-1)).bind λv2=>
 (a1A 5 0 0 0).bind λv3=>
 (a1A 3 0 0 0).bind λv4=>
 (a1A 11 0 0 0).bind λv5=>
 (a1A 1 0 0 (-1)).bind λv6=>
 (a1A 1 1 0 (-1)).bind λv7=>
 (a1A 1 2 0 (-1)).bind λv8=>
 (a0D v1 [v2,v3,v4,v5,v6,v7,v8]).bind λv9=>
 (z7 (((v9.2.length:Int)==7)==true) (⟨0,0⟩:k9) (ix v9.2 3)).bind λv10=>
 (z7 ((((v9.2.length:Int)==7)&&(v10.V==1))==true) (⟨0,0⟩:k9) (ix v9.2 4)).bind λv11=>
 (z7 (((((v9.2.length:Int)==7)&&(v10.V==1))&&(v11.V==2))==true) (⟨0,0⟩:k9) (ix v9.2 5)).bind λv12=>
 (z7 ((((((v9.2.length:Int)==7)&&(v10.V==1))&&(v11.V==2))&&(v12.V==3))==true) (⟨0,0⟩:k9) (ix v9.2 6)).bind λv13=>
 (z7 (((((((v9.2.length:Int)==7)&&(v10.V==1))&&(v11.V==2))&&(v12.V==3))&&(v13.E==4))==true) ⟨0,0,0,0⟩ (a1c v9.1)).bind λv14=>
 some (((((((v9.2.length:Int)==7)&&(v10.V==1))&&(v11.V==2))&&(v12.V==3))&&(v13.E==4))&&((v14.a==0)&&((v14.b==2)&&((v14.c==0)&&((v14.d==0)&&true)))))
def a2h(a0:Int)(a1:Int)(a2:Int):Option Bool:=
 (rem (p9 a0) 24).bind λv1=>
 (rem (p9 a1) 10).bind λv2=>
 (a5b (p9 (1+v1)) v2).bind λv3=>
 jn (λ(j14:l7)=>
  (rem (p9 a2) 6).bind λv15=>
  (a1A 1 v15 0 (-1)).bind λv16=>
  (a4A j14 v16).bind λv17=>
  (a1c j14).bind λv18=>
  (z7 (((((v18.a==0)&&((v18.b==0)&&((v18.c==0)&&((v18.d==(p9 (1+v1)))&&true))))&&(v17.2.E==4))&&(v17.2.V==0))==true) false b0q).bind λv19=>
  some (((((v18.a==0)&&((v18.b==0)&&((v18.c==0)&&((v18.d==(p9 (1+v1)))&&true))))&&(v17.2.E==4))&&(v17.2.V==0))&&v19)) (λκ13=>
  (lp (S:=Int × l7) (E:=Bool ⊕ l7) (λ((s21,s22):Int × l7)=>
   if (decide (s21<(p9 ((p9 (1+v1))*(p9 (v2+1)))))) then
    (a1A 1 0 0 (-1)).bind λv25=>
    (a1A 3 0 0 0).bind λv26=>
    (a0D s22 [v25,v26]).bind λv27=>
    (z7 (((v27.2.length:Int) != 2)==false) (⟨0,0⟩:k9) (ix v27.2 0)).bind λv28=>
    if (((v27.2.length:Int) != 2)||(v28.V != (p9 (s21+1)))) then
     some (.inr (.inl false))
    else
    some (.inl (p9 (s21+1),v27.1))
   else
   some (.inr (.inr s22))) (0,v3)).bind λe20=>
  match e20 with
  | .inl w=>some w
  | .inr w=>κ13 w)
structure L8 where
 Kind:Int
 A:Int
 B:Int
 C:Int
structure K7 where
 Serial:Int
 Strong:Int
 Weak:Int
 Prog:Int
 Started:Bool
 Fields:List Int
structure F4 where
 State:Int
 Gen:Int
 Val:K7
structure E1 where
 Target:Int
 Intact:Bool
 Call:Int
structure o8 where
 State:Int
 Key:Int
 Val:Int
structure N5 where
 Kind:Int
 At:Int
 Prog:Int
structure K0 where
 State:Int
 Gen:Int
 Val:Int
structure E0 where
 a8:List K0
 Last:Int
structure o0 where
 a8:List F4
 Last:Int
 Serial:Int
structure C0 where
 L:List N5
 Cap:Int
structure g5 where
 S:o0
 Roots:List Int
 a8:List E1
 T:List o8
 Q:C0
structure C2 where
 X:g5
 Progs:List (List L8)
structure a3A where
 Key:Int
 Val:Int
structure H0 where
 V:Int
 E:Int
def U2(a0:L8):Option Bool:=
 some ((decide (a0.Kind≥1))&&(decide (a0.Kind≤10)))
def a0Q(a0:Int)(a1:Int)(a2:Int)(a3:Int):Option Int:=
 if ((decide (a0<a1))||(decide (a0 > a2))) then
  some a3
 else
 some 0
def Z3(a0:Int)(a1:Int)(a2:Int):Option Int:=
 if (a0 != 0) then
  some a0
 else
 if (a1 != 0) then
  some a1
 else
 some a2
def a01(a0:L8):Option Int:=
 (a0Q a0.A 0 5 6).bind λv1=>
 (a0Q a0.B 0 5 6).bind λv2=>
 if (a0.Kind==1) then
  (a0Q a0.B 0 4 1).bind λv3=>
  (a0Q a0.C (-1) 5 13).bind λv4=>
  (Z3 v1 v3 v4).bind λv5=>
  some v5
 else
 jn (λ(j7:Bool)=>
  if j7 then
   (Z3 v1 v2 0).bind λv8=>
   some v8
  else
  if (a0.Kind==3) then
   some v1
  else
  if (a0.Kind==4) then
   (a0Q a0.C 0 3 5).bind λv9=>
   (Z3 v1 v2 v9).bind λv10=>
   some v10
  else
  if (a0.Kind==5) then
   (a0Q a0.B 0 3 5).bind λv11=>
   (a0Q a0.C (-1) 5 6).bind λv12=>
   (Z3 v1 v11 v12).bind λv13=>
   some v13
  else
  if (a0.Kind==6) then
   (a0Q a0.A 0 5 7).bind λv14=>
   (a0Q a0.B (-1) 5 6).bind λv15=>
   (a0Q a0.C (-1) 5 13).bind λv16=>
   (Z3 v14 v15 v16).bind λv17=>
   some v17
  else
  if (a0.Kind==7) then
   (a0Q a0.B 0 5 7).bind λv18=>
   (Z3 v1 v18 0).bind λv19=>
   some v19
  else
  if (a0.Kind==8) then
   (a0Q a0.B (-1) 5 6).bind λv20=>
   (Z3 v1 v20 0).bind λv21=>
   some v21
  else
  if (a0.Kind==11) then
   some 0
  else
  if (a0.Kind==12) then
   (a0Q a0.A 0 200 12).bind λv22=>
   some v22
  else
  some 14) (λκ6=>
  if (a0.Kind==2) then
   κ6 (a0.Kind==2)
  else
  if (a0.Kind==9) then
   κ6 (a0.Kind==9)
  else
  κ6 (a0.Kind==10))
def a7O(a0:List (List L8)):Option Bool:=
 if (decide ((a0.length:Int) > 6)) then
  some false
 else
 jn (λ(_:Unit)=>
  some true) (λκ20=>
  (lp (S:=Int) (E:=Bool ⊕ Unit) (λ(s23:Int)=>
   if (decide (s23<(a0.length:Int))) then
    jn (λ(_:Unit)=>
     some (.inl (p9 (s23+1)))) (λκ32=>
     (ix a0 s23).bind λv34=>
     if (decide ((v34.length:Int) > 6)) then
      some (.inr (.inl false))
     else
     (lp (S:=Int) (E:=Bool ⊕ Unit) (λ(s36:Int)=>
      if (decide (s36<(v34.length:Int))) then
       (ix v34 s36).bind λv38=>
       (U2 v38).bind λv39=>
       (z7 ((!v39)==false) 0 (a01 v38)).bind λv40=>
       if ((!v39)||(v40 != 0)) then
        some (.inr (.inl false))
       else
       some (.inl (p9 (s36+1)))
      else
      some (.inr (.inr ()))) 0).bind λe35=>
     match e35 with
     | .inl w=>some (.inr (.inl w))
     | .inr w=>κ32 w)
   else
   some (.inr (.inr ()))) 0).bind λe22=>
  match e22 with
  | .inl w=>some w
  | .inr w=>κ20 w)
def c0i(a0:Int)(a1:Int):Option E0:=
 if ((((decide (a0<0))||(decide (a0 > 24)))||(decide (a1<0)))||(decide (a1 > 9))) then
  some (⟨[],0⟩:E0)
 else
 (mk 24 a0 (⟨0,0,0⟩:K0)).bind λv1=>
 some (⟨v1,a1⟩:E0)
def b5Y(a0:Int)(a1:Int):Option o0:=
 (c0i a0 a1).bind λv1=>
 (mk 80 (v1.a8.length:Int) (⟨0,0,⟨0,0,0,0,false,[]⟩⟩:F4)).bind λv2=>
 some (⟨v2,v1.Last,0⟩:o0)
def c6j(a0:Int):Option (List E1):=
 jn (λ(j8:List E1)=>
  some j8) (λκ7=>
  (lp (S:=Int × (List E1)) (E:=(List E1)) (λ((s10,s11):Int × (List E1))=>
   if ((decide (s10<a0))&&(decide (a0≤6))) then
    (app 24 s11 [(⟨0,false,(-1)⟩:E1)]).bind λv14=>
    some (.inl (p9 (s10+1),v14))
   else
   some (.inr s11)) (0,[])).bind λe9=>
  κ7 e9)
def c0j(a0:Int):Option (List o8):=
 if ((decide (a0<1))||(decide (a0 > 8))) then
  some []
 else
 (mk 24 a0 (⟨0,0,0⟩:o8)).bind λv1=>
 some v1
def c6k:Option C0:=
 some (⟨[],30⟩:C0)
def a94(a0:Int)(a1:Int)(a2:Int):Option g5:=
 if ((((((decide (a0<1))||(decide (a0 > 24)))||(decide (a1<0)))||(decide (a1 > 9)))||(decide (a2<1)))||(decide (a2 > 8))) then
  some (⟨⟨[],0,0⟩,[],[],[],⟨[],0⟩⟩:g5)
 else
 (b5Y a0 a1).bind λv1=>
 (mk 8 6 (0:Int)).bind λv2=>
 (c6j 6).bind λv3=>
 (c0j a2).bind λv4=>
 (c6k).bind λv5=>
 some (⟨v1,v2,v3,v4,v5⟩:g5)
def b53(a0:Int)(a1:Int)(a2:Int)(a3:List (List L8)):Option (C2 × Int):=
 (a7O a3).bind λv1=>
 if (!v1) then
  some ((⟨⟨⟨[],0,0⟩,[],[],[],⟨[],0⟩⟩,[]⟩:C2),13)
 else
 (a94 a0 a1 a2).bind λv2=>
 if ((v2.Roots.length:Int)==0) then
  some ((⟨⟨⟨[],0,0⟩,[],[],[],⟨[],0⟩⟩,[]⟩:C2),1)
 else
 some ((⟨v2,a3⟩:C2),0)
def b2Z(a0:List Int)(a1:List Int):Option Bool:=
 if ((a0.length:Int) != (a1.length:Int)) then
  some false
 else
 jn (λ(_:Unit)=>
  some true) (λκ6=>
  (lp (S:=Int) (E:=Bool ⊕ Unit) (λ(s9:Int)=>
   if (decide (s9<(a0.length:Int))) then
    (ix a0 s9).bind λv11=>
    (ix a1 s9).bind λv12=>
    if (v11 != v12) then
     some (.inr (.inl false))
    else
    some (.inl (p9 (s9+1)))
   else
   some (.inr (.inr ()))) 0).bind λe8=>
  match e8 with
  | .inl w=>some w
  | .inr w=>κ6 w)
def Q6(a0:o0):Option E0:=
 jn (λ(j9:List K0)=>
  some (⟨j9,a0.Last⟩:E0)) (λκ8=>
  (lp (S:=Int × (List K0)) (E:=(List K0)) (λ((s11,s12):Int × (List K0))=>
   if (decide (s11<(a0.a8.length:Int))) then
    (ix a0.a8 s11).bind λv15=>
    (app 24 s12 [(⟨v15.State,v15.Gen,s11⟩:K0)]).bind λv16=>
    some (.inl (p9 (s11+1),v16))
   else
   some (.inr s12)) (0,[])).bind λe10=>
  κ8 e10)
def a2y(a0:List o8)(a1:Int):Option Int:=
 jn (λ(_:Unit)=>
  some (-1)) (λκ5=>
  (lp (S:=Int) (E:=Int ⊕ Unit) (λ(s8:Int)=>
   if (decide (s8<(a0.length:Int))) then
    (ix a0 s8).bind λv10=>
    if ((v10.State==1)&&(v10.Key==a1)) then
     some (.inr (.inl s8))
    else
    some (.inl (p9 (s8+1)))
   else
   some (.inr (.inr ()))) 0).bind λe7=>
  match e7 with
  | .inl w=>some w
  | .inr w=>κ5 w)
def b7A(a0:Int)(a1:Int):Option Int:=
 if (decide (a0<1)) then
  some 0
 else
 (rem (p9 ((p9 (5*a1))+1)) a0).bind λv1=>
 if (decide (v1<0)) then
  some (p9 (v1+a0))
 else
 some v1
def a4P(a0:Int)(a1:Int):Option Int:=
 if ((((decide (a0<0))||(decide (a0 > 23)))||(decide (a1<0)))||(decide (a1 > 9))) then
  some 0
 else
 some (p9 ((p9 (1+a0))+(p9 (32*a1))))
def a7H(a0:Int):Option Bool:=
 if ((decide (a0<1))||(decide (a0 > 400))) then
  some false
 else
 (rem (p9 (a0-1)) 32).bind λv1=>
 (quo .i64 (p9 (a0-1)) 32).bind λv2=>
 (a4P v1 v2).bind λv3=>
 some (v3==a0)
def a6X(a0:Int):Option Int:=
 (a7H a0).bind λv1=>
 if (!v1) then
  some (-1)
 else
 (rem (p9 (a0-1)) 32).bind λv2=>
 some v2
def b5W(a0:Int):Option Int:=
 (a7H a0).bind λv1=>
 if (!v1) then
  some (-1)
 else
 (quo .i64 (p9 (a0-1)) 32).bind λv2=>
 some v2
def N4(a0:E0)(a1:Int):Option (Int × Int):=
 if (a1==0) then
  some ((-1),2)
 else
 (a6X a1).bind λv1=>
 if ((decide (v1<0))||(decide (v1≥(a0.a8.length:Int)))) then
  some ((-1),3)
 else
 (ix a0.a8 v1).bind λv2=>
 (b5W a1).bind λv3=>
 if ((v2.Gen != v3)||((v2.State != 1)&&(v2.State != 2))) then
  some ((-1),3)
 else
 some (v1,0)
def b11(a0:E0)(a1:Int):Option (Int × Int):=
 (N4 a0 a1).bind λv1=>
 if (v1.2 != 0) then
  some (0,v1.2)
 else
 (ix a0.a8 v1.1).bind λv2=>
 if (v2.State==2) then
  some (0,3)
 else
 some (v2.Val,0)
def D7(a0:o0)(a1:Int):Option (K7 × Int):=
 (Q6 a0).bind λv1=>
 (b11 v1 a1).bind λv2=>
 if (v2.2 != 0) then
  some ((⟨0,0,0,0,false,[]⟩:K7),v2.2)
 else
 (ix a0.a8 v2.1).bind λv3=>
 some (v3.Val,0)
def a3f(a0:g5)(a1:Int):Option Bool:=
 (D7 a0.S a1).bind λv1=>
 some (v1.2==0)
def a3g(a0:g5)(a1:Int):Option Bool:=
 (z7 ((a1==0)==false) false (a3f a0 a1)).bind λv1=>
 some ((a1==0)||v1)
def a84(a0:o0)(a1:List Int):Option (List Int):=
 (app 8 [] a1).bind λv1=>
 jn (λ(j36:List Int)=>
  some j36) (λκ35=>
  (lp (S:=Int × (List Int)) (E:=(List Int)) (λ((s38,s39):Int × (List Int))=>
   if (decide (s38<(s39.length:Int))) then
    jn (λ(j56:List Int)=>
     some (.inl (p9 (s38+1),j56))) (λκ55=>
     (lp (S:=Int × (List Int)) (E:=(List Int)) (λ((s58,s59):Int × (List Int))=>
      if (decide (s58 > 0)) then
       (Q6 a0).bind λv62=>
       (ix s59 (p9 (s58-1))).bind λv63=>
       (N4 v62 v63).bind λv64=>
       (ix s59 s58).bind λv65=>
       (N4 v62 v65).bind λv66=>
       (z7 (((decide (v64.1<0))||(decide (v66.1<0)))==false) (⟨0,0,⟨0,0,0,0,false,[]⟩⟩:F4) (ix a0.a8 v64.1)).bind λv67=>
       (z7 (((decide (v64.1<0))||(decide (v66.1<0)))==false) (⟨0,0,⟨0,0,0,0,false,[]⟩⟩:F4) (ix a0.a8 v66.1)).bind λv68=>
       if (((decide (v64.1<0))||(decide (v66.1<0)))||(decide (v67.Val.Serial≤v68.Val.Serial))) then
        some (.inr s59)
       else
       (ix (s59.set (s58).toNat v63) (p9 (s58-1))).bind λv69=>
       some (.inl (p9 (s58-1),((s59.set (s58).toNat v63).set (p9 (s58-1)).toNat v65)))
      else
      some (.inr s59)) (s38,s39)).bind λe57=>
     κ55 e57)
   else
   some (.inr s39)) (1,v1)).bind λe37=>
  κ35 e37)
def a1r(a0:o0):Option (List Int):=
 jn (λ(j15:List Int)=>
  (a84 a0 j15).bind λv16=>
  some v16) (λκ14=>
  (lp (S:=Int × (List Int)) (E:=(List Int)) (λ((s18,s19):Int × (List Int))=>
   if (decide (s18<(a0.a8.length:Int))) then
    jn (λ(j26:List Int)=>
     some (.inl (p9 (s18+1),j26))) (λκ25=>
     (ix a0.a8 s18).bind λv27=>
     if (v27.State==1) then
      (a4P s18 v27.Gen).bind λv28=>
      (app 8 s19 [v28]).bind λv29=>
      κ25 v29
     else
     κ25 s19)
   else
   some (.inr s19)) (0,[])).bind λe17=>
  κ14 e17)
def b22(a0:List o8):Option (List Int):=
 jn (λ(j13:List Int)=>
  some j13) (λκ12=>
  (lp (S:=Int × (List Int)) (E:=(List Int)) (λ((s15,s16):Int × (List Int))=>
   if (decide (s15<(a0.length:Int))) then
    jn (λ(j22:List Int)=>
     some (.inl (p9 (s15+1),j22))) (λκ21=>
     (ix a0 s15).bind λv23=>
     if (v23.State==1) then
      (app 8 s16 [v23.Key]).bind λv24=>
      κ21 v24
     else
     κ21 s16)
   else
   some (.inr s16)) (0,[])).bind λe14=>
  κ12 e14)
def a92(a0:List o8)(a1:Int):Option (Int × Int):=
 (a2y a0 a1).bind λv1=>
 if (decide (v1<0)) then
  some (0,9)
 else
 (ix a0 v1).bind λv2=>
 some (v2.Val,0)
def a7K(a0:List o8):Option (List a3A):=
 (b22 a0).bind λv1=>
 jn (λ(j11:List a3A)=>
  some j11) (λκ10=>
  (lp (S:=Int × (List a3A)) (E:=(List a3A)) (λ((s13,s14):Int × (List a3A))=>
   if (decide (s13<(v1.length:Int))) then
    (ix v1 s13).bind λv17=>
    (a92 a0 v17).bind λv18=>
    (app 16 s14 [(⟨v17,v18.1⟩:a3A)]).bind λv19=>
    some (.inl (p9 (s13+1),v19))
   else
   some (.inr s14)) (0,[])).bind λe12=>
  κ10 e12)
def a7M(a0:C0)(a1:Int):Option Bool:=
 jn (λ(_:Unit)=>
  some false) (λκ5=>
  (lp (S:=Int) (E:=Bool ⊕ Unit) (λ(s8:Int)=>
   if (decide (s8<(a0.L.length:Int))) then
    (ix a0.L s8).bind λv10=>
    if ((v10.Kind==2)&&(v10.At==a1)) then
     some (.inr (.inl true))
    else
    some (.inl (p9 (s8+1)))
   else
   some (.inr (.inr ()))) 0).bind λe7=>
  match e7 with
  | .inl w=>some w
  | .inr w=>κ5 w)
def a1X(a0:Int):Option Bool:=
 some (decide (a0≥12))
def b0Y(a0:o0)(a1:Int):Option Bool:=
 (D7 a0 a1).bind λv1=>
 (a1X v1.1.Strong).bind λv2=>
 some v2
def a3c(a0:List Int):Option (List Int):=
 jn (λ(j13:List Int)=>
  some j13) (λκ12=>
  (lp (S:=Int × (List Int)) (E:=(List Int)) (λ((s15,s16):Int × (List Int))=>
   if (decide (s15<(a0.length:Int))) then
    jn (λ(j22:List Int)=>
     some (.inl (p9 (s15+1),j22))) (λκ21=>
     (ix a0 s15).bind λv23=>
     if (v23 != 0) then
      (app 8 s16 [v23]).bind λv24=>
      κ21 v24
     else
     κ21 s16)
   else
   some (.inr s16)) (0,[])).bind λe14=>
  κ12 e14)
def b14(a0:o0)(a1:Int):Option (List Int):=
 (D7 a0 a1).bind λv1=>
 if (v1.2 != 0) then
  some []
 else
 (a3c v1.1.Fields).bind λv2=>
 some v2
def a3e(a0:List Int)(a1:Int):Option Int:=
 jn (λ(j11:Int)=>
  some j11) (λκ10=>
  (lp (S:=Int × Int) (E:=Int) (λ((s13,s14):Int × Int)=>
   if (decide (s14<(a0.length:Int))) then
    jn (λ(j19:Int)=>
     some (.inl (j19,p9 (s14+1)))) (λκ18=>
     (ix a0 s14).bind λv20=>
     if ((v20==a1)&&(a1 != 0)) then
      κ18 (p9 (s13+1))
     else
     κ18 s13)
   else
   some (.inr s13)) (0,0)).bind λe12=>
  κ10 e12)
def b86(a0:o0)(a1:Int):Option Int:=
 (a1r a0).bind λv1=>
 jn (λ(j11:Int)=>
  some j11) (λκ10=>
  (lp (S:=Int × Int) (E:=Int) (λ((s13,s14):Int × Int)=>
   if (decide (s14<(v1.length:Int))) then
    (ix v1 s14).bind λv17=>
    (b14 a0 v17).bind λv18=>
    (a3e v18 a1).bind λv19=>
    some (.inl (p9 (s13+v19),p9 (s14+1)))
   else
   some (.inr s13)) (0,0)).bind λe12=>
  κ10 e12)
def b0W(a0:List o8)(a1:Int):Option Int:=
 (a7K a0).bind λv1=>
 jn (λ(j12:Int)=>
  some j12) (λκ11=>
  (lp (S:=Int × Int) (E:=Int) (λ((s14,s15):Int × Int)=>
   if (decide (s15<(v1.length:Int))) then
    jn (λ(j20:Int)=>
     some (.inl (j20,p9 (s15+1)))) (λκ19=>
     (ix v1 s15).bind λv21=>
     if ((v21.Val==a1)&&(a1 != 0)) then
      κ19 (p9 (s14+1))
     else
     κ19 s14)
   else
   some (.inr s14)) (0,0)).bind λe13=>
  κ11 e13)
def b0X(a0:o0)(a1:List o8)(a2:Int):Option Int:=
 (b86 a0 a2).bind λv1=>
 (b0W a1 a2).bind λv2=>
 some (p9 (v1+v2))
def b26(a0:o0)(a1:List o8)(a2:Int):Option Int:=
 (D7 a0 a2).bind λv1=>
 if (v1.2 != 0) then
  some 0
 else
 (b0X a0 a1 a2).bind λv2=>
 some (p9 (v1.1.Strong-v2))
def a95(a0:g5):Option (List Int):=
 (a1r a0.S).bind λv1=>
 jn (λ(j16:List Int)=>
  some j16) (λκ15=>
  (lp (S:=Int × (List Int)) (E:=(List Int)) (λ((s18,s19):Int × (List Int))=>
   if (decide (s18<(v1.length:Int))) then
    jn (λ(j26:List Int)=>
     some (.inl (p9 (s18+1),j26))) (λκ25=>
     (ix v1 s18).bind λv27=>
     (D7 a0.S v27).bind λv28=>
     if (v28.1.Strong==0) then
      (app 8 s19 [v27]).bind λv29=>
      κ25 v29
     else
     κ25 s19)
   else
   some (.inr s19)) (0,[])).bind λe17=>
  κ15 e17)
def a1Y(a0:List Int):Option (L8 × Int):=
 if ((a0.length:Int) != 4) then
  some ((⟨0,0,0,0⟩:L8),14)
 else
 (ix a0 0).bind λv1=>
 (ix a0 1).bind λv2=>
 (ix a0 2).bind λv3=>
 (ix a0 3).bind λv4=>
 (a01 (⟨v1,v2,v3,v4⟩:L8)).bind λv5=>
 if (v5 != 0) then
  some ((⟨0,0,0,0⟩:L8),v5)
 else
 some ((⟨v1,v2,v3,v4⟩:L8),0)
def b25(a0:o0)(a1:List o8):Option (List Int):=
 (a1r a0).bind λv1=>
 jn (λ(j18:List Int)=>
  some j18) (λκ17=>
  (lp (S:=Int × (List Int)) (E:=(List Int)) (λ((s20,s21):Int × (List Int))=>
   if (decide (s20<(v1.length:Int))) then
    jn (λ(j29:List Int)=>
     some (.inl (p9 (s20+1),j29))) (λκ28=>
     (ix v1 s20).bind λv30=>
     (b26 a0 a1 v30).bind λv31=>
     (z7 ((decide (v31 > 0))==false) false (b0Y a0 v30)).bind λv32=>
     if ((decide (v31 > 0))||v32) then
      (app 8 s21 [v30]).bind λv33=>
      κ28 v33
     else
     κ28 s21)
   else
   some (.inr s21)) (0,[])).bind λe19=>
  κ17 e19)
def a7I(a0:List Int)(a1:Int):Option Bool:=
 (a3e a0 a1).bind λv1=>
 some (decide (v1 > 0))
def a7J(a0:List Int)(a1:List Int)(a2:Bool):Option (List Int):=
 jn (λ(j15:List Int)=>
  some j15) (λκ14=>
  (lp (S:=Int × (List Int)) (E:=(List Int)) (λ((s17,s18):Int × (List Int))=>
   if (decide (s17<(a0.length:Int))) then
    jn (λ(j25:List Int)=>
     some (.inl (p9 (s17+1),j25))) (λκ24=>
     (ix a0 s17).bind λv26=>
     (a7I a1 v26).bind λv27=>
     if (v27==a2) then
      (app 8 s18 [v26]).bind λv28=>
      κ24 v28
     else
     κ24 s18)
   else
   some (.inr s18)) (0,[])).bind λe16=>
  κ14 e16)
def a60(a0:o0)(a1:List Int):Option (List Int):=
 (a1r a0).bind λv1=>
 (a7J v1 a1 true).bind λv2=>
 jn (λ(j51:List Int)=>
  some j51) (λκ50=>
  (lp (S:=(List Int) × Int) (E:=(List Int)) (λ((s53,s54):(List Int) × Int)=>
   if (decide (s54<(v1.length:Int))) then
    jn (λ(j78:List Int)=>
     some (.inl (j78,p9 (s54+1)))) (λκ77=>
     (app 8 [] s53).bind λv79=>
     jn (λ(j89:List Int)=>
      (a7J v1 j89 true).bind λv90=>
      κ77 v90) (λκ88=>
      (lp (S:=Int × (List Int)) (E:=(List Int)) (λ((s92,s93):Int × (List Int))=>
       if (decide (s92<(s53.length:Int))) then
        (ix s53 s92).bind λv96=>
        (b14 a0 v96).bind λv97=>
        (app 8 s93 v97).bind λv98=>
        some (.inl (p9 (s92+1),v98))
       else
       some (.inr s93)) (0,v79)).bind λe91=>
      κ88 e91))
   else
   some (.inr s53)) (v2,0)).bind λe52=>
  κ50 e52)
def a7L(a0:o0)(a1:Int):Option Bool:=
 (D7 a0 a1).bind λv1=>
 some (v1.2==0)
def a93(a0:o0)(a1:List o8)(a2:List Int):Option (List Int):=
 (a7K a1).bind λv1=>
 jn (λ(j20:List Int)=>
  some j20) (λκ19=>
  (lp (S:=Int × (List Int)) (E:=(List Int)) (λ((s22,s23):Int × (List Int))=>
   if (decide (s22<(v1.length:Int))) then
    jn (λ(j32:List Int)=>
     some (.inl (p9 (s22+1),j32))) (λκ31=>
     (ix v1 s22).bind λv33=>
     (a7L a0 v33.Key).bind λv34=>
     (z7 (v34==true) false (a7I a2 v33.Key)).bind λv35=>
     (z7 ((v34&&v35)==true) false (a7L a0 v33.Val)).bind λv36=>
     if ((v34&&v35)&&v36) then
      (app 8 s23 [v33.Val]).bind λv37=>
      κ31 v37
     else
     κ31 s23)
   else
   some (.inr s23)) (0,[])).bind λe21=>
  κ19 e21)
def a85(a0:o0)(a1:List o8)(a2:List Int):Option ((List Int) × Int):=
 (a60 a0 a2).bind λv1=>
 jn (λ(j13:List Int)=>
  some (j13,30)) (λκ12=>
  (lp (S:=(List Int) × Int) (E:=((List Int) × Int) ⊕ (List Int)) (λ((s15,s16):(List Int) × Int)=>
   if (decide (s16<30)) then
    (app 8 [] s15).bind λv19=>
    (a93 a0 a1 s15).bind λv20=>
    (app 8 v19 v20).bind λv21=>
    (a60 a0 v21).bind λv22=>
    (b2Z v22 s15).bind λv23=>
    if v23 then
     some (.inr (.inl (s15,s16)))
    else
    some (.inl (v22,p9 (s16+1)))
   else
   some (.inr (.inr s15))) (v1,0)).bind λe14=>
  match e14 with
  | .inl w=>some w
  | .inr w=>κ12 w)
def b23(a0:o0)(a1:List o8)(a2:List Int):Option (List Int):=
 (a85 a0 a1 a2).bind λv1=>
 some v1.1
def b24(a0:o0)(a1:List o8)(a2:List Int):Option (List Int):=
 (b23 a0 a1 a2).bind λv1=>
 (a1r a0).bind λv2=>
 jn (λ(j17:List Int)=>
  some j17) (λκ16=>
  (lp (S:=Int × (List Int)) (E:=(List Int)) (λ((s19,s20):Int × (List Int))=>
   if (decide (s19<(v2.length:Int))) then
    jn (λ(j27:List Int)=>
     some (.inl (p9 (s19+1),j27))) (λκ26=>
     (ix v2 s19).bind λv28=>
     (a7I v1 v28).bind λv29=>
     if (!v29) then
      (app 8 s20 [v28]).bind λv30=>
      κ26 v30
     else
     κ26 s20)
   else
   some (.inr s20)) (0,[])).bind λe18=>
  κ16 e18)
def a62(a0:o0)(a1:List o8):Option (List Int):=
 (b25 a0 a1).bind λv1=>
 (b24 a0 a1 v1).bind λv2=>
 some v2
def a4b(a0:g5):Option (List Int):=
 (a62 a0.S a0.T).bind λv1=>
 some v1
def a7N(a0:g5)(a1:Int):Option Bool:=
 (D7 a0.S a1).bind λv1=>
 (a3f a0 a1).bind λv2=>
 some ((v2&&(decide (v1.1.Prog≥0)))&&(!v1.1.Started))
def b00(a0:g5):Option (List Int):=
 (a4b a0).bind λv1=>
 jn (λ(j16:List Int)=>
  some j16) (λκ15=>
  (lp (S:=Int × (List Int)) (E:=(List Int)) (λ((s18,s19):Int × (List Int))=>
   if (decide (s18<(v1.length:Int))) then
    jn (λ(j26:List Int)=>
     some (.inl (p9 (s18+1),j26))) (λκ25=>
     (ix v1 s18).bind λv27=>
     (a7N a0 v27).bind λv28=>
     if v28 then
      (app 8 s19 [v27]).bind λv29=>
      κ25 v29
     else
     κ25 s19)
   else
   some (.inr s19)) (0,[])).bind λe17=>
  κ15 e17)
def a2x(a0:o0)(a1:Int)(a2:K7):Option o0:=
 (app 80 [] a0.a8).bind λv1=>
 (ix v1 a1).bind λv2=>
 some (⟨(v1.set (a1).toNat (⟨v2.State,v2.Gen,a2⟩:F4)),a0.Last,a0.Serial⟩:o0)
def K8(a0:o0)(a1:Int)(a2:K7):Option (o0 × Int):=
 (Q6 a0).bind λv1=>
 (N4 v1 a1).bind λv2=>
 if (v2.2 != 0) then
  some (a0,v2.2)
 else
 (a2x a0 v2.1 a2).bind λv3=>
 some (v3,0)
def a5Q(a0:C0)(a1:N5):Option (C0 × Int):=
 if (decide ((a0.L.length:Int)≥a0.Cap)) then
  some (a0,4)
 else
 (app 24 [] a0.L).bind λv1=>
 (app 24 v1 [a1]).bind λv2=>
 some ((⟨v2,a0.Cap⟩:C0),0)
def b12(a0:Int):Option Int:=
 (a1X a0).bind λv1=>
 if v1 then
  some 12
 else
 if (decide (a0<0)) then
  some 1
 else
 some (p9 (a0+1))
def a5R(a0:g5)(a1:Int)(a2:Int):Option g5:=
 (D7 a0.S a1).bind λv1=>
 if (v1.2 != 0) then
  some a0
 else
 (K8 a0.S a1 (⟨v1.1.Serial,a2,v1.1.Weak,v1.1.Prog,v1.1.Started,v1.1.Fields⟩:K7)).bind λv2=>
 some (⟨v2.1,a0.Roots,a0.a8,a0.T,a0.Q⟩:g5)
def a0P(a0:g5)(a1:Int):Option g5:=
 (D7 a0.S a1).bind λv1=>
 (b12 v1.1.Strong).bind λv2=>
 (a5R a0 a1 v2).bind λv3=>
 some v3
def a3C(a0:g5)(a1:Int):Option g5:=
 (a7N a0 a1).bind λv1=>
 if (!v1) then
  some a0
 else
 (D7 a0.S a1).bind λv2=>
 (K8 a0.S a1 (⟨v2.1.Serial,v2.1.Strong,v2.1.Weak,v2.1.Prog,true,v2.1.Fields⟩:K7)).bind λv3=>
 (a5Q a0.Q (⟨1,a1,v2.1.Prog⟩:N5)).bind λv4=>
 (a0P (⟨v3.1,a0.Roots,a0.a8,a0.T,v4.1⟩:g5) a1).bind λv5=>
 some v5
def a96(a0:g5)(a1:List Int):Option (List Int):=
 jn (λ(j17:List Int)=>
  some j17) (λκ16=>
  (lp (S:=Int × (List Int)) (E:=(List Int)) (λ((s19,s20):Int × (List Int))=>
   if (decide (s19<(a1.length:Int))) then
    jn (λ(j28:List Int)=>
     some (.inl (p9 (s19+1),j28))) (λκ27=>
     (ix a1 s19).bind λv29=>
     (a3f a0 v29).bind λv30=>
     (z7 (v30==true) false (a7I s20 v29)).bind λv31=>
     if (v30&&(!v31)) then
      (app 8 s20 [v29]).bind λv32=>
      κ27 v32
     else
     κ27 s20)
   else
   some (.inr s20)) (0,[])).bind λe18=>
  κ16 e18)
def b0V(a0:List E1)(a1:List Int):Option ((List E1) × (List Int)):=
 jn (λ((j18,j19):(List Int) × (List E1))=>
  some (j19,j18)) (λκ17=>
  (lp (S:=Int × (List E1) × (List Int)) (E:=((List Int) × (List E1))) (λ((s22,s23,s24):Int × (List E1) × (List Int))=>
   if (decide (s22<(a0.length:Int))) then
    (ix a0 s22).bind λv27=>
    jn (λ((j31,j32):Bool × (List Int))=>
     (app 24 s23 [(⟨v27.Target,j31,v27.Call⟩:E1)]).bind λv34=>
     some (.inl (p9 (s22+1),v34,j32))) (λκ30=>
     (z7 (v27.Intact==true) 0 (a3e a1 v27.Target)).bind λv35=>
     if (v27.Intact&&(decide (v35 > 0))) then
      if (decide (v27.Call≥0)) then
       (app 8 s24 [s22]).bind λv36=>
       κ30 (false,v36)
      else
      κ30 (false,s24)
     else
     κ30 (v27.Intact,s24))
   else
   some (.inr (s24,s23))) (0,[],[])).bind λe21=>
  κ17 e21)
def a2z(a0:List o8)(a1:Int)(a2:o8):Option (List o8):=
 (app 24 [] a0).bind λv1=>
 (ix v1 a1).bind λv2=>
 some (v1.set (a1).toNat a2)
def a61(a0:List o8)(a1:Int):Option ((List o8) × Int × Int):=
 (a2y a0 a1).bind λv1=>
 if (decide (v1<0)) then
  some (a0,0,9)
 else
 (a2z a0 v1 (⟨2,0,0⟩:o8)).bind λv2=>
 (ix a0 v1).bind λv3=>
 some (v2,v3.Val,0)
def a4a(a0:List o8)(a1:List Int):Option ((List o8) × (List Int)):=
 jn (λ((j18,j19):(List o8) × (List Int))=>
  some (j18,j19)) (λκ17=>
  (lp (S:=(List o8) × Int × (List Int)) (E:=((List o8) × (List Int))) (λ((s22,s23,s24):(List o8) × Int × (List Int))=>
   if (decide (s23<(a1.length:Int))) then
    jn (λ((j31,j32):(List o8) × (List Int))=>
     some (.inl (j31,p9 (s23+1),j32))) (λκ30=>
     (ix a1 s23).bind λv34=>
     (a61 s22 v34).bind λv35=>
     if (v35.2.2==0) then
      (app 8 s24 [v35.2.1]).bind λv36=>
      κ30 (v35.1,v36)
     else
     κ30 (s22,s24))
   else
   some (.inr (s22,s24))) (a0,0,[])).bind λe21=>
  κ17 e21)
def a0s(a0:E0)(a1:Int)(a2:K0):Option E0:=
 (app 24 [] a0.a8).bind λv1=>
 (ix v1 a1).bind λv2=>
 some (⟨(v1.set (a1).toNat a2),a0.Last⟩:E0)
def b7y(a0:E0)(a1:Int):Option (E0 × Int):=
 (b11 a0 a1).bind λv1=>
 if (v1.2 != 0) then
  some (a0,v1.2)
 else
 (N4 a0 a1).bind λv2=>
 (ix a0.a8 v2.1).bind λv3=>
 (a0s a0 v2.1 (⟨2,v3.Gen,v3.Val⟩:K0)).bind λv4=>
 some (v4,0)
def a0O(a0:o0)(a1:E0):Option o0:=
 jn (λ(j10:List F4)=>
  some (⟨j10,a0.Last,a0.Serial⟩:o0)) (λκ9=>
  (lp (S:=Int × (List F4)) (E:=(List F4)) (λ((s12,s13):Int × (List F4))=>
   if (decide (s12<(a0.a8.length:Int))) then
    (ix a1.a8 s12).bind λv16=>
    (ix a0.a8 s12).bind λv17=>
    (app 80 s13 [(⟨v16.State,v16.Gen,v17.Val⟩:F4)]).bind λv18=>
    some (.inl (p9 (s12+1),v18))
   else
   some (.inr s13)) (0,[])).bind λe11=>
  κ9 e11)
def b21(a0:o0)(a1:Int):Option o0:=
 (Q6 a0).bind λv1=>
 (b7y v1 a1).bind λv2=>
 (a0O a0 v2.1).bind λv3=>
 some v3
def b7x(a0:E0)(a1:Int):Option (E0 × Int):=
 (N4 a0 a1).bind λv1=>
 if (v1.2 != 0) then
  some (a0,v1.2)
 else
 (ix a0.a8 v1.1).bind λv2=>
 if (decide (v2.Gen≥a0.Last)) then
  (a0s a0 v1.1 (⟨3,v2.Gen,0⟩:K0)).bind λv3=>
  some (v3,0)
 else
 (a0s a0 v1.1 (⟨0,p9 (v2.Gen+1),0⟩:K0)).bind λv4=>
 some (v4,0)
def a90(a0:o0)(a1:Int):Option o0:=
 (Q6 a0).bind λv1=>
 (b7x v1 a1).bind λv2=>
 if (v2.2 != 0) then
  some a0
 else
 (a0O a0 v2.1).bind λv3=>
 (a6X a1).bind λv4=>
 (a2x v3 v4 (⟨0,0,0,0,false,[]⟩:K7)).bind λv5=>
 some v5
def a65(a0:g5)(a1:Int):Option g5:=
 (D7 a0.S a1).bind λv1=>
 (K8 a0.S a1 (⟨v1.1.Serial,0,v1.1.Weak,v1.1.Prog,v1.1.Started,[]⟩:K7)).bind λv2=>
 (b21 v2.1 a1).bind λv3=>
 if (v1.1.Weak==0) then
  (a90 v3 a1).bind λv4=>
  some (⟨v4,a0.Roots,a0.a8,a0.T,a0.Q⟩:g5)
 else
 some (⟨v3,a0.Roots,a0.a8,a0.T,a0.Q⟩:g5)
def b5X(a0:Int):Option (Int × Int):=
 (a1X a0).bind λv1=>
 if v1 then
  some (12,0)
 else
 if (decide (a0<1)) then
  some (0,11)
 else
 some (p9 (a0-1),0)
def D1(a0:g5)(a1:Int):Option g5:=
 (D7 a0.S a1).bind λv1=>
 (b5X v1.1.Strong).bind λv2=>
 if (v2.2 != 0) then
  some a0
 else
 (a5R a0 a1 v2.1).bind λv3=>
 some v3
def a64(a0:g5)(a1:List Int):Option g5:=
 (a96 a0 a1).bind λv1=>
 (b0V a0.a8 v1).bind λv2=>
 jn (λ(j12:C0)=>
  jn (λ(j23:List Int)=>
   (a4a a0.T v1).bind λv24=>
   (app 8 j23 v24.2).bind λv25=>
   jn (λ(j34:g5)=>
    jn (λ(j43:g5)=>
     some j43) (λκ42=>
     (lp (S:=Int × g5) (E:=g5) (λ((s45,s46):Int × g5)=>
      if (decide (s45<(v25.length:Int))) then
       (ix v25 s45).bind λv49=>
       (D1 s46 v49).bind λv50=>
       some (.inl (p9 (s45+1),v50))
      else
      some (.inr s46)) (0,j34)).bind λe44=>
     κ42 e44)) (λκ33=>
    (lp (S:=Int × g5) (E:=g5) (λ((s52,s53):Int × g5)=>
     if (decide (s52<(v1.length:Int))) then
      (ix v1 s52).bind λv56=>
      (a65 s53 v56).bind λv57=>
      some (.inl (p9 (s52+1),v57))
     else
     some (.inr s53)) (0,(⟨a0.S,a0.Roots,v2.1,v24.1,j12⟩:g5))).bind λe51=>
    κ33 e51)) (λκ22=>
   (lp (S:=Int × (List Int)) (E:=(List Int)) (λ((s59,s60):Int × (List Int))=>
    if (decide (s59<(v1.length:Int))) then
     (ix v1 s59).bind λv63=>
     (D7 a0.S v63).bind λv64=>
     (a3c v64.1.Fields).bind λv65=>
     (app 8 s60 v65).bind λv66=>
     some (.inl (p9 (s59+1),v66))
    else
    some (.inr s60)) (0,[])).bind λe58=>
   κ22 e58)) (λκ11=>
  (lp (S:=Int × C0) (E:=C0) (λ((s68,s69):Int × C0)=>
   if (decide (s68<(v2.2.length:Int))) then
    (ix v2.2 s68).bind λv72=>
    (ix v2.1 v72).bind λv73=>
    (a5Q s69 (⟨2,v72,v73.Call⟩:N5)).bind λv74=>
    some (.inl (p9 (s68+1),v74.1))
   else
   some (.inr s69)) (0,a0.Q)).bind λe67=>
  κ11 e67)
def L7(a0:g5):Option g5:=
 jn (λ(j21:g5)=>
  some j21) (λκ20=>
  (lp (S:=Int × g5) (E:=g5 ⊕ g5) (λ((s23,s24):Int × g5)=>
   if (decide (s23<100)) then
    jn (λ(j34:g5)=>
     some (.inl (p9 (s23+1),j34))) (λκ33=>
     (a95 s24).bind λv35=>
     if ((v35.length:Int)==0) then
      some (.inr (.inl s24))
     else
     (ix v35 0).bind λv36=>
     (a7N s24 v36).bind λv37=>
     if v37 then
      (a3C s24 v36).bind λv38=>
      κ33 v38
     else
     (cut v35 0 1).bind λv39=>
     (a64 s24 v39).bind λv40=>
     κ33 v40)
   else
   some (.inr (.inr s24))) (0,a0)).bind λe22=>
  match e22 with
  | .inl w=>some w
  | .inr w=>κ20 w)
def a67(a0:g5):Option (g5 × Int × Int):=
 (b00 a0).bind λv1=>
 jn (λ(_:Unit)=>
  (a4b a0).bind λv20=>
  (a64 a0 v20).bind λv21=>
  (L7 v21).bind λv22=>
  (a1r a0.S).bind λv23=>
  (a1r v22.S).bind λv24=>
  some (v22,0,p9 ((v23.length:Int)-(v24.length:Int)))) (λκ18=>
  if (decide ((v1.length:Int) > 0)) then
   jn (λ(j33:g5)=>
    some (j33,(v1.length:Int),0)) (λκ32=>
    (lp (S:=Int × g5) (E:=g5) (λ((s35,s36):Int × g5)=>
     if (decide (s35<(v1.length:Int))) then
      (ix v1 s35).bind λv39=>
      (a3C s36 v39).bind λv40=>
      some (.inl (p9 (s35+1),v40))
     else
     some (.inr s36)) (0,a0)).bind λe34=>
    κ32 e34)
  else
  κ18 ())
def b01(a0:g5):Option Bool:=
 some ((a0.Q.L.length:Int)==0)
def a69(a0:List (List L8))(a1:Int):Option (List L8):=
 if ((decide (a1<0))||(decide (a1≥(a0.length:Int)))) then
  some []
 else
 (ix a0 a1).bind λv1=>
 some v1
def a68(a0:List (List L8))(a1:N5):Option Int:=
 (a69 a0 a1.Prog).bind λv1=>
 some (p9 (1+(v1.length:Int)))
def b27(a0:C0):Option (C0 × N5 × Int):=
 if ((a0.L.length:Int)==0) then
  some (a0,(⟨0,0,0⟩:N5),10)
 else
 (cut a0.L 1 (a0.L.length:Int)).bind λv1=>
 (ix a0.L 0).bind λv2=>
 some ((⟨v1,a0.Cap⟩:C0),v2,0)
def T5(a0:g5)(a1:Int)(a2:Int):Option (g5 × Int):=
 if ((decide (a1<0))||(decide (a1 > 5))) then
  some (a0,6)
 else
 (a3g a0 a2).bind λv1=>
 if (!v1) then
  some (a0,3)
 else
 (ix a0.Roots a1).bind λv2=>
 (a0P a0 a2).bind λv3=>
 (app 8 [] a0.Roots).bind λv4=>
 (ix v4 a1).bind λv5=>
 (D1 (⟨v3.S,(v4.set (a1).toNat a2),v3.a8,v3.T,v3.Q⟩:g5) v2).bind λv6=>
 some (v6,0)
def b50(a0:List E1)(a1:Int)(a2:Int)(a3:Int):Option ((List E1) × Int × Int):=
 if ((decide (a1<0))||(decide (a1≥(a0.length:Int)))) then
  some (a0,0,7)
 else
 (app 24 [] a0).bind λv1=>
 (ix v1 a1).bind λv2=>
 (ix a0 a1).bind λv3=>
 some ((v1.set (a1).toNat (⟨a2,(a2 != 0),a3⟩:E1)),v3.Target,0)
def a00(a0:g5)(a1:Int):Option g5:=
 (Q6 a0.S).bind λv1=>
 (N4 v1 a1).bind λv2=>
 if (v2.2 != 0) then
  some a0
 else
 (ix a0.S.a8 v2.1).bind λv3=>
 (K8 a0.S a1 (⟨v3.Val.Serial,v3.Val.Strong,p9 (v3.Val.Weak-1),v3.Val.Prog,v3.Val.Started,v3.Val.Fields⟩:K7)).bind λv4=>
 (ix v4.1.a8 v2.1).bind λv5=>
 if ((v5.State==2)&&(decide ((p9 (v3.Val.Weak-1))<1))) then
  (a90 v4.1 a1).bind λv6=>
  some (⟨v6,a0.Roots,a0.a8,a0.T,a0.Q⟩:g5)
 else
 some (⟨v4.1,a0.Roots,a0.a8,a0.T,a0.Q⟩:g5)
def a3B(a0:g5)(a1:Int)(a2:Int)(a3:Int):Option (g5 × Int):=
 (z7 (((decide (a1<0))||(decide (a1 > 5)))==false) false (a7M a0.Q a1)).bind λv1=>
 if (((decide (a1<0))||(decide (a1 > 5)))||v1) then
  some (a0,7)
 else
 (a3g a0 a2).bind λv2=>
 if (!v2) then
  some (a0,3)
 else
 (b50 a0.a8 a1 a2 a3).bind λv3=>
 if (a2 != 0) then
  (D7 a0.S a2).bind λv4=>
  (K8 a0.S a2 (⟨v4.1.Serial,v4.1.Strong,p9 (v4.1.Weak+1),v4.1.Prog,v4.1.Started,v4.1.Fields⟩:K7)).bind λv5=>
  (a00 (⟨v5.1,a0.Roots,v3.1,a0.T,a0.Q⟩:g5) v3.2.1).bind λv6=>
  some (v6,0)
 else
 (a00 (⟨a0.S,a0.Roots,v3.1,a0.T,a0.Q⟩:g5) v3.2.1).bind λv7=>
 some (v7,0)
def U3(a0:g5)(a1:Int):Option (Int × Int):=
 (ix a0.Roots a1).bind λv1=>
 if (v1==0) then
  some (0,2)
 else
 some (v1,0)
def a4R(a0:g5)(a1:Int):Option Int:=
 if (decide (a1<0)) then
  some 0
 else
 (ix a0.Roots a1).bind λv1=>
 some v1
def b20(a0:List Int)(a1:Int):Option (Int × Int):=
 if ((decide (a1<0))||(decide (a1≥(a0.length:Int)))) then
  some (0,5)
 else
 (ix a0 a1).bind λv1=>
 some (v1,0)
def a3d(a0:o0)(a1:Int)(a2:Int):Option (Int × Int):=
 (D7 a0 a1).bind λv1=>
 if (v1.2 != 0) then
  some (0,v1.2)
 else
 (b20 v1.1.Fields a2).bind λv2=>
 some (v2.1,v2.2)
def b7z(a0:List Int)(a1:Int)(a2:Int):Option ((List Int) × Int):=
 if ((decide (a1<0))||(decide (a1≥(a0.length:Int)))) then
  some (a0,5)
 else
 (app 8 [] a0).bind λv1=>
 (ix v1 a1).bind λv2=>
 some ((v1.set (a1).toNat a2),0)
def b5Z(a0:o0)(a1:Int)(a2:Int)(a3:Int):Option (o0 × Int):=
 (D7 a0 a1).bind λv1=>
 if (v1.2 != 0) then
  some (a0,v1.2)
 else
 (b7z v1.1.Fields a2 a3).bind λv2=>
 if (v2.2 != 0) then
  some (a0,v2.2)
 else
 (K8 a0 a1 (⟨v1.1.Serial,v1.1.Strong,v1.1.Weak,v1.1.Prog,v1.1.Started,v2.1⟩:K7)).bind λv3=>
 some (v3.1,v3.2)
def a4Q(a0:g5)(a1:Int)(a2:Int)(a3:Int):Option (g5 × Int):=
 (a3d a0.S a1 a2).bind λv1=>
 if (v1.2 != 0) then
  some (a0,v1.2)
 else
 (a3g a0 a3).bind λv2=>
 if (!v2) then
  some (a0,3)
 else
 (a0P a0 a3).bind λv3=>
 (b5Z v3.S a1 a2 a3).bind λv4=>
 (D1 (⟨v4.1,v3.Roots,v3.a8,v3.T,v3.Q⟩:g5) v1.1).bind λv5=>
 some (v5,0)
def b51(a0:List o8)(a1:Int)(a2:Int):Option ((List o8) × Int):=
 (a2y a0 a1).bind λv1=>
 if (decide (v1≥0)) then
  (a2z a0 v1 (⟨1,a1,a2⟩:o8)).bind λv2=>
  some (v2,0)
 else
 (b7A (a0.length:Int) a1).bind λv3=>
 jn (λ(_:Unit)=>
  some (a0,8)) (λκ12=>
  (lp (S:=Int × Int) (E:=((List o8) × Int) ⊕ Unit) (λ((s15,s16):Int × Int)=>
   if (decide (s16<(a0.length:Int))) then
    (ix a0 s15).bind λv19=>
    if (v19.State != 1) then
     (a2z a0 s15 (⟨1,a1,a2⟩:o8)).bind λv20=>
     some (.inr (.inl (v20,0)))
    else
    (rem (p9 (s15+1)) (a0.length:Int)).bind λv21=>
    some (.inl (v21,p9 (s16+1)))
   else
   some (.inr (.inr ()))) (v3,0)).bind λe14=>
  match e14 with
  | .inl w=>some w
  | .inr w=>κ12 w)
def b52(a0:List o8)(a1:Int)(a2:Int):Option ((List o8) × Int × Int):=
 if (a1==0) then
  some (a0,0,2)
 else
 (a92 a0 a1).bind λv1=>
 if (a2==0) then
  (a61 a0 a1).bind λv2=>
  some (v2.1,v1.1,0)
 else
 (b51 a0 a1 a2).bind λv3=>
 if (v3.2 != 0) then
  some (a0,0,v3.2)
 else
 some (v3.1,v1.1,0)
def a63(a0:g5)(a1:Int)(a2:Int):Option (g5 × Int):=
 if (a1==0) then
  some (a0,2)
 else
 (a3f a0 a1).bind λv1=>
 (z7 ((!v1)==false) false (a3g a0 a2)).bind λv2=>
 if ((!v1)||(!v2)) then
  some (a0,3)
 else
 (b52 a0.T a1 a2).bind λv3=>
 if (v3.2.2 != 0) then
  some (a0,v3.2.2)
 else
 (a0P a0 a2).bind λv4=>
 (D1 (⟨v4.S,v4.Roots,v4.a8,v3.1,v4.Q⟩:g5) v3.2.1).bind λv5=>
 some (v5,0)
def a02(a0:g5)(a1:L8):Option (g5 × Int × Int):=
 if ((a1.Kind==6)&&(decide (a1.B<0))) then
  (a3B a0 a1.A 0 a1.C).bind λv1=>
  some (v1.1,0,v1.2)
 else
 jn (λ(j3:Int)=>
  (U3 a0 j3).bind λv4=>
  if (v4.2 != 0) then
   some (a0,0,v4.2)
  else
  if (a1.Kind==5) then
   (a4R a0 a1.C).bind λv5=>
   (a4Q a0 v4.1 a1.B v5).bind λv6=>
   some (v6.1,v5,v6.2)
  else
  if (a1.Kind==6) then
   (a3B a0 a1.A v4.1 a1.C).bind λv7=>
   some (v7.1,v4.1,v7.2)
  else
  (a4R a0 a1.B).bind λv8=>
  (a63 a0 v4.1 v8).bind λv9=>
  some (v9.1,v8,v9.2)) (λκ2=>
  if (a1.Kind==6) then
   κ2 a1.B
  else
  κ2 a1.A)
def a3D(a0:g5)(a1:Int):Option Int:=
 (D7 a0.S a1).bind λv1=>
 some v1.1.Serial
def b13(a0:Int):Option ((List Int) × Int):=
 if ((decide (a0<0))||(decide (a0 > 4))) then
  some ([],1)
 else
 (mk 8 a0 (0:Int)).bind λv1=>
 some (v1,0)
def a6Z(a0:E0)(a1:Int):Option (E0 × Int × Int):=
 jn (λ(_:Unit)=>
  some (a0,0,4)) (λκ7=>
  (lp (S:=Int) (E:=(E0 × Int × Int) ⊕ Unit) (λ(s10:Int)=>
   if (decide (s10<(a0.a8.length:Int))) then
    (ix a0.a8 s10).bind λv12=>
    if (v12.State==0) then
     (a0s a0 s10 (⟨1,v12.Gen,a1⟩:K0)).bind λv13=>
     (a4P s10 v12.Gen).bind λv14=>
     some (.inr (.inl (v13,v14,0)))
    else
    some (.inl (p9 (s10+1)))
   else
   some (.inr (.inr ()))) 0).bind λe9=>
  match e9 with
  | .inl w=>some w
  | .inr w=>κ7 w)
def a2w(a0:o0)(a1:Int)(a2:Int):Option (o0 × Int × Int):=
 (b13 a1).bind λv1=>
 if (v1.2 != 0) then
  some (a0,0,v1.2)
 else
 if ((decide (a2<(-1)))||(decide (a2 > 5))) then
  some (a0,0,13)
 else
 (Q6 a0).bind λv2=>
 (a6Z v2 0).bind λv3=>
 if (v3.2.2 != 0) then
  some (a0,0,v3.2.2)
 else
 (a0O a0 v3.1).bind λv4=>
 (a6X v3.2.1).bind λv5=>
 (a2x v4 v5 (⟨p9 (a0.Serial+1),0,0,a2,false,v1.1⟩:K7)).bind λv6=>
 some ((⟨v6.a8,v6.Last,p9 (a0.Serial+1)⟩:o0),v3.2.1,0)
def b0Z(a0:g5)(a1:Int):Option Int:=
 if ((decide (a1<0))||(decide (a1 > 5))) then
  some 0
 else
 (ix a0.Roots a1).bind λv1=>
 (a3D a0 v1).bind λv2=>
 some v2
def a91(a0:List E1)(a1:Int):Option (Int × Int):=
 if ((decide (a1<0))||(decide (a1≥(a0.length:Int)))) then
  some (0,7)
 else
 (ix a0 a1).bind λv1=>
 if ((v1.Target==0)||(!v1.Intact)) then
  some (0,9)
 else
 some (v1.Target,0)
def b15(a0:List o8)(a1:Int):Option (Int × Int):=
 (a92 a0 a1).bind λv1=>
 some (v1.1,v1.2)
def a1Z(a0:g5)(a1:L8):Option (Int × Int):=
 if (a1.Kind==2) then
  (ix a0.Roots a1.B).bind λv1=>
  some (v1,0)
 else
 if (a1.Kind==4) then
  (U3 a0 a1.B).bind λv2=>
  if (v2.2 != 0) then
   some (0,v2.2)
  else
  (a3d a0.S v2.1 a1.C).bind λv3=>
  some (v3.1,v3.2)
 else
 if (a1.Kind==7) then
  (a91 a0.a8 a1.B).bind λv4=>
  some (v4.1,v4.2)
 else
 if (a1.Kind==9) then
  (U3 a0 a1.B).bind λv5=>
  if (v5.2 != 0) then
   some (0,v5.2)
  else
  (b15 a0.T v5.1).bind λv6=>
  some (v6.1,v6.2)
 else
 some (0,0)
def A9(a0:g5)(a1:L8):Option (g5 × Int × Int):=
 (a01 a1).bind λv1=>
 if (v1 != 0) then
  some (a0,0,v1)
 else
 (U2 a1).bind λv2=>
 if (!v2) then
  some (a0,0,14)
 else
 if (a1.Kind==10) then
  (ix a0.Roots a1.A).bind λv3=>
  (ix a0.Roots a1.B).bind λv4=>
  if (v3==v4) then
   some (a0,1,0)
  else
  some (a0,0,0)
 else
 jn (λ(j6:Bool)=>
  if j6 then
   (a02 a0 a1).bind λv7=>
   if (v7.2.2 != 0) then
    some (a0,0,v7.2.2)
   else
   (L7 v7.1).bind λv8=>
   (a3D a0 v7.2.1).bind λv9=>
   some (v8,v9,0)
  else
  if (a1.Kind==1) then
   (a2w a0.S a1.B a1.C).bind λv10=>
   if (v10.2.2 != 0) then
    some (a0,0,v10.2.2)
   else
   (T5 (⟨v10.1,a0.Roots,a0.a8,a0.T,a0.Q⟩:g5) a1.A v10.2.1).bind λv11=>
   (L7 v11.1).bind λv12=>
   (b0Z v12 a1.A).bind λv13=>
   some (v12,v13,0)
  else
  (a1Z a0 a1).bind λv14=>
  if (v14.2 != 0) then
   some (a0,0,v14.2)
  else
  (T5 a0 a1.A v14.1).bind λv15=>
  (L7 v15.1).bind λv16=>
  (b0Z v16 a1.A).bind λv17=>
  some (v16,v17,0)) (λκ5=>
  if (a1.Kind==5) then
   κ5 (a1.Kind==5)
  else
  if (a1.Kind==6) then
   κ5 (a1.Kind==6)
  else
  κ5 (a1.Kind==8))
def b16(a0:g5)(a1:List L8):Option (g5 × (List Int)):=
 jn (λ((j11,j12):g5 × (List Int))=>
  some (j11,j12)) (λκ10=>
  (lp (S:=Int × g5 × (List Int)) (E:=(g5 × (List Int))) (λ((s15,s16,s17):Int × g5 × (List Int))=>
   if (decide (s15<(a1.length:Int))) then
    (ix a1 s15).bind λv20=>
    (A9 s16 v20).bind λv21=>
    (app 8 s17 [v21.2.1]).bind λv22=>
    some (.inl (p9 (s15+1),v21.1,v22))
   else
   some (.inr (s16,s17))) (0,a0,[])).bind λe14=>
  κ10 e14)
def b28(a0:g5)(a1:List (List L8)):Option (g5 × N5 × Int):=
 (b27 a0.Q).bind λv1=>
 if (v1.2.2 != 0) then
  some (a0,(⟨0,0,0⟩:N5),v1.2.2)
 else
 jn (λ(j6:g5)=>
  (a69 a1 v1.2.1.Prog).bind λv7=>
  (b16 j6 v7).bind λv8=>
  if (v1.2.1.Kind==1) then
   (T5 v8.1 5 0).bind λv9=>
   (L7 v9.1).bind λv10=>
   some (v10,v1.2.1,0)
  else
  some (v8.1,v1.2.1,0)) (λκ5=>
  if (v1.2.1.Kind==1) then
   (T5 (⟨a0.S,a0.Roots,a0.a8,a0.T,v1.1⟩:g5) 5 v1.2.1.At).bind λv11=>
   (D1 v11.1 v1.2.1.At).bind λv12=>
   (L7 v12).bind λv13=>
   κ5 v13
  else
  κ5 (⟨a0.S,a0.Roots,a0.a8,a0.T,v1.1⟩:g5))
def a7P(a0:g5)(a1:List (List L8))(a2:Int):Option (g5 × Int × Int × Int):=
 jn (λ((j12,j13,j14):Int × Int × g5)=>
  some (j14,j13,j12,0)) (λκ11=>
  (lp (S:=Int × Int × g5) (E:=(g5 × Int × Int × Int) ⊕ (Int × Int × g5)) (λ((s17,s18,s19):Int × Int × g5)=>
   (b01 s19).bind λv22=>
   if (!v22) then
    (ix s19.Q.L 0).bind λv23=>
    (a68 a1 v23).bind λv24=>
    if (decide (v24 > s17)) then
     some (.inr (.inl (s19,s18,s17,12)))
    else
    (b28 s19 a1).bind λv25=>
    some (.inl (p9 (s17-v24),p9 (s18+1),v25.1))
   else
   some (.inr (.inr (s17,s18,s19)))) (a2,0,a0)).bind λe16=>
  match e16 with
  | .inl w=>some w
  | .inr w=>κ11 w)
def b87(a0:C2)(a1:List Int):Option (C2 × H0):=
 (a1Y a1).bind λv1=>
 if (v1.2 != 0) then
  some (a0,(⟨0,v1.2⟩:H0))
 else
 if (v1.1.Kind==11) then
  (a67 a0.X).bind λv2=>
  some ((⟨v2.1,a0.Progs⟩:C2),(⟨p9 (v2.2.2-v2.2.1),0⟩:H0))
 else
 if (v1.1.Kind==12) then
  (a7P a0.X a0.Progs v1.1.A).bind λv3=>
  some ((⟨v3.1,a0.Progs⟩:C2),(⟨v3.2.1,v3.2.2.2⟩:H0))
 else
 (A9 a0.X v1.1).bind λv4=>
 some ((⟨v4.1,a0.Progs⟩:C2),(⟨v4.2.1,v4.2.2⟩:H0))
def b17(a0:C2)(a1:List (List Int)):Option (C2 × (List H0)):=
 jn (λ((j11,j12):C2 × (List H0))=>
  some (j11,j12)) (λκ10=>
  (lp (S:=Int × C2 × (List H0)) (E:=(C2 × (List H0))) (λ((s15,s16,s17):Int × C2 × (List H0))=>
   if (decide (s15<(a1.length:Int))) then
    (ix a1 s15).bind λv20=>
    (b87 s16 v20).bind λv21=>
    (app 16 s17 [v21.2]).bind λv22=>
    some (.inl (p9 (s15+1),v21.1,v22))
   else
   some (.inr (s16,s17))) (0,a0,[])).bind λe14=>
  κ10 e14)
end
end Go.Sh
