/-
 Plain functions: what the functions of the program come to.
-/
import Derived.Test.YtjpgbnlcefhaiaaGreatW24bSh0
import Derived.Test.YtjpgbnlcefhaiaaGreatW24bPwD
import Derived.Test.YtjpgbnlcefhaiaaGreatW24bPwC
set_option linter.unusedVariables false
set_option linter.unusedSimpArgs false
set_option linter.unusedSectionVars false
namespace Go.Sh
set_option maxRecDepth 100000
noncomputable section
structure m7 where
 Serial:Int
 Strong:Int
 Weak:Int
 Prog:Int
 Started:Bool
 Fields:List Int
structure b7 where
 State:Int
 Gen:Int
 Val:m7
structure e6 where
 Target:Int
 Intact:Bool
 Call:Int
structure b8 where
 State:Int
 Key:Int
 Val:Int
structure k9 where
 Kind:Int
 At:Int
 Prog:Int
structure g9 where
 Kind:Int
 A:Int
 B:Int
 C:Int
structure g8 where
 part:Fv
 least:Int
 most:Int
 e:Int
structure c8 where
 a8:List b7
 Last:Int
structure a7 where
 S:c8
 Serial:Int
structure c9 where
 L:List k9
 Cap:Int
structure b6 where
 S:a7
 Roots:List Int
 a8:List e6
 T:List b8
 Q:c9
structure c7 where
 X:b6
 Progs:List (List g9)
structure g7 where
 V:Int
 E:Int
structure o8 where
 x:b6
 o:g9
structure G4 where
 r:Int
 h:Int
structure E9 where
 h:Int
 k:Int
 v:Int
structure G3 where
 t:List b8
structure m9 where
 Key:Int
 Val:Int
structure k7 where
 L:List Int
 Cap:Int
def a17(a0:g9):Option Bool:=
 some ((decide (a0.Kind≥1))&&(decide (a0.Kind≤10)))
def X0:Option g8:=
 some (⟨(some 114),0,5,6⟩:g8)
def Q0:Option g8:=
 some (⟨(some 117),(-1),5,13⟩:g8)
def H4(a0:List g8):Option (List g8):=
 some a0
def X4:Option g8:=
 some (⟨(some 115),0,5,6⟩:g8)
def U2:Option g8:=
 some (⟨(some 117),0,3,5⟩:g8)
def U1:Option g8:=
 some (⟨(some 115),0,3,5⟩:g8)
def L7:Option g8:=
 some (⟨(some 117),(-1),5,6⟩:g8)
def W8:Option g8:=
 some (⟨(some 114),0,5,7⟩:g8)
def L6:Option g8:=
 some (⟨(some 115),(-1),5,6⟩:g8)
def W9:Option g8:=
 some (⟨(some 115),0,5,7⟩:g8)
def a5U:Option (List (Int × (List g8))):=
 (X0).bind λv1=>
 (Q0).bind λv2=>
 (H4 [v1,(⟨(some 115),0,4,1⟩:g8),v2]).bind λv3=>
 (X4).bind λv4=>
 (H4 [v1,v4]).bind λv5=>
 (H4 [v1]).bind λv6=>
 (U2).bind λv7=>
 (H4 [v1,v4,v7]).bind λv8=>
 (U1).bind λv9=>
 (L7).bind λv10=>
 (H4 [v1,v9,v10]).bind λv11=>
 (W8).bind λv12=>
 (L6).bind λv13=>
 (H4 [v12,v13,v2]).bind λv14=>
 (W9).bind λv15=>
 (H4 [v1,v15]).bind λv16=>
 (H4 [v1,v13]).bind λv17=>
 (H4 []).bind λv18=>
 (H4 [(⟨(some 114),0,200,12⟩:g8)]).bind λv19=>
 some (o6 (o6 (o6 (o6 (o6 (o6 (o6 (o6 (o6 (o6 (o6 (o6 [] 1 v3) 2 v5) 3 v6) 4 v8) 5 v11) 6 v14) 7 v16) 8 v17) 9 v5) 10 v5) 11 v18) 12 v19)
def a9n(a0:g9):Option Int:=
 some a0.A
def a9o(a0:g9):Option Int:=
 some a0.B
def a9p(a0:g9):Option Int:=
 some a0.C
def a99(f:Fv)(a0:g9):Option Int:=
 if f=some 114 then a9n a0 else
 if f=some 115 then a9o a0 else
 if f=some 117 then a9p a0 else
 none
def P9(a0:g9):Option Int:=
 (a5U).bind λv1=>
 if (!((A1 v1 a0.Kind).isSome)) then
  some 14
 else
 jn (λ(_:Unit)=>
  some 0) (λκ8=>
  (lp (S:=Int) (E:=Int ⊕ Unit) (λ(s11:Int)=>
   if (decide (s11<(((A1 v1 a0.Kind).getD ([]:List g8)).length:Int))) then
    (ix ((A1 v1 a0.Kind).getD ([]:List g8)) s11).bind λv13=>
    (a99 v13.part a0).bind λv14=>
    if ((decide (v14<v13.least))||(decide (v14 > v13.most))) then
     some (.inr (.inl v13.e))
    else
    some (.inl (p7 (s11+1)))
   else
   some (.inr (.inr ()))) 0).bind λe10=>
  match e10 with
  | .inl w=>some w
  | .inr w=>κ8 w)
def a18(a0:List (List g9)):Option Bool:=
 if (decide ((a0.length:Int) > 6)) then
  some false
 else
 jn (λ(_:Unit)=>
  some true) (λκ20=>
  (lp (S:=Int) (E:=Bool ⊕ Unit) (λ(s23:Int)=>
   if (decide (s23<(a0.length:Int))) then
    jn (λ(_:Unit)=>
     some (.inl (p7 (s23+1)))) (λκ32=>
     (ix a0 s23).bind λv34=>
     if (decide ((v34.length:Int) > 6)) then
      some (.inr (.inl false))
     else
     (lp (S:=Int) (E:=Bool ⊕ Unit) (λ(s36:Int)=>
      if (decide (s36<(v34.length:Int))) then
       (ix v34 s36).bind λv38=>
       (a17 v38).bind λv39=>
       (u6 ((!v39)==false) 0 (P9 v38)).bind λv40=>
       if ((!v39)||(v40 != 0)) then
        some (.inr (.inl false))
       else
       some (.inl (p7 (s36+1)))
      else
      some (.inr (.inr ()))) 0).bind λe35=>
     match e35 with
     | .inl w=>some (.inr (.inl w))
     | .inr w=>κ32 w)
   else
   some (.inr (.inr ()))) 0).bind λe22=>
  match e22 with
  | .inl w=>some w
  | .inr w=>κ20 w)
def U7(a0:Int)(a1:Int):Option c8:=
 if ((((decide (a0<0))||(decide (a0 > 24)))||(decide (a1<0)))||(decide (a1 > 9))) then
  some (⟨[],0⟩:c8)
 else
 (mk 80 a0 (⟨0,0,⟨0,0,0,0,false,[]⟩⟩:b7)).bind λv1=>
 some (⟨v1,a1⟩:c8)
def a3I(a0:Int)(a1:Int):Option a7:=
 (U7 a0 a1).bind λv1=>
 some (⟨v1,0⟩:a7)
def b8P(a0:Int):Option (List e6):=
 if ((decide (a0<0))||(decide (a0 > 6))) then
  some []
 else
 (mk 24 a0 (⟨0,false,0⟩:e6)).bind λv1=>
 jn (λ(j9:List e6)=>
  some j9) (λκ8=>
  (lp (S:=Int × (List e6)) (E:=(List e6)) (λ((s11,s12):Int × (List e6))=>
   if (decide (s11<(v1.length:Int))) then
    (ix s12 s11).bind λv15=>
    some (.inl (p7 (s11+1),(s12.set (s11).toNat (⟨v15.Target,v15.Intact,(-1)⟩:e6))))
   else
   some (.inr s12)) (0,v1)).bind λe10=>
  κ8 e10)
def b0h(a0:Int):Option (List b8):=
 if ((decide (a0<1))||(decide (a0 > 8))) then
  some []
 else
 (mk 24 a0 (⟨0,0,0⟩:b8)).bind λv1=>
 some v1
def a0A(a0:Int):Option c9:=
 some (⟨[],a0⟩:c9)
def b8E:Option c9:=
 (a0A 30).bind λv1=>
 some v1
def a3T(a0:Int)(a1:Int)(a2:Int):Option b6:=
 if ((((((decide (a0<1))||(decide (a0 > 24)))||(decide (a1<0)))||(decide (a1 > 9)))||(decide (a2<1)))||(decide (a2 > 8))) then
  some (⟨⟨⟨[],0⟩,0⟩,[],[],[],⟨[],0⟩⟩:b6)
 else
 (a3I a0 a1).bind λv1=>
 (mk 8 6 (0:Int)).bind λv2=>
 (b8P 6).bind λv3=>
 (b0h a2).bind λv4=>
 (b8E).bind λv5=>
 some (⟨v1,v2,v3,v4,v5⟩:b6)
def a2b(a0:Int)(a1:Int)(a2:Int)(a3:List (List g9)):Option (c7 × Int):=
 (a18 a3).bind λv1=>
 if (!v1) then
  some ((⟨⟨⟨⟨[],0⟩,0⟩,[],[],[],⟨[],0⟩⟩,[]⟩:c7),13)
 else
 (a3T a0 a1 a2).bind λv2=>
 if ((v2.Roots.length:Int)==0) then
  some ((⟨⟨⟨⟨[],0⟩,0⟩,[],[],[],⟨[],0⟩⟩,[]⟩:c7),1)
 else
 some ((⟨v2,a3⟩:c7),0)
def a0e(a0:Int)(a1:Int):Option c7:=
 (a2b a0 a1 8 []).bind λv1=>
 some v1.1
def C5(a0:Int)(a1:Int)(a2:Int)(a3:Int):Option (List Int):=
 some [a0,a1,a2,a3]
def T8(a0:List Int):Option (g9 × Int):=
 if ((a0.length:Int) != 4) then
  some ((⟨0,0,0,0⟩:g9),14)
 else
 (ix a0 0).bind λv1=>
 (ix a0 1).bind λv2=>
 (ix a0 2).bind λv3=>
 (ix a0 3).bind λv4=>
 (P9 (⟨v1,v2,v3,v4⟩:g9)).bind λv5=>
 if (v5 != 0) then
  some ((⟨0,0,0,0⟩:g9),v5)
 else
 some ((⟨v1,v2,v3,v4⟩:g9),0)
def a5X(a0:g9):Option Ifc:=
 if (a0.Kind==11) then
  some (⟨89,[]⟩:Ifc)
 else
 if (a0.Kind==12) then
  some (⟨93,[a0.A]⟩:Ifc)
 else
 some (⟨85,[a0.Kind,a0.A,a0.B,a0.C]⟩:Ifc)
def a2x:Option (List (Int × Fv)):=
 some (o6 (o6 (o6 (o6 (o6 (o6 (o6 (o6 (o6 (o6 [] 1 (some 65)) 2 (some 66)) 3 (some 67)) 4 (some 68)) 5 (some 69)) 6 (some 70)) 7 (some 71)) 8 (some 72)) 9 (some 73)) 10 (some 74))
def b7b(a0:Int):Option ((List Int) × Int):=
 if ((decide (a0<0))||(decide (a0 > 4))) then
  some ([],1)
 else
 (mk 8 a0 (0:Int)).bind λv1=>
 some (v1,0)
def P7(a0:Int):Option Bool:=
 some ((decide (a0≥(-1)))&&(decide (a0<6)))
def L4(a0:c8):Option c8:=
 some a0
def w7(a0:List b7):Option (List b7):=
 app 80 [] a0
def B2(a0:c8)(a1:Int)(a2:b7):Option c8:=
 (w7 a0.a8).bind λv1=>
 (ix v1 a1).bind λv2=>
 some (⟨(v1.set (a1).toNat a2),a0.Last⟩:c8)
def a1g(a0:Int)(a1:Int):Option Int:=
 if ((((decide (a0<0))||(decide (a0≥24)))||(decide (a1<0)))||(decide (a1 > 9))) then
  some 0
 else
 some (p7 ((p7 (1+(p7 (a0*1))))+(p7 (a1*32))))
def H3(a0:c8)(a1:m7):Option (c8 × Int × Int):=
 jn (λ(_:Unit)=>
  some (a0,0,4)) (λκ9=>
  (L4 a0).bind λv11=>
  (lp (S:=Int) (E:=(c8 × Int × Int) ⊕ Unit) (λ(s13:Int)=>
   if (decide (s13<(v11.a8.length:Int))) then
    (ix v11.a8 s13).bind λv15=>
    if ((v15.State==0)==true) then
     (ix a0.a8 s13).bind λv16=>
     (B2 a0 s13 (⟨1,v16.Gen,a1⟩:b7)).bind λv17=>
     (a1g s13 v16.Gen).bind λv18=>
     some (.inr (.inl (v17,v18,0)))
    else
    some (.inl (p7 (s13+1)))
   else
   some (.inr (.inr ()))) 0).bind λe12=>
  match e12 with
  | .inl w=>some w
  | .inr w=>κ9 w)
def Q6(a0:a7)(a1:Int)(a2:Int):Option (a7 × Int × Int):=
 (b7b a1).bind λv1=>
 if (v1.2 != 0) then
  some (a0,0,v1.2)
 else
 (P7 a2).bind λv2=>
 if (!v2) then
  some (a0,0,13)
 else
 (H3 a0.S (⟨p7 (a0.Serial+1),0,0,a2,false,v1.1⟩:m7)).bind λv3=>
 if (v3.2.2 != 0) then
  some (a0,0,v3.2.2)
 else
 some ((⟨v3.1,p7 (a0.Serial+1)⟩:a7),v3.2.1,0)
def a1z(a0:Int):Option (Int × Int × Bool):=
 if (decide (a0<1)) then
  some ((-1),(-1),false)
 else
 (rem (p7 (a0-1)) 32).bind λv1=>
 (quo .i64 v1 1).bind λv2=>
 (quo .i64 (p7 (a0-1)) 32).bind λv3=>
 if ((decide (v2≥24))||(decide (v3 > 9))) then
  some ((-1),(-1),false)
 else
 some (v2,v3,true)
def a2H(a0:Int):Option Int:=
 (a1z a0).bind λv1=>
 some v1.1
def a3R(a0:Int):Option Int:=
 (a1z a0).bind λv1=>
 some v1.2.1
def r9(a0:c8)(a1:Int):Option (Int × Int):=
 if (a1==0) then
  some ((-1),2)
 else
 (a2H a1).bind λv1=>
 if ((decide (v1<0))||(decide (v1≥(a0.a8.length:Int)))) then
  some ((-1),3)
 else
 (ix a0.a8 v1).bind λv2=>
 (a3R a1).bind λv3=>
 if ((v2.Gen != v3)||((v2.State != 1)&&(v2.State != 2))) then
  some ((-1),3)
 else
 some (v1,0)
def C1(a0:c8)(a1:Int):Option (m7 × Int):=
 (r9 a0 a1).bind λv1=>
 if (v1.2 != 0) then
  some ((⟨0,0,0,0,false,[]⟩:m7),v1.2)
 else
 (ix a0.a8 v1.1).bind λv2=>
 if (v2.State==2) then
  some ((⟨0,0,0,0,false,[]⟩:m7),3)
 else
 some (v2.Val,0)
def u9(a0:a7)(a1:Int):Option (m7 × Int):=
 (C1 a0.S a1).bind λv1=>
 some (v1.1,v1.2)
def a4v(a0:b6)(a1:Int):Option Bool:=
 (u9 a0.S a1).bind λv1=>
 some (v1.2==0)
def J0(a0:b6)(a1:Int):Option Bool:=
 (u6 ((a1==0)==false) false (a4v a0 a1)).bind λv1=>
 some ((a1==0)||v1)
def E2(a0:Int):Option Bool:=
 some (decide (a0≥12))
def a3M(a0:Int):Option (Int × Int):=
 (E2 a0).bind λv1=>
 if v1 then
  some (12,0)
 else
 some (p7 ((if 0 > a0 then 0 else a0)+1),0)
def a74(a0:Int):Option Int:=
 (a3M a0).bind λv1=>
 some v1.1
def I3(a0:c8)(a1:Int)(a2:m7):Option (c8 × Int):=
 (r9 a0 a1).bind λv1=>
 if (v1.2 != 0) then
  some (a0,v1.2)
 else
 (ix a0.a8 v1.1).bind λv2=>
 (B2 a0 v1.1 (⟨v2.State,v2.Gen,a2⟩:b7)).bind λv3=>
 some (v3,0)
def I4(a0:a7)(a1:Int)(a2:m7):Option (a7 × Int):=
 (I3 a0.S a1 a2).bind λv1=>
 some ((⟨v1.1,a0.Serial⟩:a7),v1.2)
def R8(a0:b6)(a1:Int):Option b6:=
 (u9 a0.S a1).bind λv1=>
 if (v1.2==0) then
  (a74 v1.1.Strong).bind λv2=>
  (I4 a0.S a1 (⟨v1.1.Serial,v2,v1.1.Weak,v1.1.Prog,v1.1.Started,v1.1.Fields⟩:m7)).bind λv3=>
  some (⟨v3.1,a0.Roots,a0.a8,a0.T,a0.Q⟩:b6)
 else
 some a0
def Z3(a0:b6)(a1:Int):Option b6:=
 (R8 a0 a1).bind λv1=>
 some v1
def K1(a0:List Int):Option (List Int):=
 app 8 [] a0
def N3(a0:G4)(a1:b6):Option b6:=
 (K1 a1.Roots).bind λv1=>
 (ix v1 a0.r).bind λv2=>
 some (⟨a1.S,(v1.set (a0.r).toNat a0.h),a1.a8,a1.T,a1.Q⟩:b6)
def a2a(a0:Int):Option (Int × Int):=
 (E2 a0).bind λv1=>
 if v1 then
  some (12,0)
 else
 if (decide (a0<1)) then
  some (0,11)
 else
 some (p7 (a0-1),0)
def b09(a0:Int):Option (Int × Int):=
 (a2a a0).bind λv1=>
 some (v1.1,v1.2)
def a1A(a0:Int):Option Int:=
 (b09 a0).bind λv1=>
 if (v1.2 != 0) then
  some a0
 else
 some v1.1
def K9(a0:b6)(a1:Int):Option b6:=
 (u9 a0.S a1).bind λv1=>
 if (v1.2==0) then
  (a1A v1.1.Strong).bind λv2=>
  (I4 a0.S a1 (⟨v1.1.Serial,v2,v1.1.Weak,v1.1.Prog,v1.1.Started,v1.1.Fields⟩:m7)).bind λv3=>
  some (⟨v3.1,a0.Roots,a0.a8,a0.T,a0.Q⟩:b6)
 else
 some a0
def B1(a0:b6)(a1:Int):Option b6:=
 (K9 a0 a1).bind λv1=>
 some v1
def D6(a0:b6)(a1:Int)(a2:Int)(a3:G4):Option b6:=
 (Z3 a0 a2).bind λv1=>
 (N3 a3 v1).bind λv2=>
 (B1 v2 a1).bind λv3=>
 some v3
def a0j(a0:b6)(a1:Int)(a2:Int):Option (b6 × Int):=
 if ((decide (a1<0))||(decide (a1≥(a0.Roots.length:Int)))) then
  some (a0,6)
 else
 (J0 a0 a2).bind λv1=>
 if (!v1) then
  some (a0,3)
 else
 (ix a0.Roots a1).bind λv2=>
 (D6 a0 v2 a2 (⟨a1,a2⟩:G4)).bind λv3=>
 some (v3,0)
def A5(a0:o8)(a1:Int)(a2:Int):Option (b6 × Int):=
 if (a2 != 0) then
  some (a0.x,a2)
 else
 (a0j a0.x a0.o.A a1).bind λv1=>
 some (v1.1,v1.2)
def Q8(a0:o8):Option (b6 × Int):=
 (Q6 a0.x.S a0.o.B a0.o.C).bind λv1=>
 if (v1.2.2 != 0) then
  some (a0.x,v1.2.2)
 else
 (A5 (⟨⟨v1.1,a0.x.Roots,a0.x.a8,a0.x.T,a0.x.Q⟩,a0.o⟩:o8) v1.2.1 0).bind λv2=>
 some (v2.1,v2.2)
def J2(a0:b6)(a1:Int):Option Int:=
 if ((decide (a1<0))||(decide (a1≥(a0.Roots.length:Int)))) then
  some 0
 else
 (ix a0.Roots a1).bind λv1=>
 some v1
def G6(a0:o8):Option (b6 × Int):=
 (J2 a0.x a0.o.B).bind λv1=>
 (A5 a0 v1 0).bind λv2=>
 some (v2.1,v2.2)
def Y4(a0:o8):Option (b6 × Int):=
 (A5 a0 0 0).bind λv1=>
 some (v1.1,v1.2)
def J9(a0:b6)(a1:Int):Option (Int × Int):=
 (J2 a0 a1).bind λv1=>
 if (v1==0) then
  some (0,2)
 else
 some (v1,0)
def a6F(a0:List Int)(a1:Int):Option Bool:=
 some ((decide (a1≥0))&&(decide (a1<(a0.length:Int))))
def b1V(a0:List Int)(a1:Int):Option (Int × Int):=
 (a6F a0 a1).bind λv1=>
 if (!v1) then
  some (0,5)
 else
 (ix a0 a1).bind λv2=>
 some (v2,0)
def a0b(a0:a7)(a1:Int)(a2:Int):Option (Int × Int):=
 (u9 a0 a1).bind λv1=>
 if (v1.2 != 0) then
  some (0,v1.2)
 else
 (b1V v1.1.Fields a2).bind λv2=>
 some (v2.1,v2.2)
def Y5(a0:o8):Option (b6 × Int):=
 (J9 a0.x a0.o.B).bind λv1=>
 if (v1.2 != 0) then
  some (a0.x,v1.2)
 else
 (a0b a0.x.S v1.1 a0.o.C).bind λv2=>
 (A5 a0 v2.1 v2.2).bind λv3=>
 some (v3.1,v3.2)
def b4f(a0:List Int)(a1:Int)(a2:Int):Option ((List Int) × Int):=
 (a6F a0 a1).bind λv1=>
 if (!v1) then
  some (a0,5)
 else
 (mk 8 (a0.length:Int) (0:Int)).bind λv2=>
 (cpy v2 a0).bind λv3=>
 (ix v3 a1).bind λv4=>
 some ((v3.set (a1).toNat a2),0)
def a8B(a0:a7)(a1:Int)(a2:Int)(a3:Int):Option (a7 × Int):=
 (u9 a0 a1).bind λv1=>
 if (v1.2 != 0) then
  some (a0,v1.2)
 else
 (b4f v1.1.Fields a2 a3).bind λv2=>
 if (v2.2 != 0) then
  some (a0,v2.2)
 else
 (I4 a0 a1 (⟨v1.1.Serial,v1.1.Strong,v1.1.Weak,v1.1.Prog,v1.1.Started,v2.1⟩:m7)).bind λv3=>
 some (v3.1,v3.2)
def a0y(a0:E9)(a1:b6):Option b6:=
 (a8B a1.S a0.h a0.k a0.v).bind λv1=>
 some (⟨v1.1,a1.Roots,a1.a8,a1.T,a1.Q⟩:b6)
def G5(a0:b6)(a1:Int)(a2:Int)(a3:E9):Option b6:=
 (Z3 a0 a2).bind λv1=>
 (a0y a3 v1).bind λv2=>
 (B1 v2 a1).bind λv3=>
 some v3
def a2e(a0:b6)(a1:Int)(a2:Int)(a3:Int):Option (b6 × Int):=
 (a0b a0.S a1 a2).bind λv1=>
 if (v1.2 != 0) then
  some (a0,v1.2)
 else
 (J0 a0 a3).bind λv2=>
 if (!v2) then
  some (a0,3)
 else
 (G5 a0 v1.1 a3 (⟨a1,a2,a3⟩:E9)).bind λv3=>
 some (v3,0)
def U5(a0:o8):Option (b6 × Int):=
 (J9 a0.x a0.o.A).bind λv1=>
 if (v1.2 != 0) then
  some (a0.x,v1.2)
 else
 (J2 a0.x a0.o.C).bind λv2=>
 (a2e a0.x v1.1 a0.o.B v2).bind λv3=>
 some (v3.1,v3.2)
def b2T(a0:c9)(a1:Int):Option (c9 × Int):=
 some (a0,a1)
def a4c(a0:c9)(a1:Int):Option Bool:=
 jn (λ(_:Unit)=>
  some false) (λκ6=>
  (b2T a0 2).bind λv8=>
  (lp (S:=Int) (E:=Bool ⊕ Unit) (λ(s10:Int)=>
   if (decide (s10<(v8.1.L.length:Int))) then
    (ix v8.1.L s10).bind λv12=>
    if ((v12.Kind==v8.2)==true) then
     if (v12.At==a1) then
      some (.inr (.inl true))
     else
     some (.inl (p7 (s10+1)))
    else
    some (.inl (p7 (s10+1)))
   else
   some (.inr (.inr ()))) 0).bind λe9=>
  match e9 with
  | .inl w=>some w
  | .inr w=>κ6 w)
def a5H(a0:List e6)(a1:Int):Option Bool:=
 some ((decide (a1≥0))&&(decide (a1<(a0.length:Int))))
def a0c(a0:List e6):Option (List e6):=
 (mk 24 (a0.length:Int) (⟨0,false,0⟩:e6)).bind λv1=>
 (cpy v1 a0).bind λv2=>
 some v2
def b00(a0:List e6)(a1:Int)(a2:Int)(a3:Int):Option ((List e6) × Int × Int):=
 (a5H a0 a1).bind λv1=>
 if (!v1) then
  some (a0,0,7)
 else
 (a0c a0).bind λv2=>
 (ix v2 a1).bind λv3=>
 (ix a0 a1).bind λv4=>
 some ((v2.set (a1).toNat (⟨a2,(a2 != 0),a3⟩:e6)),v4.Target,0)
def a1i(a0:b6)(a1:Int)(a2:Int):Option b6:=
 (r9 a0.S.S a1).bind λv1=>
 if (v1.2==0) then
  (ix a0.S.S.a8 v1.1).bind λv2=>
  (I4 a0.S a1 (⟨v2.Val.Serial,v2.Val.Strong,p7 (v2.Val.Weak+a2),v2.Val.Prog,v2.Val.Started,v2.Val.Fields⟩:m7)).bind λv3=>
  some (⟨v3.1,a0.Roots,a0.a8,a0.T,a0.Q⟩:b6)
 else
 some a0
def L3(a0:c8)(a1:Int):Option (c8 × Int):=
 (r9 a0 a1).bind λv1=>
 if (v1.2 != 0) then
  some (a0,v1.2)
 else
 (ix a0.a8 v1.1).bind λv2=>
 if (v2.Gen==a0.Last) then
  (B2 a0 v1.1 (⟨3,v2.Gen,⟨0,0,0,0,false,[]⟩⟩:b7)).bind λv3=>
  some (v3,0)
 else
 (B2 a0 v1.1 (⟨0,p7 (v2.Gen+1),⟨0,0,0,0,false,[]⟩⟩:b7)).bind λv4=>
 some (v4,0)
def a2w(a0:b6)(a1:Int):Option b6:=
 (a1i a0 a1 (-1)).bind λv1=>
 (r9 v1.S.S a1).bind λv2=>
 if (v2.2 != 0) then
  some v1
 else
 (ix v1.S.S.a8 v2.1).bind λv3=>
 if ((v3.State==2)&&(v3.Val.Weak==0)) then
  (L3 v1.S.S a1).bind λv4=>
  some (⟨⟨v4.1,v1.S.Serial⟩,v1.Roots,v1.a8,v1.T,v1.Q⟩:b6)
 else
 some v1
def a0k(a0:b6)(a1:Int)(a2:Int)(a3:Int):Option (b6 × Int):=
 (u6 (((decide (a1<0))||(decide (a1≥(a0.a8.length:Int))))==false) false (a4c a0.Q a1)).bind λv1=>
 if (((decide (a1<0))||(decide (a1≥(a0.a8.length:Int))))||v1) then
  some (a0,7)
 else
 (J0 a0 a2).bind λv2=>
 if (!v2) then
  some (a0,3)
 else
 (b00 a0.a8 a1 a2 a3).bind λv3=>
 (a1i (⟨a0.S,a0.Roots,v3.1,a0.T,a0.Q⟩:b6) a2 1).bind λv4=>
 (a2w v4 v3.2.1).bind λv5=>
 some (v5,0)
def Q9(a0:o8):Option (b6 × Int):=
 if (a0.o.B==(-1)) then
  (a0k a0.x a0.o.A 0 a0.o.C).bind λv1=>
  some (v1.1,v1.2)
 else
 (J9 a0.x a0.o.B).bind λv2=>
 if (v2.2 != 0) then
  some (a0.x,v2.2)
 else
 (a0k a0.x a0.o.A v2.1 a0.o.C).bind λv3=>
 some (v3.1,v3.2)
def a5G(a0:List e6)(a1:Int):Option (Int × Int):=
 (a5H a0 a1).bind λv1=>
 if (!v1) then
  some (0,7)
 else
 (ix a0 a1).bind λv2=>
 if ((v2.Target==0)||(!v2.Intact)) then
  some (0,9)
 else
 some (v2.Target,0)
def V2(a0:o8):Option (b6 × Int):=
 (a5G a0.x.a8 a0.o.B).bind λv1=>
 (A5 a0 v1.1 v1.2).bind λv2=>
 some (v2.1,v2.2)
def a3x(a0:Int)(a1:Int):Option (Int × Int):=
 some (a0,a1)
def a0i(a0:Int)(a1:Int):Option Int:=
 if (decide (a0<1)) then
  some 0
 else
 (rem (p7 ((p7 (5*a1))+1)) a0).bind λv1=>
 if (decide (v1<0)) then
  some (p7 (v1+a0))
 else
 some v1
def W0(a0:List b8)(a1:Int):Option Int:=
 jn (λ(_:Unit)=>
  some (-1)) (λκ8=>
  (a3x (a0.length:Int) a1).bind λv10=>
  (lp (S:=Int) (E:=Int ⊕ Unit) (λ(s12:Int)=>
   if (decide (s12<v10.1)) then
    (a0i v10.1 v10.2).bind λv14=>
    (rem (p7 (v14+s12)) v10.1).bind λv15=>
    (ix a0 v15).bind λv16=>
    if (v16.State==0) then
     some (.inr (.inr ()))
    else
    if ((v16.State==1)&&(v16.Key==a1)) then
     some (.inr (.inl v15))
    else
    some (.inl (p7 (s12+1)))
   else
   some (.inr (.inr ()))) 0).bind λe11=>
  match e11 with
  | .inl w=>some w
  | .inr w=>κ8 w)
def J8(a0:List b8)(a1:Int):Option (Int × Int):=
 (W0 a0 a1).bind λv1=>
 if (decide (v1<0)) then
  some (0,9)
 else
 (ix a0 v1).bind λv2=>
 some (v2.Val,0)
def C2(a0:List b8):Option (List b8):=
 app 24 [] a0
def a1h(a0:List b8)(a1:Int)(a2:b8):Option (List b8):=
 (C2 a0).bind λv1=>
 (ix v1 a1).bind λv2=>
 some (v1.set (a1).toNat a2)
def V9(a0:List b8)(a1:Int):Option ((List b8) × Int × Int):=
 (W0 a0 a1).bind λv1=>
 if (decide (v1<0)) then
  some (a0,0,9)
 else
 (a1h a0 v1 (⟨2,0,0⟩:b8)).bind λv2=>
 (ix a0 v1).bind λv3=>
 some (v2,v3.Val,0)
def a7p(a0:List b8)(a1:Int)(a2:Int):Option ((List b8) × Int):=
 (W0 a0 a1).bind λv1=>
 if (decide (v1≥0)) then
  (a1h a0 v1 (⟨1,a1,a2⟩:b8)).bind λv2=>
  some (v2,0)
 else
 jn (λ(_:Unit)=>
  some (a0,8)) (λκ11=>
  (a3x (a0.length:Int) a1).bind λv13=>
  (lp (S:=Int) (E:=((List b8) × Int) ⊕ Unit) (λ(s15:Int)=>
   if (decide (s15<v13.1)) then
    (a0i v13.1 v13.2).bind λv17=>
    (rem (p7 (v17+s15)) v13.1).bind λv18=>
    (ix a0 v18).bind λv19=>
    if (v19.State != 1) then
     (a1h a0 v18 (⟨1,a1,a2⟩:b8)).bind λv20=>
     some (.inr (.inl (v20,0)))
    else
    some (.inl (p7 (s15+1)))
   else
   some (.inr (.inr ()))) 0).bind λe14=>
  match e14 with
  | .inl w=>some w
  | .inr w=>κ11 w)
def R6(a0:List b8)(a1:Int)(a2:Int):Option ((List b8) × Int × Int):=
 if (a1==0) then
  some (a0,0,2)
 else
 (J8 a0 a1).bind λv1=>
 if (a2==0) then
  (V9 a0 a1).bind λv2=>
  some (v2.1,v1.1,0)
 else
 (a7p a0 a1 a2).bind λv3=>
 if (v3.2 != 0) then
  some (a0,0,v3.2)
 else
 some (v3.1,v1.1,0)
def U4(a0:G3)(a1:b6):Option b6:=
 some (⟨a1.S,a1.Roots,a1.a8,a0.t,a1.Q⟩:b6)
def H6(a0:b6)(a1:Int)(a2:Int)(a3:G3):Option b6:=
 (Z3 a0 a2).bind λv1=>
 (U4 a3 v1).bind λv2=>
 (B1 v2 a1).bind λv3=>
 some v3
def a3y(a0:b6)(a1:Int)(a2:Int):Option (b6 × Int):=
 if (a1==0) then
  some (a0,2)
 else
 (J0 a0 a1).bind λv1=>
 (u6 ((!v1)==false) false (J0 a0 a2)).bind λv2=>
 if ((!v1)||(!v2)) then
  some (a0,3)
 else
 (R6 a0.T a1 a2).bind λv3=>
 if (v3.2.2 != 0) then
  some (a0,v3.2.2)
 else
 (H6 a0 v3.2.1 a2 (⟨v3.1⟩:G3)).bind λv4=>
 some (v4,0)
def Y6(a0:o8):Option (b6 × Int):=
 (J9 a0.x a0.o.A).bind λv1=>
 if (v1.2 != 0) then
  some (a0.x,v1.2)
 else
 (J2 a0.x a0.o.B).bind λv2=>
 (a3y a0.x v1.1 v2).bind λv3=>
 some (v3.1,v3.2)
def b1b(a0:List b8)(a1:Int):Option (Int × Int):=
 (J8 a0 a1).bind λv1=>
 some (v1.1,v1.2)
def a0l(a0:o8):Option (b6 × Int):=
 (J9 a0.x a0.o.B).bind λv1=>
 if (v1.2 != 0) then
  some (a0.x,v1.2)
 else
 (b1b a0.x.T v1.1).bind λv2=>
 (A5 a0 v2.1 v2.2).bind λv3=>
 some (v3.1,v3.2)
def N5(a0:o8):Option (b6 × Int):=
 some (a0.x,0)
def b2A(f:Fv)(a0:o8):Option (b6 × Int):=
 if f=some 65 then Q8 a0 else
 if f=some 66 then G6 a0 else
 if f=some 67 then Y4 a0 else
 if f=some 68 then Y5 a0 else
 if f=some 69 then U5 a0 else
 if f=some 70 then Q9 a0 else
 if f=some 71 then V2 a0 else
 if f=some 72 then Y6 a0 else
 if f=some 73 then a0l a0 else
 if f=some 74 then N5 a0 else
 none
def a0G(a0:Int):Option Bool:=
 some (a0 != a0)
def a2X(a0:Int)(a1:Int):Option Int:=
 (a0G a0).bind λv1=>
 (a0G a1).bind λv2=>
 if v1 then
  if v2 then
   some 0
  else
  some (-1)
 else
 if v2 then
  some 1
 else
 if (decide (a0<a1)) then
  some (-1)
 else
 if (decide (a0 > a1)) then
  some 1
 else
 some 0
def a3u(a0:Int)(a1:Int)(a2:List (Int × Int)):Option Int:=
 (a2X ((A1 a2 a0).getD (0:Int)) ((A1 a2 a1).getD (0:Int))).bind λv1=>
 some v1
def C3(a0:a7):Option (List Int):=
 jn (λ((j18,j19):(List (Int × Int)) × (List Int))=>
  (b1P (λp q=>a3u p q j18) j19).bind λv21=>
  some v21) (λκ17=>
  (lp (S:=Int × (List (Int × Int)) × (List Int)) (E:=((List (Int × Int)) × (List Int))) (λ((s23,s24,s25):Int × (List (Int × Int)) × (List Int))=>
   if (decide (s23<(a0.S.a8.length:Int))) then
    jn (λ((j32,j33):(List (Int × Int)) × (List Int))=>
     some (.inl (p7 (s23+1),j32,j33))) (λκ31=>
     (ix a0.S.a8 s23).bind λv35=>
     if (v35.State==1) then
      (a1g s23 v35.Gen).bind λv36=>
      (app 8 s25 [v36]).bind λv37=>
      κ31 ((o6 s24 v36 v35.Val.Serial),v37)
     else
     κ31 (s24,s25))
   else
   some (.inr (s24,s25))) (0,[],[])).bind λe22=>
  κ17 e22)
def a1m(a0:b6):Option (List Int):=
 jn (λ(j16:List Int)=>
  some j16) (λκ15=>
  (C3 a0.S).bind λv17=>
  (lp (S:=Int × (List Int)) (E:=(List Int)) (λ((s19,s20):Int × (List Int))=>
   if (decide (s19<(v17.length:Int))) then
    jn (λ(j27:List Int)=>
     some (.inl (p7 (s19+1),j27))) (λκ26=>
     (ix v17 s19).bind λv28=>
     (u9 a0.S v28).bind λv29=>
     if (v29.1.Strong==0) then
      (app 8 s20 [v28]).bind λv30=>
      κ26 v30
     else
     κ26 s20)
   else
   some (.inr s20)) (0,[])).bind λe18=>
  κ15 e18)
def K0(a0:m7):Option Bool:=
 some ((decide (a0.Prog≥0))&&(!a0.Started))
def H2(a0:c9):Option Int:=
 some (a0.L.length:Int)
def D7(a0:List k9)(a1:Int)(a2:Int):Option (List k9):=
 (cut a0 a1 a2).bind λv1=>
 some v1
def P2(a0:c9)(a1:k9):Option (c9 × Int):=
 (H2 a0).bind λv1=>
 if (decide (v1≥a0.Cap)) then
  some (a0,4)
 else
 (D7 a0.L 0 v1).bind λv2=>
 (app 24 v2 [a1]).bind λv3=>
 some ((⟨v3,a0.Cap⟩:c9),0)
def a7W(a0:c9)(a1:k9):Option (c9 × Int):=
 (P2 a0 a1).bind λv1=>
 some (v1.1,v1.2)
def Q4(a0:b6)(a1:Int):Option b6:=
 (u9 a0.S a1).bind λv1=>
 (u6 ((v1.2 != 0)==false) false (K0 v1.1)).bind λv2=>
 if ((v1.2 != 0)||(!v2)) then
  some a0
 else
 (I4 a0.S a1 (⟨v1.1.Serial,v1.1.Strong,v1.1.Weak,v1.1.Prog,true,v1.1.Fields⟩:m7)).bind λv3=>
 (a7W a0.Q (⟨1,a1,v1.1.Prog⟩:k9)).bind λv4=>
 (Z3 (⟨v3.1,a0.Roots,a0.a8,a0.T,v4.1⟩:b6) a1).bind λv5=>
 some v5
def T4(a0:b6)(a1:List Int):Option (List Int):=
 jn (λ(j18:List Int)=>
  some j18) (λκ17=>
  (lp (S:=Int × (List (Int × Bool)) × (List Int)) (E:=(List Int)) (λ((s20,s21,s22):Int × (List (Int × Bool)) × (List Int))=>
   if (decide (s20<(a1.length:Int))) then
    jn (λ((j29,j30):(List Int) × (List (Int × Bool)))=>
     some (.inl (p7 (s20+1),j30,j29))) (λκ28=>
     (ix a1 s20).bind λv32=>
     (u9 a0.S v32).bind λv33=>
     if ((v33.2==0)==true) then
      if (!((A1 s21 v32).getD (false:Bool))) then
       (app 8 s22 [v32]).bind λv34=>
       κ28 (v34,(o6 s21 v32 true))
      else
      κ28 (s22,s21)
     else
     κ28 (s22,s21))
   else
   some (.inr s22)) (0,[],[])).bind λe19=>
  κ17 e19)
def P6(a0:List Int)(a1:Int):Option Int:=
 jn (λ(_:Unit)=>
  some (-1)) (λκ5=>
  (lp (S:=Int) (E:=Int ⊕ Unit) (λ(s8:Int)=>
   if (decide (s8<(a0.length:Int))) then
    (ix a0 s8).bind λv10=>
    if (a1==v10) then
     some (.inr (.inl s8))
    else
    some (.inl (p7 (s8+1)))
   else
   some (.inr (.inr ()))) 0).bind λe7=>
  match e7 with
  | .inl w=>some w
  | .inr w=>κ5 w)
def D5(a0:List Int)(a1:Int):Option Bool:=
 (P6 a0 a1).bind λv1=>
 some (decide (v1≥0))
def a0s(a0:e6)(a1:List Int):Option Bool:=
 (u6 ((a0.Intact&&(a0.Target != 0))==true) false (D5 a1 a0.Target)).bind λv1=>
 some ((a0.Intact&&(a0.Target != 0))&&v1)
def H8(a0:List e6)(a1:List Int):Option (List Int):=
 jn (λ(j15:List Int)=>
  some j15) (λκ14=>
  (lp (S:=Int × (List Int)) (E:=(List Int)) (λ((s17,s18):Int × (List Int))=>
   if (decide (s17<(a0.length:Int))) then
    jn (λ(j25:List Int)=>
     some (.inl (p7 (s17+1),j25))) (λκ24=>
     (ix a0 s17).bind λv26=>
     (a0s v26 a1).bind λv27=>
     if v27 then
      (app 8 s18 [s17]).bind λv28=>
      κ24 v28
     else
     κ24 s18)
   else
   some (.inr s18)) (0,[])).bind λe16=>
  κ14 e16)
def a4d(a0:List e6)(a1:List Int):Option ((List e6) × (List Int)):=
 (H8 a0 a1).bind λv1=>
 (a0c a0).bind λv2=>
 jn (λ((j22,j23):(List Int) × (List e6))=>
  some (j23,j22)) (λκ21=>
  (lp (S:=Int × (List e6) × (List Int)) (E:=((List Int) × (List e6))) (λ((s26,s27,s28):Int × (List e6) × (List Int))=>
   if (decide (s26<(v1.length:Int))) then
    jn (λ((j36,j37):(List Int) × (List e6))=>
     some (.inl (p7 (s26+1),j37,j36))) (λκ35=>
     (ix v1 s26).bind λv39=>
     (ix s27 v39).bind λv40=>
     (ix (s27.set (v39).toNat (⟨v40.Target,false,v40.Call⟩:e6)) v39).bind λv41=>
     if (decide (v41.Call≥0)) then
      (app 8 s28 [v39]).bind λv42=>
      κ35 (v42,(s27.set (v39).toNat (⟨v40.Target,false,v40.Call⟩:e6)))
     else
     κ35 (s28,(s27.set (v39).toNat (⟨v40.Target,false,v40.Call⟩:e6))))
   else
   some (.inr (s28,s27))) (0,v2,[])).bind λe25=>
  κ21 e25)
def a1P(a0:b6)(a1:List Int):Option b6:=
 (a4d a0.a8 a1).bind λv1=>
 jn (λ(j11:c9)=>
  some (⟨a0.S,a0.Roots,v1.1,a0.T,j11⟩:b6)) (λκ10=>
  (lp (S:=Int × c9) (E:=c9) (λ((s13,s14):Int × c9)=>
   if (decide (s13<(v1.2.length:Int))) then
    (ix v1.2 s13).bind λv17=>
    (ix v1.1 v17).bind λv18=>
    (a7W s14 (⟨2,v17,v18.Call⟩:k9)).bind λv19=>
    some (.inl (p7 (s13+1),v19.1))
   else
   some (.inr s14)) (0,a0.Q)).bind λe12=>
  κ10 e12)
def a8G(a0:List Int):Option (List Int):=
 some a0
def a3J(a0:List Int):Option (List Int):=
 jn (λ(j10:List Int)=>
  some j10) (λκ9=>
  (a8G a0).bind λv11=>
  (lp (S:=Int × (List Int)) (E:=(List Int)) (λ((s13,s14):Int × (List Int))=>
   if (decide (s13<(v11.length:Int))) then
    (ix v11 s13).bind λv17=>
    if ((v17 != 0)==true) then
     (app 8 s14 [v17]).bind λv18=>
     some (.inl (p7 (s13+1),v18))
    else
    some (.inl (p7 (s13+1),s14))
   else
   some (.inr s14)) (0,[])).bind λe12=>
  κ9 e12)
def V7(a0:List b8)(a1:List Int):Option ((List b8) × (List Int)):=
 jn (λ((j18,j19):(List b8) × (List Int))=>
  some (j18,j19)) (λκ17=>
  (lp (S:=(List b8) × Int × (List Int)) (E:=((List b8) × (List Int))) (λ((s22,s23,s24):(List b8) × Int × (List Int))=>
   if (decide (s23<(a1.length:Int))) then
    jn (λ((j31,j32):(List b8) × (List Int))=>
     some (.inl (j31,p7 (s23+1),j32))) (λκ30=>
     (ix a1 s23).bind λv34=>
     (V9 s22 v34).bind λv35=>
     if (v35.2.2==0) then
      (app 8 s24 [v35.2.1]).bind λv36=>
      κ30 (v35.1,v36)
     else
     κ30 (s22,s24))
   else
   some (.inr (s22,s24))) (a0,0,[])).bind λe21=>
  κ17 e21)
def R1(a0:c8)(a1:Int):Option (c8 × Int):=
 (C1 a0 a1).bind λv1=>
 if (v1.2 != 0) then
  some (a0,v1.2)
 else
 (a2H a1).bind λv2=>
 (a3R a1).bind λv3=>
 (B2 a0 v2 (⟨2,v3,v1.1⟩:b7)).bind λv4=>
 some (v4,0)
def W3(a0:b6)(a1:Int):Option b6:=
 (u9 a0.S a1).bind λv1=>
 (I4 a0.S a1 (⟨v1.1.Serial,0,v1.1.Weak,v1.1.Prog,v1.1.Started,[]⟩:m7)).bind λv2=>
 (R1 v2.1.S a1).bind λv3=>
 if (v1.1.Weak==0) then
  (L3 v3.1 a1).bind λv4=>
  some (⟨⟨v4.1,v2.1.Serial⟩,a0.Roots,a0.a8,a0.T,a0.Q⟩:b6)
 else
 some (⟨⟨v3.1,v2.1.Serial⟩,a0.Roots,a0.a8,a0.T,a0.Q⟩:b6)
def Z8(a0:b6)(a1:List Int):Option b6:=
 (T4 a0 a1).bind λv1=>
 (a1P a0 v1).bind λv2=>
 jn (λ(j13:List Int)=>
  (V7 v2.T v1).bind λv14=>
  (app 8 j13 v14.2).bind λv15=>
  jn (λ(j24:b6)=>
   jn (λ(j33:b6)=>
    some j33) (λκ32=>
    (lp (S:=Int × b6) (E:=b6) (λ((s35,s36):Int × b6)=>
     if (decide (s35<(v15.length:Int))) then
      (ix v15 s35).bind λv39=>
      (B1 s36 v39).bind λv40=>
      some (.inl (p7 (s35+1),v40))
     else
     some (.inr s36)) (0,j24)).bind λe34=>
    κ32 e34)) (λκ23=>
   (lp (S:=Int × b6) (E:=b6) (λ((s42,s43):Int × b6)=>
    if (decide (s42<(v1.length:Int))) then
     (ix v1 s42).bind λv46=>
     (W3 s43 v46).bind λv47=>
     some (.inl (p7 (s42+1),v47))
    else
    some (.inr s43)) (0,(⟨v2.S,v2.Roots,v2.a8,v14.1,v2.Q⟩:b6))).bind λe41=>
   κ23 e41)) (λκ12=>
  (lp (S:=Int × (List Int)) (E:=(List Int)) (λ((s49,s50):Int × (List Int))=>
   if (decide (s49<(v1.length:Int))) then
    (ix v1 s49).bind λv53=>
    (u9 v2.S v53).bind λv54=>
    (a3J v54.1.Fields).bind λv55=>
    (app 8 s50 v55).bind λv56=>
    some (.inl (p7 (s49+1),v56))
   else
   some (.inr s50)) (0,[])).bind λe48=>
  κ12 e48)
def M7(a0:b6):Option b6:=
 (lp (S:=b6) (E:=b6) (λ(s2:b6)=>
  (a1m s2).bind λv4=>
  if ((v4.length:Int)==0) then
   some (.inr s2)
  else
  (ix v4 0).bind λv5=>
  (u9 s2.S v5).bind λv6=>
  (K0 v6.1).bind λv7=>
  if v7 then
   (Q4 s2 v5).bind λv8=>
   some (.inl v8)
  else
  (cut v4 0 1).bind λv9=>
  (Z8 s2 v9).bind λv10=>
  some (.inl v10)) a0).bind λe1=>
 some e1
def Z4(a0:b6)(a1:Int):Option Int:=
 (u9 a0.S a1).bind λv1=>
 some v1.1.Serial
def a05(a0:b6)(a1:Int):Option Int:=
 (J2 a0 a1).bind λv1=>
 (Z4 a0 v1).bind λv2=>
 some v2
def T0(a0:b6)(a1:b6)(a2:g9):Option Int:=
 if (a2.Kind==5) then
  (a05 a0 a2.C).bind λv1=>
  some v1
 else
 jn (λ(j3:Bool)=>
  if j3 then
   (a05 a0 a2.B).bind λv4=>
   some v4
  else
  if (a2.Kind==10) then
   (J2 a0 a2.A).bind λv5=>
   (J2 a0 a2.B).bind λv6=>
   if (v5==v6) then
    some 1
   else
   some 0
  else
  (a05 a1 a2.A).bind λv7=>
  some v7) (λκ2=>
  if (a2.Kind==6) then
   κ2 (a2.Kind==6)
  else
  κ2 (a2.Kind==8))
def r8(a0:b6)(a1:g9):Option (b6 × Int × Int):=
 (P9 a1).bind λv1=>
 if (v1 != 0) then
  some (a0,0,v1)
 else
 (a2x).bind λv2=>
 if (!((A1 v2 a1.Kind).isSome)) then
  some (a0,0,14)
 else
 (b2A ((A1 v2 a1.Kind).getD (none:Fv)) (⟨a0,a1⟩:o8)).bind λv3=>
 if (v3.2 != 0) then
  some (a0,0,v3.2)
 else
 (M7 v3.1).bind λv5=>
 (T0 v3.1 v5 a1).bind λv6=>
 some (v5,v6,0)
def a6r(a0:a7):Option a7:=
 some a0
def a5u(a0:a7)(a1:Int):Option (List Int):=
 (u9 a0 a1).bind λv1=>
 (a3J v1.1.Fields).bind λv2=>
 some v2
def b2Q(a0:a7)(a1:Int):Option Int:=
 jn (λ(j31:Int)=>
  some j31) (λκ30=>
  (a6r a0).bind λv32=>
  (C3 v32).bind λv33=>
  (lp (S:=Int × Int) (E:=Int) (λ((s35,s36):Int × Int)=>
   if (decide (s35<(v33.length:Int))) then
    jn (λ(j50:Int)=>
     some (.inl (p7 (s35+1),j50))) (λκ49=>
     (ix v33 s35).bind λv51=>
     (a5u v32 v51).bind λv52=>
     (lp (S:=Int × Int) (E:=Int) (λ((s54,s55):Int × Int)=>
      if (decide (s54<(v52.length:Int))) then
       (ix v52 s54).bind λv58=>
       jn (λ(j60:Int)=>
        some (.inl (p7 (s54+1),j60))) (λκ59=>
        if (v58==a1) then
         κ59 (p7 (s55+1))
        else
        κ59 s55)
      else
      some (.inr s55)) (0,s36)).bind λe53=>
     κ49 e53)
   else
   some (.inr s36)) (0,0)).bind λe34=>
  κ30 e34)
def a1d(a0:List b8):Option (List b8):=
 some a0
def a5h(a0:List b8):Option (List Int):=
 jn (λ(j13:List Int)=>
  some j13) (λκ12=>
  (lp (S:=Int × (List Int)) (E:=(List Int)) (λ((s15,s16):Int × (List Int))=>
   if (decide (s15<(a0.length:Int))) then
    jn (λ(j22:List Int)=>
     some (.inl (p7 (s15+1),j22))) (λκ21=>
     (ix a0 s15).bind λv23=>
     if (v23.State==1) then
      (app 8 s16 [v23.Key]).bind λv24=>
      κ21 v24
     else
     κ21 s16)
   else
   some (.inr s16)) (0,[])).bind λe14=>
  κ12 e14)
def a2u(a0:m9)(a1:Int):Option Bool:=
 some ((a1 != 0)&&(a0.Val==a1))
def y7(a0:List b8)(a1:Int):Option (List m9):=
 jn (λ(j16:List m9)=>
  some j16) (λκ15=>
  (a5h a0).bind λv17=>
  (lp (S:=Int × (List m9)) (E:=(List m9)) (λ((s19,s20):Int × (List m9))=>
   if (decide (s19<(v17.length:Int))) then
    (ix v17 s19).bind λv23=>
    (J8 a0 v23).bind λv24=>
    jn (λ(j28:List m9)=>
     some (.inl (p7 (s19+1),j28))) (λκ27=>
     (a2u (⟨v23,v24.1⟩:m9) a1).bind λv29=>
     if v29 then
      (app 16 s20 [(⟨v23,v24.1⟩:m9)]).bind λv30=>
      κ27 v30
     else
     κ27 s20)
   else
   some (.inr s20)) (0,[])).bind λe18=>
  κ15 e18)
def a4r(a0:List b8)(a1:Int):Option Int:=
 (a1d a0).bind λv1=>
 (y7 v1 a1).bind λv2=>
 some (v2.length:Int)
def a4L(a0:a7)(a1:List b8)(a2:Int):Option Int:=
 (b2Q a0 a2).bind λv1=>
 (a4r a1 a2).bind λv2=>
 some (p7 (v1+v2))
def a6E(a0:a7)(a1:List b8)(a2:Int):Option Int:=
 (u9 a0 a2).bind λv1=>
 if (v1.2 != 0) then
  some 0
 else
 (a4L a0 a1 a2).bind λv2=>
 some (p7 (v1.1.Strong-v2))
def a7f(a0:Int):Option Bool:=
 (E2 a0).bind λv1=>
 some v1
def a6D(a0:Int)(a1:m7)(a2:a7)(a3:List b8):Option Bool:=
 (a6E a2 a3 a0).bind λv1=>
 (u6 ((decide (v1 > 0))==false) false (a7f a1.Strong)).bind λv2=>
 some ((decide (v1 > 0))||v2)
def a6C(a0:a7)(a1:List b8):Option (List Int):=
 jn (λ(j36:List Int)=>
  some j36) (λκ35=>
  jn (λ(j54:List Int)=>
   κ35 j54) (λκ53=>
   (C3 a0).bind λv55=>
   (lp (S:=Int × (List Int)) (E:=(List Int)) (λ((s57,s58):Int × (List Int))=>
    if (decide (s57<(v55.length:Int))) then
     jn (λ(j66:List Int)=>
      some (.inl (p7 (s57+1),j66))) (λκ65=>
      (ix v55 s57).bind λv67=>
      (u9 a0 v67).bind λv68=>
      (a6D v67 v68.1 a0 a1).bind λv69=>
      if v69 then
       (app 8 s58 [v67]).bind λv70=>
       κ65 v70
      else
      κ65 s58)
    else
    some (.inr s58)) (0,[])).bind λe56=>
   κ53 e56))
def a2z(a0:Int):Option k7:=
 some (⟨[],a0⟩:k7)
def a0o(a0:a7)(a1:Int):Option Bool:=
 (u9 a0 a1).bind λv1=>
 some (v1.2==0)
def J3(a0:k7):Option Int:=
 some (a0.L.length:Int)
def N7(a0:List Int)(a1:Int)(a2:Int):Option (List Int):=
 (cut a0 a1 a2).bind λv1=>
 some v1
def N6(a0:k7)(a1:Int):Option (k7 × Int):=
 (J3 a0).bind λv1=>
 if (decide (v1≥a0.Cap)) then
  some (a0,4)
 else
 (N7 a0.L 0 v1).bind λv2=>
 (app 8 v2 [a1]).bind λv3=>
 some ((⟨v3,a0.Cap⟩:k7),0)
def a3a(a0:k7)(a1:Int):Option (k7 × (List Int)):=
 (J3 a0).bind λv1=>
 (N7 a0.L 0 (if (if v1<a1 then v1 else a1) > 0 then (if v1<a1 then v1 else a1) else 0)).bind λv2=>
 (N7 a0.L (if (if v1<a1 then v1 else a1) > 0 then (if v1<a1 then v1 else a1) else 0) v1).bind λv3=>
 some ((⟨v3,a0.Cap⟩:k7),v2)
def a0N(a0:k7):Option (k7 × Int × Int):=
 (a3a a0 1).bind λv1=>
 if ((v1.2.length:Int)==0) then
  some (a0,0,10)
 else
 (ix v1.2 0).bind λv2=>
 some (v1.1,v2,0)
def a1M(a0:a7)(a1:List Int):Option (List (Int × Bool)):=
 (C3 a0).bind λv1=>
 (a2z (v1.length:Int)).bind λv2=>
 jn (λ((j20,j21):k7 × (List (Int × Bool)))=>
  jn (λ(j68:List (Int × Bool))=>
   some j68) (λκ67=>
   (lp (S:=k7 × (List (Int × Bool))) (E:=(List (Int × Bool))) (λ((s70,s71):k7 × (List (Int × Bool)))=>
    (J3 s70).bind λv74=>
    if (decide (v74 > 0)) then
     (a0N s70).bind λv75=>
     (a5u a0 v75.2.1).bind λv76=>
     jn (λ((j94,j95):k7 × (List (Int × Bool)))=>
      some (.inl (j94,j95))) (λκ93=>
      (lp (S:=Int × k7 × (List (Int × Bool))) (E:=(k7 × (List (Int × Bool)))) (λ((s98,s99,s100):Int × k7 × (List (Int × Bool)))=>
       if (decide (s98<(v76.length:Int))) then
        jn (λ((j107,j108):k7 × (List (Int × Bool)))=>
         some (.inl (p7 (s98+1),j107,j108))) (λκ106=>
         (ix v76 s98).bind λv110=>
         (a0o a0 v110).bind λv111=>
         if (v111==true) then
          if (!((A1 s100 v110).getD (false:Bool))) then
           (N6 s99 v110).bind λv112=>
           κ106 (v112.1,(o6 s100 v110 true))
          else
          κ106 (s99,s100)
         else
         κ106 (s99,s100))
       else
       some (.inr (s99,s100))) (0,v75.1,s71)).bind λe97=>
      κ93 e97)
    else
    some (.inr s71)) (j20,j21)).bind λe69=>
   κ67 e69)) (λκ19=>
  (lp (S:=Int × k7 × (List (Int × Bool))) (E:=(k7 × (List (Int × Bool)))) (λ((s114,s115,s116):Int × k7 × (List (Int × Bool)))=>
   if (decide (s114<(a1.length:Int))) then
    jn (λ((j123,j124):k7 × (List (Int × Bool)))=>
     some (.inl (p7 (s114+1),j123,j124))) (λκ122=>
     (ix a1 s114).bind λv126=>
     (a0o a0 v126).bind λv127=>
     if (v127==true) then
      if (!((A1 s116 v126).getD (false:Bool))) then
       (N6 s115 v126).bind λv128=>
       κ122 (v128.1,(o6 s116 v126 true))
      else
      κ122 (s115,s116)
     else
     κ122 (s115,s116))
   else
   some (.inr (s115,s116))) (0,v2,[])).bind λe113=>
  κ19 e113)
def a3q(a0:Int)(a1:List (Int × Bool)):Option Bool:=
 some ((A1 a1 a0).getD (false:Bool))
def Q2(a0:a7)(a1:List (Int × Bool)):Option (List Int):=
 jn (λ(j16:List Int)=>
  some j16) (λκ15=>
  (C3 a0).bind λv17=>
  (lp (S:=Int × (List Int)) (E:=(List Int)) (λ((s19,s20):Int × (List Int))=>
   if (decide (s19<(v17.length:Int))) then
    jn (λ(j27:List Int)=>
     some (.inl (p7 (s19+1),j27))) (λκ26=>
     (ix v17 s19).bind λv28=>
     (a3q v28 a1).bind λv29=>
     if v29 then
      (app 8 s20 [v28]).bind λv30=>
      κ26 v30
     else
     κ26 s20)
   else
   some (.inr s20)) (0,[])).bind λe18=>
  κ15 e18)
def a31(a0:a7)(a1:List Int):Option (List Int):=
 (a1M a0 a1).bind λv1=>
 (Q2 a0 v1).bind λv2=>
 some v2
def a2v(a0:m9):Option Bool:=
 some true
def y8(a0:List b8):Option (List m9):=
 jn (λ(j16:List m9)=>
  some j16) (λκ15=>
  (a5h a0).bind λv17=>
  (lp (S:=Int × (List m9)) (E:=(List m9)) (λ((s19,s20):Int × (List m9))=>
   if (decide (s19<(v17.length:Int))) then
    (ix v17 s19).bind λv23=>
    (J8 a0 v23).bind λv24=>
    jn (λ(j28:List m9)=>
     some (.inl (p7 (s19+1),j28))) (λκ27=>
     (a2v (⟨v23,v24.1⟩:m9)).bind λv29=>
     if v29 then
      (app 16 s20 [(⟨v23,v24.1⟩:m9)]).bind λv30=>
      κ27 v30
     else
     κ27 s20)
   else
   some (.inr s20)) (0,[])).bind λe18=>
  κ15 e18)
def a4s(a0:List b8):Option (List m9):=
 (a1d a0).bind λv1=>
 (y8 v1).bind λv2=>
 some v2
def a3P(a0:Int)(a1:a7):Option Bool:=
 (u9 a1 a0).bind λv1=>
 some (v1.2==0)
def a95(a0:a7)(a1:List b8)(a2:List Int):Option (List Int):=
 jn (λ(j20:List Int)=>
  some j20) (λκ19=>
  (a4s a1).bind λv21=>
  (lp (S:=Int × (List Int)) (E:=(List Int)) (λ((s23,s24):Int × (List Int))=>
   if (decide (s23<(v21.length:Int))) then
    jn (λ(j33:List Int)=>
     some (.inl (p7 (s23+1),j33))) (λκ32=>
     (ix v21 s23).bind λv34=>
     (D5 a2 v34.Key).bind λv35=>
     (u6 (v35==true) false (a3P v34.Key a0)).bind λv36=>
     (u6 ((v35&&v36)==true) false (a3P v34.Val a0)).bind λv37=>
     if ((v35&&v36)&&v37) then
      (app 8 s24 [v34.Val]).bind λv38=>
      κ32 v38
     else
     κ32 s24)
   else
   some (.inr s24)) (0,[])).bind λe22=>
  κ19 e22)
def a8b(a0:a7)(a1:List b8)(a2:List Int):Option ((List Int) × Int):=
 (a31 a0 a2).bind λv1=>
 (lp (S:=(List Int) × Int) (E:=((List Int) × Int)) (λ((s3,s4):(List Int) × Int)=>
  (a95 a0 a1 s3).bind λv7=>
  jn (λ(_:Unit)=>
   some (.inr (s3,s4))) (λκ15=>
   (lp (S:=Int) (E:=((List Int) × Int) ⊕ Unit) (λ(s18:Int)=>
    if (decide (s18<(v7.length:Int))) then
     (ix v7 s18).bind λv20=>
     (D5 s3 v20).bind λv21=>
     if (!v21) then
      (app 8 v7 s3).bind λv22=>
      (a31 a0 v22).bind λv23=>
      some (.inr (.inl (v23,p7 (s4+1))))
     else
     some (.inl (p7 (s18+1)))
    else
    some (.inr (.inr ()))) 0).bind λe17=>
   match e17 with
   | .inl w=>some (.inl w)
   | .inr w=>κ15 w)) (v1,0)).bind λe2=>
 some e2
def a94(a0:a7)(a1:List b8)(a2:List Int):Option (List Int):=
 (a8b a0 a1 a2).bind λv1=>
 some v1.1
def a3r(a0:Int)(a1:List (Int × Bool)):Option Bool:=
 some (!((A1 a1 a0).getD (false:Bool)))
def Q3(a0:a7)(a1:List (Int × Bool)):Option (List Int):=
 jn (λ(j16:List Int)=>
  some j16) (λκ15=>
  (C3 a0).bind λv17=>
  (lp (S:=Int × (List Int)) (E:=(List Int)) (λ((s19,s20):Int × (List Int))=>
   if (decide (s19<(v17.length:Int))) then
    jn (λ(j27:List Int)=>
     some (.inl (p7 (s19+1),j27))) (λκ26=>
     (ix v17 s19).bind λv28=>
     (a3r v28 a1).bind λv29=>
     if v29 then
      (app 8 s20 [v28]).bind λv30=>
      κ26 v30
     else
     κ26 s20)
   else
   some (.inr s20)) (0,[])).bind λe18=>
  κ15 e18)
def a6q(a0:a7)(a1:List Int):Option (List Int):=
 (a1M a0 a1).bind λv1=>
 (Q3 a0 v1).bind λv2=>
 some v2
def a7k(a0:a7)(a1:List b8)(a2:List Int):Option (List Int):=
 (a94 a0 a1 a2).bind λv1=>
 (a6q a0 v1).bind λv2=>
 some v2
def a0R(a0:a7)(a1:List b8):Option (List Int):=
 (a6C a0 a1).bind λv1=>
 (a7k a0 a1 v1).bind λv2=>
 some v2
def O6(a0:b6):Option (List Int):=
 (a0R a0.S a0.T).bind λv1=>
 some v1
def a2Y(a0:Int)(a1:b6):Option Bool:=
 (u9 a1.S a0).bind λv1=>
 some ((decide (v1.1.Prog≥0))&&(!v1.1.Started))
def F6(a0:List Int)(a1:b6):Option (List Int):=
 jn (λ(j15:List Int)=>
  some j15) (λκ14=>
  (lp (S:=Int × (List Int)) (E:=(List Int)) (λ((s17,s18):Int × (List Int))=>
   if (decide (s17<(a0.length:Int))) then
    jn (λ(j25:List Int)=>
     some (.inl (p7 (s17+1),j25))) (λκ24=>
     (ix a0 s17).bind λv26=>
     (a2Y v26 a1).bind λv27=>
     if v27 then
      (app 8 s18 [v26]).bind λv28=>
      κ24 v28
     else
     κ24 s18)
   else
   some (.inr s18)) (0,[])).bind λe16=>
  κ14 e16)
def a2t(a0:b6):Option (List Int):=
 (O6 a0).bind λv1=>
 (F6 v1 a0).bind λv2=>
 some v2
def V0(a0:b6):Option (b6 × Int × Int):=
 (a2t a0).bind λv1=>
 jn (λ(j10:b6)=>
  if (decide ((v1.length:Int) > 0)) then
   some (j10,(v1.length:Int),0)
  else
  (O6 j10).bind λv11=>
  (Z8 j10 v11).bind λv12=>
  (M7 v12).bind λv13=>
  (C3 j10.S).bind λv14=>
  (C3 v13.S).bind λv15=>
  some (v13,0,p7 ((v14.length:Int)-(v15.length:Int)))) (λκ9=>
  (lp (S:=Int × b6) (E:=b6) (λ((s17,s18):Int × b6)=>
   if (decide (s17<(v1.length:Int))) then
    (ix v1 s17).bind λv21=>
    (Q4 s18 v21).bind λv22=>
    some (.inl (p7 (s17+1),v22))
   else
   some (.inr s18)) (0,a0)).bind λe16=>
  κ9 e16)
def X8(a0:c9)(a1:Int):Option (c9 × (List k9)):=
 (H2 a0).bind λv1=>
 (D7 a0.L 0 (if (if v1<a1 then v1 else a1) > 0 then (if v1<a1 then v1 else a1) else 0)).bind λv2=>
 (D7 a0.L (if (if v1<a1 then v1 else a1) > 0 then (if v1<a1 then v1 else a1) else 0) v1).bind λv3=>
 some ((⟨v3,a0.Cap⟩:c9),v2)
def a0B(a0:c9):Option (c9 × k9 × Int):=
 (X8 a0 1).bind λv1=>
 if ((v1.2.length:Int)==0) then
  some (a0,(⟨0,0,0⟩:k9),10)
 else
 (ix v1.2 0).bind λv2=>
 some (v1.1,v2,0)
def a1n(a0:c9):Option (c9 × k9 × Int):=
 (a0B a0).bind λv1=>
 some (v1.1,v1.2.1,v1.2.2)
def a2E(a0:b6):Option Bool:=
 (a1n a0.Q).bind λv1=>
 some (v1.2.2 != 0)
def a3N(a0:List (List g9))(a1:Int):Option (List g9):=
 if ((decide (a1<0))||(decide (a1≥(a0.length:Int)))) then
  some []
 else
 (ix a0 a1).bind λv1=>
 some v1
def a5V(a0:List (List g9))(a1:k9):Option Int:=
 (a3N a0 a1.Prog).bind λv1=>
 some (p7 (1+(v1.length:Int)))
def a2J(a0:b6)(a1:List g9):Option (b6 × (List Int)):=
 jn (λ((j11,j12):b6 × (List Int))=>
  some (j11,j12)) (λκ10=>
  (lp (S:=Int × b6 × (List Int)) (E:=(b6 × (List Int))) (λ((s15,s16,s17):Int × b6 × (List Int))=>
   if (decide (s15<(a1.length:Int))) then
    (ix a1 s15).bind λv20=>
    (r8 s16 v20).bind λv21=>
    (app 8 s17 [v21.2.1]).bind λv22=>
    some (.inl (p7 (s15+1),v21.1,v22))
   else
   some (.inr (s16,s17))) (0,a0,[])).bind λe14=>
  κ10 e14)
def a5W(a0:b6)(a1:List (List g9)):Option (b6 × k9 × Int):=
 (a1n a0.Q).bind λv1=>
 if (v1.2.2 != 0) then
  some (a0,(⟨0,0,0⟩:k9),v1.2.2)
 else
 jn (λ(j6:b6)=>
  (a3N a1 v1.2.1.Prog).bind λv7=>
  (a2J j6 v7).bind λv8=>
  if (v1.2.1.Kind==1) then
   (a0j v8.1 5 0).bind λv9=>
   (M7 v9.1).bind λv10=>
   some (v10,v1.2.1,0)
  else
  some (v8.1,v1.2.1,0)) (λκ5=>
  if (v1.2.1.Kind==1) then
   (a0j (⟨a0.S,a0.Roots,a0.a8,a0.T,v1.1⟩:b6) 5 v1.2.1.At).bind λv11=>
   (B1 v11.1 v1.2.1.At).bind λv12=>
   (M7 v12).bind λv13=>
   κ5 v13
  else
  κ5 (⟨a0.S,a0.Roots,a0.a8,a0.T,v1.1⟩:b6))
def a2D(a0:b6)(a1:List (List g9))(a2:Int):Option (b6 × Int × Int × Int):=
 jn (λ((j14,j15,j16):Int × Int × b6)=>
  (a2E j16).bind λv18=>
  if (!v18) then
   some (j16,j14,j15,12)
  else
  some (j16,j14,j15,0)) (λκ13=>
  (lp (S:=Int × b6 × Int × Int × b6) (E:=(Int × Int × b6)) (λ((s20,s21,s22,s23,s24):Int × b6 × Int × Int × b6)=>
   (a2E s21).bind λv27=>
   if (!v27) then
    (a1n s21.Q).bind λv28=>
    (a5V a1 v28.2.1).bind λv29=>
    if (decide (v29 > s20)) then
     some (.inr (s22,s23,s24))
    else
    (a5W s21 a1).bind λv30=>
    some (.inl (p7 (s20-v29),v30.1,p7 (s22+1),p7 (s20-v29),v30.1))
   else
   some (.inr (s22,s23,s24))) (a2,a0,0,a2,a0)).bind λe19=>
  κ13 e19)
def B7(a0:c7)(a1:List Int):Option (c7 × g7):=
 (T8 a1).bind λv1=>
 if (v1.2 != 0) then
  some (a0,(⟨0,v1.2⟩:g7))
 else
 (a5X v1.1).bind λv2=>
 if (decide (v2.t=85)) then
  (r8 a0.X (⟨(ifG v2 85 0),(ifG v2 85 1),(ifG v2 85 2),(ifG v2 85 3)⟩:g9)).bind λv3=>
  some ((⟨v3.1,a0.Progs⟩:c7),(⟨v3.2.1,v3.2.2⟩:g7))
 else
 if (decide (v2.t=89)) then
  (V0 a0.X).bind λv4=>
  some ((⟨v4.1,a0.Progs⟩:c7),(⟨p7 (v4.2.2-v4.2.1),0⟩:g7))
 else
 if (decide (v2.t=93)) then
  (a2D a0.X a0.Progs (ifG v2 93 0)).bind λv5=>
  some ((⟨v5.1,a0.Progs⟩:c7),(⟨v5.2.1,v5.2.2.2⟩:g7))
 else
 some (a0,(⟨0,0⟩:g7))
def H9(a0:c7)(a1:List (List Int)):Option (c7 × (List g7)):=
 jn (λ((j11,j12):c7 × (List g7))=>
  some (j11,j12)) (λκ10=>
  (lp (S:=Int × c7 × (List g7)) (E:=(c7 × (List g7))) (λ((s15,s16,s17):Int × c7 × (List g7))=>
   if (decide (s15<(a1.length:Int))) then
    (ix a1 s15).bind λv20=>
    (B7 s16 v20).bind λv21=>
    (app 16 s17 [v21.2]).bind λv22=>
    some (.inl (p7 (s15+1),v21.1,v22))
   else
   some (.inr (s16,s17))) (0,a0,[])).bind λe14=>
  κ10 e14)
def b01(a0:c7)(a1:Int):Option (c7 × Bool):=
 jn (λ(j11:c7)=>
  some (j11,false)) (λκ10=>
  (lp (S:=Int × c7) (E:=(c7 × Bool) ⊕ c7) (λ((s13,s14):Int × c7)=>
   if (decide (s13<a1)) then
    (C5 11 0 0 0).bind λv17=>
    (B7 s14 v17).bind λv18=>
    (C5 12 200 0 0).bind λv19=>
    (B7 v18.1 v19).bind λv20=>
    if (((v18.2.V==0)&&(v20.2.V==0))&&(v20.2.E==0)) then
     some (.inr (.inl (v20.1,true)))
    else
    some (.inl (p7 (s13+1),v20.1))
   else
   some (.inr (.inr s14))) (0,a0)).bind λe12=>
  match e12 with
  | .inl w=>some w
  | .inr w=>κ10 w)
def P5(a0:c8):Option A4:=
 jn (λ(j9:A4)=>
  some j9) (λκ8=>
  (lp (S:=Int × A4) (E:=A4) (λ((s11,s12):Int × A4)=>
   if (decide (s11<(a0.a8.length:Int))) then
    (ix a0.a8 s11).bind λv15=>
    (A4.ix s12 v15.State).bind λv16=>
    some (.inl (p7 (s11+1),(A4.st s12 v15.State (p7 (v16+1)))))
   else
   some (.inr s12)) (0,(⟨0,0,0,0⟩:A4))).bind λe10=>
  κ8 e10)
def L9(a0:c7):Option A4:=
 (P5 a0.X.S.S).bind λv1=>
 some v1
def a1U:Option Bool:=
 (a0e 2 3).bind λv1=>
 (C5 1 0 1 (-1)).bind λv2=>
 (C5 5 0 0 0).bind λv3=>
 (C5 3 0 0 0).bind λv4=>
 (C5 11 0 0 0).bind λv5=>
 (C5 1 0 0 (-1)).bind λv6=>
 (C5 1 1 0 (-1)).bind λv7=>
 (C5 1 2 0 (-1)).bind λv8=>
 (H9 v1 [v2,v3,v4,v5,v6,v7,v8]).bind λv9=>
 (u6 (((v9.2.length:Int)==7)==true) (⟨0,0⟩:g7) (ix v9.2 3)).bind λv10=>
 (u6 ((((v9.2.length:Int)==7)&&(v10.V==1))==true) (⟨0,0⟩:g7) (ix v9.2 4)).bind λv11=>
 (u6 (((((v9.2.length:Int)==7)&&(v10.V==1))&&(v11.V==2))==true) (⟨0,0⟩:g7) (ix v9.2 5)).bind λv12=>
 (u6 ((((((v9.2.length:Int)==7)&&(v10.V==1))&&(v11.V==2))&&(v12.V==3))==true) (⟨0,0⟩:g7) (ix v9.2 6)).bind λv13=>
 (u6 (((((((v9.2.length:Int)==7)&&(v10.V==1))&&(v11.V==2))&&(v12.V==3))&&(v13.E==4))==true) ⟨0,0,0,0⟩ (L9 v9.1)).bind λv14=>
 some (((((((v9.2.length:Int)==7)&&(v10.V==1))&&(v11.V==2))&&(v12.V==3))&&(v13.E==4))&&((v14.a==0)&&((v14.b==2)&&((v14.c==0)&&((v14.d==0)&&true)))))
def a6H(a0:Int):Option Bool:=
 (rem (p7 a0) 22).bind λv1=>
 (a0e 24 9).bind λv2=>
 jn (λ(j13:c7)=>
  (C5 3 1 0 0).bind λv14=>
  (B7 j13 v14).bind λv15=>
  (b01 v15.1 3).bind λv16=>
  (C5 3 0 0 0).bind λv17=>
  (B7 v16.1 v17).bind λv18=>
  (u6 (v16.2==true) ⟨0,0,0,0⟩ (L9 v16.1)).bind λv19=>
  (u6 (((v16.2&&((v19.a==(p7 (24-(p7 (1+v1)))))&&((v19.b==(p7 (1+v1)))&&((v19.c==0)&&((v19.d==0)&&true)))))&&(v18.2.V==0))==true) ⟨0,0,0,0⟩ (L9 v18.1)).bind λv20=>
  (u6 ((((v16.2&&((v19.a==(p7 (24-(p7 (1+v1)))))&&((v19.b==(p7 (1+v1)))&&((v19.c==0)&&((v19.d==0)&&true)))))&&(v18.2.V==0))&&((v20.a==24)&&((v20.b==0)&&((v20.c==0)&&((v20.d==0)&&true)))))==true) false a1U).bind λv21=>
  some ((((v16.2&&((v19.a==(p7 (24-(p7 (1+v1)))))&&((v19.b==(p7 (1+v1)))&&((v19.c==0)&&((v19.d==0)&&true)))))&&(v18.2.V==0))&&((v20.a==24)&&((v20.b==0)&&((v20.c==0)&&((v20.d==0)&&true)))))&&v21)) (λκ12=>
  (lp (S:=Int × c7) (E:=c7) (λ((s23,s24):Int × c7)=>
   if (decide (s23<(p7 (1+v1)))) then
    (C5 1 1 1 (-1)).bind λv27=>
    (C5 5 1 0 0).bind λv28=>
    (C5 2 0 1 0).bind λv29=>
    (H9 s24 [v27,v28,v29]).bind λv30=>
    some (.inl (p7 (s23+1),v30.1))
   else
   some (.inr s24)) (0,v2)).bind λe22=>
  κ12 e22)
def a6I(a0:Int)(a1:Int):Option Bool:=
 (rem (p7 a0) 24).bind λv1=>
 (a0e (p7 (1+v1)) 9).bind λv2=>
 jn (λ(_:Unit)=>
  (a1U).bind λv25=>
  some v25) (λκ23=>
  (lp (S:=Int × c7) (E:=Bool ⊕ Unit) (λ((s27,s28):Int × c7)=>
   (rem (p7 a1) 8).bind λv31=>
   if (decide (s27<v31)) then
    (C5 1 0 0 (-1)).bind λv32=>
    (rem s27 6).bind λv33=>
    (C5 6 v33 0 (-1)).bind λv34=>
    (C5 7 1 v33 0).bind λv35=>
    (C5 3 1 0 0).bind λv36=>
    (C5 3 0 0 0).bind λv37=>
    (C5 1 2 0 (-1)).bind λv38=>
    (C5 3 2 0 0).bind λv39=>
    (H9 s28 [v32,v34,v35,v36,v37,v35,v38,v35,v39]).bind λv40=>
    (u6 (((v40.2.length:Int) != 9)==false) (⟨0,0⟩:g7) (ix v40.2 0)).bind λv41=>
    (u6 ((((v40.2.length:Int) != 9)==false)&&((v41.E==0)==true)) (⟨0,0⟩:g7) (ix v40.2 2)).bind λv42=>
    (u6 ((((v40.2.length:Int) != 9)==false)&&((v41.E==0)==true)) (⟨0,0⟩:g7) (ix v40.2 0)).bind λv43=>
    (u6 (((((v40.2.length:Int) != 9)==false)&&((v41.E==0)==true))&&((v42.V != v43.V)==false)) (⟨0,0⟩:g7) (ix v40.2 5)).bind λv44=>
    (u6 (((((v40.2.length:Int) != 9)==false)&&((v41.E==0)==true))&&(((v42.V != v43.V)||(v44.E != 9))==false)) (⟨0,0⟩:g7) (ix v40.2 7)).bind λv45=>
    if (((v40.2.length:Int) != 9)||((v41.E==0)&&(((v42.V != v43.V)||(v44.E != 9))||(v45.E != 9)))) then
     some (.inr (.inl false))
    else
    some (.inl (p7 (s27+1),v40.1))
   else
   some (.inr (.inr ()))) (0,v2)).bind λe26=>
  match e26 with
  | .inl w=>some w
  | .inr w=>κ23 w)
def G2(a0:c7):Option (List Int):=
 jn (λ(j11:List Int)=>
  (a8A j11).bind λv12=>
  some v12) (λκ10=>
  (C3 a0.X.S).bind λv13=>
  (lp (S:=Int × (List Int)) (E:=(List Int)) (λ((s15,s16):Int × (List Int))=>
   if (decide (s15<(v13.length:Int))) then
    (ix v13 s15).bind λv19=>
    (Z4 a0.X v19).bind λv20=>
    (app 8 s16 [v20]).bind λv21=>
    some (.inl (p7 (s15+1),v21))
   else
   some (.inr s16)) (0,[])).bind λe14=>
  κ10 e14)
def a4N(a0:Int)(a1:Bool):Option Bool:=
 (rem (p7 a0) 22).bind λv1=>
 (a0e (p7 (2+v1)) 9).bind λv2=>
 (C5 1 0 1 (-1)).bind λv3=>
 (C5 1 1 1 (-1)).bind λv4=>
 (C5 8 0 1 0).bind λv5=>
 (H9 v2 [v3,v4,v5]).bind λv6=>
 jn (λ(j10:c7)=>
  (C5 3 1 0 0).bind λv11=>
  (B7 j10 v11).bind λv12=>
  (C5 11 0 0 0).bind λv13=>
  (B7 v12.1 v13).bind λv14=>
  (C5 9 1 0 0).bind λv15=>
  (C5 3 0 0 0).bind λv16=>
  (H9 v14.1 [v15,v11,v16,v13]).bind λv17=>
  jn (λ(j19:Int)=>
   (u6 ((v14.2.V==0)==true) [] (G2 v14.1)).bind λv20=>
   (u6 ((((v14.2.V==0)&&((v20.length:Int)==2))&&((v17.2.length:Int)==4))==true) (⟨0,0⟩:g7) (ix v17.2 0)).bind λv21=>
   (u6 (((((v14.2.V==0)&&((v20.length:Int)==2))&&((v17.2.length:Int)==4))&&(v21.V==2))==true) (⟨0,0⟩:g7) (ix v17.2 3)).bind λv22=>
   (u6 ((((((v14.2.V==0)&&((v20.length:Int)==2))&&((v17.2.length:Int)==4))&&(v21.V==2))&&(v22.V==j19))==true) [] (G2 v17.1)).bind λv23=>
   (u6 (((((((v14.2.V==0)&&((v20.length:Int)==2))&&((v17.2.length:Int)==4))&&(v21.V==2))&&(v22.V==j19))&&((v23.length:Int)==0))==true) false a1U).bind λv24=>
   some (((((((v14.2.V==0)&&((v20.length:Int)==2))&&((v17.2.length:Int)==4))&&(v21.V==2))&&(v22.V==j19))&&((v23.length:Int)==0))&&v24)) (λκ18=>
   if a1 then
    κ18 2
   else
   κ18 0)) (λκ9=>
  if a1 then
   (C5 5 1 0 0).bind λv25=>
   (B7 v6.1 v25).bind λv26=>
   κ9 v26.1
  else
  κ9 v6.1)
def b02(a0:c7)(a1:Int):Option Bool:=
 (G2 a0).bind λv1=>
 jn (λ(_:Unit)=>
  some false) (λκ6=>
  (lp (S:=Int) (E:=Bool ⊕ Unit) (λ(s9:Int)=>
   if (decide (s9<(v1.length:Int))) then
    (ix v1 s9).bind λv11=>
    if (v11==a1) then
     some (.inr (.inl true))
    else
    some (.inl (p7 (s9+1)))
   else
   some (.inr (.inr ()))) 0).bind λe8=>
  match e8 with
  | .inl w=>some w
  | .inr w=>κ6 w)
def a7Z(a0:Int):Option Bool:=
 (a0e 24 9).bind λv1=>
 (C5 1 0 0 (-1)).bind λv2=>
 (B7 v1 v2).bind λv3=>
 (rem (p7 a0) 12).bind λv4=>
 jn (λ(j23:c7)=>
  jn (λ(j32:c7)=>
   (b01 j32 3).bind λv33=>
   (u6 (v33.2==true) false (b02 v33.1 1)).bind λv34=>
   (u6 ((v33.2&&(v34==(decide ((p7 (1+v4))≥11))))==true) false a1U).bind λv35=>
   some ((v33.2&&(v34==(decide ((p7 (1+v4))≥11))))&&v35)) (λκ31=>
   (lp (S:=Int × c7) (E:=c7) (λ((s37,s38):Int × c7)=>
    if (decide (s37<6)) then
     (C5 3 s37 0 0).bind λv41=>
     (B7 s38 v41).bind λv42=>
     some (.inl (p7 (s37+1),v42.1))
    else
    some (.inr s38)) (0,j23)).bind λe36=>
   κ31 e36)) (λκ22=>
  (lp (S:=Int × c7) (E:=c7) (λ((s44,s45):Int × c7)=>
   if (decide (s44<(p7 (1+v4)))) then
    (quo .i64 s44 4).bind λv48=>
    jn (λ(j53:c7)=>
     (rem s44 4).bind λv54=>
     (C5 5 (p7 (1+v48)) v54 0).bind λv55=>
     (B7 j53 v55).bind λv56=>
     some (.inl (p7 (s44+1),v56.1))) (λκ52=>
     (rem s44 4).bind λv57=>
     if (v57==0) then
      (C5 1 (p7 (1+v48)) 4 (-1)).bind λv58=>
      (B7 s45 v58).bind λv59=>
      κ52 v59.1
     else
     κ52 s45)
   else
   some (.inr s45)) (0,v3.1)).bind λe43=>
  κ22 e43)
structure N9 where
 Kind:Int
 A:Int
 B:Int
 C:Int
structure M3 where
 Serial:Int
 Strong:Int
 Weak:Int
 Prog:Int
 Started:Bool
 Fields:List Int
structure G8 where
 State:Int
 Gen:Int
 Val:M3
structure F4 where
 Target:Int
 Intact:Bool
 Call:Int
structure p9 where
 State:Int
 Key:Int
 Val:Int
structure P4 where
 Kind:Int
 At:Int
 Prog:Int
structure L2 where
 State:Int
 Gen:Int
 Val:Int
structure E6 where
 a8:List L2
 Last:Int
structure o7 where
 a8:List G8
 Last:Int
 Serial:Int
structure C9 where
 L:List P4
 Cap:Int
structure g6 where
 S:o7
 Roots:List Int
 a8:List F4
 T:List p9
 Q:C9
structure A2 where
 X:g6
 Progs:List (List N9)
structure a3Y where
 Key:Int
 Val:Int
structure C0 where
 V:Int
 E:Int
def W1(a0:N9):Option Bool:=
 some ((decide (a0.Kind≥1))&&(decide (a0.Kind≤10)))
def a09(a0:Int)(a1:Int)(a2:Int)(a3:Int):Option Int:=
 if ((decide (a0<a1))||(decide (a0 > a2))) then
  some a3
 else
 some 0
def a0n(a0:Int)(a1:Int)(a2:Int):Option Int:=
 if (a0 != 0) then
  some a0
 else
 if (a1 != 0) then
  some a1
 else
 some a2
def a1k(a0:N9):Option Int:=
 (a09 a0.A 0 5 6).bind λv1=>
 (a09 a0.B 0 5 6).bind λv2=>
 if (a0.Kind==1) then
  (a09 a0.B 0 4 1).bind λv3=>
  (a09 a0.C (-1) 5 13).bind λv4=>
  (a0n v1 v3 v4).bind λv5=>
  some v5
 else
 jn (λ(j7:Bool)=>
  if j7 then
   (a0n v1 v2 0).bind λv8=>
   some v8
  else
  if (a0.Kind==3) then
   some v1
  else
  if (a0.Kind==4) then
   (a09 a0.C 0 3 5).bind λv9=>
   (a0n v1 v2 v9).bind λv10=>
   some v10
  else
  if (a0.Kind==5) then
   (a09 a0.B 0 3 5).bind λv11=>
   (a09 a0.C (-1) 5 6).bind λv12=>
   (a0n v1 v11 v12).bind λv13=>
   some v13
  else
  if (a0.Kind==6) then
   (a09 a0.A 0 5 7).bind λv14=>
   (a09 a0.B (-1) 5 6).bind λv15=>
   (a09 a0.C (-1) 5 13).bind λv16=>
   (a0n v14 v15 v16).bind λv17=>
   some v17
  else
  if (a0.Kind==7) then
   (a09 a0.B 0 5 7).bind λv18=>
   (a0n v1 v18 0).bind λv19=>
   some v19
  else
  if (a0.Kind==8) then
   (a09 a0.B (-1) 5 6).bind λv20=>
   (a0n v1 v20 0).bind λv21=>
   some v21
  else
  if (a0.Kind==11) then
   some 0
  else
  if (a0.Kind==12) then
   (a09 a0.A 0 200 12).bind λv22=>
   some v22
  else
  some 14) (λκ6=>
  if (a0.Kind==2) then
   κ6 (a0.Kind==2)
  else
  if (a0.Kind==9) then
   κ6 (a0.Kind==9)
  else
  κ6 (a0.Kind==10))
def a8q(a0:List (List N9)):Option Bool:=
 if (decide ((a0.length:Int) > 6)) then
  some false
 else
 jn (λ(_:Unit)=>
  some true) (λκ20=>
  (lp (S:=Int) (E:=Bool ⊕ Unit) (λ(s23:Int)=>
   if (decide (s23<(a0.length:Int))) then
    jn (λ(_:Unit)=>
     some (.inl (p7 (s23+1)))) (λκ32=>
     (ix a0 s23).bind λv34=>
     if (decide ((v34.length:Int) > 6)) then
      some (.inr (.inl false))
     else
     (lp (S:=Int) (E:=Bool ⊕ Unit) (λ(s36:Int)=>
      if (decide (s36<(v34.length:Int))) then
       (ix v34 s36).bind λv38=>
       (W1 v38).bind λv39=>
       (u6 ((!v39)==false) 0 (a1k v38)).bind λv40=>
       if ((!v39)||(v40 != 0)) then
        some (.inr (.inl false))
       else
       some (.inl (p7 (s36+1)))
      else
      some (.inr (.inr ()))) 0).bind λe35=>
     match e35 with
     | .inl w=>some (.inr (.inl w))
     | .inr w=>κ32 w)
   else
   some (.inr (.inr ()))) 0).bind λe22=>
  match e22 with
  | .inl w=>some w
  | .inr w=>κ20 w)
def c1c(a0:Int)(a1:Int):Option E6:=
 if ((((decide (a0<0))||(decide (a0 > 24)))||(decide (a1<0)))||(decide (a1 > 9))) then
  some (⟨[],0⟩:E6)
 else
 (mk 24 a0 (⟨0,0,0⟩:L2)).bind λv1=>
 some (⟨v1,a1⟩:E6)
def b6E(a0:Int)(a1:Int):Option o7:=
 (c1c a0 a1).bind λv1=>
 (mk 80 (v1.a8.length:Int) (⟨0,0,⟨0,0,0,0,false,[]⟩⟩:G8)).bind λv2=>
 some (⟨v2,v1.Last,0⟩:o7)
def c69(a0:Int):Option (List F4):=
 jn (λ(j8:List F4)=>
  some j8) (λκ7=>
  (lp (S:=Int × (List F4)) (E:=(List F4)) (λ((s10,s11):Int × (List F4))=>
   if ((decide (s10<a0))&&(decide (a0≤6))) then
    (app 24 s11 [(⟨0,false,(-1)⟩:F4)]).bind λv14=>
    some (.inl (p7 (s10+1),v14))
   else
   some (.inr s11)) (0,[])).bind λe9=>
  κ7 e9)
def c1d(a0:Int):Option (List p9):=
 if ((decide (a0<1))||(decide (a0 > 8))) then
  some []
 else
 (mk 24 a0 (⟨0,0,0⟩:p9)).bind λv1=>
 some v1
def c7a:Option C9:=
 some (⟨[],30⟩:C9)
def b0E(a0:Int)(a1:Int)(a2:Int):Option g6:=
 if ((((((decide (a0<1))||(decide (a0 > 24)))||(decide (a1<0)))||(decide (a1 > 9)))||(decide (a2<1)))||(decide (a2 > 8))) then
  some (⟨⟨[],0,0⟩,[],[],[],⟨[],0⟩⟩:g6)
 else
 (b6E a0 a1).bind λv1=>
 (mk 8 6 (0:Int)).bind λv2=>
 (c69 6).bind λv3=>
 (c1d a2).bind λv4=>
 (c7a).bind λv5=>
 some (⟨v1,v2,v3,v4,v5⟩:g6)
def b6J(a0:Int)(a1:Int)(a2:Int)(a3:List (List N9)):Option (A2 × Int):=
 (a8q a3).bind λv1=>
 if (!v1) then
  some ((⟨⟨⟨[],0,0⟩,[],[],[],⟨[],0⟩⟩,[]⟩:A2),13)
 else
 (b0E a0 a1 a2).bind λv2=>
 if ((v2.Roots.length:Int)==0) then
  some ((⟨⟨⟨[],0,0⟩,[],[],[],⟨[],0⟩⟩,[]⟩:A2),1)
 else
 some ((⟨v2,a3⟩:A2),0)
def b3J(a0:List Int)(a1:List Int):Option Bool:=
 if ((a0.length:Int) != (a1.length:Int)) then
  some false
 else
 jn (λ(_:Unit)=>
  some true) (λκ6=>
  (lp (S:=Int) (E:=Bool ⊕ Unit) (λ(s9:Int)=>
   if (decide (s9<(a0.length:Int))) then
    (ix a0 s9).bind λv11=>
    (ix a1 s9).bind λv12=>
    if (v11 != v12) then
     some (.inr (.inl false))
    else
    some (.inl (p7 (s9+1)))
   else
   some (.inr (.inr ()))) 0).bind λe8=>
  match e8 with
  | .inl w=>some w
  | .inr w=>κ6 w)
def M8(a0:o7):Option E6:=
 jn (λ(j9:List L2)=>
  some (⟨j9,a0.Last⟩:E6)) (λκ8=>
  (lp (S:=Int × (List L2)) (E:=(List L2)) (λ((s11,s12):Int × (List L2))=>
   if (decide (s11<(a0.a8.length:Int))) then
    (ix a0.a8 s11).bind λv15=>
    (app 24 s12 [(⟨v15.State,v15.Gen,s11⟩:L2)]).bind λv16=>
    some (.inl (p7 (s11+1),v16))
   else
   some (.inr s12)) (0,[])).bind λe10=>
  κ8 e10)
def a2R(a0:List p9)(a1:Int):Option Int:=
 jn (λ(_:Unit)=>
  some (-1)) (λκ5=>
  (lp (S:=Int) (E:=Int ⊕ Unit) (λ(s8:Int)=>
   if (decide (s8<(a0.length:Int))) then
    (ix a0 s8).bind λv10=>
    if ((v10.State==1)&&(v10.Key==a1)) then
     some (.inr (.inl s8))
    else
    some (.inl (p7 (s8+1)))
   else
   some (.inr (.inr ()))) 0).bind λe7=>
  match e7 with
  | .inl w=>some w
  | .inr w=>κ5 w)
def b8m(a0:Int)(a1:Int):Option Int:=
 if (decide (a0<1)) then
  some 0
 else
 (rem (p7 ((p7 (5*a1))+1)) a0).bind λv1=>
 if (decide (v1<0)) then
  some (p7 (v1+a0))
 else
 some v1
def a5q(a0:Int)(a1:Int):Option Int:=
 if ((((decide (a0<0))||(decide (a0 > 23)))||(decide (a1<0)))||(decide (a1 > 9))) then
  some 0
 else
 some (p7 ((p7 (1+a0))+(p7 (32*a1))))
def a8j(a0:Int):Option Bool:=
 if ((decide (a0<1))||(decide (a0 > 400))) then
  some false
 else
 (rem (p7 (a0-1)) 32).bind λv1=>
 (quo .i64 (p7 (a0-1)) 32).bind λv2=>
 (a5q v1 v2).bind λv3=>
 some (v3==a0)
def a7x(a0:Int):Option Int:=
 (a8j a0).bind λv1=>
 if (!v1) then
  some (-1)
 else
 (rem (p7 (a0-1)) 32).bind λv2=>
 some v2
def b6C(a0:Int):Option Int:=
 (a8j a0).bind λv1=>
 if (!v1) then
  some (-1)
 else
 (quo .i64 (p7 (a0-1)) 32).bind λv2=>
 some v2
def P3(a0:E6)(a1:Int):Option (Int × Int):=
 if (a1==0) then
  some ((-1),2)
 else
 (a7x a1).bind λv1=>
 if ((decide (v1<0))||(decide (v1≥(a0.a8.length:Int)))) then
  some ((-1),3)
 else
 (ix a0.a8 v1).bind λv2=>
 (b6C a1).bind λv3=>
 if ((v2.Gen != v3)||((v2.State != 1)&&(v2.State != 2))) then
  some ((-1),3)
 else
 some (v1,0)
def b2K(a0:E6)(a1:Int):Option (Int × Int):=
 (P3 a0 a1).bind λv1=>
 if (v1.2 != 0) then
  some (0,v1.2)
 else
 (ix a0.a8 v1.1).bind λv2=>
 if (v2.State==2) then
  some (0,3)
 else
 some (v2.Val,0)
def F0(a0:o7)(a1:Int):Option (M3 × Int):=
 (M8 a0).bind λv1=>
 (b2K v1 a1).bind λv2=>
 if (v2.2 != 0) then
  some ((⟨0,0,0,0,false,[]⟩:M3),v2.2)
 else
 (ix a0.a8 v2.1).bind λv3=>
 some (v3.Val,0)
def a3E(a0:g6)(a1:Int):Option Bool:=
 (F0 a0.S a1).bind λv1=>
 some (v1.2==0)
def a3F(a0:g6)(a1:Int):Option Bool:=
 (u6 ((a1==0)==false) false (a3E a0 a1)).bind λv1=>
 some ((a1==0)||v1)
def a9F(a0:o7)(a1:List Int):Option (List Int):=
 (app 8 [] a1).bind λv1=>
 jn (λ(j36:List Int)=>
  some j36) (λκ35=>
  (lp (S:=Int × (List Int)) (E:=(List Int)) (λ((s38,s39):Int × (List Int))=>
   if (decide (s38<(s39.length:Int))) then
    jn (λ(j56:List Int)=>
     some (.inl (p7 (s38+1),j56))) (λκ55=>
     (lp (S:=Int × (List Int)) (E:=(List Int)) (λ((s58,s59):Int × (List Int))=>
      if (decide (s58 > 0)) then
       (M8 a0).bind λv62=>
       (ix s59 (p7 (s58-1))).bind λv63=>
       (P3 v62 v63).bind λv64=>
       (ix s59 s58).bind λv65=>
       (P3 v62 v65).bind λv66=>
       (u6 (((decide (v64.1<0))||(decide (v66.1<0)))==false) (⟨0,0,⟨0,0,0,0,false,[]⟩⟩:G8) (ix a0.a8 v64.1)).bind λv67=>
       (u6 (((decide (v64.1<0))||(decide (v66.1<0)))==false) (⟨0,0,⟨0,0,0,0,false,[]⟩⟩:G8) (ix a0.a8 v66.1)).bind λv68=>
       if (((decide (v64.1<0))||(decide (v66.1<0)))||(decide (v67.Val.Serial≤v68.Val.Serial))) then
        some (.inr s59)
       else
       (ix (s59.set (s58).toNat v63) (p7 (s58-1))).bind λv69=>
       some (.inl (p7 (s58-1),((s59.set (s58).toNat v63).set (p7 (s58-1)).toNat v65)))
      else
      some (.inr s59)) (s38,s39)).bind λe57=>
     κ55 e57)
   else
   some (.inr s39)) (1,v1)).bind λe37=>
  κ35 e37)
def Z5(a0:o7):Option (List Int):=
 jn (λ(j15:List Int)=>
  (a9F a0 j15).bind λv16=>
  some v16) (λκ14=>
  (lp (S:=Int × (List Int)) (E:=(List Int)) (λ((s18,s19):Int × (List Int))=>
   if (decide (s18<(a0.a8.length:Int))) then
    jn (λ(j26:List Int)=>
     some (.inl (p7 (s18+1),j26))) (λκ25=>
     (ix a0.a8 s18).bind λv27=>
     if (v27.State==1) then
      (a5q s18 v27.Gen).bind λv28=>
      (app 8 s19 [v28]).bind λv29=>
      κ25 v29
     else
     κ25 s19)
   else
   some (.inr s19)) (0,[])).bind λe17=>
  κ14 e17)
def b3M(a0:List p9):Option (List Int):=
 jn (λ(j13:List Int)=>
  some j13) (λκ12=>
  (lp (S:=Int × (List Int)) (E:=(List Int)) (λ((s15,s16):Int × (List Int))=>
   if (decide (s15<(a0.length:Int))) then
    jn (λ(j22:List Int)=>
     some (.inl (p7 (s15+1),j22))) (λκ21=>
     (ix a0 s15).bind λv23=>
     if (v23.State==1) then
      (app 8 s16 [v23.Key]).bind λv24=>
      κ21 v24
     else
     κ21 s16)
   else
   some (.inr s16)) (0,[])).bind λe14=>
  κ12 e14)
def b0C(a0:List p9)(a1:Int):Option (Int × Int):=
 (a2R a0 a1).bind λv1=>
 if (decide (v1<0)) then
  some (0,9)
 else
 (ix a0 v1).bind λv2=>
 some (v2.Val,0)
def a8m(a0:List p9):Option (List a3Y):=
 (b3M a0).bind λv1=>
 jn (λ(j11:List a3Y)=>
  some j11) (λκ10=>
  (lp (S:=Int × (List a3Y)) (E:=(List a3Y)) (λ((s13,s14):Int × (List a3Y))=>
   if (decide (s13<(v1.length:Int))) then
    (ix v1 s13).bind λv17=>
    (b0C a0 v17).bind λv18=>
    (app 16 s14 [(⟨v17,v18.1⟩:a3Y)]).bind λv19=>
    some (.inl (p7 (s13+1),v19))
   else
   some (.inr s14)) (0,[])).bind λe12=>
  κ10 e12)
def a8o(a0:C9)(a1:Int):Option Bool:=
 jn (λ(_:Unit)=>
  some false) (λκ5=>
  (lp (S:=Int) (E:=Bool ⊕ Unit) (λ(s8:Int)=>
   if (decide (s8<(a0.L.length:Int))) then
    (ix a0.L s8).bind λv10=>
    if ((v10.Kind==2)&&(v10.At==a1)) then
     some (.inr (.inl true))
    else
    some (.inl (p7 (s8+1)))
   else
   some (.inr (.inr ()))) 0).bind λe7=>
  match e7 with
  | .inl w=>some w
  | .inr w=>κ5 w)
def a2i(a0:Int):Option Bool:=
 some (decide (a0≥12))
def b1C(a0:o7)(a1:Int):Option Bool:=
 (F0 a0 a1).bind λv1=>
 (a2i v1.1.Strong).bind λv2=>
 some v2
def a3B(a0:List Int):Option (List Int):=
 jn (λ(j13:List Int)=>
  some j13) (λκ12=>
  (lp (S:=Int × (List Int)) (E:=(List Int)) (λ((s15,s16):Int × (List Int))=>
   if (decide (s15<(a0.length:Int))) then
    jn (λ(j22:List Int)=>
     some (.inl (p7 (s15+1),j22))) (λκ21=>
     (ix a0 s15).bind λv23=>
     if (v23 != 0) then
      (app 8 s16 [v23]).bind λv24=>
      κ21 v24
     else
     κ21 s16)
   else
   some (.inr s16)) (0,[])).bind λe14=>
  κ12 e14)
def b2N(a0:o7)(a1:Int):Option (List Int):=
 (F0 a0 a1).bind λv1=>
 if (v1.2 != 0) then
  some []
 else
 (a3B v1.1.Fields).bind λv2=>
 some v2
def a3D(a0:List Int)(a1:Int):Option Int:=
 jn (λ(j11:Int)=>
  some j11) (λκ10=>
  (lp (S:=Int × Int) (E:=Int) (λ((s13,s14):Int × Int)=>
   if (decide (s14<(a0.length:Int))) then
    jn (λ(j19:Int)=>
     some (.inl (j19,p7 (s14+1)))) (λκ18=>
     (ix a0 s14).bind λv20=>
     if ((v20==a1)&&(a1 != 0)) then
      κ18 (p7 (s13+1))
     else
     κ18 s13)
   else
   some (.inr s13)) (0,0)).bind λe12=>
  κ10 e12)
def b9V(a0:o7)(a1:Int):Option Int:=
 (Z5 a0).bind λv1=>
 jn (λ(j11:Int)=>
  some j11) (λκ10=>
  (lp (S:=Int × Int) (E:=Int) (λ((s13,s14):Int × Int)=>
   if (decide (s14<(v1.length:Int))) then
    (ix v1 s14).bind λv17=>
    (b2N a0 v17).bind λv18=>
    (a3D v18 a1).bind λv19=>
    some (.inl (p7 (s13+v19),p7 (s14+1)))
   else
   some (.inr s13)) (0,0)).bind λe12=>
  κ10 e12)
def b1A(a0:List p9)(a1:Int):Option Int:=
 (a8m a0).bind λv1=>
 jn (λ(j12:Int)=>
  some j12) (λκ11=>
  (lp (S:=Int × Int) (E:=Int) (λ((s14,s15):Int × Int)=>
   if (decide (s15<(v1.length:Int))) then
    jn (λ(j20:Int)=>
     some (.inl (j20,p7 (s15+1)))) (λκ19=>
     (ix v1 s15).bind λv21=>
     if ((v21.Val==a1)&&(a1 != 0)) then
      κ19 (p7 (s14+1))
     else
     κ19 s14)
   else
   some (.inr s14)) (0,0)).bind λe13=>
  κ11 e13)
def b1B(a0:o7)(a1:List p9)(a2:Int):Option Int:=
 (b9V a0 a2).bind λv1=>
 (b1A a1 a2).bind λv2=>
 some (p7 (v1+v2))
def b3Q(a0:o7)(a1:List p9)(a2:Int):Option Int:=
 (F0 a0 a2).bind λv1=>
 if (v1.2 != 0) then
  some 0
 else
 (b1B a0 a1 a2).bind λv2=>
 some (p7 (v1.1.Strong-v2))
def b0F(a0:g6):Option (List Int):=
 (Z5 a0.S).bind λv1=>
 jn (λ(j16:List Int)=>
  some j16) (λκ15=>
  (lp (S:=Int × (List Int)) (E:=(List Int)) (λ((s18,s19):Int × (List Int))=>
   if (decide (s18<(v1.length:Int))) then
    jn (λ(j26:List Int)=>
     some (.inl (p7 (s18+1),j26))) (λκ25=>
     (ix v1 s18).bind λv27=>
     (F0 a0.S v27).bind λv28=>
     if (v28.1.Strong==0) then
      (app 8 s19 [v27]).bind λv29=>
      κ25 v29
     else
     κ25 s19)
   else
   some (.inr s19)) (0,[])).bind λe17=>
  κ15 e17)
def a2j(a0:List Int):Option (N9 × Int):=
 if ((a0.length:Int) != 4) then
  some ((⟨0,0,0,0⟩:N9),14)
 else
 (ix a0 0).bind λv1=>
 (ix a0 1).bind λv2=>
 (ix a0 2).bind λv3=>
 (ix a0 3).bind λv4=>
 (a1k (⟨v1,v2,v3,v4⟩:N9)).bind λv5=>
 if (v5 != 0) then
  some ((⟨0,0,0,0⟩:N9),v5)
 else
 some ((⟨v1,v2,v3,v4⟩:N9),0)
def b3P(a0:o7)(a1:List p9):Option (List Int):=
 (Z5 a0).bind λv1=>
 jn (λ(j18:List Int)=>
  some j18) (λκ17=>
  (lp (S:=Int × (List Int)) (E:=(List Int)) (λ((s20,s21):Int × (List Int))=>
   if (decide (s20<(v1.length:Int))) then
    jn (λ(j29:List Int)=>
     some (.inl (p7 (s20+1),j29))) (λκ28=>
     (ix v1 s20).bind λv30=>
     (b3Q a0 a1 v30).bind λv31=>
     (u6 ((decide (v31 > 0))==false) false (b1C a0 v30)).bind λv32=>
     if ((decide (v31 > 0))||v32) then
      (app 8 s21 [v30]).bind λv33=>
      κ28 v33
     else
     κ28 s21)
   else
   some (.inr s21)) (0,[])).bind λe19=>
  κ17 e19)
def a8k(a0:List Int)(a1:Int):Option Bool:=
 (a3D a0 a1).bind λv1=>
 some (decide (v1 > 0))
def a8l(a0:List Int)(a1:List Int)(a2:Bool):Option (List Int):=
 jn (λ(j15:List Int)=>
  some j15) (λκ14=>
  (lp (S:=Int × (List Int)) (E:=(List Int)) (λ((s17,s18):Int × (List Int))=>
   if (decide (s17<(a0.length:Int))) then
    jn (λ(j25:List Int)=>
     some (.inl (p7 (s17+1),j25))) (λκ24=>
     (ix a0 s17).bind λv26=>
     (a8k a1 v26).bind λv27=>
     if (v27==a2) then
      (app 8 s18 [v26]).bind λv28=>
      κ24 v28
     else
     κ24 s18)
   else
   some (.inr s18)) (0,[])).bind λe16=>
  κ14 e16)
def a7A(a0:o7)(a1:List Int):Option (List Int):=
 (Z5 a0).bind λv1=>
 (a8l v1 a1 true).bind λv2=>
 jn (λ(j51:List Int)=>
  some j51) (λκ50=>
  (lp (S:=(List Int) × Int) (E:=(List Int)) (λ((s53,s54):(List Int) × Int)=>
   if (decide (s54<(v1.length:Int))) then
    jn (λ(j78:List Int)=>
     some (.inl (j78,p7 (s54+1)))) (λκ77=>
     (app 8 [] s53).bind λv79=>
     jn (λ(j89:List Int)=>
      (a8l v1 j89 true).bind λv90=>
      κ77 v90) (λκ88=>
      (lp (S:=Int × (List Int)) (E:=(List Int)) (λ((s92,s93):Int × (List Int))=>
       if (decide (s92<(s53.length:Int))) then
        (ix s53 s92).bind λv96=>
        (b2N a0 v96).bind λv97=>
        (app 8 s93 v97).bind λv98=>
        some (.inl (p7 (s92+1),v98))
       else
       some (.inr s93)) (0,v79)).bind λe91=>
      κ88 e91))
   else
   some (.inr s53)) (v2,0)).bind λe52=>
  κ50 e52)
def a8n(a0:o7)(a1:Int):Option Bool:=
 (F0 a0 a1).bind λv1=>
 some (v1.2==0)
def b0D(a0:o7)(a1:List p9)(a2:List Int):Option (List Int):=
 (a8m a1).bind λv1=>
 jn (λ(j20:List Int)=>
  some j20) (λκ19=>
  (lp (S:=Int × (List Int)) (E:=(List Int)) (λ((s22,s23):Int × (List Int))=>
   if (decide (s22<(v1.length:Int))) then
    jn (λ(j32:List Int)=>
     some (.inl (p7 (s22+1),j32))) (λκ31=>
     (ix v1 s22).bind λv33=>
     (a8n a0 v33.Key).bind λv34=>
     (u6 (v34==true) false (a8k a2 v33.Key)).bind λv35=>
     (u6 ((v34&&v35)==true) false (a8n a0 v33.Val)).bind λv36=>
     if ((v34&&v35)&&v36) then
      (app 8 s23 [v33.Val]).bind λv37=>
      κ31 v37
     else
     κ31 s23)
   else
   some (.inr s23)) (0,[])).bind λe21=>
  κ19 e21)
def a9G(a0:o7)(a1:List p9)(a2:List Int):Option ((List Int) × Int):=
 (a7A a0 a2).bind λv1=>
 jn (λ(j13:List Int)=>
  some (j13,30)) (λκ12=>
  (lp (S:=(List Int) × Int) (E:=((List Int) × Int) ⊕ (List Int)) (λ((s15,s16):(List Int) × Int)=>
   if (decide (s16<30)) then
    (app 8 [] s15).bind λv19=>
    (b0D a0 a1 s15).bind λv20=>
    (app 8 v19 v20).bind λv21=>
    (a7A a0 v21).bind λv22=>
    (b3J v22 s15).bind λv23=>
    if v23 then
     some (.inr (.inl (s15,s16)))
    else
    some (.inl (v22,p7 (s16+1)))
   else
   some (.inr (.inr s15))) (v1,0)).bind λe14=>
  match e14 with
  | .inl w=>some w
  | .inr w=>κ12 w)
def b3N(a0:o7)(a1:List p9)(a2:List Int):Option (List Int):=
 (a9G a0 a1 a2).bind λv1=>
 some v1.1
def b3O(a0:o7)(a1:List p9)(a2:List Int):Option (List Int):=
 (b3N a0 a1 a2).bind λv1=>
 (Z5 a0).bind λv2=>
 jn (λ(j17:List Int)=>
  some j17) (λκ16=>
  (lp (S:=Int × (List Int)) (E:=(List Int)) (λ((s19,s20):Int × (List Int))=>
   if (decide (s19<(v2.length:Int))) then
    jn (λ(j27:List Int)=>
     some (.inl (p7 (s19+1),j27))) (λκ26=>
     (ix v2 s19).bind λv28=>
     (a8k v1 v28).bind λv29=>
     if (!v29) then
      (app 8 s20 [v28]).bind λv30=>
      κ26 v30
     else
     κ26 s20)
   else
   some (.inr s20)) (0,[])).bind λe18=>
  κ16 e18)
def a7C(a0:o7)(a1:List p9):Option (List Int):=
 (b3P a0 a1).bind λv1=>
 (b3O a0 a1 v1).bind λv2=>
 some v2
def a4G(a0:g6):Option (List Int):=
 (a7C a0.S a0.T).bind λv1=>
 some v1
def a8p(a0:g6)(a1:Int):Option Bool:=
 (F0 a0.S a1).bind λv1=>
 (a3E a0 a1).bind λv2=>
 some ((v2&&(decide (v1.1.Prog≥0)))&&(!v1.1.Started))
def b1E(a0:g6):Option (List Int):=
 (a4G a0).bind λv1=>
 jn (λ(j16:List Int)=>
  some j16) (λκ15=>
  (lp (S:=Int × (List Int)) (E:=(List Int)) (λ((s18,s19):Int × (List Int))=>
   if (decide (s18<(v1.length:Int))) then
    jn (λ(j26:List Int)=>
     some (.inl (p7 (s18+1),j26))) (λκ25=>
     (ix v1 s18).bind λv27=>
     (a8p a0 v27).bind λv28=>
     if v28 then
      (app 8 s19 [v27]).bind λv29=>
      κ25 v29
     else
     κ25 s19)
   else
   some (.inr s19)) (0,[])).bind λe17=>
  κ15 e17)
def a2Q(a0:o7)(a1:Int)(a2:M3):Option o7:=
 (app 80 [] a0.a8).bind λv1=>
 (ix v1 a1).bind λv2=>
 some (⟨(v1.set (a1).toNat (⟨v2.State,v2.Gen,a2⟩:G8)),a0.Last,a0.Serial⟩:o7)
def M4(a0:o7)(a1:Int)(a2:M3):Option (o7 × Int):=
 (M8 a0).bind λv1=>
 (P3 v1 a1).bind λv2=>
 if (v2.2 != 0) then
  some (a0,v2.2)
 else
 (a2Q a0 v2.1 a2).bind λv3=>
 some (v3,0)
def a6o(a0:C9)(a1:P4):Option (C9 × Int):=
 if (decide ((a0.L.length:Int)≥a0.Cap)) then
  some (a0,4)
 else
 (app 24 [] a0.L).bind λv1=>
 (app 24 v1 [a1]).bind λv2=>
 some ((⟨v2,a0.Cap⟩:C9),0)
def b2L(a0:Int):Option Int:=
 (a2i a0).bind λv1=>
 if v1 then
  some 12
 else
 if (decide (a0<0)) then
  some 1
 else
 some (p7 (a0+1))
def a6p(a0:g6)(a1:Int)(a2:Int):Option g6:=
 (F0 a0.S a1).bind λv1=>
 if (v1.2 != 0) then
  some a0
 else
 (M4 a0.S a1 (⟨v1.1.Serial,a2,v1.1.Weak,v1.1.Prog,v1.1.Started,v1.1.Fields⟩:M3)).bind λv2=>
 some (⟨v2.1,a0.Roots,a0.a8,a0.T,a0.Q⟩:g6)
def a08(a0:g6)(a1:Int):Option g6:=
 (F0 a0.S a1).bind λv1=>
 (b2L v1.1.Strong).bind λv2=>
 (a6p a0 a1 v2).bind λv3=>
 some v3
def a30(a0:g6)(a1:Int):Option g6:=
 (a8p a0 a1).bind λv1=>
 if (!v1) then
  some a0
 else
 (F0 a0.S a1).bind λv2=>
 (M4 a0.S a1 (⟨v2.1.Serial,v2.1.Strong,v2.1.Weak,v2.1.Prog,true,v2.1.Fields⟩:M3)).bind λv3=>
 (a6o a0.Q (⟨1,a1,v2.1.Prog⟩:P4)).bind λv4=>
 (a08 (⟨v3.1,a0.Roots,a0.a8,a0.T,v4.1⟩:g6) a1).bind λv5=>
 some v5
def b0G(a0:g6)(a1:List Int):Option (List Int):=
 jn (λ(j17:List Int)=>
  some j17) (λκ16=>
  (lp (S:=Int × (List Int)) (E:=(List Int)) (λ((s19,s20):Int × (List Int))=>
   if (decide (s19<(a1.length:Int))) then
    jn (λ(j28:List Int)=>
     some (.inl (p7 (s19+1),j28))) (λκ27=>
     (ix a1 s19).bind λv29=>
     (a3E a0 v29).bind λv30=>
     (u6 (v30==true) false (a8k s20 v29)).bind λv31=>
     if (v30&&(!v31)) then
      (app 8 s20 [v29]).bind λv32=>
      κ27 v32
     else
     κ27 s20)
   else
   some (.inr s20)) (0,[])).bind λe18=>
  κ16 e18)
def b1z(a0:List F4)(a1:List Int):Option ((List F4) × (List Int)):=
 jn (λ((j18,j19):(List Int) × (List F4))=>
  some (j19,j18)) (λκ17=>
  (lp (S:=Int × (List F4) × (List Int)) (E:=((List Int) × (List F4))) (λ((s22,s23,s24):Int × (List F4) × (List Int))=>
   if (decide (s22<(a0.length:Int))) then
    (ix a0 s22).bind λv27=>
    jn (λ((j31,j32):Bool × (List Int))=>
     (app 24 s23 [(⟨v27.Target,j31,v27.Call⟩:F4)]).bind λv34=>
     some (.inl (p7 (s22+1),v34,j32))) (λκ30=>
     (u6 (v27.Intact==true) 0 (a3D a1 v27.Target)).bind λv35=>
     if (v27.Intact&&(decide (v35 > 0))) then
      if (decide (v27.Call≥0)) then
       (app 8 s24 [s22]).bind λv36=>
       κ30 (false,v36)
      else
      κ30 (false,s24)
     else
     κ30 (v27.Intact,s24))
   else
   some (.inr (s24,s23))) (0,[],[])).bind λe21=>
  κ17 e21)
def a2S(a0:List p9)(a1:Int)(a2:p9):Option (List p9):=
 (app 24 [] a0).bind λv1=>
 (ix v1 a1).bind λv2=>
 some (v1.set (a1).toNat a2)
def a7B(a0:List p9)(a1:Int):Option ((List p9) × Int × Int):=
 (a2R a0 a1).bind λv1=>
 if (decide (v1<0)) then
  some (a0,0,9)
 else
 (a2S a0 v1 (⟨2,0,0⟩:p9)).bind λv2=>
 (ix a0 v1).bind λv3=>
 some (v2,v3.Val,0)
def a4F(a0:List p9)(a1:List Int):Option ((List p9) × (List Int)):=
 jn (λ((j18,j19):(List p9) × (List Int))=>
  some (j18,j19)) (λκ17=>
  (lp (S:=(List p9) × Int × (List Int)) (E:=((List p9) × (List Int))) (λ((s22,s23,s24):(List p9) × Int × (List Int))=>
   if (decide (s23<(a1.length:Int))) then
    jn (λ((j31,j32):(List p9) × (List Int))=>
     some (.inl (j31,p7 (s23+1),j32))) (λκ30=>
     (ix a1 s23).bind λv34=>
     (a7B s22 v34).bind λv35=>
     if (v35.2.2==0) then
      (app 8 s24 [v35.2.1]).bind λv36=>
      κ30 (v35.1,v36)
     else
     κ30 (s22,s24))
   else
   some (.inr (s22,s24))) (a0,0,[])).bind λe21=>
  κ17 e21)
def a0O(a0:E6)(a1:Int)(a2:L2):Option E6:=
 (app 24 [] a0.a8).bind λv1=>
 (ix v1 a1).bind λv2=>
 some (⟨(v1.set (a1).toNat a2),a0.Last⟩:E6)
def b8k(a0:E6)(a1:Int):Option (E6 × Int):=
 (b2K a0 a1).bind λv1=>
 if (v1.2 != 0) then
  some (a0,v1.2)
 else
 (P3 a0 a1).bind λv2=>
 (ix a0.a8 v2.1).bind λv3=>
 (a0O a0 v2.1 (⟨2,v3.Gen,v3.Val⟩:L2)).bind λv4=>
 some (v4,0)
def a07(a0:o7)(a1:E6):Option o7:=
 jn (λ(j10:List G8)=>
  some (⟨j10,a0.Last,a0.Serial⟩:o7)) (λκ9=>
  (lp (S:=Int × (List G8)) (E:=(List G8)) (λ((s12,s13):Int × (List G8))=>
   if (decide (s12<(a0.a8.length:Int))) then
    (ix a1.a8 s12).bind λv16=>
    (ix a0.a8 s12).bind λv17=>
    (app 80 s13 [(⟨v16.State,v16.Gen,v17.Val⟩:G8)]).bind λv18=>
    some (.inl (p7 (s12+1),v18))
   else
   some (.inr s13)) (0,[])).bind λe11=>
  κ9 e11)
def b3L(a0:o7)(a1:Int):Option o7:=
 (M8 a0).bind λv1=>
 (b8k v1 a1).bind λv2=>
 (a07 a0 v2.1).bind λv3=>
 some v3
def b8j(a0:E6)(a1:Int):Option (E6 × Int):=
 (P3 a0 a1).bind λv1=>
 if (v1.2 != 0) then
  some (a0,v1.2)
 else
 (ix a0.a8 v1.1).bind λv2=>
 if (decide (v2.Gen≥a0.Last)) then
  (a0O a0 v1.1 (⟨3,v2.Gen,0⟩:L2)).bind λv3=>
  some (v3,0)
 else
 (a0O a0 v1.1 (⟨0,p7 (v2.Gen+1),0⟩:L2)).bind λv4=>
 some (v4,0)
def b0A(a0:o7)(a1:Int):Option o7:=
 (M8 a0).bind λv1=>
 (b8j v1 a1).bind λv2=>
 if (v2.2 != 0) then
  some a0
 else
 (a07 a0 v2.1).bind λv3=>
 (a7x a1).bind λv4=>
 (a2Q v3 v4 (⟨0,0,0,0,false,[]⟩:M3)).bind λv5=>
 some v5
def a7F(a0:g6)(a1:Int):Option g6:=
 (F0 a0.S a1).bind λv1=>
 (M4 a0.S a1 (⟨v1.1.Serial,0,v1.1.Weak,v1.1.Prog,v1.1.Started,[]⟩:M3)).bind λv2=>
 (b3L v2.1 a1).bind λv3=>
 if (v1.1.Weak==0) then
  (b0A v3 a1).bind λv4=>
  some (⟨v4,a0.Roots,a0.a8,a0.T,a0.Q⟩:g6)
 else
 some (⟨v3,a0.Roots,a0.a8,a0.T,a0.Q⟩:g6)
def b6D(a0:Int):Option (Int × Int):=
 (a2i a0).bind λv1=>
 if v1 then
  some (12,0)
 else
 if (decide (a0<1)) then
  some (0,11)
 else
 some (p7 (a0-1),0)
def D8(a0:g6)(a1:Int):Option g6:=
 (F0 a0.S a1).bind λv1=>
 (b6D v1.1.Strong).bind λv2=>
 if (v2.2 != 0) then
  some a0
 else
 (a6p a0 a1 v2.1).bind λv3=>
 some v3
def a7E(a0:g6)(a1:List Int):Option g6:=
 (b0G a0 a1).bind λv1=>
 (b1z a0.a8 v1).bind λv2=>
 jn (λ(j12:C9)=>
  jn (λ(j23:List Int)=>
   (a4F a0.T v1).bind λv24=>
   (app 8 j23 v24.2).bind λv25=>
   jn (λ(j34:g6)=>
    jn (λ(j43:g6)=>
     some j43) (λκ42=>
     (lp (S:=Int × g6) (E:=g6) (λ((s45,s46):Int × g6)=>
      if (decide (s45<(v25.length:Int))) then
       (ix v25 s45).bind λv49=>
       (D8 s46 v49).bind λv50=>
       some (.inl (p7 (s45+1),v50))
      else
      some (.inr s46)) (0,j34)).bind λe44=>
     κ42 e44)) (λκ33=>
    (lp (S:=Int × g6) (E:=g6) (λ((s52,s53):Int × g6)=>
     if (decide (s52<(v1.length:Int))) then
      (ix v1 s52).bind λv56=>
      (a7F s53 v56).bind λv57=>
      some (.inl (p7 (s52+1),v57))
     else
     some (.inr s53)) (0,(⟨a0.S,a0.Roots,v2.1,v24.1,j12⟩:g6))).bind λe51=>
    κ33 e51)) (λκ22=>
   (lp (S:=Int × (List Int)) (E:=(List Int)) (λ((s59,s60):Int × (List Int))=>
    if (decide (s59<(v1.length:Int))) then
     (ix v1 s59).bind λv63=>
     (F0 a0.S v63).bind λv64=>
     (a3B v64.1.Fields).bind λv65=>
     (app 8 s60 v65).bind λv66=>
     some (.inl (p7 (s59+1),v66))
    else
    some (.inr s60)) (0,[])).bind λe58=>
   κ22 e58)) (λκ11=>
  (lp (S:=Int × C9) (E:=C9) (λ((s68,s69):Int × C9)=>
   if (decide (s68<(v2.2.length:Int))) then
    (ix v2.2 s68).bind λv72=>
    (ix v2.1 v72).bind λv73=>
    (a6o s69 (⟨2,v72,v73.Call⟩:P4)).bind λv74=>
    some (.inl (p7 (s68+1),v74.1))
   else
   some (.inr s69)) (0,a0.Q)).bind λe67=>
  κ11 e67)
def N8(a0:g6):Option g6:=
 jn (λ(j21:g6)=>
  some j21) (λκ20=>
  (lp (S:=Int × g6) (E:=g6 ⊕ g6) (λ((s23,s24):Int × g6)=>
   if (decide (s23<100)) then
    jn (λ(j34:g6)=>
     some (.inl (p7 (s23+1),j34))) (λκ33=>
     (b0F s24).bind λv35=>
     if ((v35.length:Int)==0) then
      some (.inr (.inl s24))
     else
     (ix v35 0).bind λv36=>
     (a8p s24 v36).bind λv37=>
     if v37 then
      (a30 s24 v36).bind λv38=>
      κ33 v38
     else
     (cut v35 0 1).bind λv39=>
     (a7E s24 v39).bind λv40=>
     κ33 v40)
   else
   some (.inr (.inr s24))) (0,a0)).bind λe22=>
  match e22 with
  | .inl w=>some w
  | .inr w=>κ20 w)
def a7G(a0:g6):Option (g6 × Int × Int):=
 (b1E a0).bind λv1=>
 jn (λ(_:Unit)=>
  (a4G a0).bind λv20=>
  (a7E a0 v20).bind λv21=>
  (N8 v21).bind λv22=>
  (Z5 a0.S).bind λv23=>
  (Z5 v22.S).bind λv24=>
  some (v22,0,p7 ((v23.length:Int)-(v24.length:Int)))) (λκ18=>
  if (decide ((v1.length:Int) > 0)) then
   jn (λ(j33:g6)=>
    some (j33,(v1.length:Int),0)) (λκ32=>
    (lp (S:=Int × g6) (E:=g6) (λ((s35,s36):Int × g6)=>
     if (decide (s35<(v1.length:Int))) then
      (ix v1 s35).bind λv39=>
      (a30 s36 v39).bind λv40=>
      some (.inl (p7 (s35+1),v40))
     else
     some (.inr s36)) (0,a0)).bind λe34=>
    κ32 e34)
  else
  κ18 ())
def b1F(a0:g6):Option Bool:=
 some ((a0.Q.L.length:Int)==0)
def a7I(a0:List (List N9))(a1:Int):Option (List N9):=
 if ((decide (a1<0))||(decide (a1≥(a0.length:Int)))) then
  some []
 else
 (ix a0 a1).bind λv1=>
 some v1
def a7H(a0:List (List N9))(a1:P4):Option Int:=
 (a7I a0 a1.Prog).bind λv1=>
 some (p7 (1+(v1.length:Int)))
def b3R(a0:C9):Option (C9 × P4 × Int):=
 if ((a0.L.length:Int)==0) then
  some (a0,(⟨0,0,0⟩:P4),10)
 else
 (cut a0.L 1 (a0.L.length:Int)).bind λv1=>
 (ix a0.L 0).bind λv2=>
 some ((⟨v1,a0.Cap⟩:C9),v2,0)
def V3(a0:g6)(a1:Int)(a2:Int):Option (g6 × Int):=
 if ((decide (a1<0))||(decide (a1 > 5))) then
  some (a0,6)
 else
 (a3F a0 a2).bind λv1=>
 if (!v1) then
  some (a0,3)
 else
 (ix a0.Roots a1).bind λv2=>
 (a08 a0 a2).bind λv3=>
 (app 8 [] a0.Roots).bind λv4=>
 (ix v4 a1).bind λv5=>
 (D8 (⟨v3.S,(v4.set (a1).toNat a2),v3.a8,v3.T,v3.Q⟩:g6) v2).bind λv6=>
 some (v6,0)
def b6G(a0:List F4)(a1:Int)(a2:Int)(a3:Int):Option ((List F4) × Int × Int):=
 if ((decide (a1<0))||(decide (a1≥(a0.length:Int)))) then
  some (a0,0,7)
 else
 (app 24 [] a0).bind λv1=>
 (ix v1 a1).bind λv2=>
 (ix a0 a1).bind λv3=>
 some ((v1.set (a1).toNat (⟨a2,(a2 != 0),a3⟩:F4)),v3.Target,0)
def a1j(a0:g6)(a1:Int):Option g6:=
 (M8 a0.S).bind λv1=>
 (P3 v1 a1).bind λv2=>
 if (v2.2 != 0) then
  some a0
 else
 (ix a0.S.a8 v2.1).bind λv3=>
 (M4 a0.S a1 (⟨v3.Val.Serial,v3.Val.Strong,p7 (v3.Val.Weak-1),v3.Val.Prog,v3.Val.Started,v3.Val.Fields⟩:M3)).bind λv4=>
 (ix v4.1.a8 v2.1).bind λv5=>
 if ((v5.State==2)&&(decide ((p7 (v3.Val.Weak-1))<1))) then
  (b0A v4.1 a1).bind λv6=>
  some (⟨v6,a0.Roots,a0.a8,a0.T,a0.Q⟩:g6)
 else
 some (⟨v4.1,a0.Roots,a0.a8,a0.T,a0.Q⟩:g6)
def a3Z(a0:g6)(a1:Int)(a2:Int)(a3:Int):Option (g6 × Int):=
 (u6 (((decide (a1<0))||(decide (a1 > 5)))==false) false (a8o a0.Q a1)).bind λv1=>
 if (((decide (a1<0))||(decide (a1 > 5)))||v1) then
  some (a0,7)
 else
 (a3F a0 a2).bind λv2=>
 if (!v2) then
  some (a0,3)
 else
 (b6G a0.a8 a1 a2 a3).bind λv3=>
 if (a2 != 0) then
  (F0 a0.S a2).bind λv4=>
  (M4 a0.S a2 (⟨v4.1.Serial,v4.1.Strong,p7 (v4.1.Weak+1),v4.1.Prog,v4.1.Started,v4.1.Fields⟩:M3)).bind λv5=>
  (a1j (⟨v5.1,a0.Roots,v3.1,a0.T,a0.Q⟩:g6) v3.2.1).bind λv6=>
  some (v6,0)
 else
 (a1j (⟨a0.S,a0.Roots,v3.1,a0.T,a0.Q⟩:g6) v3.2.1).bind λv7=>
 some (v7,0)
def W2(a0:g6)(a1:Int):Option (Int × Int):=
 (ix a0.Roots a1).bind λv1=>
 if (v1==0) then
  some (0,2)
 else
 some (v1,0)
def a5s(a0:g6)(a1:Int):Option Int:=
 if (decide (a1<0)) then
  some 0
 else
 (ix a0.Roots a1).bind λv1=>
 some v1
def b3K(a0:List Int)(a1:Int):Option (Int × Int):=
 if ((decide (a1<0))||(decide (a1≥(a0.length:Int)))) then
  some (0,5)
 else
 (ix a0 a1).bind λv1=>
 some (v1,0)
def a3C(a0:o7)(a1:Int)(a2:Int):Option (Int × Int):=
 (F0 a0 a1).bind λv1=>
 if (v1.2 != 0) then
  some (0,v1.2)
 else
 (b3K v1.1.Fields a2).bind λv2=>
 some (v2.1,v2.2)
def b8l(a0:List Int)(a1:Int)(a2:Int):Option ((List Int) × Int):=
 if ((decide (a1<0))||(decide (a1≥(a0.length:Int)))) then
  some (a0,5)
 else
 (app 8 [] a0).bind λv1=>
 (ix v1 a1).bind λv2=>
 some ((v1.set (a1).toNat a2),0)
def b6F(a0:o7)(a1:Int)(a2:Int)(a3:Int):Option (o7 × Int):=
 (F0 a0 a1).bind λv1=>
 if (v1.2 != 0) then
  some (a0,v1.2)
 else
 (b8l v1.1.Fields a2 a3).bind λv2=>
 if (v2.2 != 0) then
  some (a0,v2.2)
 else
 (M4 a0 a1 (⟨v1.1.Serial,v1.1.Strong,v1.1.Weak,v1.1.Prog,v1.1.Started,v2.1⟩:M3)).bind λv3=>
 some (v3.1,v3.2)
def a5r(a0:g6)(a1:Int)(a2:Int)(a3:Int):Option (g6 × Int):=
 (a3C a0.S a1 a2).bind λv1=>
 if (v1.2 != 0) then
  some (a0,v1.2)
 else
 (a3F a0 a3).bind λv2=>
 if (!v2) then
  some (a0,3)
 else
 (a08 a0 a3).bind λv3=>
 (b6F v3.S a1 a2 a3).bind λv4=>
 (D8 (⟨v4.1,v3.Roots,v3.a8,v3.T,v3.Q⟩:g6) v1.1).bind λv5=>
 some (v5,0)
def b6H(a0:List p9)(a1:Int)(a2:Int):Option ((List p9) × Int):=
 (a2R a0 a1).bind λv1=>
 if (decide (v1≥0)) then
  (a2S a0 v1 (⟨1,a1,a2⟩:p9)).bind λv2=>
  some (v2,0)
 else
 (b8m (a0.length:Int) a1).bind λv3=>
 jn (λ(_:Unit)=>
  some (a0,8)) (λκ12=>
  (lp (S:=Int × Int) (E:=((List p9) × Int) ⊕ Unit) (λ((s15,s16):Int × Int)=>
   if (decide (s16<(a0.length:Int))) then
    (ix a0 s15).bind λv19=>
    if (v19.State != 1) then
     (a2S a0 s15 (⟨1,a1,a2⟩:p9)).bind λv20=>
     some (.inr (.inl (v20,0)))
    else
    (rem (p7 (s15+1)) (a0.length:Int)).bind λv21=>
    some (.inl (v21,p7 (s16+1)))
   else
   some (.inr (.inr ()))) (v3,0)).bind λe14=>
  match e14 with
  | .inl w=>some w
  | .inr w=>κ12 w)
def b6I(a0:List p9)(a1:Int)(a2:Int):Option ((List p9) × Int × Int):=
 if (a1==0) then
  some (a0,0,2)
 else
 (b0C a0 a1).bind λv1=>
 if (a2==0) then
  (a7B a0 a1).bind λv2=>
  some (v2.1,v1.1,0)
 else
 (b6H a0 a1 a2).bind λv3=>
 if (v3.2 != 0) then
  some (a0,0,v3.2)
 else
 some (v3.1,v1.1,0)
def a7D(a0:g6)(a1:Int)(a2:Int):Option (g6 × Int):=
 if (a1==0) then
  some (a0,2)
 else
 (a3E a0 a1).bind λv1=>
 (u6 ((!v1)==false) false (a3F a0 a2)).bind λv2=>
 if ((!v1)||(!v2)) then
  some (a0,3)
 else
 (b6I a0.T a1 a2).bind λv3=>
 if (v3.2.2 != 0) then
  some (a0,v3.2.2)
 else
 (a08 a0 a2).bind λv4=>
 (D8 (⟨v4.S,v4.Roots,v4.a8,v3.1,v4.Q⟩:g6) v3.2.1).bind λv5=>
 some (v5,0)
def a1l(a0:g6)(a1:N9):Option (g6 × Int × Int):=
 if ((a1.Kind==6)&&(decide (a1.B<0))) then
  (a3Z a0 a1.A 0 a1.C).bind λv1=>
  some (v1.1,0,v1.2)
 else
 jn (λ(j3:Int)=>
  (W2 a0 j3).bind λv4=>
  if (v4.2 != 0) then
   some (a0,0,v4.2)
  else
  if (a1.Kind==5) then
   (a5s a0 a1.C).bind λv5=>
   (a5r a0 v4.1 a1.B v5).bind λv6=>
   some (v6.1,v5,v6.2)
  else
  if (a1.Kind==6) then
   (a3Z a0 a1.A v4.1 a1.C).bind λv7=>
   some (v7.1,v4.1,v7.2)
  else
  (a5s a0 a1.B).bind λv8=>
  (a7D a0 v4.1 v8).bind λv9=>
  some (v9.1,v8,v9.2)) (λκ2=>
  if (a1.Kind==6) then
   κ2 a1.B
  else
  κ2 a1.A)
def a2k(a0:g6)(a1:Int):Option Int:=
 (F0 a0.S a1).bind λv1=>
 some v1.1.Serial
def b2M(a0:Int):Option ((List Int) × Int):=
 if ((decide (a0<0))||(decide (a0 > 4))) then
  some ([],1)
 else
 (mk 8 a0 (0:Int)).bind λv1=>
 some (v1,0)
def a7z(a0:E6)(a1:Int):Option (E6 × Int × Int):=
 jn (λ(_:Unit)=>
  some (a0,0,4)) (λκ7=>
  (lp (S:=Int) (E:=(E6 × Int × Int) ⊕ Unit) (λ(s10:Int)=>
   if (decide (s10<(a0.a8.length:Int))) then
    (ix a0.a8 s10).bind λv12=>
    if (v12.State==0) then
     (a0O a0 s10 (⟨1,v12.Gen,a1⟩:L2)).bind λv13=>
     (a5q s10 v12.Gen).bind λv14=>
     some (.inr (.inl (v13,v14,0)))
    else
    some (.inl (p7 (s10+1)))
   else
   some (.inr (.inr ()))) 0).bind λe9=>
  match e9 with
  | .inl w=>some w
  | .inr w=>κ7 w)
def a2P(a0:o7)(a1:Int)(a2:Int):Option (o7 × Int × Int):=
 (b2M a1).bind λv1=>
 if (v1.2 != 0) then
  some (a0,0,v1.2)
 else
 if ((decide (a2<(-1)))||(decide (a2 > 5))) then
  some (a0,0,13)
 else
 (M8 a0).bind λv2=>
 (a7z v2 0).bind λv3=>
 if (v3.2.2 != 0) then
  some (a0,0,v3.2.2)
 else
 (a07 a0 v3.1).bind λv4=>
 (a7x v3.2.1).bind λv5=>
 (a2Q v4 v5 (⟨p7 (a0.Serial+1),0,0,a2,false,v1.1⟩:M3)).bind λv6=>
 some ((⟨v6.a8,v6.Last,p7 (a0.Serial+1)⟩:o7),v3.2.1,0)
def b1D(a0:g6)(a1:Int):Option Int:=
 if ((decide (a1<0))||(decide (a1 > 5))) then
  some 0
 else
 (ix a0.Roots a1).bind λv1=>
 (a2k a0 v1).bind λv2=>
 some v2
def b0B(a0:List F4)(a1:Int):Option (Int × Int):=
 if ((decide (a1<0))||(decide (a1≥(a0.length:Int)))) then
  some (0,7)
 else
 (ix a0 a1).bind λv1=>
 if ((v1.Target==0)||(!v1.Intact)) then
  some (0,9)
 else
 some (v1.Target,0)
def b2O(a0:List p9)(a1:Int):Option (Int × Int):=
 (b0C a0 a1).bind λv1=>
 some (v1.1,v1.2)
def a2l(a0:g6)(a1:N9):Option (Int × Int):=
 if (a1.Kind==2) then
  (ix a0.Roots a1.B).bind λv1=>
  some (v1,0)
 else
 if (a1.Kind==4) then
  (W2 a0 a1.B).bind λv2=>
  if (v2.2 != 0) then
   some (0,v2.2)
  else
  (a3C a0.S v2.1 a1.C).bind λv3=>
  some (v3.1,v3.2)
 else
 if (a1.Kind==7) then
  (b0B a0.a8 a1.B).bind λv4=>
  some (v4.1,v4.2)
 else
 if (a1.Kind==9) then
  (W2 a0 a1.B).bind λv5=>
  if (v5.2 != 0) then
   some (0,v5.2)
  else
  (b2O a0.T v5.1).bind λv6=>
  some (v6.1,v6.2)
 else
 some (0,0)
def B3(a0:g6)(a1:N9):Option (g6 × Int × Int):=
 (a1k a1).bind λv1=>
 if (v1 != 0) then
  some (a0,0,v1)
 else
 (W1 a1).bind λv2=>
 if (!v2) then
  some (a0,0,14)
 else
 if (a1.Kind==10) then
  (ix a0.Roots a1.A).bind λv3=>
  (ix a0.Roots a1.B).bind λv4=>
  if (v3==v4) then
   some (a0,1,0)
  else
  some (a0,0,0)
 else
 jn (λ(j6:Bool)=>
  if j6 then
   (a1l a0 a1).bind λv7=>
   if (v7.2.2 != 0) then
    some (a0,0,v7.2.2)
   else
   (N8 v7.1).bind λv8=>
   (a2k a0 v7.2.1).bind λv9=>
   some (v8,v9,0)
  else
  if (a1.Kind==1) then
   (a2P a0.S a1.B a1.C).bind λv10=>
   if (v10.2.2 != 0) then
    some (a0,0,v10.2.2)
   else
   (V3 (⟨v10.1,a0.Roots,a0.a8,a0.T,a0.Q⟩:g6) a1.A v10.2.1).bind λv11=>
   (N8 v11.1).bind λv12=>
   (b1D v12 a1.A).bind λv13=>
   some (v12,v13,0)
  else
  (a2l a0 a1).bind λv14=>
  if (v14.2 != 0) then
   some (a0,0,v14.2)
  else
  (V3 a0 a1.A v14.1).bind λv15=>
  (N8 v15.1).bind λv16=>
  (b1D v16 a1.A).bind λv17=>
  some (v16,v17,0)) (λκ5=>
  if (a1.Kind==5) then
   κ5 (a1.Kind==5)
  else
  if (a1.Kind==6) then
   κ5 (a1.Kind==6)
  else
  κ5 (a1.Kind==8))
def b2P(a0:g6)(a1:List N9):Option (g6 × (List Int)):=
 jn (λ((j11,j12):g6 × (List Int))=>
  some (j11,j12)) (λκ10=>
  (lp (S:=Int × g6 × (List Int)) (E:=(g6 × (List Int))) (λ((s15,s16,s17):Int × g6 × (List Int))=>
   if (decide (s15<(a1.length:Int))) then
    (ix a1 s15).bind λv20=>
    (B3 s16 v20).bind λv21=>
    (app 8 s17 [v21.2.1]).bind λv22=>
    some (.inl (p7 (s15+1),v21.1,v22))
   else
   some (.inr (s16,s17))) (0,a0,[])).bind λe14=>
  κ10 e14)
def b3S(a0:g6)(a1:List (List N9)):Option (g6 × P4 × Int):=
 (b3R a0.Q).bind λv1=>
 if (v1.2.2 != 0) then
  some (a0,(⟨0,0,0⟩:P4),v1.2.2)
 else
 jn (λ(j6:g6)=>
  (a7I a1 v1.2.1.Prog).bind λv7=>
  (b2P j6 v7).bind λv8=>
  if (v1.2.1.Kind==1) then
   (V3 v8.1 5 0).bind λv9=>
   (N8 v9.1).bind λv10=>
   some (v10,v1.2.1,0)
  else
  some (v8.1,v1.2.1,0)) (λκ5=>
  if (v1.2.1.Kind==1) then
   (V3 (⟨a0.S,a0.Roots,a0.a8,a0.T,v1.1⟩:g6) 5 v1.2.1.At).bind λv11=>
   (D8 v11.1 v1.2.1.At).bind λv12=>
   (N8 v12).bind λv13=>
   κ5 v13
  else
  κ5 (⟨a0.S,a0.Roots,a0.a8,a0.T,v1.1⟩:g6))
def a8r(a0:g6)(a1:List (List N9))(a2:Int):Option (g6 × Int × Int × Int):=
 jn (λ((j12,j13,j14):Int × Int × g6)=>
  some (j14,j13,j12,0)) (λκ11=>
  (lp (S:=Int × Int × g6) (E:=(g6 × Int × Int × Int) ⊕ (Int × Int × g6)) (λ((s17,s18,s19):Int × Int × g6)=>
   (b1F s19).bind λv22=>
   if (!v22) then
    (ix s19.Q.L 0).bind λv23=>
    (a7H a1 v23).bind λv24=>
    if (decide (v24 > s17)) then
     some (.inr (.inl (s19,s18,s17,12)))
    else
    (b3S s19 a1).bind λv25=>
    some (.inl (p7 (s17-v24),p7 (s18+1),v25.1))
   else
   some (.inr (.inr (s17,s18,s19)))) (a2,0,a0)).bind λe16=>
  match e16 with
  | .inl w=>some w
  | .inr w=>κ11 w)
def b3T(a0:A2)(a1:List Int):Option (A2 × C0):=
 (a2j a1).bind λv1=>
 if (v1.2 != 0) then
  some (a0,(⟨0,v1.2⟩:C0))
 else
 if (v1.1.Kind==11) then
  (a7G a0.X).bind λv2=>
  some ((⟨v2.1,a0.Progs⟩:A2),(⟨p7 (v2.2.2-v2.2.1),0⟩:C0))
 else
 if (v1.1.Kind==12) then
  (a8r a0.X a0.Progs v1.1.A).bind λv3=>
  some ((⟨v3.1,a0.Progs⟩:A2),(⟨v3.2.1,v3.2.2.2⟩:C0))
 else
 (B3 a0.X v1.1).bind λv4=>
 some ((⟨v4.1,a0.Progs⟩:A2),(⟨v4.2.1,v4.2.2⟩:C0))
def b1y(a0:E6):Option A4:=
 jn (λ(j9:A4)=>
  some j9) (λκ8=>
  (lp (S:=Int × A4) (E:=A4) (λ((s11,s12):Int × A4)=>
   if (decide (s11<(a0.a8.length:Int))) then
    (ix a0.a8 s11).bind λv15=>
    (A4.ix s12 (b9b .i64 v15.State 3)).bind λv16=>
    some (.inl (p7 (s11+1),(A4.st s12 (b9b .i64 v15.State 3) (p7 (v16+1)))))
   else
   some (.inr s12)) (0,(⟨0,0,0,0⟩:A4))).bind λe10=>
  κ8 e10)
def a8t(a0:A2):Option A4:=
 (M8 a0.X.S).bind λv1=>
 (b1y v1).bind λv2=>
 some v2
def a5t(a0:A2):Option (List Int):=
 (Z5 a0.X.S).bind λv1=>
 jn (λ(j11:List Int)=>
  some j11) (λκ10=>
  (lp (S:=Int × (List Int)) (E:=(List Int)) (λ((s13,s14):Int × (List Int))=>
   if (decide (s13<(v1.length:Int))) then
    (ix v1 s13).bind λv17=>
    (a2k a0.X v17).bind λv18=>
    (app 8 s14 [v18]).bind λv19=>
    some (.inl (p7 (s13+1),v19))
   else
   some (.inr s14)) (0,[])).bind λe12=>
  κ10 e12)
def a8s(a0:A2)(a1:List (List Int)):Option (A2 × (List C0)):=
 jn (λ((j11,j12):A2 × (List C0))=>
  some (j11,j12)) (λκ10=>
  (lp (S:=Int × A2 × (List C0)) (E:=(A2 × (List C0))) (λ((s15,s16,s17):Int × A2 × (List C0))=>
   if (decide (s15<(a1.length:Int))) then
    (ix a1 s15).bind λv20=>
    (b3T s16 v20).bind λv21=>
    (app 16 s17 [v21.2]).bind λv22=>
    some (.inl (p7 (s15+1),v21.1,v22))
   else
   some (.inr (s16,s17))) (0,a0,[])).bind λe14=>
  κ10 e14)
end
end Go.Sh
