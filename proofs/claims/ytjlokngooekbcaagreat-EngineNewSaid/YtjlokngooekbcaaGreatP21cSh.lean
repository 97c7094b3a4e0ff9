/-
 Plain functions: what the functions of the program come to.
-/
import Derived.Test.YtjlokngooekbcaaGreatP21cSh0
import Derived.Test.YtjlokngooekbcaaGreatP21cPwD
import Derived.Test.YtjlokngooekbcaaGreatP21cPwC
set_option linter.unusedVariables false
set_option linter.unusedSimpArgs false
set_option linter.unusedSectionVars false
namespace Go.Sh
set_option maxRecDepth 100000
noncomputable section
structure g6 where
 Kind:Int
 A:Int
 B:Int
 C:Int
structure m7 where
 Serial:Int
 Strong:Int
 Weak:Int
 Prog:Int
 Started:Bool
 Fields:List Int
structure b7 where
 State:Int
 Gen:Int
 Val:m7
structure c9 where
 Target:Int
 Intact:Bool
 Call:Int
structure b9 where
 State:Int
 Key:Int
 Val:Int
structure g9 where
 Kind:Int
 At:Int
 Prog:Int
structure g8 where
 part:Fv
 least:Int
 most:Int
 e:Int
structure c7 where
 a8:List b7
 Last:Int
structure a7 where
 S:c7
 Serial:Int
structure c8 where
 L:List g9
 Cap:Int
structure b6 where
 S:a7
 Roots:List Int
 a8:List c9
 T:List b9
 Q:c8
structure n7 where
 X:b6
 Progs:List (List g6)
structure k9 where
 V:Int
 E:Int
structure r8 where
 x:b6
 o:g6
structure H6 where
 r:Int
 h:Int
structure G3 where
 h:Int
 k:Int
 v:Int
structure H5 where
 t:List b9
structure n0 where
 Key:Int
 Val:Int
structure k8 where
 L:List Int
 Cap:Int
structure r9 where
 Kind:Int
 A:Int
 B:Int
 C:Int
structure C5 where
 Serial:Int
 Strong:Int
 Weak:Int
 Prog:Int
 Started:Bool
 Fields:List Int
structure o0 where
 State:Int
 Gen:Int
 Val:C5
structure o6 where
 Target:Int
 Intact:Bool
 Call:Int
structure l5 where
 State:Int
 Key:Int
 Val:Int
structure s7 where
 Kind:Int
 At:Int
 Prog:Int
structure A9 where
 State:Int
 Gen:Int
 Val:Int
structure C1 where
 a8:List A9
 Last:Int
structure l7 where
 a8:List o0
 Last:Int
 Serial:Int
structure w9 where
 L:List s7
 Cap:Int
structure g7 where
 S:l7
 Roots:List Int
 a8:List o6
 T:List l5
 Q:w9
structure A2 where
 X:g7
 Progs:List (List r9)
structure B9 where
 Key:Int
 Val:Int
structure p8 where
 V:Int
 E:Int
def a4D(a0:List (List g6)):Option Bool:=
 jn (λ(_:Unit)=>
  some (decide ((a0.length:Int)≤10))) (λκ5=>
  (lp (S:=Int) (E:=Bool ⊕ Unit) (λ(s8:Int)=>
   if ((decide (s8<(a0.length:Int)))&&(decide (s8<10))) then
    (ix a0 s8).bind λv10=>
    if (decide ((v10.length:Int) > 10)) then
     some (.inr (.inl false))
    else
    some (.inl (u6 (s8+1)))
   else
   some (.inr (.inr ()))) 0).bind λe7=>
  match e7 with
  | .inl w=>some w
  | .inr w=>κ5 w)
def a2s(a0:g6):Option Bool:=
 some ((decide (a0.Kind≥1))&&(decide (a0.Kind≤10)))
def Y9:Option g8:=
 some (⟨(some 233),0,5,6⟩:g8)
def R5:Option g8:=
 some (⟨(some 236),(-1),5,13⟩:g8)
def I6(a0:List g8):Option (List g8):=
 some a0
def Z0:Option g8:=
 some (⟨(some 234),0,5,6⟩:g8)
def V9:Option g8:=
 some (⟨(some 236),0,3,5⟩:g8)
def V8:Option g8:=
 some (⟨(some 234),0,3,5⟩:g8)
def N7:Option g8:=
 some (⟨(some 236),(-1),5,6⟩:g8)
def Y7:Option g8:=
 some (⟨(some 233),0,5,7⟩:g8)
def N6:Option g8:=
 some (⟨(some 234),(-1),5,6⟩:g8)
def Y8:Option g8:=
 some (⟨(some 234),0,5,7⟩:g8)
def a6y:Option (List (Int × (List g8))):=
 (Y9).bind λv1=>
 (R5).bind λv2=>
 (I6 [v1,(⟨(some 234),0,4,1⟩:g8),v2]).bind λv3=>
 (Z0).bind λv4=>
 (I6 [v1,v4]).bind λv5=>
 (I6 [v1]).bind λv6=>
 (V9).bind λv7=>
 (I6 [v1,v4,v7]).bind λv8=>
 (V8).bind λv9=>
 (N7).bind λv10=>
 (I6 [v1,v9,v10]).bind λv11=>
 (Y7).bind λv12=>
 (N6).bind λv13=>
 (I6 [v12,v13,v2]).bind λv14=>
 (Y8).bind λv15=>
 (I6 [v1,v15]).bind λv16=>
 (I6 [v1,v13]).bind λv17=>
 (I6 []).bind λv18=>
 (I6 [(⟨(some 233),0,200,12⟩:g8)]).bind λv19=>
 some (r7 (r7 (r7 (r7 (r7 (r7 (r7 (r7 (r7 (r7 (r7 (r7 [] 1 v3) 2 v5) 3 v6) 4 v8) 5 v11) 6 v14) 7 v16) 8 v17) 9 v5) 10 v5) 11 v18) 12 v19)
def a9Z(a0:g6):Option Int:=
 some a0.A
def a90(a0:g6):Option Int:=
 some a0.B
def a91(a0:g6):Option Int:=
 some a0.C
def b0N(f:Fv)(a0:g6):Option Int:=
 if f=some 233 then a9Z a0 else
 if f=some 234 then a90 a0 else
 if f=some 236 then a91 a0 else
 none
def R4(a0:g6):Option Int:=
 (a6y).bind λv1=>
 if (!((B4 v1 a0.Kind).isSome)) then
  some 14
 else
 jn (λ(_:Unit)=>
  some 0) (λκ8=>
  (lp (S:=Int) (E:=Int ⊕ Unit) (λ(s11:Int)=>
   if (decide (s11<(((B4 v1 a0.Kind).getD ([]:List g8)).length:Int))) then
    (ix ((B4 v1 a0.Kind).getD ([]:List g8)) s11).bind λv13=>
    (b0N v13.part a0).bind λv14=>
    if ((decide (v14<v13.least))||(decide (v14 > v13.most))) then
     some (.inr (.inl v13.e))
    else
    some (.inl (u6 (s11+1)))
   else
   some (.inr (.inr ()))) 0).bind λe10=>
  match e10 with
  | .inl w=>some w
  | .inr w=>κ8 w)
def a4c(a0:List (List g6)):Option Bool:=
 if (decide ((a0.length:Int) > 6)) then
  some false
 else
 jn (λ(_:Unit)=>
  some true) (λκ20=>
  (lp (S:=Int) (E:=Bool ⊕ Unit) (λ(s23:Int)=>
   if (decide (s23<(a0.length:Int))) then
    jn (λ(_:Unit)=>
     some (.inl (u6 (s23+1)))) (λκ32=>
     (ix a0 s23).bind λv34=>
     if (decide ((v34.length:Int) > 6)) then
      some (.inr (.inl false))
     else
     (lp (S:=Int) (E:=Bool ⊕ Unit) (λ(s36:Int)=>
      if (decide (s36<(v34.length:Int))) then
       (ix v34 s36).bind λv38=>
       (a2s v38).bind λv39=>
       (p9 ((!v39)==false) 0 (R4 v38)).bind λv40=>
       if ((!v39)||(v40 != 0)) then
        some (.inr (.inl false))
       else
       some (.inl (u6 (s36+1)))
      else
      some (.inr (.inr ()))) 0).bind λe35=>
     match e35 with
     | .inl w=>some (.inr (.inl w))
     | .inr w=>κ32 w)
   else
   some (.inr (.inr ()))) 0).bind λe22=>
  match e22 with
  | .inl w=>some w
  | .inr w=>κ20 w)
def P5(a0:Int)(a1:Int):Option c7:=
 if ((((decide (a0<0))||(decide (a0 > 24)))||(decide (a1<0)))||(decide (a1 > 9))) then
  some (⟨[],0⟩:c7)
 else
 (mk 80 a0 (⟨0,0,⟨0,0,0,0,false,[]⟩⟩:b7)).bind λv1=>
 some (⟨v1,a1⟩:c7)
def a1D(a0:Int)(a1:Int):Option a7:=
 (P5 a0 a1).bind λv1=>
 some (⟨v1,0⟩:a7)
def c0H(a0:Int):Option (List c9):=
 if ((decide (a0<0))||(decide (a0 > 6))) then
  some []
 else
 (mk 24 a0 (⟨0,false,0⟩:c9)).bind λv1=>
 jn (λ(j9:List c9)=>
  some j9) (λκ8=>
  (lp (S:=Int × (List c9)) (E:=(List c9)) (λ((s11,s12):Int × (List c9))=>
   if (decide (s11<(v1.length:Int))) then
    (ix s12 s11).bind λv15=>
    some (.inl (u6 (s11+1),(s12.set (s11).toNat (⟨v15.Target,v15.Intact,(-1)⟩:c9))))
   else
   some (.inr s12)) (0,v1)).bind λe10=>
  κ8 e10)
def b0U(a0:Int):Option (List b9):=
 if ((decide (a0<1))||(decide (a0 > 8))) then
  some []
 else
 (mk 24 a0 (⟨0,0,0⟩:b9)).bind λv1=>
 some v1
def a0Q(a0:Int):Option c8:=
 some (⟨[],a0⟩:c8)
def c0w:Option c8:=
 (a0Q 30).bind λv1=>
 some v1
def a1V(a0:Int)(a1:Int)(a2:Int):Option b6:=
 if ((((((decide (a0<1))||(decide (a0 > 24)))||(decide (a1<0)))||(decide (a1 > 9)))||(decide (a2<1)))||(decide (a2 > 8))) then
  some (⟨⟨⟨[],0⟩,0⟩,[],[],[],⟨[],0⟩⟩:b6)
 else
 (a1D a0 a1).bind λv1=>
 (mk 8 6 (0:Int)).bind λv2=>
 (c0H 6).bind λv3=>
 (b0U a2).bind λv4=>
 (c0w).bind λv5=>
 some (⟨v1,v2,v3,v4,v5⟩:b6)
def J2(a0:Int)(a1:Int)(a2:Int)(a3:List (List g6)):Option (n7 × Int):=
 (a4c a3).bind λv1=>
 if (!v1) then
  some ((⟨⟨⟨⟨[],0⟩,0⟩,[],[],[],⟨[],0⟩⟩,[]⟩:n7),13)
 else
 (a1V a0 a1 a2).bind λv2=>
 if ((v2.Roots.length:Int)==0) then
  some ((⟨⟨⟨⟨[],0⟩,0⟩,[],[],[],⟨[],0⟩⟩,[]⟩:n7),1)
 else
 some ((⟨v2,a3⟩:n7),0)
def V6(a0:List Int):Option (g6 × Int):=
 if ((a0.length:Int) != 4) then
  some ((⟨0,0,0,0⟩:g6),14)
 else
 (ix a0 0).bind λv1=>
 (ix a0 1).bind λv2=>
 (ix a0 2).bind λv3=>
 (ix a0 3).bind λv4=>
 (R4 (⟨v1,v2,v3,v4⟩:g6)).bind λv5=>
 if (v5 != 0) then
  some ((⟨0,0,0,0⟩:g6),v5)
 else
 some ((⟨v1,v2,v3,v4⟩:g6),0)
def a6B(a0:g6):Option Ifc:=
 if (a0.Kind==11) then
  some (⟨136,[]⟩:Ifc)
 else
 if (a0.Kind==12) then
  some (⟨140,[a0.A]⟩:Ifc)
 else
 some (⟨132,[a0.Kind,a0.A,a0.B,a0.C]⟩:Ifc)
def a2U:Option (List (Int × Fv)):=
 some (r7 (r7 (r7 (r7 (r7 (r7 (r7 (r7 (r7 (r7 [] 1 (some 151)) 2 (some 152)) 3 (some 153)) 4 (some 154)) 5 (some 155)) 6 (some 156)) 7 (some 157)) 8 (some 158)) 9 (some 159)) 10 (some 160))
def b8M(a0:Int):Option ((List Int) × Int):=
 if ((decide (a0<0))||(decide (a0 > 4))) then
  some ([],1)
 else
 (mk 8 a0 (0:Int)).bind λv1=>
 some (v1,0)
def R1(a0:Int):Option Bool:=
 some ((decide (a0≥(-1)))&&(decide (a0<6)))
def N4(a0:c7):Option c7:=
 some a0
def x8(a0:List b7):Option (List b7):=
 app 80 [] a0
def C6(a0:c7)(a1:Int)(a2:b7):Option c7:=
 (x8 a0.a8).bind λv1=>
 (ix v1 a1).bind λv2=>
 some (⟨(v1.set (a1).toNat a2),a0.Last⟩:c7)
def a1t(a0:Int)(a1:Int):Option Int:=
 if ((((decide (a0<0))||(decide (a0≥24)))||(decide (a1<0)))||(decide (a1 > 9))) then
  some 0
 else
 some (u6 ((u6 (1+(u6 (a0*1))))+(u6 (a1*32))))
def I4(a0:c7)(a1:m7):Option (c7 × Int × Int):=
 jn (λ(_:Unit)=>
  some (a0,0,4)) (λκ9=>
  (N4 a0).bind λv11=>
  (lp (S:=Int) (E:=(c7 × Int × Int) ⊕ Unit) (λ(s13:Int)=>
   if (decide (s13<(v11.a8.length:Int))) then
    (ix v11.a8 s13).bind λv15=>
    if ((v15.State==0)==true) then
     (ix a0.a8 s13).bind λv16=>
     (C6 a0 s13 (⟨1,v16.Gen,a1⟩:b7)).bind λv17=>
     (a1t s13 v16.Gen).bind λv18=>
     some (.inr (.inl (v17,v18,0)))
    else
    some (.inl (u6 (s13+1)))
   else
   some (.inr (.inr ()))) 0).bind λe12=>
  match e12 with
  | .inl w=>some w
  | .inr w=>κ9 w)
def T0(a0:a7)(a1:Int)(a2:Int):Option (a7 × Int × Int):=
 (b8M a1).bind λv1=>
 if (v1.2 != 0) then
  some (a0,0,v1.2)
 else
 (R1 a2).bind λv2=>
 if (!v2) then
  some (a0,0,13)
 else
 (I4 a0.S (⟨u6 (a0.Serial+1),0,0,a2,false,v1.1⟩:m7)).bind λv3=>
 if (v3.2.2 != 0) then
  some (a0,0,v3.2.2)
 else
 some ((⟨v3.1,u6 (a0.Serial+1)⟩:a7),v3.2.1,0)
def a1U(a0:Int):Option (Int × Int × Bool):=
 if (decide (a0<1)) then
  some ((-1),(-1),false)
 else
 (rem (u6 (a0-1)) 32).bind λv1=>
 (quo .i64 v1 1).bind λv2=>
 (quo .i64 (u6 (a0-1)) 32).bind λv3=>
 if ((decide (v2≥24))||(decide (v3 > 9))) then
  some ((-1),(-1),false)
 else
 some (v2,v3,true)
def a26(a0:Int):Option Int:=
 (a1U a0).bind λv1=>
 some v1.1
def a4j(a0:Int):Option Int:=
 (a1U a0).bind λv1=>
 some v1.2.1
def u9(a0:c7)(a1:Int):Option (Int × Int):=
 if (a1==0) then
  some ((-1),2)
 else
 (a26 a1).bind λv1=>
 if ((decide (v1<0))||(decide (v1≥(a0.a8.length:Int)))) then
  some ((-1),3)
 else
 (ix a0.a8 v1).bind λv2=>
 (a4j a1).bind λv3=>
 if ((v2.Gen != v3)||((v2.State != 1)&&(v2.State != 2))) then
  some ((-1),3)
 else
 some (v1,0)
def D6(a0:c7)(a1:Int):Option (m7 × Int):=
 (u9 a0 a1).bind λv1=>
 if (v1.2 != 0) then
  some ((⟨0,0,0,0,false,[]⟩:m7),v1.2)
 else
 (ix a0.a8 v1.1).bind λv2=>
 if (v2.State==2) then
  some ((⟨0,0,0,0,false,[]⟩:m7),3)
 else
 some (v2.Val,0)
def x6(a0:a7)(a1:Int):Option (m7 × Int):=
 (D6 a0.S a1).bind λv1=>
 some (v1.1,v1.2)
def a4Y(a0:b6)(a1:Int):Option Bool:=
 (x6 a0.S a1).bind λv1=>
 some (v1.2==0)
def K7(a0:b6)(a1:Int):Option Bool:=
 (p9 ((a1==0)==false) false (a4Y a0 a1)).bind λv1=>
 some ((a1==0)||v1)
def F5(a0:Int):Option Bool:=
 some (decide (a0≥12))
def a4d(a0:Int):Option (Int × Int):=
 (F5 a0).bind λv1=>
 if v1 then
  some (12,0)
 else
 some (u6 ((if 0 > a0 then 0 else a0)+1),0)
def a8W(a0:Int):Option Int:=
 (a4d a0).bind λv1=>
 some v1.1
def J7(a0:c7)(a1:Int)(a2:m7):Option (c7 × Int):=
 (u9 a0 a1).bind λv1=>
 if (v1.2 != 0) then
  some (a0,v1.2)
 else
 (ix a0.a8 v1.1).bind λv2=>
 (C6 a0 v1.1 (⟨v2.State,v2.Gen,a2⟩:b7)).bind λv3=>
 some (v3,0)
def J8(a0:a7)(a1:Int)(a2:m7):Option (a7 × Int):=
 (J7 a0.S a1 a2).bind λv1=>
 some ((⟨v1.1,a0.Serial⟩:a7),v1.2)
def U2(a0:b6)(a1:Int):Option b6:=
 (x6 a0.S a1).bind λv1=>
 if (v1.2==0) then
  (a8W v1.1.Strong).bind λv2=>
  (J8 a0.S a1 (⟨v1.1.Serial,v2,v1.1.Weak,v1.1.Prog,v1.1.Started,v1.1.Fields⟩:m7)).bind λv3=>
  some (⟨v3.1,a0.Roots,a0.a8,a0.T,a0.Q⟩:b6)
 else
 some a0
def a0h(a0:b6)(a1:Int):Option b6:=
 (U2 a0 a1).bind λv1=>
 some v1
def L9(a0:List Int):Option (List Int):=
 app 8 [] a0
def O9(a0:H6)(a1:b6):Option b6:=
 (L9 a1.Roots).bind λv1=>
 (ix v1 a0.r).bind λv2=>
 some (⟨a1.S,(v1.set (a0.r).toNat a0.h),a1.a8,a1.T,a1.Q⟩:b6)
def a2u(a0:Int):Option (Int × Int):=
 (F5 a0).bind λv1=>
 if v1 then
  some (12,0)
 else
 if (decide (a0<1)) then
  some (0,11)
 else
 some (u6 (a0-1),0)
def b1Z(a0:Int):Option (Int × Int):=
 (a2u a0).bind λv1=>
 some (v1.1,v1.2)
def a1W(a0:Int):Option Int:=
 (b1Z a0).bind λv1=>
 if (v1.2 != 0) then
  some a0
 else
 some v1.1
def M8(a0:b6)(a1:Int):Option b6:=
 (x6 a0.S a1).bind λv1=>
 if (v1.2==0) then
  (a1W v1.1.Strong).bind λv2=>
  (J8 a0.S a1 (⟨v1.1.Serial,v2,v1.1.Weak,v1.1.Prog,v1.1.Started,v1.1.Fields⟩:m7)).bind λv3=>
  some (⟨v3.1,a0.Roots,a0.a8,a0.T,a0.Q⟩:b6)
 else
 some a0
def C4(a0:b6)(a1:Int):Option b6:=
 (M8 a0 a1).bind λv1=>
 some v1
def E7(a0:b6)(a1:Int)(a2:Int)(a3:H6):Option b6:=
 (a0h a0 a2).bind λv1=>
 (O9 a3 v1).bind λv2=>
 (C4 v2 a1).bind λv3=>
 some v3
def a0x(a0:b6)(a1:Int)(a2:Int):Option (b6 × Int):=
 if ((decide (a1<0))||(decide (a1≥(a0.Roots.length:Int)))) then
  some (a0,6)
 else
 (K7 a0 a2).bind λv1=>
 if (!v1) then
  some (a0,3)
 else
 (ix a0.Roots a1).bind λv2=>
 (E7 a0 v2 a2 (⟨a1,a2⟩:H6)).bind λv3=>
 some (v3,0)
def B8(a0:r8)(a1:Int)(a2:Int):Option (b6 × Int):=
 if (a2 != 0) then
  some (a0.x,a2)
 else
 (a0x a0.x a0.o.A a1).bind λv1=>
 some (v1.1,v1.2)
def T2(a0:r8):Option (b6 × Int):=
 (T0 a0.x.S a0.o.B a0.o.C).bind λv1=>
 if (v1.2.2 != 0) then
  some (a0.x,v1.2.2)
 else
 (B8 (⟨⟨v1.1,a0.x.Roots,a0.x.a8,a0.x.T,a0.x.Q⟩,a0.o⟩:r8) v1.2.1 0).bind λv2=>
 some (v2.1,v2.2)
def L0(a0:b6)(a1:Int):Option Int:=
 if ((decide (a1<0))||(decide (a1≥(a0.Roots.length:Int)))) then
  some 0
 else
 (ix a0.Roots a1).bind λv1=>
 some v1
def H8(a0:r8):Option (b6 × Int):=
 (L0 a0.x a0.o.B).bind λv1=>
 (B8 a0 v1 0).bind λv2=>
 some (v2.1,v2.2)
def Z7(a0:r8):Option (b6 × Int):=
 (B8 a0 0 0).bind λv1=>
 some (v1.1,v1.2)
def L7(a0:b6)(a1:Int):Option (Int × Int):=
 (L0 a0 a1).bind λv1=>
 if (v1==0) then
  some (0,2)
 else
 some (v1,0)
def a7k(a0:List Int)(a1:Int):Option Bool:=
 some ((decide (a1≥0))&&(decide (a1<(a0.length:Int))))
def b2H(a0:List Int)(a1:Int):Option (Int × Int):=
 (a7k a0 a1).bind λv1=>
 if (!v1) then
  some (0,5)
 else
 (ix a0 a1).bind λv2=>
 some (v2,0)
def a0p(a0:a7)(a1:Int)(a2:Int):Option (Int × Int):=
 (x6 a0 a1).bind λv1=>
 if (v1.2 != 0) then
  some (0,v1.2)
 else
 (b2H v1.1.Fields a2).bind λv2=>
 some (v2.1,v2.2)
def Z8(a0:r8):Option (b6 × Int):=
 (L7 a0.x a0.o.B).bind λv1=>
 if (v1.2 != 0) then
  some (a0.x,v1.2)
 else
 (a0p a0.x.S v1.1 a0.o.C).bind λv2=>
 (B8 a0 v2.1 v2.2).bind λv3=>
 some (v3.1,v3.2)
def b5o(a0:List Int)(a1:Int)(a2:Int):Option ((List Int) × Int):=
 (a7k a0 a1).bind λv1=>
 if (!v1) then
  some (a0,5)
 else
 (mk 8 (a0.length:Int) (0:Int)).bind λv2=>
 (cpy v2 a0).bind λv3=>
 (ix v3 a1).bind λv4=>
 some ((v3.set (a1).toNat a2),0)
def a9i(a0:a7)(a1:Int)(a2:Int)(a3:Int):Option (a7 × Int):=
 (x6 a0 a1).bind λv1=>
 if (v1.2 != 0) then
  some (a0,v1.2)
 else
 (b5o v1.1.Fields a2 a3).bind λv2=>
 if (v2.2 != 0) then
  some (a0,v2.2)
 else
 (J8 a0 a1 (⟨v1.1.Serial,v1.1.Strong,v1.1.Weak,v1.1.Prog,v1.1.Started,v2.1⟩:m7)).bind λv3=>
 some (v3.1,v3.2)
def a0O(a0:G3)(a1:b6):Option b6:=
 (a9i a1.S a0.h a0.k a0.v).bind λv1=>
 some (⟨v1.1,a1.Roots,a1.a8,a1.T,a1.Q⟩:b6)
def H7(a0:b6)(a1:Int)(a2:Int)(a3:G3):Option b6:=
 (a0h a0 a2).bind λv1=>
 (a0O a3 v1).bind λv2=>
 (C4 v2 a1).bind λv3=>
 some v3
def a2x(a0:b6)(a1:Int)(a2:Int)(a3:Int):Option (b6 × Int):=
 (a0p a0.S a1 a2).bind λv1=>
 if (v1.2 != 0) then
  some (a0,v1.2)
 else
 (K7 a0 a3).bind λv2=>
 if (!v2) then
  some (a0,3)
 else
 (H7 a0 v1.1 a3 (⟨a1,a2,a3⟩:G3)).bind λv3=>
 some (v3,0)
def W2(a0:r8):Option (b6 × Int):=
 (L7 a0.x a0.o.A).bind λv1=>
 if (v1.2 != 0) then
  some (a0.x,v1.2)
 else
 (L0 a0.x a0.o.C).bind λv2=>
 (a2x a0.x v1.1 a0.o.B v2).bind λv3=>
 some (v3.1,v3.2)
def b3Q(a0:c8)(a1:Int):Option (c8 × Int):=
 some (a0,a1)
def a4C(a0:c8)(a1:Int):Option Bool:=
 jn (λ(_:Unit)=>
  some false) (λκ6=>
  (b3Q a0 2).bind λv8=>
  (lp (S:=Int) (E:=Bool ⊕ Unit) (λ(s10:Int)=>
   if (decide (s10<(v8.1.L.length:Int))) then
    (ix v8.1.L s10).bind λv12=>
    if ((v12.Kind==v8.2)==true) then
     if (v12.At==a1) then
      some (.inr (.inl true))
     else
     some (.inl (u6 (s10+1)))
    else
    some (.inl (u6 (s10+1)))
   else
   some (.inr (.inr ()))) 0).bind λe9=>
  match e9 with
  | .inl w=>some w
  | .inr w=>κ6 w)
def a6k(a0:List c9)(a1:Int):Option Bool:=
 some ((decide (a1≥0))&&(decide (a1<(a0.length:Int))))
def a0q(a0:List c9):Option (List c9):=
 (mk 24 (a0.length:Int) (⟨0,false,0⟩:c9)).bind λv1=>
 (cpy v1 a0).bind λv2=>
 some v2
def b1O(a0:List c9)(a1:Int)(a2:Int)(a3:Int):Option ((List c9) × Int × Int):=
 (a6k a0 a1).bind λv1=>
 if (!v1) then
  some (a0,0,7)
 else
 (a0q a0).bind λv2=>
 (ix v2 a1).bind λv3=>
 (ix a0 a1).bind λv4=>
 some ((v2.set (a1).toNat (⟨a2,(a2 != 0),a3⟩:c9)),v4.Target,0)
def a1v(a0:b6)(a1:Int)(a2:Int):Option b6:=
 (u9 a0.S.S a1).bind λv1=>
 if (v1.2==0) then
  (ix a0.S.S.a8 v1.1).bind λv2=>
  (J8 a0.S a1 (⟨v2.Val.Serial,v2.Val.Strong,u6 (v2.Val.Weak+a2),v2.Val.Prog,v2.Val.Started,v2.Val.Fields⟩:m7)).bind λv3=>
  some (⟨v3.1,a0.Roots,a0.a8,a0.T,a0.Q⟩:b6)
 else
 some a0
def N3(a0:c7)(a1:Int):Option (c7 × Int):=
 (u9 a0 a1).bind λv1=>
 if (v1.2 != 0) then
  some (a0,v1.2)
 else
 (ix a0.a8 v1.1).bind λv2=>
 if (v2.Gen==a0.Last) then
  (C6 a0 v1.1 (⟨3,v2.Gen,⟨0,0,0,0,false,[]⟩⟩:b7)).bind λv3=>
  some (v3,0)
 else
 (C6 a0 v1.1 (⟨0,u6 (v2.Gen+1),⟨0,0,0,0,false,[]⟩⟩:b7)).bind λv4=>
 some (v4,0)
def a2T(a0:b6)(a1:Int):Option b6:=
 (a1v a0 a1 (-1)).bind λv1=>
 (u9 v1.S.S a1).bind λv2=>
 if (v2.2 != 0) then
  some v1
 else
 (ix v1.S.S.a8 v2.1).bind λv3=>
 if ((v3.State==2)&&(v3.Val.Weak==0)) then
  (N3 v1.S.S a1).bind λv4=>
  some (⟨⟨v4.1,v1.S.Serial⟩,v1.Roots,v1.a8,v1.T,v1.Q⟩:b6)
 else
 some v1
def a0y(a0:b6)(a1:Int)(a2:Int)(a3:Int):Option (b6 × Int):=
 (p9 (((decide (a1<0))||(decide (a1≥(a0.a8.length:Int))))==false) false (a4C a0.Q a1)).bind λv1=>
 if (((decide (a1<0))||(decide (a1≥(a0.a8.length:Int))))||v1) then
  some (a0,7)
 else
 (K7 a0 a2).bind λv2=>
 if (!v2) then
  some (a0,3)
 else
 (b1O a0.a8 a1 a2 a3).bind λv3=>
 (a1v (⟨a0.S,a0.Roots,v3.1,a0.T,a0.Q⟩:b6) a2 1).bind λv4=>
 (a2T v4 v3.2.1).bind λv5=>
 some (v5,0)
def T3(a0:r8):Option (b6 × Int):=
 if (a0.o.B==(-1)) then
  (a0y a0.x a0.o.A 0 a0.o.C).bind λv1=>
  some (v1.1,v1.2)
 else
 (L7 a0.x a0.o.B).bind λv2=>
 if (v2.2 != 0) then
  some (a0.x,v2.2)
 else
 (a0y a0.x a0.o.A v2.1 a0.o.C).bind λv3=>
 some (v3.1,v3.2)
def a6j(a0:List c9)(a1:Int):Option (Int × Int):=
 (a6k a0 a1).bind λv1=>
 if (!v1) then
  some (0,7)
 else
 (ix a0 a1).bind λv2=>
 if ((v2.Target==0)||(!v2.Intact)) then
  some (0,9)
 else
 some (v2.Target,0)
def W9(a0:r8):Option (b6 × Int):=
 (a6j a0.x.a8 a0.o.B).bind λv1=>
 (B8 a0 v1.1 v1.2).bind λv2=>
 some (v2.1,v2.2)
def a30(a0:Int)(a1:Int):Option (Int × Int):=
 some (a0,a1)
def a0w(a0:Int)(a1:Int):Option Int:=
 if (decide (a0<1)) then
  some 0
 else
 (rem (u6 ((u6 (5*a1))+1)) a0).bind λv1=>
 if (decide (v1<0)) then
  some (u6 (v1+a0))
 else
 some v1
def Y0(a0:List b9)(a1:Int):Option Int:=
 jn (λ(_:Unit)=>
  some (-1)) (λκ8=>
  (a30 (a0.length:Int) a1).bind λv10=>
  (lp (S:=Int) (E:=Int ⊕ Unit) (λ(s12:Int)=>
   if (decide (s12<v10.1)) then
    (a0w v10.1 v10.2).bind λv14=>
    (rem (u6 (v14+s12)) v10.1).bind λv15=>
    (ix a0 v15).bind λv16=>
    if (v16.State==0) then
     some (.inr (.inr ()))
    else
    if ((v16.State==1)&&(v16.Key==a1)) then
     some (.inr (.inl v15))
    else
    some (.inl (u6 (s12+1)))
   else
   some (.inr (.inr ()))) 0).bind λe11=>
  match e11 with
  | .inl w=>some w
  | .inr w=>κ8 w)
def L6(a0:List b9)(a1:Int):Option (Int × Int):=
 (Y0 a0 a1).bind λv1=>
 if (decide (v1<0)) then
  some (0,9)
 else
 (ix a0 v1).bind λv2=>
 some (v2.Val,0)
def D7(a0:List b9):Option (List b9):=
 app 24 [] a0
def a1u(a0:List b9)(a1:Int)(a2:b9):Option (List b9):=
 (D7 a0).bind λv1=>
 (ix v1 a1).bind λv2=>
 some (v1.set (a1).toNat a2)
def X9(a0:List b9)(a1:Int):Option ((List b9) × Int × Int):=
 (Y0 a0 a1).bind λv1=>
 if (decide (v1<0)) then
  some (a0,0,9)
 else
 (a1u a0 v1 (⟨2,0,0⟩:b9)).bind λv2=>
 (ix a0 v1).bind λv3=>
 some (v2,v3.Val,0)
def a75(a0:List b9)(a1:Int)(a2:Int):Option ((List b9) × Int):=
 (Y0 a0 a1).bind λv1=>
 if (decide (v1≥0)) then
  (a1u a0 v1 (⟨1,a1,a2⟩:b9)).bind λv2=>
  some (v2,0)
 else
 jn (λ(_:Unit)=>
  some (a0,8)) (λκ11=>
  (a30 (a0.length:Int) a1).bind λv13=>
  (lp (S:=Int) (E:=((List b9) × Int) ⊕ Unit) (λ(s15:Int)=>
   if (decide (s15<v13.1)) then
    (a0w v13.1 v13.2).bind λv17=>
    (rem (u6 (v17+s15)) v13.1).bind λv18=>
    (ix a0 v18).bind λv19=>
    if (v19.State != 1) then
     (a1u a0 v18 (⟨1,a1,a2⟩:b9)).bind λv20=>
     some (.inr (.inl (v20,0)))
    else
    some (.inl (u6 (s15+1)))
   else
   some (.inr (.inr ()))) 0).bind λe14=>
  match e14 with
  | .inl w=>some w
  | .inr w=>κ11 w)
def U0(a0:List b9)(a1:Int)(a2:Int):Option ((List b9) × Int × Int):=
 if (a1==0) then
  some (a0,0,2)
 else
 (L6 a0 a1).bind λv1=>
 if (a2==0) then
  (X9 a0 a1).bind λv2=>
  some (v2.1,v1.1,0)
 else
 (a75 a0 a1 a2).bind λv3=>
 if (v3.2 != 0) then
  some (a0,0,v3.2)
 else
 some (v3.1,v1.1,0)
def W1(a0:H5)(a1:b6):Option b6:=
 some (⟨a1.S,a1.Roots,a1.a8,a0.t,a1.Q⟩:b6)
def I7(a0:b6)(a1:Int)(a2:Int)(a3:H5):Option b6:=
 (a0h a0 a2).bind λv1=>
 (W1 a3 v1).bind λv2=>
 (C4 v2 a1).bind λv3=>
 some v3
def a31(a0:b6)(a1:Int)(a2:Int):Option (b6 × Int):=
 if (a1==0) then
  some (a0,2)
 else
 (K7 a0 a1).bind λv1=>
 (p9 ((!v1)==false) false (K7 a0 a2)).bind λv2=>
 if ((!v1)||(!v2)) then
  some (a0,3)
 else
 (U0 a0.T a1 a2).bind λv3=>
 if (v3.2.2 != 0) then
  some (a0,v3.2.2)
 else
 (I7 a0 v3.2.1 a2 (⟨v3.1⟩:H5)).bind λv4=>
 some (v4,0)
def Z9(a0:r8):Option (b6 × Int):=
 (L7 a0.x a0.o.A).bind λv1=>
 if (v1.2 != 0) then
  some (a0.x,v1.2)
 else
 (L0 a0.x a0.o.B).bind λv2=>
 (a31 a0.x v1.1 v2).bind λv3=>
 some (v3.1,v3.2)
def b10(a0:List b9)(a1:Int):Option (Int × Int):=
 (L6 a0 a1).bind λv1=>
 some (v1.1,v1.2)
def a0z(a0:r8):Option (b6 × Int):=
 (L7 a0.x a0.o.B).bind λv1=>
 if (v1.2 != 0) then
  some (a0.x,v1.2)
 else
 (b10 a0.x.T v1.1).bind λv2=>
 (B8 a0 v2.1 v2.2).bind λv3=>
 some (v3.1,v3.2)
def P0(a0:r8):Option (b6 × Int):=
 some (a0.x,0)
def b3y(f:Fv)(a0:r8):Option (b6 × Int):=
 if f=some 151 then T2 a0 else
 if f=some 152 then H8 a0 else
 if f=some 153 then Z7 a0 else
 if f=some 154 then Z8 a0 else
 if f=some 155 then W2 a0 else
 if f=some 156 then T3 a0 else
 if f=some 157 then W9 a0 else
 if f=some 158 then Z9 a0 else
 if f=some 159 then a0z a0 else
 if f=some 160 then P0 a0 else
 none
def a0W(a0:Int):Option Bool:=
 some (a0 != a0)
def a3p(a0:Int)(a1:Int):Option Int:=
 (a0W a0).bind λv1=>
 (a0W a1).bind λv2=>
 if v1 then
  if v2 then
   some 0
  else
  some (-1)
 else
 if v2 then
  some 1
 else
 if (decide (a0<a1)) then
  some (-1)
 else
 if (decide (a0 > a1)) then
  some 1
 else
 some 0
def a3W(a0:Int)(a1:Int)(a2:List (Int × Int)):Option Int:=
 (a3p ((B4 a2 a0).getD (0:Int)) ((B4 a2 a1).getD (0:Int))).bind λv1=>
 some v1
def D8(a0:a7):Option (List Int):=
 jn (λ((j18,j19):(List (Int × Int)) × (List Int))=>
  (b2B (λp q=>a3W p q j18) j19).bind λv21=>
  some v21) (λκ17=>
  (lp (S:=Int × (List (Int × Int)) × (List Int)) (E:=((List (Int × Int)) × (List Int))) (λ((s23,s24,s25):Int × (List (Int × Int)) × (List Int))=>
   if (decide (s23<(a0.S.a8.length:Int))) then
    jn (λ((j32,j33):(List (Int × Int)) × (List Int))=>
     some (.inl (u6 (s23+1),j32,j33))) (λκ31=>
     (ix a0.S.a8 s23).bind λv35=>
     if (v35.State==1) then
      (a1t s23 v35.Gen).bind λv36=>
      (app 8 s25 [v36]).bind λv37=>
      κ31 ((r7 s24 v36 v35.Val.Serial),v37)
     else
     κ31 (s24,s25))
   else
   some (.inr (s24,s25))) (0,[],[])).bind λe22=>
  κ17 e22)
def a1C(a0:b6):Option (List Int):=
 jn (λ(j16:List Int)=>
  some j16) (λκ15=>
  (D8 a0.S).bind λv17=>
  (lp (S:=Int × (List Int)) (E:=(List Int)) (λ((s19,s20):Int × (List Int))=>
   if (decide (s19<(v17.length:Int))) then
    jn (λ(j27:List Int)=>
     some (.inl (u6 (s19+1),j27))) (λκ26=>
     (ix v17 s19).bind λv28=>
     (x6 a0.S v28).bind λv29=>
     if (v29.1.Strong==0) then
      (app 8 s20 [v28]).bind λv30=>
      κ26 v30
     else
     κ26 s20)
   else
   some (.inr s20)) (0,[])).bind λe18=>
  κ15 e18)
def L8(a0:m7):Option Bool:=
 some ((decide (a0.Prog≥0))&&(!a0.Started))
def I3(a0:c8):Option Int:=
 some (a0.L.length:Int)
def E9(a0:List g9)(a1:Int)(a2:Int):Option (List g9):=
 (cut a0 a1 a2).bind λv1=>
 some v1
def Q7(a0:c8)(a1:g9):Option (c8 × Int):=
 (I3 a0).bind λv1=>
 if (decide (v1≥a0.Cap)) then
  some (a0,4)
 else
 (E9 a0.L 0 v1).bind λv2=>
 (app 24 v2 [a1]).bind λv3=>
 some ((⟨v3,a0.Cap⟩:c8),0)
def a8J(a0:c8)(a1:g9):Option (c8 × Int):=
 (Q7 a0 a1).bind λv1=>
 some (v1.1,v1.2)
def S0(a0:b6)(a1:Int):Option b6:=
 (x6 a0.S a1).bind λv1=>
 (p9 ((v1.2 != 0)==false) false (L8 v1.1)).bind λv2=>
 if ((v1.2 != 0)||(!v2)) then
  some a0
 else
 (J8 a0.S a1 (⟨v1.1.Serial,v1.1.Strong,v1.1.Weak,v1.1.Prog,true,v1.1.Fields⟩:m7)).bind λv3=>
 (a8J a0.Q (⟨1,a1,v1.1.Prog⟩:g9)).bind λv4=>
 (a0h (⟨v3.1,a0.Roots,a0.a8,a0.T,v4.1⟩:b6) a1).bind λv5=>
 some v5
def V1(a0:b6)(a1:List Int):Option (List Int):=
 jn (λ(j18:List Int)=>
  some j18) (λκ17=>
  (lp (S:=Int × (List (Int × Bool)) × (List Int)) (E:=(List Int)) (λ((s20,s21,s22):Int × (List (Int × Bool)) × (List Int))=>
   if (decide (s20<(a1.length:Int))) then
    jn (λ((j29,j30):(List Int) × (List (Int × Bool)))=>
     some (.inl (u6 (s20+1),j30,j29))) (λκ28=>
     (ix a1 s20).bind λv32=>
     (x6 a0.S v32).bind λv33=>
     if ((v33.2==0)==true) then
      if (!((B4 s21 v32).getD (false:Bool))) then
       (app 8 s22 [v32]).bind λv34=>
       κ28 (v34,(r7 s21 v32 true))
      else
      κ28 (s22,s21)
     else
     κ28 (s22,s21))
   else
   some (.inr s22)) (0,[],[])).bind λe19=>
  κ17 e19)
def Q9(a0:List Int)(a1:Int):Option Int:=
 jn (λ(_:Unit)=>
  some (-1)) (λκ5=>
  (lp (S:=Int) (E:=Int ⊕ Unit) (λ(s8:Int)=>
   if (decide (s8<(a0.length:Int))) then
    (ix a0 s8).bind λv10=>
    if (a1==v10) then
     some (.inr (.inl s8))
    else
    some (.inl (u6 (s8+1)))
   else
   some (.inr (.inr ()))) 0).bind λe7=>
  match e7 with
  | .inl w=>some w
  | .inr w=>κ5 w)
def E6(a0:List Int)(a1:Int):Option Bool:=
 (Q9 a0 a1).bind λv1=>
 some (decide (v1≥0))
def a0J(a0:c9)(a1:List Int):Option Bool:=
 (p9 ((a0.Intact&&(a0.Target != 0))==true) false (E6 a1 a0.Target)).bind λv1=>
 some ((a0.Intact&&(a0.Target != 0))&&v1)
def I9(a0:List c9)(a1:List Int):Option (List Int):=
 jn (λ(j15:List Int)=>
  some j15) (λκ14=>
  (lp (S:=Int × (List Int)) (E:=(List Int)) (λ((s17,s18):Int × (List Int))=>
   if (decide (s17<(a0.length:Int))) then
    jn (λ(j25:List Int)=>
     some (.inl (u6 (s17+1),j25))) (λκ24=>
     (ix a0 s17).bind λv26=>
     (a0J v26 a1).bind λv27=>
     if v27 then
      (app 8 s18 [s17]).bind λv28=>
      κ24 v28
     else
     κ24 s18)
   else
   some (.inr s18)) (0,[])).bind λe16=>
  κ14 e16)
def a4E(a0:List c9)(a1:List Int):Option ((List c9) × (List Int)):=
 (I9 a0 a1).bind λv1=>
 (a0q a0).bind λv2=>
 jn (λ((j22,j23):(List Int) × (List c9))=>
  some (j23,j22)) (λκ21=>
  (lp (S:=Int × (List c9) × (List Int)) (E:=((List Int) × (List c9))) (λ((s26,s27,s28):Int × (List c9) × (List Int))=>
   if (decide (s26<(v1.length:Int))) then
    jn (λ((j36,j37):(List Int) × (List c9))=>
     some (.inl (u6 (s26+1),j37,j36))) (λκ35=>
     (ix v1 s26).bind λv39=>
     (ix s27 v39).bind λv40=>
     (ix (s27.set (v39).toNat (⟨v40.Target,false,v40.Call⟩:c9)) v39).bind λv41=>
     if (decide (v41.Call≥0)) then
      (app 8 s28 [v39]).bind λv42=>
      κ35 (v42,(s27.set (v39).toNat (⟨v40.Target,false,v40.Call⟩:c9)))
     else
     κ35 (s28,(s27.set (v39).toNat (⟨v40.Target,false,v40.Call⟩:c9))))
   else
   some (.inr (s28,s27))) (0,v2,[])).bind λe25=>
  κ21 e25)
def a19(a0:b6)(a1:List Int):Option b6:=
 (a4E a0.a8 a1).bind λv1=>
 jn (λ(j11:c8)=>
  some (⟨a0.S,a0.Roots,v1.1,a0.T,j11⟩:b6)) (λκ10=>
  (lp (S:=Int × c8) (E:=c8) (λ((s13,s14):Int × c8)=>
   if (decide (s13<(v1.2.length:Int))) then
    (ix v1.2 s13).bind λv17=>
    (ix v1.1 v17).bind λv18=>
    (a8J s14 (⟨2,v17,v18.Call⟩:g9)).bind λv19=>
    some (.inl (u6 (s13+1),v19.1))
   else
   some (.inr s14)) (0,a0.Q)).bind λe12=>
  κ10 e12)
def a9m(a0:List Int):Option (List Int):=
 some a0
def a38(a0:List Int):Option (List Int):=
 jn (λ(j10:List Int)=>
  some j10) (λκ9=>
  (a9m a0).bind λv11=>
  (lp (S:=Int × (List Int)) (E:=(List Int)) (λ((s13,s14):Int × (List Int))=>
   if (decide (s13<(v11.length:Int))) then
    (ix v11 s13).bind λv17=>
    if ((v17 != 0)==true) then
     (app 8 s14 [v17]).bind λv18=>
     some (.inl (u6 (s13+1),v18))
    else
    some (.inl (u6 (s13+1),s14))
   else
   some (.inr s14)) (0,[])).bind λe12=>
  κ9 e12)
def O3(a0:List b9)(a1:List Int):Option ((List b9) × (List Int)):=
 jn (λ((j18,j19):(List b9) × (List Int))=>
  some (j18,j19)) (λκ17=>
  (lp (S:=(List b9) × Int × (List Int)) (E:=((List b9) × (List Int))) (λ((s22,s23,s24):(List b9) × Int × (List Int))=>
   if (decide (s23<(a1.length:Int))) then
    jn (λ((j31,j32):(List b9) × (List Int))=>
     some (.inl (j31,u6 (s23+1),j32))) (λκ30=>
     (ix a1 s23).bind λv34=>
     (X9 s22 v34).bind λv35=>
     if (v35.2.2==0) then
      (app 8 s24 [v35.2.1]).bind λv36=>
      κ30 (v35.1,v36)
     else
     κ30 (s22,s24))
   else
   some (.inr (s22,s24))) (a0,0,[])).bind λe21=>
  κ17 e21)
def T4(a0:c7)(a1:Int):Option (c7 × Int):=
 (D6 a0 a1).bind λv1=>
 if (v1.2 != 0) then
  some (a0,v1.2)
 else
 (a26 a1).bind λv2=>
 (a4j a1).bind λv3=>
 (C6 a0 v2 (⟨2,v3,v1.1⟩:b7)).bind λv4=>
 some (v4,0)
def Y3(a0:b6)(a1:Int):Option b6:=
 (x6 a0.S a1).bind λv1=>
 (J8 a0.S a1 (⟨v1.1.Serial,0,v1.1.Weak,v1.1.Prog,v1.1.Started,[]⟩:m7)).bind λv2=>
 (T4 v2.1.S a1).bind λv3=>
 if (v1.1.Weak==0) then
  (N3 v3.1 a1).bind λv4=>
  some (⟨⟨v4.1,v2.1.Serial⟩,a0.Roots,a0.a8,a0.T,a0.Q⟩:b6)
 else
 some (⟨⟨v3.1,v2.1.Serial⟩,a0.Roots,a0.a8,a0.T,a0.Q⟩:b6)
def a0m(a0:b6)(a1:List Int):Option b6:=
 (V1 a0 a1).bind λv1=>
 (a19 a0 v1).bind λv2=>
 jn (λ(j13:List Int)=>
  (O3 v2.T v1).bind λv14=>
  (app 8 j13 v14.2).bind λv15=>
  jn (λ(j24:b6)=>
   jn (λ(j33:b6)=>
    some j33) (λκ32=>
    (lp (S:=Int × b6) (E:=b6) (λ((s35,s36):Int × b6)=>
     if (decide (s35<(v15.length:Int))) then
      (ix v15 s35).bind λv39=>
      (C4 s36 v39).bind λv40=>
      some (.inl (u6 (s35+1),v40))
     else
     some (.inr s36)) (0,j24)).bind λe34=>
    κ32 e34)) (λκ23=>
   (lp (S:=Int × b6) (E:=b6) (λ((s42,s43):Int × b6)=>
    if (decide (s42<(v1.length:Int))) then
     (ix v1 s42).bind λv46=>
     (Y3 s43 v46).bind λv47=>
     some (.inl (u6 (s42+1),v47))
    else
    some (.inr s43)) (0,(⟨v2.S,v2.Roots,v2.a8,v14.1,v2.Q⟩:b6))).bind λe41=>
   κ23 e41)) (λκ12=>
  (lp (S:=Int × (List Int)) (E:=(List Int)) (λ((s49,s50):Int × (List Int))=>
   if (decide (s49<(v1.length:Int))) then
    (ix v1 s49).bind λv53=>
    (x6 v2.S v53).bind λv54=>
    (a38 v54.1.Fields).bind λv55=>
    (app 8 s50 v55).bind λv56=>
    some (.inl (u6 (s49+1),v56))
   else
   some (.inr s50)) (0,[])).bind λe48=>
  κ12 e48)
def O4(a0:b6):Option b6:=
 (lp (S:=b6) (E:=b6) (λ(s2:b6)=>
  (a1C s2).bind λv4=>
  if ((v4.length:Int)==0) then
   some (.inr s2)
  else
  (ix v4 0).bind λv5=>
  (x6 s2.S v5).bind λv6=>
  (L8 v6.1).bind λv7=>
  if v7 then
   (S0 s2 v5).bind λv8=>
   some (.inl v8)
  else
  (cut v4 0 1).bind λv9=>
  (a0m s2 v9).bind λv10=>
  some (.inl v10)) a0).bind λe1=>
 some e1
def a0i(a0:b6)(a1:Int):Option Int:=
 (x6 a0.S a1).bind λv1=>
 some v1.1.Serial
def a1j(a0:b6)(a1:Int):Option Int:=
 (L0 a0 a1).bind λv1=>
 (a0i a0 v1).bind λv2=>
 some v2
def U6(a0:b6)(a1:b6)(a2:g6):Option Int:=
 if (a2.Kind==5) then
  (a1j a0 a2.C).bind λv1=>
  some v1
 else
 jn (λ(j3:Bool)=>
  if j3 then
   (a1j a0 a2.B).bind λv4=>
   some v4
  else
  if (a2.Kind==10) then
   (L0 a0 a2.A).bind λv5=>
   (L0 a0 a2.B).bind λv6=>
   if (v5==v6) then
    some 1
   else
   some 0
  else
  (a1j a1 a2.A).bind λv7=>
  some v7) (λκ2=>
  if (a2.Kind==6) then
   κ2 (a2.Kind==6)
  else
  κ2 (a2.Kind==8))
def u7(a0:b6)(a1:g6):Option (b6 × Int × Int):=
 (R4 a1).bind λv1=>
 if (v1 != 0) then
  some (a0,0,v1)
 else
 (a2U).bind λv2=>
 if (!((B4 v2 a1.Kind).isSome)) then
  some (a0,0,14)
 else
 (b3y ((B4 v2 a1.Kind).getD (none:Fv)) (⟨a0,a1⟩:r8)).bind λv3=>
 if (v3.2 != 0) then
  some (a0,0,v3.2)
 else
 (O4 v3.1).bind λv5=>
 (U6 v3.1 v5 a1).bind λv6=>
 some (v5,v6,0)
def a65(a0:a7):Option a7:=
 some a0
def a54(a0:a7)(a1:Int):Option (List Int):=
 (x6 a0 a1).bind λv1=>
 (a38 v1.1.Fields).bind λv2=>
 some v2
def b3O(a0:a7)(a1:Int):Option Int:=
 jn (λ(j31:Int)=>
  some j31) (λκ30=>
  (a65 a0).bind λv32=>
  (D8 v32).bind λv33=>
  (lp (S:=Int × Int) (E:=Int) (λ((s35,s36):Int × Int)=>
   if (decide (s35<(v33.length:Int))) then
    jn (λ(j50:Int)=>
     some (.inl (u6 (s35+1),j50))) (λκ49=>
     (ix v33 s35).bind λv51=>
     (a54 v32 v51).bind λv52=>
     (lp (S:=Int × Int) (E:=Int) (λ((s54,s55):Int × Int)=>
      if (decide (s54<(v52.length:Int))) then
       (ix v52 s54).bind λv58=>
       jn (λ(j60:Int)=>
        some (.inl (u6 (s54+1),j60))) (λκ59=>
        if (v58==a1) then
         κ59 (u6 (s55+1))
        else
        κ59 s55)
      else
      some (.inr s55)) (0,s36)).bind λe53=>
     κ49 e53)
   else
   some (.inr s36)) (0,0)).bind λe34=>
  κ30 e34)
def a1r(a0:List b9):Option (List b9):=
 some a0
def a5I(a0:List b9):Option (List Int):=
 jn (λ(j13:List Int)=>
  some j13) (λκ12=>
  (lp (S:=Int × (List Int)) (E:=(List Int)) (λ((s15,s16):Int × (List Int))=>
   if (decide (s15<(a0.length:Int))) then
    jn (λ(j22:List Int)=>
     some (.inl (u6 (s15+1),j22))) (λκ21=>
     (ix a0 s15).bind λv23=>
     if (v23.State==1) then
      (app 8 s16 [v23.Key]).bind λv24=>
      κ21 v24
     else
     κ21 s16)
   else
   some (.inr s16)) (0,[])).bind λe14=>
  κ12 e14)
def a2R(a0:n0)(a1:Int):Option Bool:=
 some ((a1 != 0)&&(a0.Val==a1))
def A6(a0:List b9)(a1:Int):Option (List n0):=
 jn (λ(j16:List n0)=>
  some j16) (λκ15=>
  (a5I a0).bind λv17=>
  (lp (S:=Int × (List n0)) (E:=(List n0)) (λ((s19,s20):Int × (List n0))=>
   if (decide (s19<(v17.length:Int))) then
    (ix v17 s19).bind λv23=>
    (L6 a0 v23).bind λv24=>
    jn (λ(j28:List n0)=>
     some (.inl (u6 (s19+1),j28))) (λκ27=>
     (a2R (⟨v23,v24.1⟩:n0) a1).bind λv29=>
     if v29 then
      (app 16 s20 [(⟨v23,v24.1⟩:n0)]).bind λv30=>
      κ27 v30
     else
     κ27 s20)
   else
   some (.inr s20)) (0,[])).bind λe18=>
  κ15 e18)
def a4U(a0:List b9)(a1:Int):Option Int:=
 (a1r a0).bind λv1=>
 (A6 v1 a1).bind λv2=>
 some (v2.length:Int)
def a5f(a0:a7)(a1:List b9)(a2:Int):Option Int:=
 (b3O a0 a2).bind λv1=>
 (a4U a1 a2).bind λv2=>
 some (u6 (v1+v2))
def a7j(a0:a7)(a1:List b9)(a2:Int):Option Int:=
 (x6 a0 a2).bind λv1=>
 if (v1.2 != 0) then
  some 0
 else
 (a5f a0 a1 a2).bind λv2=>
 some (u6 (v1.1.Strong-v2))
def a7U(a0:Int):Option Bool:=
 (F5 a0).bind λv1=>
 some v1
def a7i(a0:Int)(a1:m7)(a2:a7)(a3:List b9):Option Bool:=
 (a7j a2 a3 a0).bind λv1=>
 (p9 ((decide (v1 > 0))==false) false (a7U a1.Strong)).bind λv2=>
 some ((decide (v1 > 0))||v2)
def a7h(a0:a7)(a1:List b9):Option (List Int):=
 jn (λ(j36:List Int)=>
  some j36) (λκ35=>
  jn (λ(j54:List Int)=>
   κ35 j54) (λκ53=>
   (D8 a0).bind λv55=>
   (lp (S:=Int × (List Int)) (E:=(List Int)) (λ((s57,s58):Int × (List Int))=>
    if (decide (s57<(v55.length:Int))) then
     jn (λ(j66:List Int)=>
      some (.inl (u6 (s57+1),j66))) (λκ65=>
      (ix v55 s57).bind λv67=>
      (x6 a0 v67).bind λv68=>
      (a7i v67 v68.1 a0 a1).bind λv69=>
      if v69 then
       (app 8 s58 [v67]).bind λv70=>
       κ65 v70
      else
      κ65 s58)
    else
    some (.inr s58)) (0,[])).bind λe56=>
   κ53 e56))
def a2W(a0:Int):Option k8:=
 some (⟨[],a0⟩:k8)
def a0D(a0:a7)(a1:Int):Option Bool:=
 (x6 a0 a1).bind λv1=>
 some (v1.2==0)
def L1(a0:k8):Option Int:=
 some (a0.L.length:Int)
def P2(a0:List Int)(a1:Int)(a2:Int):Option (List Int):=
 (cut a0 a1 a2).bind λv1=>
 some v1
def P1(a0:k8)(a1:Int):Option (k8 × Int):=
 (L1 a0).bind λv1=>
 if (decide (v1≥a0.Cap)) then
  some (a0,4)
 else
 (P2 a0.L 0 v1).bind λv2=>
 (app 8 v2 [a1]).bind λv3=>
 some ((⟨v3,a0.Cap⟩:k8),0)
def a3x(a0:k8)(a1:Int):Option (k8 × (List Int)):=
 (L1 a0).bind λv1=>
 (P2 a0.L 0 (if (if v1<a1 then v1 else a1) > 0 then (if v1<a1 then v1 else a1) else 0)).bind λv2=>
 (P2 a0.L (if (if v1<a1 then v1 else a1) > 0 then (if v1<a1 then v1 else a1) else 0) v1).bind λv3=>
 some ((⟨v3,a0.Cap⟩:k8),v2)
def a02(a0:k8):Option (k8 × Int × Int):=
 (a3x a0 1).bind λv1=>
 if ((v1.2.length:Int)==0) then
  some (a0,0,10)
 else
 (ix v1.2 0).bind λv2=>
 some (v1.1,v2,0)
def a16(a0:a7)(a1:List Int):Option (List (Int × Bool)):=
 (D8 a0).bind λv1=>
 (a2W (v1.length:Int)).bind λv2=>
 jn (λ((j20,j21):k8 × (List (Int × Bool)))=>
  jn (λ(j68:List (Int × Bool))=>
   some j68) (λκ67=>
   (lp (S:=k8 × (List (Int × Bool))) (E:=(List (Int × Bool))) (λ((s70,s71):k8 × (List (Int × Bool)))=>
    (L1 s70).bind λv74=>
    if (decide (v74 > 0)) then
     (a02 s70).bind λv75=>
     (a54 a0 v75.2.1).bind λv76=>
     jn (λ((j94,j95):k8 × (List (Int × Bool)))=>
      some (.inl (j94,j95))) (λκ93=>
      (lp (S:=Int × k8 × (List (Int × Bool))) (E:=(k8 × (List (Int × Bool)))) (λ((s98,s99,s100):Int × k8 × (List (Int × Bool)))=>
       if (decide (s98<(v76.length:Int))) then
        jn (λ((j107,j108):k8 × (List (Int × Bool)))=>
         some (.inl (u6 (s98+1),j107,j108))) (λκ106=>
         (ix v76 s98).bind λv110=>
         (a0D a0 v110).bind λv111=>
         if (v111==true) then
          if (!((B4 s100 v110).getD (false:Bool))) then
           (P1 s99 v110).bind λv112=>
           κ106 (v112.1,(r7 s100 v110 true))
          else
          κ106 (s99,s100)
         else
         κ106 (s99,s100))
       else
       some (.inr (s99,s100))) (0,v75.1,s71)).bind λe97=>
      κ93 e97)
    else
    some (.inr s71)) (j20,j21)).bind λe69=>
   κ67 e69)) (λκ19=>
  (lp (S:=Int × k8 × (List (Int × Bool))) (E:=(k8 × (List (Int × Bool)))) (λ((s114,s115,s116):Int × k8 × (List (Int × Bool)))=>
   if (decide (s114<(a1.length:Int))) then
    jn (λ((j123,j124):k8 × (List (Int × Bool)))=>
     some (.inl (u6 (s114+1),j123,j124))) (λκ122=>
     (ix a1 s114).bind λv126=>
     (a0D a0 v126).bind λv127=>
     if (v127==true) then
      if (!((B4 s116 v126).getD (false:Bool))) then
       (P1 s115 v126).bind λv128=>
       κ122 (v128.1,(r7 s116 v126 true))
      else
      κ122 (s115,s116)
     else
     κ122 (s115,s116))
   else
   some (.inr (s115,s116))) (0,v2,[])).bind λe113=>
  κ19 e113)
def a3R(a0:Int)(a1:List (Int × Bool)):Option Bool:=
 some ((B4 a1 a0).getD (false:Bool))
def R8(a0:a7)(a1:List (Int × Bool)):Option (List Int):=
 jn (λ(j16:List Int)=>
  some j16) (λκ15=>
  (D8 a0).bind λv17=>
  (lp (S:=Int × (List Int)) (E:=(List Int)) (λ((s19,s20):Int × (List Int))=>
   if (decide (s19<(v17.length:Int))) then
    jn (λ(j27:List Int)=>
     some (.inl (u6 (s19+1),j27))) (λκ26=>
     (ix v17 s19).bind λv28=>
     (a3R v28 a1).bind λv29=>
     if v29 then
      (app 8 s20 [v28]).bind λv30=>
      κ26 v30
     else
     κ26 s20)
   else
   some (.inr s20)) (0,[])).bind λe18=>
  κ15 e18)
def a4t(a0:a7)(a1:List Int):Option (List Int):=
 (a16 a0 a1).bind λv1=>
 (R8 a0 v1).bind λv2=>
 some v2
def a2S(a0:n0):Option Bool:=
 some true
def A7(a0:List b9):Option (List n0):=
 jn (λ(j16:List n0)=>
  some j16) (λκ15=>
  (a5I a0).bind λv17=>
  (lp (S:=Int × (List n0)) (E:=(List n0)) (λ((s19,s20):Int × (List n0))=>
   if (decide (s19<(v17.length:Int))) then
    (ix v17 s19).bind λv23=>
    (L6 a0 v23).bind λv24=>
    jn (λ(j28:List n0)=>
     some (.inl (u6 (s19+1),j28))) (λκ27=>
     (a2S (⟨v23,v24.1⟩:n0)).bind λv29=>
     if v29 then
      (app 16 s20 [(⟨v23,v24.1⟩:n0)]).bind λv30=>
      κ27 v30
     else
     κ27 s20)
   else
   some (.inr s20)) (0,[])).bind λe18=>
  κ15 e18)
def a4V(a0:List b9):Option (List n0):=
 (a1r a0).bind λv1=>
 (A7 v1).bind λv2=>
 some v2
def a4h(a0:Int)(a1:a7):Option Bool:=
 (x6 a1 a0).bind λv1=>
 some (v1.2==0)
def b0J(a0:a7)(a1:List b9)(a2:List Int):Option (List Int):=
 jn (λ(j20:List Int)=>
  some j20) (λκ19=>
  (a4V a1).bind λv21=>
  (lp (S:=Int × (List Int)) (E:=(List Int)) (λ((s23,s24):Int × (List Int))=>
   if (decide (s23<(v21.length:Int))) then
    jn (λ(j33:List Int)=>
     some (.inl (u6 (s23+1),j33))) (λκ32=>
     (ix v21 s23).bind λv34=>
     (E6 a2 v34.Key).bind λv35=>
     (p9 (v35==true) false (a4h v34.Key a0)).bind λv36=>
     (p9 ((v35&&v36)==true) false (a4h v34.Val a0)).bind λv37=>
     if ((v35&&v36)&&v37) then
      (app 8 s24 [v34.Val]).bind λv38=>
      κ32 v38
     else
     κ32 s24)
   else
   some (.inr s24)) (0,[])).bind λe22=>
  κ19 e22)
def a80(a0:a7)(a1:List b9)(a2:List Int):Option ((List Int) × Int):=
 (a4t a0 a2).bind λv1=>
 (lp (S:=(List Int) × Int) (E:=((List Int) × Int)) (λ((s3,s4):(List Int) × Int)=>
  (b0J a0 a1 s3).bind λv7=>
  jn (λ(_:Unit)=>
   some (.inr (s3,s4))) (λκ15=>
   (lp (S:=Int) (E:=((List Int) × Int) ⊕ Unit) (λ(s18:Int)=>
    if (decide (s18<(v7.length:Int))) then
     (ix v7 s18).bind λv20=>
     (E6 s3 v20).bind λv21=>
     if (!v21) then
      (app 8 v7 s3).bind λv22=>
      (a4t a0 v22).bind λv23=>
      some (.inr (.inl (v23,u6 (s4+1))))
     else
     some (.inl (u6 (s18+1)))
    else
    some (.inr (.inr ()))) 0).bind λe17=>
   match e17 with
   | .inl w=>some (.inl w)
   | .inr w=>κ15 w)) (v1,0)).bind λe2=>
 some e2
def b0I(a0:a7)(a1:List b9)(a2:List Int):Option (List Int):=
 (a80 a0 a1 a2).bind λv1=>
 some v1.1
def a3S(a0:Int)(a1:List (Int × Bool)):Option Bool:=
 some (!((B4 a1 a0).getD (false:Bool)))
def R9(a0:a7)(a1:List (Int × Bool)):Option (List Int):=
 jn (λ(j16:List Int)=>
  some j16) (λκ15=>
  (D8 a0).bind λv17=>
  (lp (S:=Int × (List Int)) (E:=(List Int)) (λ((s19,s20):Int × (List Int))=>
   if (decide (s19<(v17.length:Int))) then
    jn (λ(j27:List Int)=>
     some (.inl (u6 (s19+1),j27))) (λκ26=>
     (ix v17 s19).bind λv28=>
     (a3S v28 a1).bind λv29=>
     if v29 then
      (app 8 s20 [v28]).bind λv30=>
      κ26 v30
     else
     κ26 s20)
   else
   some (.inr s20)) (0,[])).bind λe18=>
  κ15 e18)
def a64(a0:a7)(a1:List Int):Option (List Int):=
 (a16 a0 a1).bind λv1=>
 (R9 a0 v1).bind λv2=>
 some v2
def a7Y(a0:a7)(a1:List b9)(a2:List Int):Option (List Int):=
 (b0I a0 a1 a2).bind λv1=>
 (a64 a0 v1).bind λv2=>
 some v2
def a07(a0:a7)(a1:List b9):Option (List Int):=
 (a7h a0 a1).bind λv1=>
 (a7Y a0 a1 v1).bind λv2=>
 some v2
def M7(a0:b6):Option (List Int):=
 (a07 a0.S a0.T).bind λv1=>
 some v1
def a3q(a0:Int)(a1:b6):Option Bool:=
 (x6 a1.S a0).bind λv1=>
 some ((decide (v1.1.Prog≥0))&&(!v1.1.Started))
def G7(a0:List Int)(a1:b6):Option (List Int):=
 jn (λ(j15:List Int)=>
  some j15) (λκ14=>
  (lp (S:=Int × (List Int)) (E:=(List Int)) (λ((s17,s18):Int × (List Int))=>
   if (decide (s17<(a0.length:Int))) then
    jn (λ(j25:List Int)=>
     some (.inl (u6 (s17+1),j25))) (λκ24=>
     (ix a0 s17).bind λv26=>
     (a3q v26 a1).bind λv27=>
     if v27 then
      (app 8 s18 [v26]).bind λv28=>
      κ24 v28
     else
     κ24 s18)
   else
   some (.inr s18)) (0,[])).bind λe16=>
  κ14 e16)
def a2P(a0:b6):Option (List Int):=
 (M7 a0).bind λv1=>
 (G7 v1 a0).bind λv2=>
 some v2
def W7(a0:b6):Option (b6 × Int × Int):=
 (a2P a0).bind λv1=>
 jn (λ(j10:b6)=>
  if (decide ((v1.length:Int) > 0)) then
   some (j10,(v1.length:Int),0)
  else
  (M7 j10).bind λv11=>
  (a0m j10 v11).bind λv12=>
  (O4 v12).bind λv13=>
  (D8 j10.S).bind λv14=>
  (D8 v13.S).bind λv15=>
  some (v13,0,u6 ((v14.length:Int)-(v15.length:Int)))) (λκ9=>
  (lp (S:=Int × b6) (E:=b6) (λ((s17,s18):Int × b6)=>
   if (decide (s17<(v1.length:Int))) then
    (ix v1 s17).bind λv21=>
    (S0 s18 v21).bind λv22=>
    some (.inl (u6 (s17+1),v22))
   else
   some (.inr s18)) (0,a0)).bind λe16=>
  κ9 e16)
def Z2(a0:c8)(a1:Int):Option (c8 × (List g9)):=
 (I3 a0).bind λv1=>
 (E9 a0.L 0 (if (if v1<a1 then v1 else a1) > 0 then (if v1<a1 then v1 else a1) else 0)).bind λv2=>
 (E9 a0.L (if (if v1<a1 then v1 else a1) > 0 then (if v1<a1 then v1 else a1) else 0) v1).bind λv3=>
 some ((⟨v3,a0.Cap⟩:c8),v2)
def a0R(a0:c8):Option (c8 × g9 × Int):=
 (Z2 a0 1).bind λv1=>
 if ((v1.2.length:Int)==0) then
  some (a0,(⟨0,0,0⟩:g9),10)
 else
 (ix v1.2 0).bind λv2=>
 some (v1.1,v2,0)
def a1E(a0:c8):Option (c8 × g9 × Int):=
 (a0R a0).bind λv1=>
 some (v1.1,v1.2.1,v1.2.2)
def a1q(a0:b6):Option Bool:=
 (a1E a0.Q).bind λv1=>
 some (v1.2.2 != 0)
def a4f(a0:List (List g6))(a1:Int):Option (List g6):=
 if ((decide (a1<0))||(decide (a1≥(a0.length:Int)))) then
  some []
 else
 (ix a0 a1).bind λv1=>
 some v1
def a6z(a0:List (List g6))(a1:g9):Option Int:=
 (a4f a0 a1.Prog).bind λv1=>
 some (u6 (1+(v1.length:Int)))
def a29(a0:b6)(a1:List g6):Option (b6 × (List Int)):=
 jn (λ((j11,j12):b6 × (List Int))=>
  some (j11,j12)) (λκ10=>
  (lp (S:=Int × b6 × (List Int)) (E:=(b6 × (List Int))) (λ((s15,s16,s17):Int × b6 × (List Int))=>
   if (decide (s15<(a1.length:Int))) then
    (ix a1 s15).bind λv20=>
    (u7 s16 v20).bind λv21=>
    (app 8 s17 [v21.2.1]).bind λv22=>
    some (.inl (u6 (s15+1),v21.1,v22))
   else
   some (.inr (s16,s17))) (0,a0,[])).bind λe14=>
  κ10 e14)
def a6A(a0:b6)(a1:List (List g6)):Option (b6 × g9 × Int):=
 (a1E a0.Q).bind λv1=>
 if (v1.2.2 != 0) then
  some (a0,(⟨0,0,0⟩:g9),v1.2.2)
 else
 jn (λ(j6:b6)=>
  (a4f a1 v1.2.1.Prog).bind λv7=>
  (a29 j6 v7).bind λv8=>
  if (v1.2.1.Kind==1) then
   (a0x v8.1 5 0).bind λv9=>
   (O4 v9.1).bind λv10=>
   some (v10,v1.2.1,0)
  else
  some (v8.1,v1.2.1,0)) (λκ5=>
  if (v1.2.1.Kind==1) then
   (a0x (⟨a0.S,a0.Roots,a0.a8,a0.T,v1.1⟩:b6) 5 v1.2.1.At).bind λv11=>
   (C4 v11.1 v1.2.1.At).bind λv12=>
   (O4 v12).bind λv13=>
   κ5 v13
  else
  κ5 (⟨a0.S,a0.Roots,a0.a8,a0.T,v1.1⟩:b6))
def a21(a0:b6)(a1:List (List g6))(a2:Int):Option (b6 × Int × Int × Int):=
 jn (λ((j14,j15,j16):Int × Int × b6)=>
  (a1q j16).bind λv18=>
  if (!v18) then
   some (j16,j14,j15,12)
  else
  some (j16,j14,j15,0)) (λκ13=>
  (lp (S:=Int × b6 × Int × Int × b6) (E:=(Int × Int × b6)) (λ((s20,s21,s22,s23,s24):Int × b6 × Int × Int × b6)=>
   (a1q s21).bind λv27=>
   if (!v27) then
    (a1E s21.Q).bind λv28=>
    (a6z a1 v28.2.1).bind λv29=>
    if (decide (v29 > s20)) then
     some (.inr (s22,s23,s24))
    else
    (a6A s21 a1).bind λv30=>
    some (.inl (u6 (s20-v29),v30.1,u6 (s22+1),u6 (s20-v29),v30.1))
   else
   some (.inr (s22,s23,s24))) (a2,a0,0,a2,a0)).bind λe19=>
  κ13 e19)
def a0u(a0:n7)(a1:List Int):Option (n7 × k9):=
 (V6 a1).bind λv1=>
 if (v1.2 != 0) then
  some (a0,(⟨0,v1.2⟩:k9))
 else
 (a6B v1.1).bind λv2=>
 if (decide (v2.t=132)) then
  (u7 a0.X (⟨(ifG v2 132 0),(ifG v2 132 1),(ifG v2 132 2),(ifG v2 132 3)⟩:g6)).bind λv3=>
  some ((⟨v3.1,a0.Progs⟩:n7),(⟨v3.2.1,v3.2.2⟩:k9))
 else
 if (decide (v2.t=136)) then
  (W7 a0.X).bind λv4=>
  some ((⟨v4.1,a0.Progs⟩:n7),(⟨u6 (v4.2.2-v4.2.1),0⟩:k9))
 else
 if (decide (v2.t=140)) then
  (a21 a0.X a0.Progs (ifG v2 140 0)).bind λv5=>
  some ((⟨v5.1,a0.Progs⟩:n7),(⟨v5.2.1,v5.2.2.2⟩:k9))
 else
 some (a0,(⟨0,0⟩:k9))
def W0(a0:n7)(a1:List (List Int)):Option (n7 × (List k9)):=
 jn (λ((j11,j12):n7 × (List k9))=>
  some (j11,j12)) (λκ10=>
  (lp (S:=Int × n7 × (List k9)) (E:=(n7 × (List k9))) (λ((s15,s16,s17):Int × n7 × (List k9))=>
   if (decide (s15<(a1.length:Int))) then
    (ix a1 s15).bind λv20=>
    (a0u s16 v20).bind λv21=>
    (app 16 s17 [v21.2]).bind λv22=>
    some (.inl (u6 (s15+1),v21.1,v22))
   else
   some (.inr (s16,s17))) (0,a0,[])).bind λe14=>
  κ10 e14)
def Q8(a0:c7):Option A4:=
 jn (λ(j9:A4)=>
  some j9) (λκ8=>
  (lp (S:=Int × A4) (E:=A4) (λ((s11,s12):Int × A4)=>
   if (decide (s11<(a0.a8.length:Int))) then
    (ix a0.a8 s11).bind λv15=>
    (A4.ix s12 v15.State).bind λv16=>
    some (.inl (u6 (s11+1),(A4.st s12 v15.State (u6 (v16+1)))))
   else
   some (.inr s12)) (0,(⟨0,0,0,0⟩:A4))).bind λe10=>
  κ8 e10)
def a1P(a0:n7):Option A4:=
 (Q8 a0.X.S.S).bind λv1=>
 some v1
def a2Q(a0:b6):Option Bool:=
 (M7 a0).bind λv1=>
 some ((v1.length:Int)==0)
def a1O(a0:n7):Option Bool:=
 (a1q a0.X).bind λv1=>
 (p9 (v1==true) false (a2Q a0.X)).bind λv2=>
 some (v1&&v2)
def a3N(a0:n7):Option (List Int):=
 jn (λ(j11:List Int)=>
  (a9h j11).bind λv12=>
  some v12) (λκ10=>
  (D8 a0.X.S).bind λv13=>
  (lp (S:=Int × (List Int)) (E:=(List Int)) (λ((s15,s16):Int × (List Int))=>
   if (decide (s15<(v13.length:Int))) then
    (ix v13 s15).bind λv19=>
    (a0i a0.X v19).bind λv20=>
    (app 8 s16 [v20]).bind λv21=>
    some (.inl (u6 (s15+1),v21))
   else
   some (.inr s16)) (0,[])).bind λe14=>
  κ10 e14)
def V3:Option Bool:=
 (J2 4 5 8 []).bind λv1=>
 (W0 v1.1 [[1,0,1,(-1)],[5,0,0,0],[3,0,0,0],[11,0,0,0],[11,0,0,0],[12,9,0,0],[2,0],[4,0,1,0]]).bind λv2=>
 (J2 4 5 8 [[(⟨11,0,0,0⟩:g6)]]).bind λv3=>
 (J2 4 5 0 []).bind λv4=>
 (p9 (((((v1.2==0)&&(v3.2==13))&&(v4.2==1))&&((v2.2.length:Int)==8))==true) (⟨0,0⟩:k9) (ix v2.2 0)).bind λv5=>
 (p9 ((((((v1.2==0)&&(v3.2==13))&&(v4.2==1))&&((v2.2.length:Int)==8))&&(v5.V==1))==true) (⟨0,0⟩:k9) (ix v2.2 1)).bind λv6=>
 (p9 (((((((v1.2==0)&&(v3.2==13))&&(v4.2==1))&&((v2.2.length:Int)==8))&&(v5.V==1))&&(v6.V==1))==true) (⟨0,0⟩:k9) (ix v2.2 2)).bind λv7=>
 (p9 ((((((((v1.2==0)&&(v3.2==13))&&(v4.2==1))&&((v2.2.length:Int)==8))&&(v5.V==1))&&(v6.V==1))&&(v7.V==0))==true) (⟨0,0⟩:k9) (ix v2.2 3)).bind λv8=>
 (p9 (((((((((v1.2==0)&&(v3.2==13))&&(v4.2==1))&&((v2.2.length:Int)==8))&&(v5.V==1))&&(v6.V==1))&&(v7.V==0))&&(v8.V==1))==true) (⟨0,0⟩:k9) (ix v2.2 4)).bind λv9=>
 (p9 ((((((((((v1.2==0)&&(v3.2==13))&&(v4.2==1))&&((v2.2.length:Int)==8))&&(v5.V==1))&&(v6.V==1))&&(v7.V==0))&&(v8.V==1))&&(v9.V==0))==true) (⟨0,0⟩:k9) (ix v2.2 5)).bind λv10=>
 (p9 (((((((((((v1.2==0)&&(v3.2==13))&&(v4.2==1))&&((v2.2.length:Int)==8))&&(v5.V==1))&&(v6.V==1))&&(v7.V==0))&&(v8.V==1))&&(v9.V==0))&&((v10.V==0)&&((v10.E==0)&&true)))==true) (⟨0,0⟩:k9) (ix v2.2 6)).bind λv11=>
 (p9 ((((((((((((v1.2==0)&&(v3.2==13))&&(v4.2==1))&&((v2.2.length:Int)==8))&&(v5.V==1))&&(v6.V==1))&&(v7.V==0))&&(v8.V==1))&&(v9.V==0))&&((v10.V==0)&&((v10.E==0)&&true)))&&(v11.E==14))==true) (⟨0,0⟩:k9) (ix v2.2 7)).bind λv12=>
 (p9 (((((((((((((v1.2==0)&&(v3.2==13))&&(v4.2==1))&&((v2.2.length:Int)==8))&&(v5.V==1))&&(v6.V==1))&&(v7.V==0))&&(v8.V==1))&&(v9.V==0))&&((v10.V==0)&&((v10.E==0)&&true)))&&(v11.E==14))&&(v12.E==2))==true) ⟨0,0,0,0⟩ (a1P v2.1)).bind λv13=>
 (p9 ((((((((((((((v1.2==0)&&(v3.2==13))&&(v4.2==1))&&((v2.2.length:Int)==8))&&(v5.V==1))&&(v6.V==1))&&(v7.V==0))&&(v8.V==1))&&(v9.V==0))&&((v10.V==0)&&((v10.E==0)&&true)))&&(v11.E==14))&&(v12.E==2))&&((v13.a==4)&&((v13.b==0)&&((v13.c==0)&&((v13.d==0)&&true)))))==true) false (a1O v2.1)).bind λv14=>
 (p9 (((((((((((((((v1.2==0)&&(v3.2==13))&&(v4.2==1))&&((v2.2.length:Int)==8))&&(v5.V==1))&&(v6.V==1))&&(v7.V==0))&&(v8.V==1))&&(v9.V==0))&&((v10.V==0)&&((v10.E==0)&&true)))&&(v11.E==14))&&(v12.E==2))&&((v13.a==4)&&((v13.b==0)&&((v13.c==0)&&((v13.d==0)&&true)))))&&v14)==true) [] (a3N v2.1)).bind λv15=>
 some (((((((((((((((v1.2==0)&&(v3.2==13))&&(v4.2==1))&&((v2.2.length:Int)==8))&&(v5.V==1))&&(v6.V==1))&&(v7.V==0))&&(v8.V==1))&&(v9.V==0))&&((v10.V==0)&&((v10.E==0)&&true)))&&(v11.E==14))&&(v12.E==2))&&((v13.a==4)&&((v13.b==0)&&((v13.c==0)&&((v13.d==0)&&true)))))&&v14)&&((v15.length:Int)==0))
def a9p(a0:List (List g6)):Option (List (List r9)):=
 jn (λ(j47:List (List r9))=>
  some j47) (λκ46=>
  (lp (S:=Int × (List (List r9))) (E:=(List (List r9))) (λ((s49,s50):Int × (List (List r9)))=>
   if (decide (s49<(a0.length:Int))) then
    jn (λ(j73:List (List r9))=>
     some (.inl (u6 (s49+1),j73))) (λκ72=>
     jn (λ(j83:List r9)=>
      (app 24 s50 [j83]).bind λv84=>
      κ72 v84) (λκ82=>
      (lp (S:=Int × (List r9)) (E:=(List r9)) (λ((s86,s87):Int × (List r9))=>
       (ix a0 s49).bind λv90=>
       if (decide (s86<(v90.length:Int))) then
        (ix v90 s86).bind λv91=>
        (app 32 s87 [(⟨v91.Kind,v91.A,v91.B,v91.C⟩:r9)]).bind λv92=>
        some (.inl (u6 (s86+1),v92))
       else
       some (.inr s87)) (0,[])).bind λe85=>
      κ82 e85))
   else
   some (.inr s50)) (0,[])).bind λe48=>
  κ46 e48)
def Q3(a0:r9):Option Bool:=
 some ((decide (a0.Kind≥1))&&(decide (a0.Kind≤10)))
def a0S(a0:Int)(a1:Int)(a2:Int)(a3:Int):Option Int:=
 if ((decide (a0<a1))||(decide (a0 > a2))) then
  some a3
 else
 some 0
def Y1(a0:Int)(a1:Int)(a2:Int):Option Int:=
 if (a0 != 0) then
  some a0
 else
 if (a1 != 0) then
  some a1
 else
 some a2
def a0C(a0:r9):Option Int:=
 (a0S a0.A 0 5 6).bind λv1=>
 (a0S a0.B 0 5 6).bind λv2=>
 if (a0.Kind==1) then
  (a0S a0.B 0 4 1).bind λv3=>
  (a0S a0.C (-1) 5 13).bind λv4=>
  (Y1 v1 v3 v4).bind λv5=>
  some v5
 else
 jn (λ(j7:Bool)=>
  if j7 then
   (Y1 v1 v2 0).bind λv8=>
   some v8
  else
  if (a0.Kind==3) then
   some v1
  else
  if (a0.Kind==4) then
   (a0S a0.C 0 3 5).bind λv9=>
   (Y1 v1 v2 v9).bind λv10=>
   some v10
  else
  if (a0.Kind==5) then
   (a0S a0.B 0 3 5).bind λv11=>
   (a0S a0.C (-1) 5 6).bind λv12=>
   (Y1 v1 v11 v12).bind λv13=>
   some v13
  else
  if (a0.Kind==6) then
   (a0S a0.A 0 5 7).bind λv14=>
   (a0S a0.B (-1) 5 6).bind λv15=>
   (a0S a0.C (-1) 5 13).bind λv16=>
   (Y1 v14 v15 v16).bind λv17=>
   some v17
  else
  if (a0.Kind==7) then
   (a0S a0.B 0 5 7).bind λv18=>
   (Y1 v1 v18 0).bind λv19=>
   some v19
  else
  if (a0.Kind==8) then
   (a0S a0.B (-1) 5 6).bind λv20=>
   (Y1 v1 v20 0).bind λv21=>
   some v21
  else
  if (a0.Kind==11) then
   some 0
  else
  if (a0.Kind==12) then
   (a0S a0.A 0 200 12).bind λv22=>
   some v22
  else
  some 14) (λκ6=>
  if (a0.Kind==2) then
   κ6 (a0.Kind==2)
  else
  if (a0.Kind==9) then
   κ6 (a0.Kind==9)
  else
  κ6 (a0.Kind==10))
def a51(a0:List (List r9)):Option Bool:=
 if (decide ((a0.length:Int) > 6)) then
  some false
 else
 jn (λ(_:Unit)=>
  some true) (λκ20=>
  (lp (S:=Int) (E:=Bool ⊕ Unit) (λ(s23:Int)=>
   if (decide (s23<(a0.length:Int))) then
    jn (λ(_:Unit)=>
     some (.inl (u6 (s23+1)))) (λκ32=>
     (ix a0 s23).bind λv34=>
     if (decide ((v34.length:Int) > 6)) then
      some (.inr (.inl false))
     else
     (lp (S:=Int) (E:=Bool ⊕ Unit) (λ(s36:Int)=>
      if (decide (s36<(v34.length:Int))) then
       (ix v34 s36).bind λv38=>
       (Q3 v38).bind λv39=>
       (p9 ((!v39)==false) 0 (a0C v38)).bind λv40=>
       if ((!v39)||(v40 != 0)) then
        some (.inr (.inl false))
       else
       some (.inl (u6 (s36+1)))
      else
      some (.inr (.inr ()))) 0).bind λe35=>
     match e35 with
     | .inl w=>some (.inr (.inl w))
     | .inr w=>κ32 w)
   else
   some (.inr (.inr ()))) 0).bind λe22=>
  match e22 with
  | .inl w=>some w
  | .inr w=>κ20 w)
def b72(a0:Int)(a1:Int):Option C1:=
 if ((((decide (a0<0))||(decide (a0 > 24)))||(decide (a1<0)))||(decide (a1 > 9))) then
  some (⟨[],0⟩:C1)
 else
 (mk 24 a0 (⟨0,0,0⟩:A9)).bind λv1=>
 some (⟨v1,a1⟩:C1)
def b3K(a0:Int)(a1:Int):Option l7:=
 (b72 a0 a1).bind λv1=>
 (mk 80 (v1.a8.length:Int) (⟨0,0,⟨0,0,0,0,false,[]⟩⟩:o0)).bind λv2=>
 some (⟨v2,v1.Last,0⟩:l7)
def c3C(a0:Int):Option (List o6):=
 jn (λ(j8:List o6)=>
  some j8) (λκ7=>
  (lp (S:=Int × (List o6)) (E:=(List o6)) (λ((s10,s11):Int × (List o6))=>
   if ((decide (s10<a0))&&(decide (a0≤6))) then
    (app 24 s11 [(⟨0,false,(-1)⟩:o6)]).bind λv14=>
    some (.inl (u6 (s10+1),v14))
   else
   some (.inr s11)) (0,[])).bind λe9=>
  κ7 e9)
def b8a(a0:Int):Option (List l5):=
 if ((decide (a0<1))||(decide (a0 > 8))) then
  some []
 else
 (mk 24 a0 (⟨0,0,0⟩:l5)).bind λv1=>
 some v1
def b8e:Option w9:=
 some (⟨[],30⟩:w9)
def a89(a0:Int)(a1:Int)(a2:Int):Option g7:=
 if ((((((decide (a0<1))||(decide (a0 > 24)))||(decide (a1<0)))||(decide (a1 > 9)))||(decide (a2<1)))||(decide (a2 > 8))) then
  some (⟨⟨[],0,0⟩,[],[],[],⟨[],0⟩⟩:g7)
 else
 (b3K a0 a1).bind λv1=>
 (mk 8 6 (0:Int)).bind λv2=>
 (c3C 6).bind λv3=>
 (b8a a2).bind λv4=>
 (b8e).bind λv5=>
 some (⟨v1,v2,v3,v4,v5⟩:g7)
def b1u(a0:Int)(a1:Int)(a2:Int)(a3:List (List r9)):Option (A2 × Int):=
 (a51 a3).bind λv1=>
 if (!v1) then
  some ((⟨⟨⟨[],0,0⟩,[],[],[],⟨[],0⟩⟩,[]⟩:A2),13)
 else
 (a89 a0 a1 a2).bind λv2=>
 if ((v2.Roots.length:Int)==0) then
  some ((⟨⟨⟨[],0,0⟩,[],[],[],⟨[],0⟩⟩,[]⟩:A2),1)
 else
 some ((⟨v2,a3⟩:A2),0)
def a9q(a0:a7):Option Bool:=
 jn (λ(_:Unit)=>
  some (decide ((a0.S.a8.length:Int)≤30))) (λκ5=>
  (lp (S:=Int) (E:=Bool ⊕ Unit) (λ(s8:Int)=>
   if ((decide (s8<(a0.S.a8.length:Int)))&&(decide (s8<30))) then
    (ix a0.S.a8 s8).bind λv10=>
    if (decide ((v10.Val.Fields.length:Int) > 10)) then
     some (.inr (.inl false))
    else
    some (.inl (u6 (s8+1)))
   else
   some (.inr (.inr ()))) 0).bind λe7=>
  match e7 with
  | .inl w=>some w
  | .inr w=>κ5 w)
def a7l(a0:b6):Option Bool:=
 (a9q a0.S).bind λv1=>
 some ((((v1&&(decide ((a0.Roots.length:Int)≤20)))&&(decide ((a0.a8.length:Int)≤20)))&&(decide ((a0.T.length:Int)≤20)))&&(decide ((a0.Q.L.length:Int)≤60)))
def b3W(a0:m7):Option C5:=
 some (⟨a0.Serial,a0.Strong,a0.Weak,a0.Prog,a0.Started,a0.Fields⟩:C5)
def b3V(a0:a7):Option l7:=
 jn (λ(j10:List o0)=>
  some (⟨j10,a0.S.Last,a0.Serial⟩:l7)) (λκ9=>
  (lp (S:=Int × (List o0)) (E:=(List o0)) (λ((s12,s13):Int × (List o0))=>
   if (decide (s12<(a0.S.a8.length:Int))) then
    (ix a0.S.a8 s12).bind λv16=>
    (b3W v16.Val).bind λv17=>
    (app 80 s13 [(⟨v16.State,v16.Gen,v17⟩:o0)]).bind λv18=>
    some (.inl (u6 (s12+1),v18))
   else
   some (.inr s13)) (0,[])).bind λe11=>
  κ9 e11)
def a9o(a0:List c9):Option (List o6):=
 jn (λ(j9:List o6)=>
  some j9) (λκ8=>
  (lp (S:=Int × (List o6)) (E:=(List o6)) (λ((s11,s12):Int × (List o6))=>
   if (decide (s11<(a0.length:Int))) then
    (ix a0 s11).bind λv15=>
    (app 24 s12 [(⟨v15.Target,v15.Intact,v15.Call⟩:o6)]).bind λv16=>
    some (.inl (u6 (s11+1),v16))
   else
   some (.inr s12)) (0,[])).bind λe10=>
  κ8 e10)
def b3X(a0:List b9):Option (List l5):=
 jn (λ(j9:List l5)=>
  some j9) (λκ8=>
  (lp (S:=Int × (List l5)) (E:=(List l5)) (λ((s11,s12):Int × (List l5))=>
   if (decide (s11<(a0.length:Int))) then
    (ix a0 s11).bind λv15=>
    (app 24 s12 [(⟨v15.State,v15.Key,v15.Val⟩:l5)]).bind λv16=>
    some (.inl (u6 (s11+1),v16))
   else
   some (.inr s12)) (0,[])).bind λe10=>
  κ8 e10)
def a9r(a0:c8):Option w9:=
 jn (λ(j9:List s7)=>
  some (⟨j9,a0.Cap⟩:w9)) (λκ8=>
  (lp (S:=Int × (List s7)) (E:=(List s7)) (λ((s11,s12):Int × (List s7))=>
   if (decide (s11<(a0.L.length:Int))) then
    (ix a0.L s11).bind λv15=>
    (app 24 s12 [(⟨v15.Kind,v15.At,v15.Prog⟩:s7)]).bind λv16=>
    some (.inl (u6 (s11+1),v16))
   else
   some (.inr s12)) (0,[])).bind λe10=>
  κ8 e10)
def a3m(a0:b6):Option g7:=
 (b3V a0.S).bind λv1=>
 (a9o a0.a8).bind λv2=>
 (b3X a0.T).bind λv3=>
 (a9r a0.Q).bind λv4=>
 some (⟨v1,a0.Roots,v2,v3,v4⟩:g7)
def a15(a0:List Int)(a1:List Int):Option Bool:=
 if ((a0.length:Int) != (a1.length:Int)) then
  some false
 else
 jn (λ(_:Unit)=>
  some true) (λκ6=>
  (lp (S:=Int) (E:=Bool ⊕ Unit) (λ(s9:Int)=>
   if (decide (s9<(a0.length:Int))) then
    (ix a0 s9).bind λv11=>
    (ix a1 s9).bind λv12=>
    if (v11 != v12) then
     some (.inr (.inl false))
    else
    some (.inl (u6 (s9+1)))
   else
   some (.inr (.inr ()))) 0).bind λe8=>
  match e8 with
  | .inl w=>some w
  | .inr w=>κ6 w)
def a5U(a0:C5)(a1:C5):Option Bool:=
 (p9 ((((((a0.Serial==a1.Serial)&&(a0.Strong==a1.Strong))&&(a0.Weak==a1.Weak))&&(a0.Prog==a1.Prog))&&(a0.Started==a1.Started))==true) false (a15 a0.Fields a1.Fields)).bind λv1=>
 some ((((((a0.Serial==a1.Serial)&&(a0.Strong==a1.Strong))&&(a0.Weak==a1.Weak))&&(a0.Prog==a1.Prog))&&(a0.Started==a1.Started))&&v1)
def b1i(a0:l7)(a1:l7):Option Bool:=
 if (((a0.Last != a1.Last)||(a0.Serial != a1.Serial))||((a0.a8.length:Int) != (a1.a8.length:Int))) then
  some false
 else
 jn (λ(_:Unit)=>
  some true) (λκ7=>
  (lp (S:=Int) (E:=Bool ⊕ Unit) (λ(s10:Int)=>
   if (decide (s10<(a0.a8.length:Int))) then
    (ix a0.a8 s10).bind λv12=>
    (ix a1.a8 s10).bind λv13=>
    (p9 (((v12.State != v13.State)||(v12.Gen != v13.Gen))==false) false (a5U v12.Val v13.Val)).bind λv14=>
    if (((v12.State != v13.State)||(v12.Gen != v13.Gen))||(!v14)) then
     some (.inr (.inl false))
    else
    some (.inl (u6 (s10+1)))
   else
   some (.inr (.inr ()))) 0).bind λe9=>
  match e9 with
  | .inl w=>some w
  | .inr w=>κ7 w)
def b1m(a0:List o6)(a1:List o6):Option Bool:=
 if ((a0.length:Int) != (a1.length:Int)) then
  some false
 else
 jn (λ(_:Unit)=>
  some true) (λκ6=>
  (lp (S:=Int) (E:=Bool ⊕ Unit) (λ(s9:Int)=>
   if (decide (s9<(a0.length:Int))) then
    (ix a0 s9).bind λv11=>
    (ix a1 s9).bind λv12=>
    if (!((v11.Target==v12.Target)&&((v11.Intact==v12.Intact)&&((v11.Call==v12.Call)&&true)))) then
     some (.inr (.inl false))
    else
    some (.inl (u6 (s9+1)))
   else
   some (.inr (.inr ()))) 0).bind λe8=>
  match e8 with
  | .inl w=>some w
  | .inr w=>κ6 w)
def b1o(a0:List l5)(a1:List l5):Option Bool:=
 if ((a0.length:Int) != (a1.length:Int)) then
  some false
 else
 jn (λ(_:Unit)=>
  some true) (λκ6=>
  (lp (S:=Int) (E:=Bool ⊕ Unit) (λ(s9:Int)=>
   if (decide (s9<(a0.length:Int))) then
    (ix a0 s9).bind λv11=>
    (ix a1 s9).bind λv12=>
    if (!((v11.State==v12.State)&&((v11.Key==v12.Key)&&((v11.Val==v12.Val)&&true)))) then
     some (.inr (.inl false))
    else
    some (.inl (u6 (s9+1)))
   else
   some (.inr (.inr ()))) 0).bind λe8=>
  match e8 with
  | .inl w=>some w
  | .inr w=>κ6 w)
def b1r(a0:w9)(a1:w9):Option Bool:=
 if ((a0.Cap != a1.Cap)||((a0.L.length:Int) != (a1.L.length:Int))) then
  some false
 else
 jn (λ(_:Unit)=>
  some true) (λκ6=>
  (lp (S:=Int) (E:=Bool ⊕ Unit) (λ(s9:Int)=>
   if (decide (s9<(a0.L.length:Int))) then
    (ix a0.L s9).bind λv11=>
    (ix a1.L s9).bind λv12=>
    if (!((v11.Kind==v12.Kind)&&((v11.At==v12.At)&&((v11.Prog==v12.Prog)&&true)))) then
     some (.inr (.inl false))
    else
    some (.inl (u6 (s9+1)))
   else
   some (.inr (.inr ()))) 0).bind λe8=>
  match e8 with
  | .inl w=>some w
  | .inr w=>κ6 w)
def a8p(a0:g7)(a1:g7):Option Bool:=
 (b1i a0.S a1.S).bind λv1=>
 (p9 (v1==true) false (a15 a0.Roots a1.Roots)).bind λv2=>
 (p9 ((v1&&v2)==true) false (b1m a0.a8 a1.a8)).bind λv3=>
 (p9 (((v1&&v2)&&v3)==true) false (b1o a0.T a1.T)).bind λv4=>
 (p9 ((((v1&&v2)&&v3)&&v4)==true) false (b1r a0.Q a1.Q)).bind λv5=>
 some ((((v1&&v2)&&v3)&&v4)&&v5)
def a5x(a0:Int)(a1:Int)(a2:Int)(a3:List (List g6)):Option Bool:=
 (a4D a3).bind λv1=>
 (p9 ((!v1)==false) false V3).bind λv2=>
 if ((!v1)||(!v2)) then
  (V3).bind λv3=>
  some v3
 else
 (J2 a0 a1 a2 a3).bind λv4=>
 (a9p a3).bind λv5=>
 (b1u a0 a1 a2 v5).bind λv6=>
 (a7l v4.1.X).bind λv7=>
 (p9 ((v7&&(v4.2==v6.2))==true) ⟨⟨[],0,0⟩,[],[],[],⟨[],0⟩⟩ (a3m v4.1.X)).bind λv8=>
 (p9 ((v7&&(v4.2==v6.2))==true) false (a8p v8 v6.1.X)).bind λv9=>
 some (((v7&&(v4.2==v6.2))&&v9)&&((v4.1.Progs.length:Int)==(v6.1.Progs.length:Int)))
def a0H(a0:List (List Int))(a1:Int):Option Bool:=
 jn (λ(_:Unit)=>
  some (decide ((a0.length:Int)≤a1))) (λκ5=>
  (lp (S:=Int) (E:=Bool ⊕ Unit) (λ(s8:Int)=>
   if ((decide (s8<(a0.length:Int)))&&(decide (s8<200))) then
    (ix a0 s8).bind λv10=>
    if (decide ((v10.length:Int) > 10)) then
     some (.inr (.inl false))
    else
    some (.inl (u6 (s8+1)))
   else
   some (.inr (.inr ()))) 0).bind λe7=>
  match e7 with
  | .inl w=>some w
  | .inr w=>κ5 w)
def a3f(a0:Int)(a1:Int):Option Int:=
 if ((((decide (a0<0))||(decide (a0 > 23)))||(decide (a1<0)))||(decide (a1 > 9))) then
  some 0
 else
 some (u6 ((u6 (1+a0))+(u6 (32*a1))))
def J6(a0:l7):Option C1:=
 jn (λ(j9:List A9)=>
  some (⟨j9,a0.Last⟩:C1)) (λκ8=>
  (lp (S:=Int × (List A9)) (E:=(List A9)) (λ((s11,s12):Int × (List A9))=>
   if (decide (s11<(a0.a8.length:Int))) then
    (ix a0.a8 s11).bind λv15=>
    (app 24 s12 [(⟨v15.State,v15.Gen,s11⟩:A9)]).bind λv16=>
    some (.inl (u6 (s11+1),v16))
   else
   some (.inr s12)) (0,[])).bind λe10=>
  κ8 e10)
def a5T(a0:Int):Option Bool:=
 if ((decide (a0<1))||(decide (a0 > 400))) then
  some false
 else
 (rem (u6 (a0-1)) 32).bind λv1=>
 (quo .i64 (u6 (a0-1)) 32).bind λv2=>
 (a3f v1 v2).bind λv3=>
 some (v3==a0)
def a5S(a0:Int):Option Int:=
 (a5T a0).bind λv1=>
 if (!v1) then
  some (-1)
 else
 (rem (u6 (a0-1)) 32).bind λv2=>
 some v2
def b3H(a0:Int):Option Int:=
 (a5T a0).bind λv1=>
 if (!v1) then
  some (-1)
 else
 (quo .i64 (u6 (a0-1)) 32).bind λv2=>
 some v2
def N2(a0:C1)(a1:Int):Option (Int × Int):=
 if (a1==0) then
  some ((-1),2)
 else
 (a5S a1).bind λv1=>
 if ((decide (v1<0))||(decide (v1≥(a0.a8.length:Int)))) then
  some ((-1),3)
 else
 (ix a0.a8 v1).bind λv2=>
 (b3H a1).bind λv3=>
 if ((v2.Gen != v3)||((v2.State != 1)&&(v2.State != 2))) then
  some ((-1),3)
 else
 some (v1,0)
def a4q(a0:l7)(a1:List Int):Option (List Int):=
 (app 8 [] a1).bind λv1=>
 jn (λ(j36:List Int)=>
  some j36) (λκ35=>
  (lp (S:=Int × (List Int)) (E:=(List Int)) (λ((s38,s39):Int × (List Int))=>
   if (decide (s38<(s39.length:Int))) then
    jn (λ(j56:List Int)=>
     some (.inl (u6 (s38+1),j56))) (λκ55=>
     (lp (S:=Int × (List Int)) (E:=(List Int)) (λ((s58,s59):Int × (List Int))=>
      if (decide (s58 > 0)) then
       (J6 a0).bind λv62=>
       (ix s59 (u6 (s58-1))).bind λv63=>
       (N2 v62 v63).bind λv64=>
       (ix s59 s58).bind λv65=>
       (N2 v62 v65).bind λv66=>
       (p9 (((decide (v64.1<0))||(decide (v66.1<0)))==false) (⟨0,0,⟨0,0,0,0,false,[]⟩⟩:o0) (ix a0.a8 v64.1)).bind λv67=>
       (p9 (((decide (v64.1<0))||(decide (v66.1<0)))==false) (⟨0,0,⟨0,0,0,0,false,[]⟩⟩:o0) (ix a0.a8 v66.1)).bind λv68=>
       if (((decide (v64.1<0))||(decide (v66.1<0)))||(decide (v67.Val.Serial≤v68.Val.Serial))) then
        some (.inr s59)
       else
       (ix (s59.set (s58).toNat v63) (u6 (s58-1))).bind λv69=>
       some (.inl (u6 (s58-1),((s59.set (s58).toNat v63).set (u6 (s58-1)).toNat v65)))
      else
      some (.inr s59)) (s38,s39)).bind λe57=>
     κ55 e57)
   else
   some (.inr s39)) (1,v1)).bind λe37=>
  κ35 e37)
def P3(a0:l7):Option (List Int):=
 jn (λ(j15:List Int)=>
  (a4q a0 j15).bind λv16=>
  some v16) (λκ14=>
  (lp (S:=Int × (List Int)) (E:=(List Int)) (λ((s18,s19):Int × (List Int))=>
   if (decide (s18<(a0.a8.length:Int))) then
    jn (λ(j26:List Int)=>
     some (.inl (u6 (s18+1),j26))) (λκ25=>
     (ix a0.a8 s18).bind λv27=>
     if (v27.State==1) then
      (a3f s18 v27.Gen).bind λv28=>
      (app 8 s19 [v28]).bind λv29=>
      κ25 v29
     else
     κ25 s19)
   else
   some (.inr s19)) (0,[])).bind λe17=>
  κ14 e17)
def b1g(a0:C1)(a1:Int):Option (Int × Int):=
 (N2 a0 a1).bind λv1=>
 if (v1.2 != 0) then
  some (0,v1.2)
 else
 (ix a0.a8 v1.1).bind λv2=>
 if (v2.State==2) then
  some (0,3)
 else
 some (v2.Val,0)
def E5(a0:l7)(a1:Int):Option (C5 × Int):=
 (J6 a0).bind λv1=>
 (b1g v1 a1).bind λv2=>
 if (v2.2 != 0) then
  some ((⟨0,0,0,0,false,[]⟩:C5),v2.2)
 else
 (ix a0.a8 v2.1).bind λv3=>
 some (v3.Val,0)
def V0(a0:Int):Option Bool:=
 some (decide (a0≥12))
def a1x(a0:List Int)(a1:Int):Option Int:=
 jn (λ(j11:Int)=>
  some j11) (λκ10=>
  (lp (S:=Int × Int) (E:=Int) (λ((s13,s14):Int × Int)=>
   if (decide (s14<(a0.length:Int))) then
    jn (λ(j19:Int)=>
     some (.inl (j19,u6 (s14+1)))) (λκ18=>
     (ix a0 s14).bind λv20=>
     if ((v20==a1)&&(a1 != 0)) then
      κ18 (u6 (s13+1))
     else
     κ18 s13)
   else
   some (.inr s13)) (0,0)).bind λe12=>
  κ10 e12)
def a60(a0:List Int)(a1:Int):Option Bool:=
 (a1x a0 a1).bind λv1=>
 some (decide (v1 > 0))
def a5W(a0:List Int)(a1:List Int)(a2:Bool):Option (List Int):=
 jn (λ(j15:List Int)=>
  some j15) (λκ14=>
  (lp (S:=Int × (List Int)) (E:=(List Int)) (λ((s17,s18):Int × (List Int))=>
   if (decide (s17<(a0.length:Int))) then
    jn (λ(j25:List Int)=>
     some (.inl (u6 (s17+1),j25))) (λκ24=>
     (ix a0 s17).bind λv26=>
     (a60 a1 v26).bind λv27=>
     if (v27==a2) then
      (app 8 s18 [v26]).bind λv28=>
      κ24 v28
     else
     κ24 s18)
   else
   some (.inr s18)) (0,[])).bind λe16=>
  κ14 e16)
def a2C(a0:List Int):Option (List Int):=
 jn (λ(j13:List Int)=>
  some j13) (λκ12=>
  (lp (S:=Int × (List Int)) (E:=(List Int)) (λ((s15,s16):Int × (List Int))=>
   if (decide (s15<(a0.length:Int))) then
    jn (λ(j22:List Int)=>
     some (.inl (u6 (s15+1),j22))) (λκ21=>
     (ix a0 s15).bind λv23=>
     if (v23 != 0) then
      (app 8 s16 [v23]).bind λv24=>
      κ21 v24
     else
     κ21 s16)
   else
   some (.inr s16)) (0,[])).bind λe14=>
  κ12 e14)
def b1j(a0:l7)(a1:Int):Option (List Int):=
 (E5 a0 a1).bind λv1=>
 if (v1.2 != 0) then
  some []
 else
 (a2C v1.1.Fields).bind λv2=>
 some v2
def a5V(a0:l7)(a1:List Int):Option (List Int):=
 (P3 a0).bind λv1=>
 (a5W v1 a1 true).bind λv2=>
 jn (λ(j51:List Int)=>
  some j51) (λκ50=>
  (lp (S:=(List Int) × Int) (E:=(List Int)) (λ((s53,s54):(List Int) × Int)=>
   if (decide (s54<(v1.length:Int))) then
    jn (λ(j78:List Int)=>
     some (.inl (j78,u6 (s54+1)))) (λκ77=>
     (app 8 [] s53).bind λv79=>
     jn (λ(j89:List Int)=>
      (a5W v1 j89 true).bind λv90=>
      κ77 v90) (λκ88=>
      (lp (S:=Int × (List Int)) (E:=(List Int)) (λ((s92,s93):Int × (List Int))=>
       if (decide (s92<(s53.length:Int))) then
        (ix s53 s92).bind λv96=>
        (b1j a0 v96).bind λv97=>
        (app 8 s93 v97).bind λv98=>
        some (.inl (u6 (s92+1),v98))
       else
       some (.inr s93)) (0,v79)).bind λe91=>
      κ88 e91))
   else
   some (.inr s53)) (v2,0)).bind λe52=>
  κ50 e52)
def b1n(a0:List l5):Option (List Int):=
 jn (λ(j13:List Int)=>
  some j13) (λκ12=>
  (lp (S:=Int × (List Int)) (E:=(List Int)) (λ((s15,s16):Int × (List Int))=>
   if (decide (s15<(a0.length:Int))) then
    jn (λ(j22:List Int)=>
     some (.inl (u6 (s15+1),j22))) (λκ21=>
     (ix a0 s15).bind λv23=>
     if (v23.State==1) then
      (app 8 s16 [v23.Key]).bind λv24=>
      κ21 v24
     else
     κ21 s16)
   else
   some (.inr s16)) (0,[])).bind λe14=>
  κ12 e14)
def a04(a0:List l5)(a1:Int):Option Int:=
 jn (λ(_:Unit)=>
  some (-1)) (λκ5=>
  (lp (S:=Int) (E:=Int ⊕ Unit) (λ(s8:Int)=>
   if (decide (s8<(a0.length:Int))) then
    (ix a0 s8).bind λv10=>
    if ((v10.State==1)&&(v10.Key==a1)) then
     some (.inr (.inl s8))
    else
    some (.inl (u6 (s8+1)))
   else
   some (.inr (.inr ()))) 0).bind λe7=>
  match e7 with
  | .inl w=>some w
  | .inr w=>κ5 w)
def a87(a0:List l5)(a1:Int):Option (Int × Int):=
 (a04 a0 a1).bind λv1=>
 if (decide (v1<0)) then
  some (0,9)
 else
 (ix a0 v1).bind λv2=>
 some (v2.Val,0)
def a35(a0:List l5):Option (List B9):=
 (b1n a0).bind λv1=>
 jn (λ(j11:List B9)=>
  some j11) (λκ10=>
  (lp (S:=Int × (List B9)) (E:=(List B9)) (λ((s13,s14):Int × (List B9))=>
   if (decide (s13<(v1.length:Int))) then
    (ix v1 s13).bind λv17=>
    (a87 a0 v17).bind λv18=>
    (app 16 s14 [(⟨v17,v18.1⟩:B9)]).bind λv19=>
    some (.inl (u6 (s13+1),v19))
   else
   some (.inr s14)) (0,[])).bind λe12=>
  κ10 e12)
def a5X(a0:l7)(a1:Int):Option Bool:=
 (E5 a0 a1).bind λv1=>
 some (v1.2==0)
def a8m(a0:l7)(a1:List l5)(a2:List Int):Option (List Int):=
 (a35 a1).bind λv1=>
 jn (λ(j20:List Int)=>
  some j20) (λκ19=>
  (lp (S:=Int × (List Int)) (E:=(List Int)) (λ((s22,s23):Int × (List Int))=>
   if (decide (s22<(v1.length:Int))) then
    jn (λ(j32:List Int)=>
     some (.inl (u6 (s22+1),j32))) (λκ31=>
     (ix v1 s22).bind λv33=>
     (a5X a0 v33.Key).bind λv34=>
     (p9 (v34==true) false (a60 a2 v33.Key)).bind λv35=>
     (p9 ((v34&&v35)==true) false (a5X a0 v33.Val)).bind λv36=>
     if ((v34&&v35)&&v36) then
      (app 8 s23 [v33.Val]).bind λv37=>
      κ31 v37
     else
     κ31 s23)
   else
   some (.inr s23)) (0,[])).bind λe21=>
  κ19 e21)
def a61(a0:l7)(a1:List l5)(a2:List Int):Option ((List Int) × Int):=
 (a5V a0 a2).bind λv1=>
 jn (λ(j13:List Int)=>
  some (j13,30)) (λκ12=>
  (lp (S:=(List Int) × Int) (E:=((List Int) × Int) ⊕ (List Int)) (λ((s15,s16):(List Int) × Int)=>
   if (decide (s16<30)) then
    (app 8 [] s15).bind λv19=>
    (a8m a0 a1 s15).bind λv20=>
    (app 8 v19 v20).bind λv21=>
    (a5V a0 v21).bind λv22=>
    (a15 v22 s15).bind λv23=>
    if v23 then
     some (.inr (.inl (s15,s16)))
    else
    some (.inl (v22,u6 (s16+1)))
   else
   some (.inr (.inr s15))) (v1,0)).bind λe14=>
  match e14 with
  | .inl w=>some w
  | .inr w=>κ12 w)
def a8l(a0:l7)(a1:List l5)(a2:List Int):Option (List Int):=
 (a61 a0 a1 a2).bind λv1=>
 some v1.1
def a3B(a0:Int)(a1:Int)(a2:List (List g6))(a3:List (List Int)):Option Bool:=
 (a4D a2).bind λv1=>
 (p9 ((!v1)==false) false (a0H a3 60)).bind λv2=>
 (p9 (((!v1)||(!v2))==false) false V3).bind λv3=>
 if (((!v1)||(!v2))||(!v3)) then
  (V3).bind λv4=>
  some v4
 else
 (rem (u6 a0) 24).bind λv5=>
 (rem (u6 a1) 10).bind λv6=>
 (J2 (u6 (1+v5)) v6 8 a2).bind λv7=>
 if (v7.2 != 0) then
  some (v7.2==13)
 else
 (W0 v7.1 a3).bind λv8=>
 (a0u v8.1 [11,0,0,0]).bind λv9=>
 (a0u v9.1 [12,0,0,0]).bind λv10=>
 (p9 (((decide (v9.2.V<0))||(v10.2.E != 0))==false) false (a7l v10.1.X)).bind λv11=>
 if (((decide (v9.2.V<0))||(v10.2.E != 0))||(!v11)) then
  some ((decide (v9.2.V<0))||(v10.2.E==12))
 else
 (a3m v10.1.X).bind λv12=>
 (app 8 [] v12.Roots).bind λv13=>
 (P3 v12.S).bind λv14=>
 jn (λ(j31:List Int)=>
  jn (λ(j42:Int)=>
   (a8l v12.S v12.T j31).bind λv43=>
   (a15 v43 v14).bind λv44=>
   (p9 (v44==true) false (a1O v10.1)).bind λv45=>
   (p9 ((v44&&v45)==true) ⟨0,0,0,0⟩ (a1P v10.1)).bind λv46=>
   some ((v44&&v45)&&(v46.c==j42))) (λκ41=>
   (lp (S:=Int × Int) (E:=Bool ⊕ Int) (λ((s48,s49):Int × Int)=>
    if (decide (s49<(v12.S.a8.length:Int))) then
     jn (λ(j54:Int)=>
      some (.inl (j54,u6 (s49+1)))) (λκ53=>
      (ix v12.S.a8 s49).bind λv55=>
      if (v55.State != 2) then
       κ53 s48
      else
      if (decide (v55.Val.Weak<1)) then
       some (.inr (.inl false))
      else
      κ53 (u6 (s48+1)))
    else
    some (.inr (.inr s48))) (0,0)).bind λe47=>
   match e47 with
   | .inl w=>some w
   | .inr w=>κ41 w)) (λκ30=>
  (lp (S:=Int × (List Int)) (E:=(List Int)) (λ((s57,s58):Int × (List Int))=>
   if (decide (s57<(v14.length:Int))) then
    jn (λ(j66:List Int)=>
     some (.inl (u6 (s57+1),j66))) (λκ65=>
     (ix v14 s57).bind λv67=>
     (E5 v12.S v67).bind λv68=>
     (V0 v68.1.Strong).bind λv69=>
     if v69 then
      (app 8 s58 [v67]).bind λv70=>
      κ65 v70
     else
     κ65 s58)
   else
   some (.inr s58)) (0,v13)).bind λe56=>
  κ30 e56)
def a0j(a0:List Int):Option (r9 × Int):=
 if ((a0.length:Int) != 4) then
  some ((⟨0,0,0,0⟩:r9),14)
 else
 (ix a0 0).bind λv1=>
 (ix a0 1).bind λv2=>
 (ix a0 2).bind λv3=>
 (ix a0 3).bind λv4=>
 (a0C (⟨v1,v2,v3,v4⟩:r9)).bind λv5=>
 if (v5 != 0) then
  some ((⟨0,0,0,0⟩:r9),v5)
 else
 some ((⟨v1,v2,v3,v4⟩:r9),0)
def a3l(a0:List k9):Option (List p8):=
 jn (λ(j9:List p8)=>
  some j9) (λκ8=>
  (lp (S:=Int × (List p8)) (E:=(List p8)) (λ((s11,s12):Int × (List p8))=>
   if (decide (s11<(a0.length:Int))) then
    (ix a0 s11).bind λv15=>
    (app 16 s12 [(⟨v15.V,v15.E⟩:p8)]).bind λv16=>
    some (.inl (u6 (s11+1),v16))
   else
   some (.inr s12)) (0,[])).bind λe10=>
  κ8 e10)
def a5c(a0:List p8)(a1:List p8):Option Bool:=
 if ((a0.length:Int) != (a1.length:Int)) then
  some false
 else
 jn (λ(_:Unit)=>
  some true) (λκ6=>
  (lp (S:=Int) (E:=Bool ⊕ Unit) (λ(s9:Int)=>
   if (decide (s9<(a0.length:Int))) then
    (ix a0 s9).bind λv11=>
    (ix a1 s9).bind λv12=>
    if (!((v11.V==v12.V)&&((v11.E==v12.E)&&true))) then
     some (.inr (.inl false))
    else
    some (.inl (u6 (s9+1)))
   else
   some (.inr (.inr ()))) 0).bind λe8=>
  match e8 with
  | .inl w=>some w
  | .inr w=>κ6 w)
def a3C(a0:Int)(a1:List (List g6))(a2:List (List Int))(a3:List Int)(a4:List (List Int)):Option Bool:=
 (a4D a1).bind λv1=>
 (p9 ((!v1)==false) false (a0H a2 40)).bind λv2=>
 (p9 (((!v1)||(!v2))==false) false (a0H a4 40)).bind λv3=>
 (p9 (((((!v1)||(!v2))||(!v3))||(decide ((a3.length:Int) > 10)))==false) false V3).bind λv4=>
 if (((((!v1)||(!v2))||(!v3))||(decide ((a3.length:Int) > 10)))||(!v4)) then
  (V3).bind λv5=>
  some v5
 else
 (rem (u6 a0) 24).bind λv6=>
 (J2 (u6 (1+v6)) 3 8 a1).bind λv7=>
 (a0j a3).bind λv8=>
 if ((v7.2 != 0)||(v8.2==0)) then
  some ((v7.2==0)||(v7.2==13))
 else
 (W0 v7.1 a2).bind λv9=>
 (a0u v9.1 a3).bind λv10=>
 (W0 v9.1 a4).bind λv11=>
 (W0 v10.1 a4).bind λv12=>
 (p9 (((v10.2.V==0)&&((v10.2.E==v8.2)&&true))==true) [] (a3l v11.2)).bind λv13=>
 (p9 (((v10.2.V==0)&&((v10.2.E==v8.2)&&true))==true) [] (a3l v12.2)).bind λv14=>
 (p9 (((v10.2.V==0)&&((v10.2.E==v8.2)&&true))==true) false (a5c v13 v14)).bind λv15=>
 some (((v10.2.V==0)&&((v10.2.E==v8.2)&&true))&&v15)
def a8r(a0:g7):Option (List Int):=
 (P3 a0.S).bind λv1=>
 jn (λ(j16:List Int)=>
  some j16) (λκ15=>
  (lp (S:=Int × (List Int)) (E:=(List Int)) (λ((s18,s19):Int × (List Int))=>
   if (decide (s18<(v1.length:Int))) then
    jn (λ(j26:List Int)=>
     some (.inl (u6 (s18+1),j26))) (λκ25=>
     (ix v1 s18).bind λv27=>
     (E5 a0.S v27).bind λv28=>
     if (v28.1.Strong==0) then
      (app 8 s19 [v27]).bind λv29=>
      κ25 v29
     else
     κ25 s19)
   else
   some (.inr s19)) (0,[])).bind λe17=>
  κ15 e17)
def c1V(a0:l7)(a1:Int):Option Int:=
 (P3 a0).bind λv1=>
 jn (λ(j11:Int)=>
  some j11) (λκ10=>
  (lp (S:=Int × Int) (E:=Int) (λ((s13,s14):Int × Int)=>
   if (decide (s14<(v1.length:Int))) then
    (ix v1 s14).bind λv17=>
    (b1j a0 v17).bind λv18=>
    (a1x v18 a1).bind λv19=>
    some (.inl (u6 (s13+v19),u6 (s14+1)))
   else
   some (.inr s13)) (0,0)).bind λe12=>
  κ10 e12)
def b2o(a0:List l5)(a1:Int):Option Int:=
 (a35 a0).bind λv1=>
 jn (λ(j12:Int)=>
  some j12) (λκ11=>
  (lp (S:=Int × Int) (E:=Int) (λ((s14,s15):Int × Int)=>
   if (decide (s15<(v1.length:Int))) then
    jn (λ(j20:Int)=>
     some (.inl (j20,u6 (s15+1)))) (λκ19=>
     (ix v1 s15).bind λv21=>
     if ((v21.Val==a1)&&(a1 != 0)) then
      κ19 (u6 (s14+1))
     else
     κ19 s14)
   else
   some (.inr s14)) (0,0)).bind λe13=>
  κ11 e13)
def b2p(a0:l7)(a1:List l5)(a2:Int):Option Int:=
 (c1V a0 a2).bind λv1=>
 (b2o a1 a2).bind λv2=>
 some (u6 (v1+v2))
def b1q(a0:l7)(a1:List l5)(a2:Int):Option Int:=
 (E5 a0 a2).bind λv1=>
 if (v1.2 != 0) then
  some 0
 else
 (b2p a0 a1 a2).bind λv2=>
 some (u6 (v1.1.Strong-v2))
def a88(a0:l7)(a1:Int):Option Bool:=
 (E5 a0 a1).bind λv1=>
 (V0 v1.1.Strong).bind λv2=>
 some v2
def b41(a0:l7)(a1:List l5):Option (List Int):=
 (P3 a0).bind λv1=>
 jn (λ(j18:List Int)=>
  some j18) (λκ17=>
  (lp (S:=Int × (List Int)) (E:=(List Int)) (λ((s20,s21):Int × (List Int))=>
   if (decide (s20<(v1.length:Int))) then
    jn (λ(j29:List Int)=>
     some (.inl (u6 (s20+1),j29))) (λκ28=>
     (ix v1 s20).bind λv30=>
     (b1q a0 a1 v30).bind λv31=>
     (p9 ((decide (v31 > 0))==false) false (a88 a0 v30)).bind λv32=>
     if ((decide (v31 > 0))||v32) then
      (app 8 s21 [v30]).bind λv33=>
      κ28 v33
     else
     κ28 s21)
   else
   some (.inr s21)) (0,[])).bind λe19=>
  κ17 e19)
def b40(a0:l7)(a1:List l5)(a2:List Int):Option (List Int):=
 (a8l a0 a1 a2).bind λv1=>
 (P3 a0).bind λv2=>
 jn (λ(j17:List Int)=>
  some j17) (λκ16=>
  (lp (S:=Int × (List Int)) (E:=(List Int)) (λ((s19,s20):Int × (List Int))=>
   if (decide (s19<(v2.length:Int))) then
    jn (λ(j27:List Int)=>
     some (.inl (u6 (s19+1),j27))) (λκ26=>
     (ix v2 s19).bind λv28=>
     (a60 v1 v28).bind λv29=>
     if (!v29) then
      (app 8 s20 [v28]).bind λv30=>
      κ26 v30
     else
     κ26 s20)
   else
   some (.inr s20)) (0,[])).bind λe18=>
  κ16 e18)
def a8n(a0:l7)(a1:List l5):Option (List Int):=
 (b41 a0 a1).bind λv1=>
 (b40 a0 a1 v1).bind λv2=>
 some v2
def a3j(a0:g7):Option (List Int):=
 (a8n a0.S a0.T).bind λv1=>
 some v1
def a0B(a0:g7)(a1:Int):Option Bool:=
 (E5 a0.S a1).bind λv1=>
 some (v1.2==0)
def a9a(a0:g7)(a1:Int):Option Bool:=
 (E5 a0.S a1).bind λv1=>
 (a0B a0 a1).bind λv2=>
 some ((v2&&(decide (v1.1.Prog≥0)))&&(!v1.1.Started))
def b2r(a0:g7):Option (List Int):=
 (a3j a0).bind λv1=>
 jn (λ(j16:List Int)=>
  some j16) (λκ15=>
  (lp (S:=Int × (List Int)) (E:=(List Int)) (λ((s18,s19):Int × (List Int))=>
   if (decide (s18<(v1.length:Int))) then
    jn (λ(j26:List Int)=>
     some (.inl (u6 (s18+1),j26))) (λκ25=>
     (ix v1 s18).bind λv27=>
     (a9a a0 v27).bind λv28=>
     if v28 then
      (app 8 s19 [v27]).bind λv29=>
      κ25 v29
     else
     κ25 s19)
   else
   some (.inr s19)) (0,[])).bind λe17=>
  κ15 e17)
def a3h(a0:l7)(a1:Int)(a2:C5):Option l7:=
 (app 80 [] a0.a8).bind λv1=>
 (ix v1 a1).bind λv2=>
 some (⟨(v1.set (a1).toNat (⟨v2.State,v2.Gen,a2⟩:o0)),a0.Last,a0.Serial⟩:l7)
def O1(a0:l7)(a1:Int)(a2:C5):Option (l7 × Int):=
 (J6 a0).bind λv1=>
 (N2 v1 a1).bind λv2=>
 if (v2.2 != 0) then
  some (a0,v2.2)
 else
 (a3h a0 v2.1 a2).bind λv3=>
 some (v3,0)
def a62(a0:w9)(a1:s7):Option (w9 × Int):=
 if (decide ((a0.L.length:Int)≥a0.Cap)) then
  some (a0,4)
 else
 (app 24 [] a0.L).bind λv1=>
 (app 24 v1 [a1]).bind λv2=>
 some ((⟨v2,a0.Cap⟩:w9),0)
def b3I(a0:Int):Option Int:=
 (V0 a0).bind λv1=>
 if v1 then
  some 12
 else
 if (decide (a0<0)) then
  some 1
 else
 some (u6 (a0+1))
def a63(a0:g7)(a1:Int)(a2:Int):Option g7:=
 (E5 a0.S a1).bind λv1=>
 if (v1.2 != 0) then
  some a0
 else
 (O1 a0.S a1 (⟨v1.1.Serial,a2,v1.1.Weak,v1.1.Prog,v1.1.Started,v1.1.Fields⟩:C5)).bind λv2=>
 some (⟨v2.1,a0.Roots,a0.a8,a0.T,a0.Q⟩:g7)
def a1m(a0:g7)(a1:Int):Option g7:=
 (E5 a0.S a1).bind λv1=>
 (b3I v1.1.Strong).bind λv2=>
 (a63 a0 a1 v2).bind λv3=>
 some v3
def a4s(a0:g7)(a1:Int):Option g7:=
 (a9a a0 a1).bind λv1=>
 if (!v1) then
  some a0
 else
 (E5 a0.S a1).bind λv2=>
 (O1 a0.S a1 (⟨v2.1.Serial,v2.1.Strong,v2.1.Weak,v2.1.Prog,true,v2.1.Fields⟩:C5)).bind λv3=>
 (a62 a0.Q (⟨1,a1,v2.1.Prog⟩:s7)).bind λv4=>
 (a1m (⟨v3.1,a0.Roots,a0.a8,a0.T,v4.1⟩:g7) a1).bind λv5=>
 some v5
def b1s(a0:g7)(a1:List Int):Option (List Int):=
 jn (λ(j17:List Int)=>
  some j17) (λκ16=>
  (lp (S:=Int × (List Int)) (E:=(List Int)) (λ((s19,s20):Int × (List Int))=>
   if (decide (s19<(a1.length:Int))) then
    jn (λ(j28:List Int)=>
     some (.inl (u6 (s19+1),j28))) (λκ27=>
     (ix a1 s19).bind λv29=>
     (a0B a0 v29).bind λv30=>
     (p9 (v30==true) false (a60 s20 v29)).bind λv31=>
     if (v30&&(!v31)) then
      (app 8 s20 [v29]).bind λv32=>
      κ27 v32
     else
     κ27 s20)
   else
   some (.inr s20)) (0,[])).bind λe18=>
  κ16 e18)
def b2n(a0:List o6)(a1:List Int):Option ((List o6) × (List Int)):=
 jn (λ((j18,j19):(List Int) × (List o6))=>
  some (j19,j18)) (λκ17=>
  (lp (S:=Int × (List o6) × (List Int)) (E:=((List Int) × (List o6))) (λ((s22,s23,s24):Int × (List o6) × (List Int))=>
   if (decide (s22<(a0.length:Int))) then
    (ix a0 s22).bind λv27=>
    jn (λ((j31,j32):Bool × (List Int))=>
     (app 24 s23 [(⟨v27.Target,j31,v27.Call⟩:o6)]).bind λv34=>
     some (.inl (u6 (s22+1),v34,j32))) (λκ30=>
     (p9 (v27.Intact==true) 0 (a1x a1 v27.Target)).bind λv35=>
     if (v27.Intact&&(decide (v35 > 0))) then
      if (decide (v27.Call≥0)) then
       (app 8 s24 [s22]).bind λv36=>
       κ30 (false,v36)
      else
      κ30 (false,s24)
     else
     κ30 (v27.Intact,s24))
   else
   some (.inr (s24,s23))) (0,[],[])).bind λe21=>
  κ17 e21)
def a3i(a0:List l5)(a1:Int)(a2:l5):Option (List l5):=
 (app 24 [] a0).bind λv1=>
 (ix v1 a1).bind λv2=>
 some (v1.set (a1).toNat a2)
def a8k(a0:List l5)(a1:Int):Option ((List l5) × Int × Int):=
 (a04 a0 a1).bind λv1=>
 if (decide (v1<0)) then
  some (a0,0,9)
 else
 (a3i a0 v1 (⟨2,0,0⟩:l5)).bind λv2=>
 (ix a0 v1).bind λv3=>
 some (v2,v3.Val,0)
def a5b(a0:List l5)(a1:List Int):Option ((List l5) × (List Int)):=
 jn (λ((j18,j19):(List l5) × (List Int))=>
  some (j18,j19)) (λκ17=>
  (lp (S:=(List l5) × Int × (List Int)) (E:=((List l5) × (List Int))) (λ((s22,s23,s24):(List l5) × Int × (List Int))=>
   if (decide (s23<(a1.length:Int))) then
    jn (λ((j31,j32):(List l5) × (List Int))=>
     some (.inl (j31,u6 (s23+1),j32))) (λκ30=>
     (ix a1 s23).bind λv34=>
     (a8k s22 v34).bind λv35=>
     if (v35.2.2==0) then
      (app 8 s24 [v35.2.1]).bind λv36=>
      κ30 (v35.1,v36)
     else
     κ30 (s22,s24))
   else
   some (.inr (s22,s24))) (a0,0,[])).bind λe21=>
  κ17 e21)
def a03(a0:C1)(a1:Int)(a2:A9):Option C1:=
 (app 24 [] a0.a8).bind λv1=>
 (ix v1 a1).bind λv2=>
 some (⟨(v1.set (a1).toNat a2),a0.Last⟩:C1)
def b95(a0:C1)(a1:Int):Option (C1 × Int):=
 (b1g a0 a1).bind λv1=>
 if (v1.2 != 0) then
  some (a0,v1.2)
 else
 (N2 a0 a1).bind λv2=>
 (ix a0.a8 v2.1).bind λv3=>
 (a03 a0 v2.1 (⟨2,v3.Gen,v3.Val⟩:A9)).bind λv4=>
 some (v4,0)
def a1l(a0:l7)(a1:C1):Option l7:=
 jn (λ(j10:List o0)=>
  some (⟨j10,a0.Last,a0.Serial⟩:l7)) (λκ9=>
  (lp (S:=Int × (List o0)) (E:=(List o0)) (λ((s12,s13):Int × (List o0))=>
   if (decide (s12<(a0.a8.length:Int))) then
    (ix a1.a8 s12).bind λv16=>
    (ix a0.a8 s12).bind λv17=>
    (app 80 s13 [(⟨v16.State,v16.Gen,v17.Val⟩:o0)]).bind λv18=>
    some (.inl (u6 (s12+1),v18))
   else
   some (.inr s13)) (0,[])).bind λe11=>
  κ9 e11)
def b4X(a0:l7)(a1:Int):Option l7:=
 (J6 a0).bind λv1=>
 (b95 v1 a1).bind λv2=>
 (a1l a0 v2.1).bind λv3=>
 some v3
def b94(a0:C1)(a1:Int):Option (C1 × Int):=
 (N2 a0 a1).bind λv1=>
 if (v1.2 != 0) then
  some (a0,v1.2)
 else
 (ix a0.a8 v1.1).bind λv2=>
 if (decide (v2.Gen≥a0.Last)) then
  (a03 a0 v1.1 (⟨3,v2.Gen,0⟩:A9)).bind λv3=>
  some (v3,0)
 else
 (a03 a0 v1.1 (⟨0,u6 (v2.Gen+1),0⟩:A9)).bind λv4=>
 some (v4,0)
def b1h(a0:l7)(a1:Int):Option l7:=
 (J6 a0).bind λv1=>
 (b94 v1 a1).bind λv2=>
 if (v2.2 != 0) then
  some a0
 else
 (a1l a0 v2.1).bind λv3=>
 (a5S a1).bind λv4=>
 (a3h v3 v4 (⟨0,0,0,0,false,[]⟩:C5)).bind λv5=>
 some v5
def a8s(a0:g7)(a1:Int):Option g7:=
 (E5 a0.S a1).bind λv1=>
 (O1 a0.S a1 (⟨v1.1.Serial,0,v1.1.Weak,v1.1.Prog,v1.1.Started,[]⟩:C5)).bind λv2=>
 (b4X v2.1 a1).bind λv3=>
 if (v1.1.Weak==0) then
  (b1h v3 a1).bind λv4=>
  some (⟨v4,a0.Roots,a0.a8,a0.T,a0.Q⟩:g7)
 else
 some (⟨v3,a0.Roots,a0.a8,a0.T,a0.Q⟩:g7)
def b73(a0:Int):Option (Int × Int):=
 (V0 a0).bind λv1=>
 if v1 then
  some (12,0)
 else
 if (decide (a0<1)) then
  some (0,11)
 else
 some (u6 (a0-1),0)
def F0(a0:g7)(a1:Int):Option g7:=
 (E5 a0.S a1).bind λv1=>
 (b73 v1.1.Strong).bind λv2=>
 if (v2.2 != 0) then
  some a0
 else
 (a63 a0 a1 v2.1).bind λv3=>
 some v3
def a8q(a0:g7)(a1:List Int):Option g7:=
 (b1s a0 a1).bind λv1=>
 (b2n a0.a8 v1).bind λv2=>
 jn (λ(j12:w9)=>
  jn (λ(j23:List Int)=>
   (a5b a0.T v1).bind λv24=>
   (app 8 j23 v24.2).bind λv25=>
   jn (λ(j34:g7)=>
    jn (λ(j43:g7)=>
     some j43) (λκ42=>
     (lp (S:=Int × g7) (E:=g7) (λ((s45,s46):Int × g7)=>
      if (decide (s45<(v25.length:Int))) then
       (ix v25 s45).bind λv49=>
       (F0 s46 v49).bind λv50=>
       some (.inl (u6 (s45+1),v50))
      else
      some (.inr s46)) (0,j34)).bind λe44=>
     κ42 e44)) (λκ33=>
    (lp (S:=Int × g7) (E:=g7) (λ((s52,s53):Int × g7)=>
     if (decide (s52<(v1.length:Int))) then
      (ix v1 s52).bind λv56=>
      (a8s s53 v56).bind λv57=>
      some (.inl (u6 (s52+1),v57))
     else
     some (.inr s53)) (0,(⟨a0.S,a0.Roots,v2.1,v24.1,j12⟩:g7))).bind λe51=>
    κ33 e51)) (λκ22=>
   (lp (S:=Int × (List Int)) (E:=(List Int)) (λ((s59,s60):Int × (List Int))=>
    if (decide (s59<(v1.length:Int))) then
     (ix v1 s59).bind λv63=>
     (E5 a0.S v63).bind λv64=>
     (a2C v64.1.Fields).bind λv65=>
     (app 8 s60 v65).bind λv66=>
     some (.inl (u6 (s59+1),v66))
    else
    some (.inr s60)) (0,[])).bind λe58=>
   κ22 e58)) (λκ11=>
  (lp (S:=Int × w9) (E:=w9) (λ((s68,s69):Int × w9)=>
   if (decide (s68<(v2.2.length:Int))) then
    (ix v2.2 s68).bind λv72=>
    (ix v2.1 v72).bind λv73=>
    (a62 s69 (⟨2,v72,v73.Call⟩:s7)).bind λv74=>
    some (.inl (u6 (s68+1),v74.1))
   else
   some (.inr s69)) (0,a0.Q)).bind λe67=>
  κ11 e67)
def P4(a0:g7):Option g7:=
 jn (λ(j21:g7)=>
  some j21) (λκ20=>
  (lp (S:=Int × g7) (E:=g7 ⊕ g7) (λ((s23,s24):Int × g7)=>
   if (decide (s23<100)) then
    jn (λ(j34:g7)=>
     some (.inl (u6 (s23+1),j34))) (λκ33=>
     (a8r s24).bind λv35=>
     if ((v35.length:Int)==0) then
      some (.inr (.inl s24))
     else
     (ix v35 0).bind λv36=>
     (a9a s24 v36).bind λv37=>
     if v37 then
      (a4s s24 v36).bind λv38=>
      κ33 v38
     else
     (cut v35 0 1).bind λv39=>
     (a8q s24 v39).bind λv40=>
     κ33 v40)
   else
   some (.inr (.inr s24))) (0,a0)).bind λe22=>
  match e22 with
  | .inl w=>some w
  | .inr w=>κ20 w)
def a8t(a0:g7):Option (g7 × Int × Int):=
 (b2r a0).bind λv1=>
 jn (λ(_:Unit)=>
  (a3j a0).bind λv20=>
  (a8q a0 v20).bind λv21=>
  (P4 v21).bind λv22=>
  (P3 a0.S).bind λv23=>
  (P3 v22.S).bind λv24=>
  some (v22,0,u6 ((v23.length:Int)-(v24.length:Int)))) (λκ18=>
  if (decide ((v1.length:Int) > 0)) then
   jn (λ(j33:g7)=>
    some (j33,(v1.length:Int),0)) (λκ32=>
    (lp (S:=Int × g7) (E:=g7) (λ((s35,s36):Int × g7)=>
     if (decide (s35<(v1.length:Int))) then
      (ix v1 s35).bind λv39=>
      (a4s s36 v39).bind λv40=>
      some (.inl (u6 (s35+1),v40))
     else
     some (.inr s36)) (0,a0)).bind λe34=>
    κ32 e34)
  else
  κ18 ())
def a9c(a0:g7):Option Bool:=
 some ((a0.Q.L.length:Int)==0)
def a8v(a0:List (List r9))(a1:Int):Option (List r9):=
 if ((decide (a1<0))||(decide (a1≥(a0.length:Int)))) then
  some []
 else
 (ix a0 a1).bind λv1=>
 some v1
def a8u(a0:List (List r9))(a1:s7):Option Int:=
 (a8v a0 a1.Prog).bind λv1=>
 some (u6 (1+(v1.length:Int)))
def b42(a0:w9):Option (w9 × s7 × Int):=
 if ((a0.L.length:Int)==0) then
  some (a0,(⟨0,0,0⟩:s7),10)
 else
 (cut a0.L 1 (a0.L.length:Int)).bind λv1=>
 (ix a0.L 0).bind λv2=>
 some ((⟨v1,a0.Cap⟩:w9),v2,0)
def a1z(a0:g7)(a1:Int):Option Bool:=
 (p9 ((a1==0)==false) false (a0B a0 a1)).bind λv1=>
 some ((a1==0)||v1)
def X4(a0:g7)(a1:Int)(a2:Int):Option (g7 × Int):=
 if ((decide (a1<0))||(decide (a1 > 5))) then
  some (a0,6)
 else
 (a1z a0 a2).bind λv1=>
 if (!v1) then
  some (a0,3)
 else
 (ix a0.Roots a1).bind λv2=>
 (a1m a0 a2).bind λv3=>
 (app 8 [] a0.Roots).bind λv4=>
 (ix v4 a1).bind λv5=>
 (F0 (⟨v3.S,(v4.set (a1).toNat a2),v3.a8,v3.T,v3.Q⟩:g7) v2).bind λv6=>
 some (v6,0)
def a5Y(a0:w9)(a1:Int):Option Bool:=
 jn (λ(_:Unit)=>
  some false) (λκ5=>
  (lp (S:=Int) (E:=Bool ⊕ Unit) (λ(s8:Int)=>
   if (decide (s8<(a0.L.length:Int))) then
    (ix a0.L s8).bind λv10=>
    if ((v10.Kind==2)&&(v10.At==a1)) then
     some (.inr (.inl true))
    else
    some (.inl (u6 (s8+1)))
   else
   some (.inr (.inr ()))) 0).bind λe7=>
  match e7 with
  | .inl w=>some w
  | .inr w=>κ5 w)
def b79(a0:List o6)(a1:Int)(a2:Int)(a3:Int):Option ((List o6) × Int × Int):=
 if ((decide (a1<0))||(decide (a1≥(a0.length:Int)))) then
  some (a0,0,7)
 else
 (app 24 [] a0).bind λv1=>
 (ix v1 a1).bind λv2=>
 (ix a0 a1).bind λv3=>
 some ((v1.set (a1).toNat (⟨a2,(a2 != 0),a3⟩:o6)),v3.Target,0)
def a1y(a0:g7)(a1:Int):Option g7:=
 (J6 a0.S).bind λv1=>
 (N2 v1 a1).bind λv2=>
 if (v2.2 != 0) then
  some a0
 else
 (ix a0.S.a8 v2.1).bind λv3=>
 (O1 a0.S a1 (⟨v3.Val.Serial,v3.Val.Strong,u6 (v3.Val.Weak-1),v3.Val.Prog,v3.Val.Started,v3.Val.Fields⟩:C5)).bind λv4=>
 (ix v4.1.a8 v2.1).bind λv5=>
 if ((v5.State==2)&&(decide ((u6 (v3.Val.Weak-1))<1))) then
  (b1h v4.1 a1).bind λv6=>
  some (⟨v6,a0.Roots,a0.a8,a0.T,a0.Q⟩:g7)
 else
 some (⟨v4.1,a0.Roots,a0.a8,a0.T,a0.Q⟩:g7)
def a4r(a0:g7)(a1:Int)(a2:Int)(a3:Int):Option (g7 × Int):=
 (p9 (((decide (a1<0))||(decide (a1 > 5)))==false) false (a5Y a0.Q a1)).bind λv1=>
 if (((decide (a1<0))||(decide (a1 > 5)))||v1) then
  some (a0,7)
 else
 (a1z a0 a2).bind λv2=>
 if (!v2) then
  some (a0,3)
 else
 (b79 a0.a8 a1 a2 a3).bind λv3=>
 if (a2 != 0) then
  (E5 a0.S a2).bind λv4=>
  (O1 a0.S a2 (⟨v4.1.Serial,v4.1.Strong,u6 (v4.1.Weak+1),v4.1.Prog,v4.1.Started,v4.1.Fields⟩:C5)).bind λv5=>
  (a1y (⟨v5.1,a0.Roots,v3.1,a0.T,a0.Q⟩:g7) v3.2.1).bind λv6=>
  some (v6,0)
 else
 (a1y (⟨a0.S,a0.Roots,v3.1,a0.T,a0.Q⟩:g7) v3.2.1).bind λv7=>
 some (v7,0)
def Y2(a0:g7)(a1:Int):Option (Int × Int):=
 (ix a0.Roots a1).bind λv1=>
 if (v1==0) then
  some (0,2)
 else
 some (v1,0)
def a52(a0:g7)(a1:Int):Option Int:=
 if (decide (a1<0)) then
  some 0
 else
 (ix a0.Roots a1).bind λv1=>
 some v1
def b4W(a0:List Int)(a1:Int):Option (Int × Int):=
 if ((decide (a1<0))||(decide (a1≥(a0.length:Int)))) then
  some (0,5)
 else
 (ix a0 a1).bind λv1=>
 some (v1,0)
def a34(a0:l7)(a1:Int)(a2:Int):Option (Int × Int):=
 (E5 a0 a1).bind λv1=>
 if (v1.2 != 0) then
  some (0,v1.2)
 else
 (b4W v1.1.Fields a2).bind λv2=>
 some (v2.1,v2.2)
def b96(a0:List Int)(a1:Int)(a2:Int):Option ((List Int) × Int):=
 if ((decide (a1<0))||(decide (a1≥(a0.length:Int)))) then
  some (a0,5)
 else
 (app 8 [] a0).bind λv1=>
 (ix v1 a1).bind λv2=>
 some ((v1.set (a1).toNat a2),0)
def b77(a0:l7)(a1:Int)(a2:Int)(a3:Int):Option (l7 × Int):=
 (E5 a0 a1).bind λv1=>
 if (v1.2 != 0) then
  some (a0,v1.2)
 else
 (b96 v1.1.Fields a2 a3).bind λv2=>
 if (v2.2 != 0) then
  some (a0,v2.2)
 else
 (O1 a0 a1 (⟨v1.1.Serial,v1.1.Strong,v1.1.Weak,v1.1.Prog,v1.1.Started,v2.1⟩:C5)).bind λv3=>
 some (v3.1,v3.2)
def a5Z(a0:g7)(a1:Int)(a2:Int)(a3:Int):Option (g7 × Int):=
 (a34 a0.S a1 a2).bind λv1=>
 if (v1.2 != 0) then
  some (a0,v1.2)
 else
 (a1z a0 a3).bind λv2=>
 if (!v2) then
  some (a0,3)
 else
 (a1m a0 a3).bind λv3=>
 (b77 v3.S a1 a2 a3).bind λv4=>
 (F0 (⟨v4.1,v3.Roots,v3.a8,v3.T,v3.Q⟩:g7) v1.1).bind λv5=>
 some (v5,0)
def b4Z(a0:Int)(a1:Int):Option Int:=
 if (decide (a0<1)) then
  some 0
 else
 (rem (u6 ((u6 (5*a1))+1)) a0).bind λv1=>
 if (decide (v1<0)) then
  some (u6 (v1+a0))
 else
 some v1
def b8b(a0:List l5)(a1:Int)(a2:Int):Option ((List l5) × Int):=
 (a04 a0 a1).bind λv1=>
 if (decide (v1≥0)) then
  (a3i a0 v1 (⟨1,a1,a2⟩:l5)).bind λv2=>
  some (v2,0)
 else
 (b4Z (a0.length:Int) a1).bind λv3=>
 jn (λ(_:Unit)=>
  some (a0,8)) (λκ12=>
  (lp (S:=Int × Int) (E:=((List l5) × Int) ⊕ Unit) (λ((s15,s16):Int × Int)=>
   if (decide (s16<(a0.length:Int))) then
    (ix a0 s15).bind λv19=>
    if (v19.State != 1) then
     (a3i a0 s15 (⟨1,a1,a2⟩:l5)).bind λv20=>
     some (.inr (.inl (v20,0)))
    else
    (rem (u6 (s15+1)) (a0.length:Int)).bind λv21=>
    some (.inl (v21,u6 (s16+1)))
   else
   some (.inr (.inr ()))) (v3,0)).bind λe14=>
  match e14 with
  | .inl w=>some w
  | .inr w=>κ12 w)
def b8d(a0:List l5)(a1:Int)(a2:Int):Option ((List l5) × Int × Int):=
 if (a1==0) then
  some (a0,0,2)
 else
 (a87 a0 a1).bind λv1=>
 if (a2==0) then
  (a8k a0 a1).bind λv2=>
  some (v2.1,v1.1,0)
 else
 (b8b a0 a1 a2).bind λv3=>
 if (v3.2 != 0) then
  some (a0,0,v3.2)
 else
 some (v3.1,v1.1,0)
def a8o(a0:g7)(a1:Int)(a2:Int):Option (g7 × Int):=
 if (a1==0) then
  some (a0,2)
 else
 (a0B a0 a1).bind λv1=>
 (p9 ((!v1)==false) false (a1z a0 a2)).bind λv2=>
 if ((!v1)||(!v2)) then
  some (a0,3)
 else
 (b8d a0.T a1 a2).bind λv3=>
 if (v3.2.2 != 0) then
  some (a0,v3.2.2)
 else
 (a1m a0 a2).bind λv4=>
 (F0 (⟨v4.S,v4.Roots,v4.a8,v3.1,v4.Q⟩:g7) v3.2.1).bind λv5=>
 some (v5,0)
def a1A(a0:g7)(a1:r9):Option (g7 × Int × Int):=
 if ((a1.Kind==6)&&(decide (a1.B<0))) then
  (a4r a0 a1.A 0 a1.C).bind λv1=>
  some (v1.1,0,v1.2)
 else
 jn (λ(j3:Int)=>
  (Y2 a0 j3).bind λv4=>
  if (v4.2 != 0) then
   some (a0,0,v4.2)
  else
  if (a1.Kind==5) then
   (a52 a0 a1.C).bind λv5=>
   (a5Z a0 v4.1 a1.B v5).bind λv6=>
   some (v6.1,v5,v6.2)
  else
  if (a1.Kind==6) then
   (a4r a0 a1.A v4.1 a1.C).bind λv7=>
   some (v7.1,v4.1,v7.2)
  else
  (a52 a0 a1.B).bind λv8=>
  (a8o a0 v4.1 v8).bind λv9=>
  some (v9.1,v8,v9.2)) (λκ2=>
  if (a1.Kind==6) then
   κ2 a1.B
  else
  κ2 a1.A)
def a2D(a0:g7)(a1:Int):Option Int:=
 (E5 a0.S a1).bind λv1=>
 some v1.1.Serial
def b3J(a0:Int):Option ((List Int) × Int):=
 if ((decide (a0<0))||(decide (a0 > 4))) then
  some ([],1)
 else
 (mk 8 a0 (0:Int)).bind λv1=>
 some (v1,0)
def a8j(a0:C1)(a1:Int):Option (C1 × Int × Int):=
 jn (λ(_:Unit)=>
  some (a0,0,4)) (λκ7=>
  (lp (S:=Int) (E:=(C1 × Int × Int) ⊕ Unit) (λ(s10:Int)=>
   if (decide (s10<(a0.a8.length:Int))) then
    (ix a0.a8 s10).bind λv12=>
    if (v12.State==0) then
     (a03 a0 s10 (⟨1,v12.Gen,a1⟩:A9)).bind λv13=>
     (a3f s10 v12.Gen).bind λv14=>
     some (.inr (.inl (v13,v14,0)))
    else
    some (.inl (u6 (s10+1)))
   else
   some (.inr (.inr ()))) 0).bind λe9=>
  match e9 with
  | .inl w=>some w
  | .inr w=>κ7 w)
def a3g(a0:l7)(a1:Int)(a2:Int):Option (l7 × Int × Int):=
 (b3J a1).bind λv1=>
 if (v1.2 != 0) then
  some (a0,0,v1.2)
 else
 if ((decide (a2<(-1)))||(decide (a2 > 5))) then
  some (a0,0,13)
 else
 (J6 a0).bind λv2=>
 (a8j v2 0).bind λv3=>
 if (v3.2.2 != 0) then
  some (a0,0,v3.2.2)
 else
 (a1l a0 v3.1).bind λv4=>
 (a5S v3.2.1).bind λv5=>
 (a3h v4 v5 (⟨u6 (a0.Serial+1),0,0,a2,false,v1.1⟩:C5)).bind λv6=>
 some ((⟨v6.a8,v6.Last,u6 (a0.Serial+1)⟩:l7),v3.2.1,0)
def b2q(a0:g7)(a1:Int):Option Int:=
 if ((decide (a1<0))||(decide (a1 > 5))) then
  some 0
 else
 (ix a0.Roots a1).bind λv1=>
 (a2D a0 v1).bind λv2=>
 some v2
def b1l(a0:List o6)(a1:Int):Option (Int × Int):=
 if ((decide (a1<0))||(decide (a1≥(a0.length:Int)))) then
  some (0,7)
 else
 (ix a0 a1).bind λv1=>
 if ((v1.Target==0)||(!v1.Intact)) then
  some (0,9)
 else
 some (v1.Target,0)
def b3L(a0:List l5)(a1:Int):Option (Int × Int):=
 (a87 a0 a1).bind λv1=>
 some (v1.1,v1.2)
def a2E(a0:g7)(a1:r9):Option (Int × Int):=
 if (a1.Kind==2) then
  (ix a0.Roots a1.B).bind λv1=>
  some (v1,0)
 else
 if (a1.Kind==4) then
  (Y2 a0 a1.B).bind λv2=>
  if (v2.2 != 0) then
   some (0,v2.2)
  else
  (a34 a0.S v2.1 a1.C).bind λv3=>
  some (v3.1,v3.2)
 else
 if (a1.Kind==7) then
  (b1l a0.a8 a1.B).bind λv4=>
  some (v4.1,v4.2)
 else
 if (a1.Kind==9) then
  (Y2 a0 a1.B).bind λv5=>
  if (v5.2 != 0) then
   some (0,v5.2)
  else
  (b3L a0.T v5.1).bind λv6=>
  some (v6.1,v6.2)
 else
 some (0,0)
def C9(a0:g7)(a1:r9):Option (g7 × Int × Int):=
 (a0C a1).bind λv1=>
 if (v1 != 0) then
  some (a0,0,v1)
 else
 (Q3 a1).bind λv2=>
 if (!v2) then
  some (a0,0,14)
 else
 if (a1.Kind==10) then
  (ix a0.Roots a1.A).bind λv3=>
  (ix a0.Roots a1.B).bind λv4=>
  if (v3==v4) then
   some (a0,1,0)
  else
  some (a0,0,0)
 else
 jn (λ(j6:Bool)=>
  if j6 then
   (a1A a0 a1).bind λv7=>
   if (v7.2.2 != 0) then
    some (a0,0,v7.2.2)
   else
   (P4 v7.1).bind λv8=>
   (a2D a0 v7.2.1).bind λv9=>
   some (v8,v9,0)
  else
  if (a1.Kind==1) then
   (a3g a0.S a1.B a1.C).bind λv10=>
   if (v10.2.2 != 0) then
    some (a0,0,v10.2.2)
   else
   (X4 (⟨v10.1,a0.Roots,a0.a8,a0.T,a0.Q⟩:g7) a1.A v10.2.1).bind λv11=>
   (P4 v11.1).bind λv12=>
   (b2q v12 a1.A).bind λv13=>
   some (v12,v13,0)
  else
  (a2E a0 a1).bind λv14=>
  if (v14.2 != 0) then
   some (a0,0,v14.2)
  else
  (X4 a0 a1.A v14.1).bind λv15=>
  (P4 v15.1).bind λv16=>
  (b2q v16 a1.A).bind λv17=>
  some (v16,v17,0)) (λκ5=>
  if (a1.Kind==5) then
   κ5 (a1.Kind==5)
  else
  if (a1.Kind==6) then
   κ5 (a1.Kind==6)
  else
  κ5 (a1.Kind==8))
def b3M(a0:g7)(a1:List r9):Option (g7 × (List Int)):=
 jn (λ((j11,j12):g7 × (List Int))=>
  some (j11,j12)) (λκ10=>
  (lp (S:=Int × g7 × (List Int)) (E:=(g7 × (List Int))) (λ((s15,s16,s17):Int × g7 × (List Int))=>
   if (decide (s15<(a1.length:Int))) then
    (ix a1 s15).bind λv20=>
    (C9 s16 v20).bind λv21=>
    (app 8 s17 [v21.2.1]).bind λv22=>
    some (.inl (u6 (s15+1),v21.1,v22))
   else
   some (.inr (s16,s17))) (0,a0,[])).bind λe14=>
  κ10 e14)
def b43(a0:g7)(a1:List (List r9)):Option (g7 × s7 × Int):=
 (b42 a0.Q).bind λv1=>
 if (v1.2.2 != 0) then
  some (a0,(⟨0,0,0⟩:s7),v1.2.2)
 else
 jn (λ(j6:g7)=>
  (a8v a1 v1.2.1.Prog).bind λv7=>
  (b3M j6 v7).bind λv8=>
  if (v1.2.1.Kind==1) then
   (X4 v8.1 5 0).bind λv9=>
   (P4 v9.1).bind λv10=>
   some (v10,v1.2.1,0)
  else
  some (v8.1,v1.2.1,0)) (λκ5=>
  if (v1.2.1.Kind==1) then
   (X4 (⟨a0.S,a0.Roots,a0.a8,a0.T,v1.1⟩:g7) 5 v1.2.1.At).bind λv11=>
   (F0 v11.1 v1.2.1.At).bind λv12=>
   (P4 v12).bind λv13=>
   κ5 v13
  else
  κ5 (⟨a0.S,a0.Roots,a0.a8,a0.T,v1.1⟩:g7))
def a9b(a0:g7)(a1:List (List r9))(a2:Int):Option (g7 × Int × Int × Int):=
 jn (λ((j12,j13,j14):Int × Int × g7)=>
  some (j14,j13,j12,0)) (λκ11=>
  (lp (S:=Int × Int × g7) (E:=(g7 × Int × Int × Int) ⊕ (Int × Int × g7)) (λ((s17,s18,s19):Int × Int × g7)=>
   (a9c s19).bind λv22=>
   if (!v22) then
    (ix s19.Q.L 0).bind λv23=>
    (a8u a1 v23).bind λv24=>
    if (decide (v24 > s17)) then
     some (.inr (.inl (s19,s18,s17,12)))
    else
    (b43 s19 a1).bind λv25=>
    some (.inl (u6 (s17-v24),u6 (s18+1),v25.1))
   else
   some (.inr (.inr (s17,s18,s19)))) (a2,0,a0)).bind λe16=>
  match e16 with
  | .inl w=>some w
  | .inr w=>κ11 w)
def c13(a0:A2)(a1:List Int):Option (A2 × p8):=
 (a0j a1).bind λv1=>
 if (v1.2 != 0) then
  some (a0,(⟨0,v1.2⟩:p8))
 else
 if (v1.1.Kind==11) then
  (a8t a0.X).bind λv2=>
  some ((⟨v2.1,a0.Progs⟩:A2),(⟨u6 (v2.2.2-v2.2.1),0⟩:p8))
 else
 if (v1.1.Kind==12) then
  (a9b a0.X a0.Progs v1.1.A).bind λv3=>
  some ((⟨v3.1,a0.Progs⟩:A2),(⟨v3.2.1,v3.2.2.2⟩:p8))
 else
 (C9 a0.X v1.1).bind λv4=>
 some ((⟨v4.1,a0.Progs⟩:A2),(⟨v4.2.1,v4.2.2⟩:p8))
def b6F(a0:A2):Option (List Int):=
 (P3 a0.X.S).bind λv1=>
 jn (λ(j11:List Int)=>
  some j11) (λκ10=>
  (lp (S:=Int × (List Int)) (E:=(List Int)) (λ((s13,s14):Int × (List Int))=>
   if (decide (s13<(v1.length:Int))) then
    (ix v1 s13).bind λv17=>
    (a2D a0.X v17).bind λv18=>
    (app 8 s14 [v18]).bind λv19=>
    some (.inl (u6 (s13+1),v19))
   else
   some (.inr s14)) (0,[])).bind λe12=>
  κ10 e12)
def b2s(a0:g7):Option Bool:=
 (a3j a0).bind λv1=>
 some ((v1.length:Int)==0)
def b6G(a0:A2):Option Bool:=
 (a9c a0.X).bind λv1=>
 (p9 (v1==true) false (b2s a0.X)).bind λv2=>
 some (v1&&v2)
def b3N(a0:A2)(a1:List (List Int)):Option (A2 × (List p8)):=
 jn (λ((j11,j12):A2 × (List p8))=>
  some (j11,j12)) (λκ10=>
  (lp (S:=Int × A2 × (List p8)) (E:=(A2 × (List p8))) (λ((s15,s16,s17):Int × A2 × (List p8))=>
   if (decide (s15<(a1.length:Int))) then
    (ix a1 s15).bind λv20=>
    (c13 s16 v20).bind λv21=>
    (app 16 s17 [v21.2]).bind λv22=>
    some (.inl (u6 (s15+1),v21.1,v22))
   else
   some (.inr (s16,s17))) (0,a0,[])).bind λe14=>
  κ10 e14)
end
end Go.Sh
