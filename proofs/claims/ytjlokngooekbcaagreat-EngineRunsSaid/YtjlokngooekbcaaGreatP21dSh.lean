/-
 Plain functions: what the functions of the program come to.
-/
import Derived.Test.YtjlokngooekbcaaGreatP21dSh0
import Derived.Test.YtjlokngooekbcaaGreatP21dPwD
import Derived.Test.YtjlokngooekbcaaGreatP21dPwC
set_option linter.unusedVariables false
set_option linter.unusedSimpArgs false
set_option linter.unusedSectionVars false
namespace Go.Sh
set_option maxRecDepth 100000
noncomputable section
structure g8 where
 Kind:Int
 A:Int
 B:Int
 C:Int
structure m9 where
 Serial:Int
 Strong:Int
 Weak:Int
 Prog:Int
 Started:Bool
 Fields:List Int
structure b9 where
 State:Int
 Gen:Int
 Val:m9
structure g6 where
 Target:Int
 Intact:Bool
 Call:Int
structure c5 where
 State:Int
 Key:Int
 Val:Int
structure k9 where
 Kind:Int
 At:Int
 Prog:Int
structure j5 where
 part:Fv
 least:Int
 most:Int
 e:Int
structure e6 where
 a8:List b9
 Last:Int
structure a7 where
 S:e6
 Serial:Int
structure g5 where
 L:List k9
 Cap:Int
structure b7 where
 S:a7
 Roots:List Int
 a8:List g6
 T:List c5
 Q:g5
structure p6 where
 X:b7
 Progs:List (List g8)
structure l6 where
 V:Int
 E:Int
structure s7 where
 x:b7
 o:g8
structure I7 where
 r:Int
 h:Int
structure H4 where
 h:Int
 k:Int
 v:Int
structure I6 where
 t:List c5
structure o0 where
 Key:Int
 Val:Int
structure l5 where
 L:List Int
 Cap:Int
structure C6 where
 Serial:Int
 Strong:Int
 Weak:Int
 Prog:Int
 Started:Bool
 Fields:List Int
structure n8 where
 State:Int
 Gen:Int
 Val:C6
structure m8 where
 Target:Int
 Intact:Bool
 Call:Int
structure g9 where
 State:Int
 Key:Int
 Val:Int
structure o6 where
 Kind:Int
 At:Int
 Prog:Int
structure r8 where
 Kind:Int
 A:Int
 B:Int
 C:Int
structure k8 where
 a8:List n8
 Last:Int
 Serial:Int
structure w7 where
 L:List o6
 Cap:Int
structure c7 where
 S:k8
 Roots:List Int
 a8:List m8
 T:List g9
 Q:w7
structure w8 where
 X:c7
 Progs:List (List r8)
structure p7 where
 V:Int
 E:Int
structure x4 where
 State:Int
 Gen:Int
 Val:Int
structure y7 where
 a8:List x4
 Last:Int
structure B9 where
 Key:Int
 Val:Int
def a9j(a0:List (List g8)):Option Bool:=
 jn (λ(_:Unit)=>
  some (decide ((a0.length:Int)≤10))) (λκ5=>
  (lp (S:=Int) (E:=Bool ⊕ Unit) (λ(s8:Int)=>
   if ((decide (s8<(a0.length:Int)))&&(decide (s8<10))) then
    (ix a0 s8).bind λv10=>
    if (decide ((v10.length:Int) > 10)) then
     some (.inr (.inl false))
    else
    some (.inl (x8 (s8+1)))
   else
   some (.inr (.inr ()))) 0).bind λe7=>
  match e7 with
  | .inl w=>some w
  | .inr w=>κ5 w)
def a2Z(a0:List (List Int))(a1:Int):Option Bool:=
 jn (λ(_:Unit)=>
  some (decide ((a0.length:Int)≤a1))) (λκ5=>
  (lp (S:=Int) (E:=Bool ⊕ Unit) (λ(s8:Int)=>
   if ((decide (s8<(a0.length:Int)))&&(decide (s8<200))) then
    (ix a0 s8).bind λv10=>
    if (decide ((v10.length:Int) > 10)) then
     some (.inr (.inl false))
    else
    some (.inl (x8 (s8+1)))
   else
   some (.inr (.inr ()))) 0).bind λe7=>
  match e7 with
  | .inl w=>some w
  | .inr w=>κ5 w)
def a2F(a0:g8):Option Bool:=
 some ((decide (a0.Kind≥1))&&(decide (a0.Kind≤10)))
def Z8:Option j5:=
 some (⟨(some 233),0,5,6⟩:j5)
def S9:Option j5:=
 some (⟨(some 236),(-1),5,13⟩:j5)
def J6(a0:List j5):Option (List j5):=
 some a0
def Z9:Option j5:=
 some (⟨(some 234),0,5,6⟩:j5)
def W6:Option j5:=
 some (⟨(some 236),0,3,5⟩:j5)
def W5:Option j5:=
 some (⟨(some 234),0,3,5⟩:j5)
def O4:Option j5:=
 some (⟨(some 236),(-1),5,6⟩:j5)
def Z6:Option j5:=
 some (⟨(some 233),0,5,7⟩:j5)
def O3:Option j5:=
 some (⟨(some 234),(-1),5,6⟩:j5)
def Z7:Option j5:=
 some (⟨(some 234),0,5,7⟩:j5)
def a65:Option (List (Int × (List j5))):=
 (Z8).bind λv1=>
 (S9).bind λv2=>
 (J6 [v1,(⟨(some 234),0,4,1⟩:j5),v2]).bind λv3=>
 (Z9).bind λv4=>
 (J6 [v1,v4]).bind λv5=>
 (J6 [v1]).bind λv6=>
 (W6).bind λv7=>
 (J6 [v1,v4,v7]).bind λv8=>
 (W5).bind λv9=>
 (O4).bind λv10=>
 (J6 [v1,v9,v10]).bind λv11=>
 (Z6).bind λv12=>
 (O3).bind λv13=>
 (J6 [v12,v13,v2]).bind λv14=>
 (Z7).bind λv15=>
 (J6 [v1,v15]).bind λv16=>
 (J6 [v1,v13]).bind λv17=>
 (J6 []).bind λv18=>
 (J6 [(⟨(some 233),0,200,12⟩:j5)]).bind λv19=>
 some (s6 (s6 (s6 (s6 (s6 (s6 (s6 (s6 (s6 (s6 (s6 (s6 [] 1 v3) 2 v5) 3 v6) 4 v8) 5 v11) 6 v14) 7 v16) 8 v17) 9 v5) 10 v5) 11 v18) 12 v19)
def b0D(a0:g8):Option Int:=
 some a0.A
def b0E(a0:g8):Option Int:=
 some a0.B
def b0F(a0:g8):Option Int:=
 some a0.C
def b1p(f:Fv)(a0:g8):Option Int:=
 if f=some 233 then b0D a0 else
 if f=some 234 then b0E a0 else
 if f=some 236 then b0F a0 else
 none
def S0(a0:g8):Option Int:=
 (a65).bind λv1=>
 if (!((C0 v1 a0.Kind).isSome)) then
  some 14
 else
 jn (λ(_:Unit)=>
  some 0) (λκ8=>
  (lp (S:=Int) (E:=Int ⊕ Unit) (λ(s11:Int)=>
   if (decide (s11<(((C0 v1 a0.Kind).getD ([]:List j5)).length:Int))) then
    (ix ((C0 v1 a0.Kind).getD ([]:List j5)) s11).bind λv13=>
    (b1p v13.part a0).bind λv14=>
    if ((decide (v14<v13.least))||(decide (v14 > v13.most))) then
     some (.inr (.inl v13.e))
    else
    some (.inl (x8 (s11+1)))
   else
   some (.inr (.inr ()))) 0).bind λe10=>
  match e10 with
  | .inl w=>some w
  | .inr w=>κ8 w)
def a4x(a0:List (List g8)):Option Bool:=
 if (decide ((a0.length:Int) > 6)) then
  some false
 else
 jn (λ(_:Unit)=>
  some true) (λκ20=>
  (lp (S:=Int) (E:=Bool ⊕ Unit) (λ(s23:Int)=>
   if (decide (s23<(a0.length:Int))) then
    jn (λ(_:Unit)=>
     some (.inl (x8 (s23+1)))) (λκ32=>
     (ix a0 s23).bind λv34=>
     if (decide ((v34.length:Int) > 6)) then
      some (.inr (.inl false))
     else
     (lp (S:=Int) (E:=Bool ⊕ Unit) (λ(s36:Int)=>
      if (decide (s36<(v34.length:Int))) then
       (ix v34 s36).bind λv38=>
       (a2F v38).bind λv39=>
       (u4 ((!v39)==false) 0 (S0 v38)).bind λv40=>
       if ((!v39)||(v40 != 0)) then
        some (.inr (.inl false))
       else
       some (.inl (x8 (s36+1)))
      else
      some (.inr (.inr ()))) 0).bind λe35=>
     match e35 with
     | .inl w=>some (.inr (.inl w))
     | .inr w=>κ32 w)
   else
   some (.inr (.inr ()))) 0).bind λe22=>
  match e22 with
  | .inl w=>some w
  | .inr w=>κ20 w)
def P7(a0:Int)(a1:Int):Option e6:=
 if ((((decide (a0<0))||(decide (a0 > 24)))||(decide (a1<0)))||(decide (a1 > 9))) then
  some (⟨[],0⟩:e6)
 else
 (mk 80 a0 (⟨0,0,⟨0,0,0,0,false,[]⟩⟩:b9)).bind λv1=>
 some (⟨v1,a1⟩:e6)
def a1R(a0:Int)(a1:Int):Option a7:=
 (P7 a0 a1).bind λv1=>
 some (⟨v1,0⟩:a7)
def c1L(a0:Int):Option (List g6):=
 if ((decide (a0<0))||(decide (a0 > 6))) then
  some []
 else
 (mk 24 a0 (⟨0,false,0⟩:g6)).bind λv1=>
 jn (λ(j9:List g6)=>
  some j9) (λκ8=>
  (lp (S:=Int × (List g6)) (E:=(List g6)) (λ((s11,s12):Int × (List g6))=>
   if (decide (s11<(v1.length:Int))) then
    (ix s12 s11).bind λv15=>
    some (.inl (x8 (s11+1),(s12.set (s11).toNat (⟨v15.Target,v15.Intact,(-1)⟩:g6))))
   else
   some (.inr s12)) (0,v1)).bind λe10=>
  κ8 e10)
def b1x(a0:Int):Option (List c5):=
 if ((decide (a0<1))||(decide (a0 > 8))) then
  some []
 else
 (mk 24 a0 (⟨0,0,0⟩:c5)).bind λv1=>
 some v1
def a05(a0:Int):Option g5:=
 some (⟨[],a0⟩:g5)
def c1y:Option g5:=
 (a05 30).bind λv1=>
 some v1
def a17(a0:Int)(a1:Int)(a2:Int):Option b7:=
 if ((((((decide (a0<1))||(decide (a0 > 24)))||(decide (a1<0)))||(decide (a1 > 9)))||(decide (a2<1)))||(decide (a2 > 8))) then
  some (⟨⟨⟨[],0⟩,0⟩,[],[],[],⟨[],0⟩⟩:b7)
 else
 (a1R a0 a1).bind λv1=>
 (mk 8 6 (0:Int)).bind λv2=>
 (c1L 6).bind λv3=>
 (b1x a2).bind λv4=>
 (c1y).bind λv5=>
 some (⟨v1,v2,v3,v4,v5⟩:b7)
def W7(a0:Int)(a1:Int)(a2:Int)(a3:List (List g8)):Option (p6 × Int):=
 (a4x a3).bind λv1=>
 if (!v1) then
  some ((⟨⟨⟨⟨[],0⟩,0⟩,[],[],[],⟨[],0⟩⟩,[]⟩:p6),13)
 else
 (a17 a0 a1 a2).bind λv2=>
 if ((v2.Roots.length:Int)==0) then
  some ((⟨⟨⟨⟨[],0⟩,0⟩,[],[],[],⟨[],0⟩⟩,[]⟩:p6),1)
 else
 some ((⟨v2,a3⟩:p6),0)
def W3(a0:List Int):Option (g8 × Int):=
 if ((a0.length:Int) != 4) then
  some ((⟨0,0,0,0⟩:g8),14)
 else
 (ix a0 0).bind λv1=>
 (ix a0 1).bind λv2=>
 (ix a0 2).bind λv3=>
 (ix a0 3).bind λv4=>
 (S0 (⟨v1,v2,v3,v4⟩:g8)).bind λv5=>
 if (v5 != 0) then
  some ((⟨0,0,0,0⟩:g8),v5)
 else
 some ((⟨v1,v2,v3,v4⟩:g8),0)
def a69(a0:g8):Option Ifc:=
 if (a0.Kind==11) then
  some (⟨136,[]⟩:Ifc)
 else
 if (a0.Kind==12) then
  some (⟨140,[a0.A]⟩:Ifc)
 else
 some (⟨132,[a0.Kind,a0.A,a0.B,a0.C]⟩:Ifc)
def a3d:Option (List (Int × Fv)):=
 some (s6 (s6 (s6 (s6 (s6 (s6 (s6 (s6 (s6 (s6 [] 1 (some 151)) 2 (some 152)) 3 (some 153)) 4 (some 154)) 5 (some 155)) 6 (some 156)) 7 (some 157)) 8 (some 158)) 9 (some 159)) 10 (some 160))
def b9z(a0:Int):Option ((List Int) × Int):=
 if ((decide (a0<0))||(decide (a0 > 4))) then
  some ([],1)
 else
 (mk 8 a0 (0:Int)).bind λv1=>
 some (v1,0)
def R5(a0:Int):Option Bool:=
 some ((decide (a0≥(-1)))&&(decide (a0<6)))
def O2(a0:e6):Option e6:=
 some a0
def z6(a0:List b9):Option (List b9):=
 app 80 [] a0
def D5(a0:e6)(a1:Int)(a2:b9):Option e6:=
 (z6 a0.a8).bind λv1=>
 (ix v1 a1).bind λv2=>
 some (⟨(v1.set (a1).toNat a2),a0.Last⟩:e6)
def a1J(a0:Int)(a1:Int):Option Int:=
 if ((((decide (a0<0))||(decide (a0≥24)))||(decide (a1<0)))||(decide (a1 > 9))) then
  some 0
 else
 some (x8 ((x8 (1+(x8 (a0*1))))+(x8 (a1*32))))
def J5(a0:e6)(a1:m9):Option (e6 × Int × Int):=
 jn (λ(_:Unit)=>
  some (a0,0,4)) (λκ9=>
  (O2 a0).bind λv11=>
  (lp (S:=Int) (E:=(e6 × Int × Int) ⊕ Unit) (λ(s13:Int)=>
   if (decide (s13<(v11.a8.length:Int))) then
    (ix v11.a8 s13).bind λv15=>
    if ((v15.State==0)==true) then
     (ix a0.a8 s13).bind λv16=>
     (D5 a0 s13 (⟨1,v16.Gen,a1⟩:b9)).bind λv17=>
     (a1J s13 v16.Gen).bind λv18=>
     some (.inr (.inl (v17,v18,0)))
    else
    some (.inl (x8 (s13+1)))
   else
   some (.inr (.inr ()))) 0).bind λe12=>
  match e12 with
  | .inl w=>some w
  | .inr w=>κ9 w)
def T6(a0:a7)(a1:Int)(a2:Int):Option (a7 × Int × Int):=
 (b9z a1).bind λv1=>
 if (v1.2 != 0) then
  some (a0,0,v1.2)
 else
 (R5 a2).bind λv2=>
 if (!v2) then
  some (a0,0,13)
 else
 (J5 a0.S (⟨x8 (a0.Serial+1),0,0,a2,false,v1.1⟩:m9)).bind λv3=>
 if (v3.2.2 != 0) then
  some (a0,0,v3.2.2)
 else
 some ((⟨v3.1,x8 (a0.Serial+1)⟩:a7),v3.2.1,0)
def a16(a0:Int):Option (Int × Int × Bool):=
 if (decide (a0<1)) then
  some ((-1),(-1),false)
 else
 (rem (x8 (a0-1)) 32).bind λv1=>
 (quo .i64 v1 1).bind λv2=>
 (quo .i64 (x8 (a0-1)) 32).bind λv3=>
 if ((decide (v2≥24))||(decide (v3 > 9))) then
  some ((-1),(-1),false)
 else
 some (v2,v3,true)
def a3o(a0:Int):Option Int:=
 (a16 a0).bind λv1=>
 some v1.1
def a4E(a0:Int):Option Int:=
 (a16 a0).bind λv1=>
 some v1.2.1
def y4(a0:e6)(a1:Int):Option (Int × Int):=
 if (a1==0) then
  some ((-1),2)
 else
 (a3o a1).bind λv1=>
 if ((decide (v1<0))||(decide (v1≥(a0.a8.length:Int)))) then
  some ((-1),3)
 else
 (ix a0.a8 v1).bind λv2=>
 (a4E a1).bind λv3=>
 if ((v2.Gen != v3)||((v2.State != 1)&&(v2.State != 2))) then
  some ((-1),3)
 else
 some (v1,0)
def E1(a0:e6)(a1:Int):Option (m9 × Int):=
 (y4 a0 a1).bind λv1=>
 if (v1.2 != 0) then
  some ((⟨0,0,0,0,false,[]⟩:m9),v1.2)
 else
 (ix a0.a8 v1.1).bind λv2=>
 if (v2.State==2) then
  some ((⟨0,0,0,0,false,[]⟩:m9),3)
 else
 some (v2.Val,0)
def y9(a0:a7)(a1:Int):Option (m9 × Int):=
 (E1 a0.S a1).bind λv1=>
 some (v1.1,v1.2)
def a5q(a0:b7)(a1:Int):Option Bool:=
 (y9 a0.S a1).bind λv1=>
 some (v1.2==0)
def L2(a0:b7)(a1:Int):Option Bool:=
 (u4 ((a1==0)==false) false (a5q a0 a1)).bind λv1=>
 some ((a1==0)||v1)
def G4(a0:Int):Option Bool:=
 some (decide (a0≥12))
def a4y(a0:Int):Option (Int × Int):=
 (G4 a0).bind λv1=>
 if v1 then
  some (12,0)
 else
 some (x8 ((if 0 > a0 then 0 else a0)+1),0)
def a9s(a0:Int):Option Int:=
 (a4y a0).bind λv1=>
 some v1.1
def K5(a0:e6)(a1:Int)(a2:m9):Option (e6 × Int):=
 (y4 a0 a1).bind λv1=>
 if (v1.2 != 0) then
  some (a0,v1.2)
 else
 (ix a0.a8 v1.1).bind λv2=>
 (D5 a0 v1.1 (⟨v2.State,v2.Gen,a2⟩:b9)).bind λv3=>
 some (v3,0)
def K6(a0:a7)(a1:Int)(a2:m9):Option (a7 × Int):=
 (K5 a0.S a1 a2).bind λv1=>
 some ((⟨v1.1,a0.Serial⟩:a7),v1.2)
def U9(a0:b7)(a1:Int):Option b7:=
 (y9 a0.S a1).bind λv1=>
 if (v1.2==0) then
  (a9s v1.1.Strong).bind λv2=>
  (K6 a0.S a1 (⟨v1.1.Serial,v2,v1.1.Weak,v1.1.Prog,v1.1.Started,v1.1.Fields⟩:m9)).bind λv3=>
  some (⟨v3.1,a0.Roots,a0.a8,a0.T,a0.Q⟩:b7)
 else
 some a0
def a0p(a0:b7)(a1:Int):Option b7:=
 (U9 a0 a1).bind λv1=>
 some v1
def M3(a0:List Int):Option (List Int):=
 app 8 [] a0
def P3(a0:I7)(a1:b7):Option b7:=
 (M3 a1.Roots).bind λv1=>
 (ix v1 a0.r).bind λv2=>
 some (⟨a1.S,(v1.set (a0.r).toNat a0.h),a1.a8,a1.T,a1.Q⟩:b7)
def a2H(a0:Int):Option (Int × Int):=
 (G4 a0).bind λv1=>
 if v1 then
  some (12,0)
 else
 if (decide (a0<1)) then
  some (0,11)
 else
 some (x8 (a0-1),0)
def b2M(a0:Int):Option (Int × Int):=
 (a2H a0).bind λv1=>
 some (v1.1,v1.2)
def a18(a0:Int):Option Int:=
 (b2M a0).bind λv1=>
 if (v1.2 != 0) then
  some a0
 else
 some v1.1
def N6(a0:b7)(a1:Int):Option b7:=
 (y9 a0.S a1).bind λv1=>
 if (v1.2==0) then
  (a18 v1.1.Strong).bind λv2=>
  (K6 a0.S a1 (⟨v1.1.Serial,v2,v1.1.Weak,v1.1.Prog,v1.1.Started,v1.1.Fields⟩:m9)).bind λv3=>
  some (⟨v3.1,a0.Roots,a0.a8,a0.T,a0.Q⟩:b7)
 else
 some a0
def D3(a0:b7)(a1:Int):Option b7:=
 (N6 a0 a1).bind λv1=>
 some v1
def F4(a0:b7)(a1:Int)(a2:Int)(a3:I7):Option b7:=
 (a0p a0 a2).bind λv1=>
 (P3 a3 v1).bind λv2=>
 (D3 v2 a1).bind λv3=>
 some v3
def a0N(a0:b7)(a1:Int)(a2:Int):Option (b7 × Int):=
 if ((decide (a1<0))||(decide (a1≥(a0.Roots.length:Int)))) then
  some (a0,6)
 else
 (L2 a0 a2).bind λv1=>
 if (!v1) then
  some (a0,3)
 else
 (ix a0.Roots a1).bind λv2=>
 (F4 a0 v2 a2 (⟨a1,a2⟩:I7)).bind λv3=>
 some (v3,0)
def C3(a0:s7)(a1:Int)(a2:Int):Option (b7 × Int):=
 if (a2 != 0) then
  some (a0.x,a2)
 else
 (a0N a0.x a0.o.A a1).bind λv1=>
 some (v1.1,v1.2)
def U1(a0:s7):Option (b7 × Int):=
 (T6 a0.x.S a0.o.B a0.o.C).bind λv1=>
 if (v1.2.2 != 0) then
  some (a0.x,v1.2.2)
 else
 (C3 (⟨⟨v1.1,a0.x.Roots,a0.x.a8,a0.x.T,a0.x.Q⟩,a0.o⟩:s7) v1.2.1 0).bind λv2=>
 some (v2.1,v2.2)
def L4(a0:b7)(a1:Int):Option Int:=
 if ((decide (a1<0))||(decide (a1≥(a0.Roots.length:Int)))) then
  some 0
 else
 (ix a0.Roots a1).bind λv1=>
 some v1
def I9(a0:s7):Option (b7 × Int):=
 (L4 a0.x a0.o.B).bind λv1=>
 (C3 a0 v1 0).bind λv2=>
 some (v2.1,v2.2)
def a0f(a0:s7):Option (b7 × Int):=
 (C3 a0 0 0).bind λv1=>
 some (v1.1,v1.2)
def M1(a0:b7)(a1:Int):Option (Int × Int):=
 (L4 a0 a1).bind λv1=>
 if (v1==0) then
  some (0,2)
 else
 some (v1,0)
def a7R(a0:List Int)(a1:Int):Option Bool:=
 some ((decide (a1≥0))&&(decide (a1<(a0.length:Int))))
def b3p(a0:List Int)(a1:Int):Option (Int × Int):=
 (a7R a0 a1).bind λv1=>
 if (!v1) then
  some (0,5)
 else
 (ix a0 a1).bind λv2=>
 some (v2,0)
def a0F(a0:a7)(a1:Int)(a2:Int):Option (Int × Int):=
 (y9 a0 a1).bind λv1=>
 if (v1.2 != 0) then
  some (0,v1.2)
 else
 (b3p v1.1.Fields a2).bind λv2=>
 some (v2.1,v2.2)
def a0g(a0:s7):Option (b7 × Int):=
 (M1 a0.x a0.o.B).bind λv1=>
 if (v1.2 != 0) then
  some (a0.x,v1.2)
 else
 (a0F a0.x.S v1.1 a0.o.C).bind λv2=>
 (C3 a0 v2.1 v2.2).bind λv3=>
 some (v3.1,v3.2)
def b54(a0:List Int)(a1:Int)(a2:Int):Option ((List Int) × Int):=
 (a7R a0 a1).bind λv1=>
 if (!v1) then
  some (a0,5)
 else
 (mk 8 (a0.length:Int) (0:Int)).bind λv2=>
 (cpy v2 a0).bind λv3=>
 (ix v3 a1).bind λv4=>
 some ((v3.set (a1).toNat a2),0)
def a9Q(a0:a7)(a1:Int)(a2:Int)(a3:Int):Option (a7 × Int):=
 (y9 a0 a1).bind λv1=>
 if (v1.2 != 0) then
  some (a0,v1.2)
 else
 (b54 v1.1.Fields a2 a3).bind λv2=>
 if (v2.2 != 0) then
  some (a0,v2.2)
 else
 (K6 a0 a1 (⟨v1.1.Serial,v1.1.Strong,v1.1.Weak,v1.1.Prog,v1.1.Started,v2.1⟩:m9)).bind λv3=>
 some (v3.1,v3.2)
def a03(a0:H4)(a1:b7):Option b7:=
 (a9Q a1.S a0.h a0.k a0.v).bind λv1=>
 some (⟨v1.1,a1.Roots,a1.a8,a1.T,a1.Q⟩:b7)
def I8(a0:b7)(a1:Int)(a2:Int)(a3:H4):Option b7:=
 (a0p a0 a2).bind λv1=>
 (a03 a3 v1).bind λv2=>
 (D3 v2 a1).bind λv3=>
 some v3
def a2L(a0:b7)(a1:Int)(a2:Int)(a3:Int):Option (b7 × Int):=
 (a0F a0.S a1 a2).bind λv1=>
 if (v1.2 != 0) then
  some (a0,v1.2)
 else
 (L2 a0 a3).bind λv2=>
 if (!v2) then
  some (a0,3)
 else
 (I8 a0 v1.1 a3 (⟨a1,a2,a3⟩:H4)).bind λv3=>
 some (v3,0)
def W9(a0:s7):Option (b7 × Int):=
 (M1 a0.x a0.o.A).bind λv1=>
 if (v1.2 != 0) then
  some (a0.x,v1.2)
 else
 (L4 a0.x a0.o.C).bind λv2=>
 (a2L a0.x v1.1 a0.o.B v2).bind λv3=>
 some (v3.1,v3.2)
def b4D(a0:g5)(a1:Int):Option (g5 × Int):=
 some (a0,a1)
def a4Y(a0:g5)(a1:Int):Option Bool:=
 jn (λ(_:Unit)=>
  some false) (λκ6=>
  (b4D a0 2).bind λv8=>
  (lp (S:=Int) (E:=Bool ⊕ Unit) (λ(s10:Int)=>
   if (decide (s10<(v8.1.L.length:Int))) then
    (ix v8.1.L s10).bind λv12=>
    if ((v12.Kind==v8.2)==true) then
     if (v12.At==a1) then
      some (.inr (.inl true))
     else
     some (.inl (x8 (s10+1)))
    else
    some (.inl (x8 (s10+1)))
   else
   some (.inr (.inr ()))) 0).bind λe9=>
  match e9 with
  | .inl w=>some w
  | .inr w=>κ6 w)
def a6S(a0:List g6)(a1:Int):Option Bool:=
 some ((decide (a1≥0))&&(decide (a1<(a0.length:Int))))
def a0G(a0:List g6):Option (List g6):=
 (mk 24 (a0.length:Int) (⟨0,false,0⟩:g6)).bind λv1=>
 (cpy v1 a0).bind λv2=>
 some v2
def b2E(a0:List g6)(a1:Int)(a2:Int)(a3:Int):Option ((List g6) × Int × Int):=
 (a6S a0 a1).bind λv1=>
 if (!v1) then
  some (a0,0,7)
 else
 (a0G a0).bind λv2=>
 (ix v2 a1).bind λv3=>
 (ix a0 a1).bind λv4=>
 some ((v2.set (a1).toNat (⟨a2,(a2 != 0),a3⟩:g6)),v4.Target,0)
def a1L(a0:b7)(a1:Int)(a2:Int):Option b7:=
 (y4 a0.S.S a1).bind λv1=>
 if (v1.2==0) then
  (ix a0.S.S.a8 v1.1).bind λv2=>
  (K6 a0.S a1 (⟨v2.Val.Serial,v2.Val.Strong,x8 (v2.Val.Weak+a2),v2.Val.Prog,v2.Val.Started,v2.Val.Fields⟩:m9)).bind λv3=>
  some (⟨v3.1,a0.Roots,a0.a8,a0.T,a0.Q⟩:b7)
 else
 some a0
def O1(a0:e6)(a1:Int):Option (e6 × Int):=
 (y4 a0 a1).bind λv1=>
 if (v1.2 != 0) then
  some (a0,v1.2)
 else
 (ix a0.a8 v1.1).bind λv2=>
 if (v2.Gen==a0.Last) then
  (D5 a0 v1.1 (⟨3,v2.Gen,⟨0,0,0,0,false,[]⟩⟩:b9)).bind λv3=>
  some (v3,0)
 else
 (D5 a0 v1.1 (⟨0,x8 (v2.Gen+1),⟨0,0,0,0,false,[]⟩⟩:b9)).bind λv4=>
 some (v4,0)
def a3c(a0:b7)(a1:Int):Option b7:=
 (a1L a0 a1 (-1)).bind λv1=>
 (y4 v1.S.S a1).bind λv2=>
 if (v2.2 != 0) then
  some v1
 else
 (ix v1.S.S.a8 v2.1).bind λv3=>
 if ((v3.State==2)&&(v3.Val.Weak==0)) then
  (O1 v1.S.S a1).bind λv4=>
  some (⟨⟨v4.1,v1.S.Serial⟩,v1.Roots,v1.a8,v1.T,v1.Q⟩:b7)
 else
 some v1
def a0O(a0:b7)(a1:Int)(a2:Int)(a3:Int):Option (b7 × Int):=
 (u4 (((decide (a1<0))||(decide (a1≥(a0.a8.length:Int))))==false) false (a4Y a0.Q a1)).bind λv1=>
 if (((decide (a1<0))||(decide (a1≥(a0.a8.length:Int))))||v1) then
  some (a0,7)
 else
 (L2 a0 a2).bind λv2=>
 if (!v2) then
  some (a0,3)
 else
 (b2E a0.a8 a1 a2 a3).bind λv3=>
 (a1L (⟨a0.S,a0.Roots,v3.1,a0.T,a0.Q⟩:b7) a2 1).bind λv4=>
 (a3c v4 v3.2.1).bind λv5=>
 some (v5,0)
def U2(a0:s7):Option (b7 × Int):=
 if (a0.o.B==(-1)) then
  (a0O a0.x a0.o.A 0 a0.o.C).bind λv1=>
  some (v1.1,v1.2)
 else
 (M1 a0.x a0.o.B).bind λv2=>
 if (v2.2 != 0) then
  some (a0.x,v2.2)
 else
 (a0O a0.x a0.o.A v2.1 a0.o.C).bind λv3=>
 some (v3.1,v3.2)
def a6R(a0:List g6)(a1:Int):Option (Int × Int):=
 (a6S a0 a1).bind λv1=>
 if (!v1) then
  some (0,7)
 else
 (ix a0 a1).bind λv2=>
 if ((v2.Target==0)||(!v2.Intact)) then
  some (0,9)
 else
 some (v2.Target,0)
def X8(a0:s7):Option (b7 × Int):=
 (a6R a0.x.a8 a0.o.B).bind λv1=>
 (C3 a0 v1.1 v1.2).bind λv2=>
 some (v2.1,v2.2)
def a4j(a0:Int)(a1:Int):Option (Int × Int):=
 some (a0,a1)
def a0M(a0:Int)(a1:Int):Option Int:=
 if (decide (a0<1)) then
  some 0
 else
 (rem (x8 ((x8 (5*a1))+1)) a0).bind λv1=>
 if (decide (v1<0)) then
  some (x8 (v1+a0))
 else
 some v1
def Y5(a0:List c5)(a1:Int):Option Int:=
 jn (λ(_:Unit)=>
  some (-1)) (λκ8=>
  (a4j (a0.length:Int) a1).bind λv10=>
  (lp (S:=Int) (E:=Int ⊕ Unit) (λ(s12:Int)=>
   if (decide (s12<v10.1)) then
    (a0M v10.1 v10.2).bind λv14=>
    (rem (x8 (v14+s12)) v10.1).bind λv15=>
    (ix a0 v15).bind λv16=>
    if (v16.State==0) then
     some (.inr (.inr ()))
    else
    if ((v16.State==1)&&(v16.Key==a1)) then
     some (.inr (.inl v15))
    else
    some (.inl (x8 (s12+1)))
   else
   some (.inr (.inr ()))) 0).bind λe11=>
  match e11 with
  | .inl w=>some w
  | .inr w=>κ8 w)
def L9(a0:List c5)(a1:Int):Option (Int × Int):=
 (Y5 a0 a1).bind λv1=>
 if (decide (v1<0)) then
  some (0,9)
 else
 (ix a0 v1).bind λv2=>
 some (v2.Val,0)
def E2(a0:List c5):Option (List c5):=
 app 24 [] a0
def a1K(a0:List c5)(a1:Int)(a2:c5):Option (List c5):=
 (E2 a0).bind λv1=>
 (ix v1 a1).bind λv2=>
 some (v1.set (a1).toNat a2)
def Y4(a0:List c5)(a1:Int):Option ((List c5) × Int × Int):=
 (Y5 a0 a1).bind λv1=>
 if (decide (v1<0)) then
  some (a0,0,9)
 else
 (a1K a0 v1 (⟨2,0,0⟩:c5)).bind λv2=>
 (ix a0 v1).bind λv3=>
 some (v2,v3.Val,0)
def a8E(a0:List c5)(a1:Int)(a2:Int):Option ((List c5) × Int):=
 (Y5 a0 a1).bind λv1=>
 if (decide (v1≥0)) then
  (a1K a0 v1 (⟨1,a1,a2⟩:c5)).bind λv2=>
  some (v2,0)
 else
 jn (λ(_:Unit)=>
  some (a0,8)) (λκ11=>
  (a4j (a0.length:Int) a1).bind λv13=>
  (lp (S:=Int) (E:=((List c5) × Int) ⊕ Unit) (λ(s15:Int)=>
   if (decide (s15<v13.1)) then
    (a0M v13.1 v13.2).bind λv17=>
    (rem (x8 (v17+s15)) v13.1).bind λv18=>
    (ix a0 v18).bind λv19=>
    if (v19.State != 1) then
     (a1K a0 v18 (⟨1,a1,a2⟩:c5)).bind λv20=>
     some (.inr (.inl (v20,0)))
    else
    some (.inl (x8 (s15+1)))
   else
   some (.inr (.inr ()))) 0).bind λe14=>
  match e14 with
  | .inl w=>some w
  | .inr w=>κ11 w)
def U7(a0:List c5)(a1:Int)(a2:Int):Option ((List c5) × Int × Int):=
 if (a1==0) then
  some (a0,0,2)
 else
 (L9 a0 a1).bind λv1=>
 if (a2==0) then
  (Y4 a0 a1).bind λv2=>
  some (v2.1,v1.1,0)
 else
 (a8E a0 a1 a2).bind λv3=>
 if (v3.2 != 0) then
  some (a0,0,v3.2)
 else
 some (v3.1,v1.1,0)
def W8(a0:I6)(a1:b7):Option b7:=
 some (⟨a1.S,a1.Roots,a1.a8,a0.t,a1.Q⟩:b7)
def J8(a0:b7)(a1:Int)(a2:Int)(a3:I6):Option b7:=
 (a0p a0 a2).bind λv1=>
 (W8 a3 v1).bind λv2=>
 (D3 v2 a1).bind λv3=>
 some v3
def a4k(a0:b7)(a1:Int)(a2:Int):Option (b7 × Int):=
 if (a1==0) then
  some (a0,2)
 else
 (L2 a0 a1).bind λv1=>
 (u4 ((!v1)==false) false (L2 a0 a2)).bind λv2=>
 if ((!v1)||(!v2)) then
  some (a0,3)
 else
 (U7 a0.T a1 a2).bind λv3=>
 if (v3.2.2 != 0) then
  some (a0,v3.2.2)
 else
 (J8 a0 v3.2.1 a2 (⟨v3.1⟩:I6)).bind λv4=>
 some (v4,0)
def a0h(a0:s7):Option (b7 × Int):=
 (M1 a0.x a0.o.A).bind λv1=>
 if (v1.2 != 0) then
  some (a0.x,v1.2)
 else
 (L4 a0.x a0.o.B).bind λv2=>
 (a4k a0.x v1.1 v2).bind λv3=>
 some (v3.1,v3.2)
def b2N(a0:List c5)(a1:Int):Option (Int × Int):=
 (L9 a0 a1).bind λv1=>
 some (v1.1,v1.2)
def a0P(a0:s7):Option (b7 × Int):=
 (M1 a0.x a0.o.B).bind λv1=>
 if (v1.2 != 0) then
  some (a0.x,v1.2)
 else
 (b2N a0.x.T v1.1).bind λv2=>
 (C3 a0 v2.1 v2.2).bind λv3=>
 some (v3.1,v3.2)
def P4(a0:s7):Option (b7 × Int):=
 some (a0.x,0)
def b4m(f:Fv)(a0:s7):Option (b7 × Int):=
 if f=some 151 then U1 a0 else
 if f=some 152 then I9 a0 else
 if f=some 153 then a0f a0 else
 if f=some 154 then a0g a0 else
 if f=some 155 then W9 a0 else
 if f=some 156 then U2 a0 else
 if f=some 157 then X8 a0 else
 if f=some 158 then a0h a0 else
 if f=some 159 then a0P a0 else
 if f=some 160 then P4 a0 else
 none
def a1c(a0:Int):Option Bool:=
 some (a0 != a0)
def a3F(a0:Int)(a1:Int):Option Int:=
 (a1c a0).bind λv1=>
 (a1c a1).bind λv2=>
 if v1 then
  if v2 then
   some 0
  else
  some (-1)
 else
 if v2 then
  some 1
 else
 if (decide (a0<a1)) then
  some (-1)
 else
 if (decide (a0 > a1)) then
  some 1
 else
 some 0
def a4g(a0:Int)(a1:Int)(a2:List (Int × Int)):Option Int:=
 (a3F ((C0 a2 a0).getD (0:Int)) ((C0 a2 a1).getD (0:Int))).bind λv1=>
 some v1
def E3(a0:a7):Option (List Int):=
 jn (λ((j18,j19):(List (Int × Int)) × (List Int))=>
  (b3j (λp q=>a4g p q j18) j19).bind λv21=>
  some v21) (λκ17=>
  (lp (S:=Int × (List (Int × Int)) × (List Int)) (E:=((List (Int × Int)) × (List Int))) (λ((s23,s24,s25):Int × (List (Int × Int)) × (List Int))=>
   if (decide (s23<(a0.S.a8.length:Int))) then
    jn (λ((j32,j33):(List (Int × Int)) × (List Int))=>
     some (.inl (x8 (s23+1),j32,j33))) (λκ31=>
     (ix a0.S.a8 s23).bind λv35=>
     if (v35.State==1) then
      (a1J s23 v35.Gen).bind λv36=>
      (app 8 s25 [v36]).bind λv37=>
      κ31 ((s6 s24 v36 v35.Val.Serial),v37)
     else
     κ31 (s24,s25))
   else
   some (.inr (s24,s25))) (0,[],[])).bind λe22=>
  κ17 e22)
def a1Q(a0:b7):Option (List Int):=
 jn (λ(j16:List Int)=>
  some j16) (λκ15=>
  (E3 a0.S).bind λv17=>
  (lp (S:=Int × (List Int)) (E:=(List Int)) (λ((s19,s20):Int × (List Int))=>
   if (decide (s19<(v17.length:Int))) then
    jn (λ(j27:List Int)=>
     some (.inl (x8 (s19+1),j27))) (λκ26=>
     (ix v17 s19).bind λv28=>
     (y9 a0.S v28).bind λv29=>
     if (v29.1.Strong==0) then
      (app 8 s20 [v28]).bind λv30=>
      κ26 v30
     else
     κ26 s20)
   else
   some (.inr s20)) (0,[])).bind λe18=>
  κ15 e18)
def M2(a0:m9):Option Bool:=
 some ((decide (a0.Prog≥0))&&(!a0.Started))
def J4(a0:g5):Option Int:=
 some (a0.L.length:Int)
def F7(a0:List k9)(a1:Int)(a2:Int):Option (List k9):=
 (cut a0 a1 a2).bind λv1=>
 some v1
def Q9(a0:g5)(a1:k9):Option (g5 × Int):=
 (J4 a0).bind λv1=>
 if (decide (v1≥a0.Cap)) then
  some (a0,4)
 else
 (F7 a0.L 0 v1).bind λv2=>
 (app 24 v2 [a1]).bind λv3=>
 some ((⟨v3,a0.Cap⟩:g5),0)
def a9e(a0:g5)(a1:k9):Option (g5 × Int):=
 (Q9 a0 a1).bind λv1=>
 some (v1.1,v1.2)
def T4(a0:b7)(a1:Int):Option b7:=
 (y9 a0.S a1).bind λv1=>
 (u4 ((v1.2 != 0)==false) false (M2 v1.1)).bind λv2=>
 if ((v1.2 != 0)||(!v2)) then
  some a0
 else
 (K6 a0.S a1 (⟨v1.1.Serial,v1.1.Strong,v1.1.Weak,v1.1.Prog,true,v1.1.Fields⟩:m9)).bind λv3=>
 (a9e a0.Q (⟨1,a1,v1.1.Prog⟩:k9)).bind λv4=>
 (a0p (⟨v3.1,a0.Roots,a0.a8,a0.T,v4.1⟩:b7) a1).bind λv5=>
 some v5
def V9(a0:b7)(a1:List Int):Option (List Int):=
 jn (λ(j18:List Int)=>
  some j18) (λκ17=>
  (lp (S:=Int × (List (Int × Bool)) × (List Int)) (E:=(List Int)) (λ((s20,s21,s22):Int × (List (Int × Bool)) × (List Int))=>
   if (decide (s20<(a1.length:Int))) then
    jn (λ((j29,j30):(List Int) × (List (Int × Bool)))=>
     some (.inl (x8 (s20+1),j30,j29))) (λκ28=>
     (ix a1 s20).bind λv32=>
     (y9 a0.S v32).bind λv33=>
     if ((v33.2==0)==true) then
      if (!((C0 s21 v32).getD (false:Bool))) then
       (app 8 s22 [v32]).bind λv34=>
       κ28 (v34,(s6 s21 v32 true))
      else
      κ28 (s22,s21)
     else
     κ28 (s22,s21))
   else
   some (.inr s22)) (0,[],[])).bind λe19=>
  κ17 e19)
def R4(a0:List Int)(a1:Int):Option Int:=
 jn (λ(_:Unit)=>
  some (-1)) (λκ5=>
  (lp (S:=Int) (E:=Int ⊕ Unit) (λ(s8:Int)=>
   if (decide (s8<(a0.length:Int))) then
    (ix a0 s8).bind λv10=>
    if (a1==v10) then
     some (.inr (.inl s8))
    else
    some (.inl (x8 (s8+1)))
   else
   some (.inr (.inr ()))) 0).bind λe7=>
  match e7 with
  | .inl w=>some w
  | .inr w=>κ5 w)
def F3(a0:List Int)(a1:Int):Option Bool:=
 (R4 a0 a1).bind λv1=>
 some (decide (v1≥0))
def a0Y(a0:g6)(a1:List Int):Option Bool:=
 (u4 ((a0.Intact&&(a0.Target != 0))==true) false (F3 a1 a0.Target)).bind λv1=>
 some ((a0.Intact&&(a0.Target != 0))&&v1)
def K0(a0:List g6)(a1:List Int):Option (List Int):=
 jn (λ(j15:List Int)=>
  some j15) (λκ14=>
  (lp (S:=Int × (List Int)) (E:=(List Int)) (λ((s17,s18):Int × (List Int))=>
   if (decide (s17<(a0.length:Int))) then
    jn (λ(j25:List Int)=>
     some (.inl (x8 (s17+1),j25))) (λκ24=>
     (ix a0 s17).bind λv26=>
     (a0Y v26 a1).bind λv27=>
     if v27 then
      (app 8 s18 [s17]).bind λv28=>
      κ24 v28
     else
     κ24 s18)
   else
   some (.inr s18)) (0,[])).bind λe16=>
  κ14 e16)
def a41(a0:List g6)(a1:List Int):Option ((List g6) × (List Int)):=
 (K0 a0 a1).bind λv1=>
 (a0G a0).bind λv2=>
 jn (λ((j22,j23):(List Int) × (List g6))=>
  some (j23,j22)) (λκ21=>
  (lp (S:=Int × (List g6) × (List Int)) (E:=((List Int) × (List g6))) (λ((s26,s27,s28):Int × (List g6) × (List Int))=>
   if (decide (s26<(v1.length:Int))) then
    jn (λ((j36,j37):(List Int) × (List g6))=>
     some (.inl (x8 (s26+1),j37,j36))) (λκ35=>
     (ix v1 s26).bind λv39=>
     (ix s27 v39).bind λv40=>
     (ix (s27.set (v39).toNat (⟨v40.Target,false,v40.Call⟩:g6)) v39).bind λv41=>
     if (decide (v41.Call≥0)) then
      (app 8 s28 [v39]).bind λv42=>
      κ35 (v42,(s27.set (v39).toNat (⟨v40.Target,false,v40.Call⟩:g6)))
     else
     κ35 (s28,(s27.set (v39).toNat (⟨v40.Target,false,v40.Call⟩:g6))))
   else
   some (.inr (s28,s27))) (0,v2,[])).bind λe25=>
  κ21 e25)
def a2o(a0:b7)(a1:List Int):Option b7:=
 (a41 a0.a8 a1).bind λv1=>
 jn (λ(j11:g5)=>
  some (⟨a0.S,a0.Roots,v1.1,a0.T,j11⟩:b7)) (λκ10=>
  (lp (S:=Int × g5) (E:=g5) (λ((s13,s14):Int × g5)=>
   if (decide (s13<(v1.2.length:Int))) then
    (ix v1.2 s13).bind λv17=>
    (ix v1.1 v17).bind λv18=>
    (a9e s14 (⟨2,v17,v18.Call⟩:k9)).bind λv19=>
    some (.inl (x8 (s13+1),v19.1))
   else
   some (.inr s14)) (0,a0.Q)).bind λe12=>
  κ10 e12)
def a9U(a0:List Int):Option (List Int):=
 some a0
def a4t(a0:List Int):Option (List Int):=
 jn (λ(j10:List Int)=>
  some j10) (λκ9=>
  (a9U a0).bind λv11=>
  (lp (S:=Int × (List Int)) (E:=(List Int)) (λ((s13,s14):Int × (List Int))=>
   if (decide (s13<(v11.length:Int))) then
    (ix v11 s13).bind λv17=>
    if ((v17 != 0)==true) then
     (app 8 s14 [v17]).bind λv18=>
     some (.inl (x8 (s13+1),v18))
    else
    some (.inl (x8 (s13+1),s14))
   else
   some (.inr s14)) (0,[])).bind λe12=>
  κ9 e12)
def Y2(a0:List c5)(a1:List Int):Option ((List c5) × (List Int)):=
 jn (λ((j18,j19):(List c5) × (List Int))=>
  some (j18,j19)) (λκ17=>
  (lp (S:=(List c5) × Int × (List Int)) (E:=((List c5) × (List Int))) (λ((s22,s23,s24):(List c5) × Int × (List Int))=>
   if (decide (s23<(a1.length:Int))) then
    jn (λ((j31,j32):(List c5) × (List Int))=>
     some (.inl (j31,x8 (s23+1),j32))) (λκ30=>
     (ix a1 s23).bind λv34=>
     (Y4 s22 v34).bind λv35=>
     if (v35.2.2==0) then
      (app 8 s24 [v35.2.1]).bind λv36=>
      κ30 (v35.1,v36)
     else
     κ30 (s22,s24))
   else
   some (.inr (s22,s24))) (a0,0,[])).bind λe21=>
  κ17 e21)
def U3(a0:e6)(a1:Int):Option (e6 × Int):=
 (E1 a0 a1).bind λv1=>
 if (v1.2 != 0) then
  some (a0,v1.2)
 else
 (a3o a1).bind λv2=>
 (a4E a1).bind λv3=>
 (D5 a0 v2 (⟨2,v3,v1.1⟩:b9)).bind λv4=>
 some (v4,0)
def Z0(a0:b7)(a1:Int):Option b7:=
 (y9 a0.S a1).bind λv1=>
 (K6 a0.S a1 (⟨v1.1.Serial,0,v1.1.Weak,v1.1.Prog,v1.1.Started,[]⟩:m9)).bind λv2=>
 (U3 v2.1.S a1).bind λv3=>
 if (v1.1.Weak==0) then
  (O1 v3.1 a1).bind λv4=>
  some (⟨⟨v4.1,v2.1.Serial⟩,a0.Roots,a0.a8,a0.T,a0.Q⟩:b7)
 else
 some (⟨⟨v3.1,v2.1.Serial⟩,a0.Roots,a0.a8,a0.T,a0.Q⟩:b7)
def a0C(a0:b7)(a1:List Int):Option b7:=
 (V9 a0 a1).bind λv1=>
 (a2o a0 v1).bind λv2=>
 jn (λ(j13:List Int)=>
  (Y2 v2.T v1).bind λv14=>
  (app 8 j13 v14.2).bind λv15=>
  jn (λ(j24:b7)=>
   jn (λ(j33:b7)=>
    some j33) (λκ32=>
    (lp (S:=Int × b7) (E:=b7) (λ((s35,s36):Int × b7)=>
     if (decide (s35<(v15.length:Int))) then
      (ix v15 s35).bind λv39=>
      (D3 s36 v39).bind λv40=>
      some (.inl (x8 (s35+1),v40))
     else
     some (.inr s36)) (0,j24)).bind λe34=>
    κ32 e34)) (λκ23=>
   (lp (S:=Int × b7) (E:=b7) (λ((s42,s43):Int × b7)=>
    if (decide (s42<(v1.length:Int))) then
     (ix v1 s42).bind λv46=>
     (Z0 s43 v46).bind λv47=>
     some (.inl (x8 (s42+1),v47))
    else
    some (.inr s43)) (0,(⟨v2.S,v2.Roots,v2.a8,v14.1,v2.Q⟩:b7))).bind λe41=>
   κ23 e41)) (λκ12=>
  (lp (S:=Int × (List Int)) (E:=(List Int)) (λ((s49,s50):Int × (List Int))=>
   if (decide (s49<(v1.length:Int))) then
    (ix v1 s49).bind λv53=>
    (y9 v2.S v53).bind λv54=>
    (a4t v54.1.Fields).bind λv55=>
    (app 8 s50 v55).bind λv56=>
    some (.inl (x8 (s49+1),v56))
   else
   some (.inr s50)) (0,[])).bind λe48=>
  κ12 e48)
def O8(a0:b7):Option b7:=
 (lp (S:=b7) (E:=b7) (λ(s2:b7)=>
  (a1Q s2).bind λv4=>
  if ((v4.length:Int)==0) then
   some (.inr s2)
  else
  (ix v4 0).bind λv5=>
  (y9 s2.S v5).bind λv6=>
  (M2 v6.1).bind λv7=>
  if v7 then
   (T4 s2 v5).bind λv8=>
   some (.inl v8)
  else
  (cut v4 0 1).bind λv9=>
  (a0C s2 v9).bind λv10=>
  some (.inl v10)) a0).bind λe1=>
 some e1
def a0q(a0:b7)(a1:Int):Option Int:=
 (y9 a0.S a1).bind λv1=>
 some v1.1.Serial
def a1y(a0:b7)(a1:Int):Option Int:=
 (L4 a0 a1).bind λv1=>
 (a0q a0 v1).bind λv2=>
 some v2
def V3(a0:b7)(a1:b7)(a2:g8):Option Int:=
 if (a2.Kind==5) then
  (a1y a0 a2.C).bind λv1=>
  some v1
 else
 jn (λ(j3:Bool)=>
  if j3 then
   (a1y a0 a2.B).bind λv4=>
   some v4
  else
  if (a2.Kind==10) then
   (L4 a0 a2.A).bind λv5=>
   (L4 a0 a2.B).bind λv6=>
   if (v5==v6) then
    some 1
   else
   some 0
  else
  (a1y a1 a2.A).bind λv7=>
  some v7) (λκ2=>
  if (a2.Kind==6) then
   κ2 (a2.Kind==6)
  else
  κ2 (a2.Kind==8))
def x6(a0:b7)(a1:g8):Option (b7 × Int × Int):=
 (S0 a1).bind λv1=>
 if (v1 != 0) then
  some (a0,0,v1)
 else
 (a3d).bind λv2=>
 if (!((C0 v2 a1.Kind).isSome)) then
  some (a0,0,14)
 else
 (b4m ((C0 v2 a1.Kind).getD (none:Fv)) (⟨a0,a1⟩:s7)).bind λv3=>
 if (v3.2 != 0) then
  some (a0,0,v3.2)
 else
 (O8 v3.1).bind λv5=>
 (V3 v3.1 v5 a1).bind λv6=>
 some (v5,v6,0)
def a7D(a0:a7):Option a7:=
 some a0
def a6E(a0:a7)(a1:Int):Option (List Int):=
 (y9 a0 a1).bind λv1=>
 (a4t v1.1.Fields).bind λv2=>
 some v2
def b4B(a0:a7)(a1:Int):Option Int:=
 jn (λ(j31:Int)=>
  some j31) (λκ30=>
  (a7D a0).bind λv32=>
  (E3 v32).bind λv33=>
  (lp (S:=Int × Int) (E:=Int) (λ((s35,s36):Int × Int)=>
   if (decide (s35<(v33.length:Int))) then
    jn (λ(j50:Int)=>
     some (.inl (x8 (s35+1),j50))) (λκ49=>
     (ix v33 s35).bind λv51=>
     (a6E v32 v51).bind λv52=>
     (lp (S:=Int × Int) (E:=Int) (λ((s54,s55):Int × Int)=>
      if (decide (s54<(v52.length:Int))) then
       (ix v52 s54).bind λv58=>
       jn (λ(j60:Int)=>
        some (.inl (x8 (s54+1),j60))) (λκ59=>
        if (v58==a1) then
         κ59 (x8 (s55+1))
        else
        κ59 s55)
      else
      some (.inr s55)) (0,s36)).bind λe53=>
     κ49 e53)
   else
   some (.inr s36)) (0,0)).bind λe34=>
  κ30 e34)
def a1H(a0:List c5):Option (List c5):=
 some a0
def a6f(a0:List c5):Option (List Int):=
 jn (λ(j13:List Int)=>
  some j13) (λκ12=>
  (lp (S:=Int × (List Int)) (E:=(List Int)) (λ((s15,s16):Int × (List Int))=>
   if (decide (s15<(a0.length:Int))) then
    jn (λ(j22:List Int)=>
     some (.inl (x8 (s15+1),j22))) (λκ21=>
     (ix a0 s15).bind λv23=>
     if (v23.State==1) then
      (app 8 s16 [v23.Key]).bind λv24=>
      κ21 v24
     else
     κ21 s16)
   else
   some (.inr s16)) (0,[])).bind λe14=>
  κ12 e14)
def a3a(a0:o0)(a1:Int):Option Bool:=
 some ((a1 != 0)&&(a0.Val==a1))
def B4(a0:List c5)(a1:Int):Option (List o0):=
 jn (λ(j16:List o0)=>
  some j16) (λκ15=>
  (a6f a0).bind λv17=>
  (lp (S:=Int × (List o0)) (E:=(List o0)) (λ((s19,s20):Int × (List o0))=>
   if (decide (s19<(v17.length:Int))) then
    (ix v17 s19).bind λv23=>
    (L9 a0 v23).bind λv24=>
    jn (λ(j28:List o0)=>
     some (.inl (x8 (s19+1),j28))) (λκ27=>
     (a3a (⟨v23,v24.1⟩:o0) a1).bind λv29=>
     if v29 then
      (app 16 s20 [(⟨v23,v24.1⟩:o0)]).bind λv30=>
      κ27 v30
     else
     κ27 s20)
   else
   some (.inr s20)) (0,[])).bind λe18=>
  κ15 e18)
def a5l(a0:List c5)(a1:Int):Option Int:=
 (a1H a0).bind λv1=>
 (B4 v1 a1).bind λv2=>
 some (v2.length:Int)
def a5I(a0:a7)(a1:List c5)(a2:Int):Option Int:=
 (b4B a0 a2).bind λv1=>
 (a5l a1 a2).bind λv2=>
 some (x8 (v1+v2))
def a7Q(a0:a7)(a1:List c5)(a2:Int):Option Int:=
 (y9 a0 a2).bind λv1=>
 if (v1.2 != 0) then
  some 0
 else
 (a5I a0 a1 a2).bind λv2=>
 some (x8 (v1.1.Strong-v2))
def a8v(a0:Int):Option Bool:=
 (G4 a0).bind λv1=>
 some v1
def a7P(a0:Int)(a1:m9)(a2:a7)(a3:List c5):Option Bool:=
 (a7Q a2 a3 a0).bind λv1=>
 (u4 ((decide (v1 > 0))==false) false (a8v a1.Strong)).bind λv2=>
 some ((decide (v1 > 0))||v2)
def a7O(a0:a7)(a1:List c5):Option (List Int):=
 jn (λ(j36:List Int)=>
  some j36) (λκ35=>
  jn (λ(j54:List Int)=>
   κ35 j54) (λκ53=>
   (E3 a0).bind λv55=>
   (lp (S:=Int × (List Int)) (E:=(List Int)) (λ((s57,s58):Int × (List Int))=>
    if (decide (s57<(v55.length:Int))) then
     jn (λ(j66:List Int)=>
      some (.inl (x8 (s57+1),j66))) (λκ65=>
      (ix v55 s57).bind λv67=>
      (y9 a0 v67).bind λv68=>
      (a7P v67 v68.1 a0 a1).bind λv69=>
      if v69 then
       (app 8 s58 [v67]).bind λv70=>
       κ65 v70
      else
      κ65 s58)
    else
    some (.inr s58)) (0,[])).bind λe56=>
   κ53 e56))
def a3f(a0:Int):Option l5:=
 some (⟨[],a0⟩:l5)
def a0U(a0:a7)(a1:Int):Option Bool:=
 (y9 a0 a1).bind λv1=>
 some (v1.2==0)
def L5(a0:l5):Option Int:=
 some (a0.L.length:Int)
def P6(a0:List Int)(a1:Int)(a2:Int):Option (List Int):=
 (cut a0 a1 a2).bind λv1=>
 some v1
def P5(a0:l5)(a1:Int):Option (l5 × Int):=
 (L5 a0).bind λv1=>
 if (decide (v1≥a0.Cap)) then
  some (a0,4)
 else
 (P6 a0.L 0 v1).bind λv2=>
 (app 8 v2 [a1]).bind λv3=>
 some ((⟨v3,a0.Cap⟩:l5),0)
def a3O(a0:l5)(a1:Int):Option (l5 × (List Int)):=
 (L5 a0).bind λv1=>
 (P6 a0.L 0 (if (if v1<a1 then v1 else a1) > 0 then (if v1<a1 then v1 else a1) else 0)).bind λv2=>
 (P6 a0.L (if (if v1<a1 then v1 else a1) > 0 then (if v1<a1 then v1 else a1) else 0) v1).bind λv3=>
 some ((⟨v3,a0.Cap⟩:l5),v2)
def a1g(a0:l5):Option (l5 × Int × Int):=
 (a3O a0 1).bind λv1=>
 if ((v1.2.length:Int)==0) then
  some (a0,0,10)
 else
 (ix v1.2 0).bind λv2=>
 some (v1.1,v2,0)
def a2l(a0:a7)(a1:List Int):Option (List (Int × Bool)):=
 (E3 a0).bind λv1=>
 (a3f (v1.length:Int)).bind λv2=>
 jn (λ((j20,j21):l5 × (List (Int × Bool)))=>
  jn (λ(j68:List (Int × Bool))=>
   some j68) (λκ67=>
   (lp (S:=l5 × (List (Int × Bool))) (E:=(List (Int × Bool))) (λ((s70,s71):l5 × (List (Int × Bool)))=>
    (L5 s70).bind λv74=>
    if (decide (v74 > 0)) then
     (a1g s70).bind λv75=>
     (a6E a0 v75.2.1).bind λv76=>
     jn (λ((j94,j95):l5 × (List (Int × Bool)))=>
      some (.inl (j94,j95))) (λκ93=>
      (lp (S:=Int × l5 × (List (Int × Bool))) (E:=(l5 × (List (Int × Bool)))) (λ((s98,s99,s100):Int × l5 × (List (Int × Bool)))=>
       if (decide (s98<(v76.length:Int))) then
        jn (λ((j107,j108):l5 × (List (Int × Bool)))=>
         some (.inl (x8 (s98+1),j107,j108))) (λκ106=>
         (ix v76 s98).bind λv110=>
         (a0U a0 v110).bind λv111=>
         if (v111==true) then
          if (!((C0 s100 v110).getD (false:Bool))) then
           (P5 s99 v110).bind λv112=>
           κ106 (v112.1,(s6 s100 v110 true))
          else
          κ106 (s99,s100)
         else
         κ106 (s99,s100))
       else
       some (.inr (s99,s100))) (0,v75.1,s71)).bind λe97=>
      κ93 e97)
    else
    some (.inr s71)) (j20,j21)).bind λe69=>
   κ67 e69)) (λκ19=>
  (lp (S:=Int × l5 × (List (Int × Bool))) (E:=(l5 × (List (Int × Bool)))) (λ((s114,s115,s116):Int × l5 × (List (Int × Bool)))=>
   if (decide (s114<(a1.length:Int))) then
    jn (λ((j123,j124):l5 × (List (Int × Bool)))=>
     some (.inl (x8 (s114+1),j123,j124))) (λκ122=>
     (ix a1 s114).bind λv126=>
     (a0U a0 v126).bind λv127=>
     if (v127==true) then
      if (!((C0 s116 v126).getD (false:Bool))) then
       (P5 s115 v126).bind λv128=>
       κ122 (v128.1,(s6 s116 v126 true))
      else
      κ122 (s115,s116)
     else
     κ122 (s115,s116))
   else
   some (.inr (s115,s116))) (0,v2,[])).bind λe113=>
  κ19 e113)
def a4b(a0:Int)(a1:List (Int × Bool)):Option Bool:=
 some ((C0 a1 a0).getD (false:Bool))
def T2(a0:a7)(a1:List (Int × Bool)):Option (List Int):=
 jn (λ(j16:List Int)=>
  some j16) (λκ15=>
  (E3 a0).bind λv17=>
  (lp (S:=Int × (List Int)) (E:=(List Int)) (λ((s19,s20):Int × (List Int))=>
   if (decide (s19<(v17.length:Int))) then
    jn (λ(j27:List Int)=>
     some (.inl (x8 (s19+1),j27))) (λκ26=>
     (ix v17 s19).bind λv28=>
     (a4b v28 a1).bind λv29=>
     if v29 then
      (app 8 s20 [v28]).bind λv30=>
      κ26 v30
     else
     κ26 s20)
   else
   some (.inr s20)) (0,[])).bind λe18=>
  κ15 e18)
def a4P(a0:a7)(a1:List Int):Option (List Int):=
 (a2l a0 a1).bind λv1=>
 (T2 a0 v1).bind λv2=>
 some v2
def a3b(a0:o0):Option Bool:=
 some true
def B5(a0:List c5):Option (List o0):=
 jn (λ(j16:List o0)=>
  some j16) (λκ15=>
  (a6f a0).bind λv17=>
  (lp (S:=Int × (List o0)) (E:=(List o0)) (λ((s19,s20):Int × (List o0))=>
   if (decide (s19<(v17.length:Int))) then
    (ix v17 s19).bind λv23=>
    (L9 a0 v23).bind λv24=>
    jn (λ(j28:List o0)=>
     some (.inl (x8 (s19+1),j28))) (λκ27=>
     (a3b (⟨v23,v24.1⟩:o0)).bind λv29=>
     if v29 then
      (app 16 s20 [(⟨v23,v24.1⟩:o0)]).bind λv30=>
      κ27 v30
     else
     κ27 s20)
   else
   some (.inr s20)) (0,[])).bind λe18=>
  κ15 e18)
def a5m(a0:List c5):Option (List o0):=
 (a1H a0).bind λv1=>
 (B5 v1).bind λv2=>
 some v2
def a4C(a0:Int)(a1:a7):Option Bool:=
 (y9 a1 a0).bind λv1=>
 some (v1.2==0)
def b1l(a0:a7)(a1:List c5)(a2:List Int):Option (List Int):=
 jn (λ(j20:List Int)=>
  some j20) (λκ19=>
  (a5m a1).bind λv21=>
  (lp (S:=Int × (List Int)) (E:=(List Int)) (λ((s23,s24):Int × (List Int))=>
   if (decide (s23<(v21.length:Int))) then
    jn (λ(j33:List Int)=>
     some (.inl (x8 (s23+1),j33))) (λκ32=>
     (ix v21 s23).bind λv34=>
     (F3 a2 v34.Key).bind λv35=>
     (u4 (v35==true) false (a4C v34.Key a0)).bind λv36=>
     (u4 ((v35&&v36)==true) false (a4C v34.Val a0)).bind λv37=>
     if ((v35&&v36)&&v37) then
      (app 8 s24 [v34.Val]).bind λv38=>
      κ32 v38
     else
     κ32 s24)
   else
   some (.inr s24)) (0,[])).bind λe22=>
  κ19 e22)
def a9x(a0:a7)(a1:List c5)(a2:List Int):Option ((List Int) × Int):=
 (a4P a0 a2).bind λv1=>
 (lp (S:=(List Int) × Int) (E:=((List Int) × Int)) (λ((s3,s4):(List Int) × Int)=>
  (b1l a0 a1 s3).bind λv7=>
  jn (λ(_:Unit)=>
   some (.inr (s3,s4))) (λκ15=>
   (lp (S:=Int) (E:=((List Int) × Int) ⊕ Unit) (λ(s18:Int)=>
    if (decide (s18<(v7.length:Int))) then
     (ix v7 s18).bind λv20=>
     (F3 s3 v20).bind λv21=>
     if (!v21) then
      (app 8 v7 s3).bind λv22=>
      (a4P a0 v22).bind λv23=>
      some (.inr (.inl (v23,x8 (s4+1))))
     else
     some (.inl (x8 (s18+1)))
    else
    some (.inr (.inr ()))) 0).bind λe17=>
   match e17 with
   | .inl w=>some (.inl w)
   | .inr w=>κ15 w)) (v1,0)).bind λe2=>
 some e2
def b1k(a0:a7)(a1:List c5)(a2:List Int):Option (List Int):=
 (a9x a0 a1 a2).bind λv1=>
 some v1.1
def a4c(a0:Int)(a1:List (Int × Bool)):Option Bool:=
 some (!((C0 a1 a0).getD (false:Bool)))
def T3(a0:a7)(a1:List (Int × Bool)):Option (List Int):=
 jn (λ(j16:List Int)=>
  some j16) (λκ15=>
  (E3 a0).bind λv17=>
  (lp (S:=Int × (List Int)) (E:=(List Int)) (λ((s19,s20):Int × (List Int))=>
   if (decide (s19<(v17.length:Int))) then
    jn (λ(j27:List Int)=>
     some (.inl (x8 (s19+1),j27))) (λκ26=>
     (ix v17 s19).bind λv28=>
     (a4c v28 a1).bind λv29=>
     if v29 then
      (app 8 s20 [v28]).bind λv30=>
      κ26 v30
     else
     κ26 s20)
   else
   some (.inr s20)) (0,[])).bind λe18=>
  κ15 e18)
def a7C(a0:a7)(a1:List Int):Option (List Int):=
 (a2l a0 a1).bind λv1=>
 (T3 a0 v1).bind λv2=>
 some v2
def a8z(a0:a7)(a1:List c5)(a2:List Int):Option (List Int):=
 (b1k a0 a1 a2).bind λv1=>
 (a7C a0 v1).bind λv2=>
 some v2
def a1m(a0:a7)(a1:List c5):Option (List Int):=
 (a7O a0 a1).bind λv1=>
 (a8z a0 a1 v1).bind λv2=>
 some v2
def N5(a0:b7):Option (List Int):=
 (a1m a0.S a0.T).bind λv1=>
 some v1
def a3G(a0:Int)(a1:b7):Option Bool:=
 (y9 a1.S a0).bind λv1=>
 some ((decide (v1.1.Prog≥0))&&(!v1.1.Started))
def H9(a0:List Int)(a1:b7):Option (List Int):=
 jn (λ(j15:List Int)=>
  some j15) (λκ14=>
  (lp (S:=Int × (List Int)) (E:=(List Int)) (λ((s17,s18):Int × (List Int))=>
   if (decide (s17<(a0.length:Int))) then
    jn (λ(j25:List Int)=>
     some (.inl (x8 (s17+1),j25))) (λκ24=>
     (ix a0 s17).bind λv26=>
     (a3G v26 a1).bind λv27=>
     if v27 then
      (app 8 s18 [v26]).bind λv28=>
      κ24 v28
     else
     κ24 s18)
   else
   some (.inr s18)) (0,[])).bind λe16=>
  κ14 e16)
def a27(a0:b7):Option (List Int):=
 (N5 a0).bind λv1=>
 (H9 v1 a0).bind λv2=>
 some v2
def X6(a0:b7):Option (b7 × Int × Int):=
 (a27 a0).bind λv1=>
 jn (λ(j10:b7)=>
  if (decide ((v1.length:Int) > 0)) then
   some (j10,(v1.length:Int),0)
  else
  (N5 j10).bind λv11=>
  (a0C j10 v11).bind λv12=>
  (O8 v12).bind λv13=>
  (E3 j10.S).bind λv14=>
  (E3 v13.S).bind λv15=>
  some (v13,0,x8 ((v14.length:Int)-(v15.length:Int)))) (λκ9=>
  (lp (S:=Int × b7) (E:=b7) (λ((s17,s18):Int × b7)=>
   if (decide (s17<(v1.length:Int))) then
    (ix v1 s17).bind λv21=>
    (T4 s18 v21).bind λv22=>
    some (.inl (x8 (s17+1),v22))
   else
   some (.inr s18)) (0,a0)).bind λe16=>
  κ9 e16)
def a0b(a0:g5)(a1:Int):Option (g5 × (List k9)):=
 (J4 a0).bind λv1=>
 (F7 a0.L 0 (if (if v1<a1 then v1 else a1) > 0 then (if v1<a1 then v1 else a1) else 0)).bind λv2=>
 (F7 a0.L (if (if v1<a1 then v1 else a1) > 0 then (if v1<a1 then v1 else a1) else 0) v1).bind λv3=>
 some ((⟨v3,a0.Cap⟩:g5),v2)
def a06(a0:g5):Option (g5 × k9 × Int):=
 (a0b a0 1).bind λv1=>
 if ((v1.2.length:Int)==0) then
  some (a0,(⟨0,0,0⟩:k9),10)
 else
 (ix v1.2 0).bind λv2=>
 some (v1.1,v2,0)
def a1S(a0:g5):Option (g5 × k9 × Int):=
 (a06 a0).bind λv1=>
 some (v1.1,v1.2.1,v1.2.2)
def a1G(a0:b7):Option Bool:=
 (a1S a0.Q).bind λv1=>
 some (v1.2.2 != 0)
def a4A(a0:List (List g8))(a1:Int):Option (List g8):=
 if ((decide (a1<0))||(decide (a1≥(a0.length:Int)))) then
  some []
 else
 (ix a0 a1).bind λv1=>
 some v1
def a67(a0:List (List g8))(a1:k9):Option Int:=
 (a4A a0 a1.Prog).bind λv1=>
 some (x8 (1+(v1.length:Int)))
def a3q(a0:b7)(a1:List g8):Option (b7 × (List Int)):=
 jn (λ((j11,j12):b7 × (List Int))=>
  some (j11,j12)) (λκ10=>
  (lp (S:=Int × b7 × (List Int)) (E:=(b7 × (List Int))) (λ((s15,s16,s17):Int × b7 × (List Int))=>
   if (decide (s15<(a1.length:Int))) then
    (ix a1 s15).bind λv20=>
    (x6 s16 v20).bind λv21=>
    (app 8 s17 [v21.2.1]).bind λv22=>
    some (.inl (x8 (s15+1),v21.1,v22))
   else
   some (.inr (s16,s17))) (0,a0,[])).bind λe14=>
  κ10 e14)
def a68(a0:b7)(a1:List (List g8)):Option (b7 × k9 × Int):=
 (a1S a0.Q).bind λv1=>
 if (v1.2.2 != 0) then
  some (a0,(⟨0,0,0⟩:k9),v1.2.2)
 else
 jn (λ(j6:b7)=>
  (a4A a1 v1.2.1.Prog).bind λv7=>
  (a3q j6 v7).bind λv8=>
  if (v1.2.1.Kind==1) then
   (a0N v8.1 5 0).bind λv9=>
   (O8 v9.1).bind λv10=>
   some (v10,v1.2.1,0)
  else
  some (v8.1,v1.2.1,0)) (λκ5=>
  if (v1.2.1.Kind==1) then
   (a0N (⟨a0.S,a0.Roots,a0.a8,a0.T,v1.1⟩:b7) 5 v1.2.1.At).bind λv11=>
   (D3 v11.1 v1.2.1.At).bind λv12=>
   (O8 v12).bind λv13=>
   κ5 v13
  else
  κ5 (⟨a0.S,a0.Roots,a0.a8,a0.T,v1.1⟩:b7))
def a3l(a0:b7)(a1:List (List g8))(a2:Int):Option (b7 × Int × Int × Int):=
 jn (λ((j14,j15,j16):Int × Int × b7)=>
  (a1G j16).bind λv18=>
  if (!v18) then
   some (j16,j14,j15,12)
  else
  some (j16,j14,j15,0)) (λκ13=>
  (lp (S:=Int × b7 × Int × Int × b7) (E:=(Int × Int × b7)) (λ((s20,s21,s22,s23,s24):Int × b7 × Int × Int × b7)=>
   (a1G s21).bind λv27=>
   if (!v27) then
    (a1S s21.Q).bind λv28=>
    (a67 a1 v28.2.1).bind λv29=>
    if (decide (v29 > s20)) then
     some (.inr (s22,s23,s24))
    else
    (a68 s21 a1).bind λv30=>
    some (.inl (x8 (s20-v29),v30.1,x8 (s22+1),x8 (s20-v29),v30.1))
   else
   some (.inr (s22,s23,s24))) (a2,a0,0,a2,a0)).bind λe19=>
  κ13 e19)
def a9v(a0:p6)(a1:List Int):Option (p6 × l6):=
 (W3 a1).bind λv1=>
 if (v1.2 != 0) then
  some (a0,(⟨0,v1.2⟩:l6))
 else
 (a69 v1.1).bind λv2=>
 if (decide (v2.t=132)) then
  (x6 a0.X (⟨(ifG v2 132 0),(ifG v2 132 1),(ifG v2 132 2),(ifG v2 132 3)⟩:g8)).bind λv3=>
  some ((⟨v3.1,a0.Progs⟩:p6),(⟨v3.2.1,v3.2.2⟩:l6))
 else
 if (decide (v2.t=136)) then
  (X6 a0.X).bind λv4=>
  some ((⟨v4.1,a0.Progs⟩:p6),(⟨x8 (v4.2.2-v4.2.1),0⟩:l6))
 else
 if (decide (v2.t=140)) then
  (a3l a0.X a0.Progs (ifG v2 140 0)).bind λv5=>
  some ((⟨v5.1,a0.Progs⟩:p6),(⟨v5.2.1,v5.2.2.2⟩:l6))
 else
 some (a0,(⟨0,0⟩:l6))
def a2I(a0:p6)(a1:List (List Int)):Option (p6 × (List l6)):=
 jn (λ((j11,j12):p6 × (List l6))=>
  some (j11,j12)) (λκ10=>
  (lp (S:=Int × p6 × (List l6)) (E:=(p6 × (List l6))) (λ((s15,s16,s17):Int × p6 × (List l6))=>
   if (decide (s15<(a1.length:Int))) then
    (ix a1 s15).bind λv20=>
    (a9v s16 v20).bind λv21=>
    (app 16 s17 [v21.2]).bind λv22=>
    some (.inl (x8 (s15+1),v21.1,v22))
   else
   some (.inr (s16,s17))) (0,a0,[])).bind λe14=>
  κ10 e14)
def R3(a0:e6):Option A4:=
 jn (λ(j9:A4)=>
  some j9) (λκ8=>
  (lp (S:=Int × A4) (E:=A4) (λ((s11,s12):Int × A4)=>
   if (decide (s11<(a0.a8.length:Int))) then
    (ix a0.a8 s11).bind λv15=>
    (A4.ix s12 v15.State).bind λv16=>
    some (.inl (x8 (s11+1),(A4.st s12 v15.State (x8 (v16+1)))))
   else
   some (.inr s12)) (0,(⟨0,0,0,0⟩:A4))).bind λe10=>
  κ8 e10)
def a32(a0:p6):Option A4:=
 (R3 a0.X.S.S).bind λv1=>
 some v1
def a28(a0:b7):Option Bool:=
 (N5 a0).bind λv1=>
 some ((v1.length:Int)==0)
def a31(a0:p6):Option Bool:=
 (a1G a0.X).bind λv1=>
 (u4 (v1==true) false (a28 a0.X)).bind λv2=>
 some (v1&&v2)
def a30(a0:p6):Option (List Int):=
 jn (λ(j11:List Int)=>
  (a9P j11).bind λv12=>
  some v12) (λκ10=>
  (E3 a0.X.S).bind λv13=>
  (lp (S:=Int × (List Int)) (E:=(List Int)) (λ((s15,s16):Int × (List Int))=>
   if (decide (s15<(v13.length:Int))) then
    (ix v13 s15).bind λv19=>
    (a0q a0.X v19).bind λv20=>
    (app 8 s16 [v20]).bind λv21=>
    some (.inl (x8 (s15+1),v21))
   else
   some (.inr s16)) (0,[])).bind λe14=>
  κ10 e14)
def a20:Option Bool:=
 (W7 4 5 8 []).bind λv1=>
 (a2I v1.1 [[1,0,1,(-1)],[5,0,0,0],[3,0,0,0],[11,0,0,0],[11,0,0,0],[12,9,0,0],[2,0],[4,0,1,0]]).bind λv2=>
 (W7 4 5 8 [[(⟨11,0,0,0⟩:g8)]]).bind λv3=>
 (W7 4 5 0 []).bind λv4=>
 (u4 (((((v1.2==0)&&(v3.2==13))&&(v4.2==1))&&((v2.2.length:Int)==8))==true) (⟨0,0⟩:l6) (ix v2.2 0)).bind λv5=>
 (u4 ((((((v1.2==0)&&(v3.2==13))&&(v4.2==1))&&((v2.2.length:Int)==8))&&(v5.V==1))==true) (⟨0,0⟩:l6) (ix v2.2 1)).bind λv6=>
 (u4 (((((((v1.2==0)&&(v3.2==13))&&(v4.2==1))&&((v2.2.length:Int)==8))&&(v5.V==1))&&(v6.V==1))==true) (⟨0,0⟩:l6) (ix v2.2 2)).bind λv7=>
 (u4 ((((((((v1.2==0)&&(v3.2==13))&&(v4.2==1))&&((v2.2.length:Int)==8))&&(v5.V==1))&&(v6.V==1))&&(v7.V==0))==true) (⟨0,0⟩:l6) (ix v2.2 3)).bind λv8=>
 (u4 (((((((((v1.2==0)&&(v3.2==13))&&(v4.2==1))&&((v2.2.length:Int)==8))&&(v5.V==1))&&(v6.V==1))&&(v7.V==0))&&(v8.V==1))==true) (⟨0,0⟩:l6) (ix v2.2 4)).bind λv9=>
 (u4 ((((((((((v1.2==0)&&(v3.2==13))&&(v4.2==1))&&((v2.2.length:Int)==8))&&(v5.V==1))&&(v6.V==1))&&(v7.V==0))&&(v8.V==1))&&(v9.V==0))==true) (⟨0,0⟩:l6) (ix v2.2 5)).bind λv10=>
 (u4 (((((((((((v1.2==0)&&(v3.2==13))&&(v4.2==1))&&((v2.2.length:Int)==8))&&(v5.V==1))&&(v6.V==1))&&(v7.V==0))&&(v8.V==1))&&(v9.V==0))&&((v10.V==0)&&((v10.E==0)&&true)))==true) (⟨0,0⟩:l6) (ix v2.2 6)).bind λv11=>
 (u4 ((((((((((((v1.2==0)&&(v3.2==13))&&(v4.2==1))&&((v2.2.length:Int)==8))&&(v5.V==1))&&(v6.V==1))&&(v7.V==0))&&(v8.V==1))&&(v9.V==0))&&((v10.V==0)&&((v10.E==0)&&true)))&&(v11.E==14))==true) (⟨0,0⟩:l6) (ix v2.2 7)).bind λv12=>
 (u4 (((((((((((((v1.2==0)&&(v3.2==13))&&(v4.2==1))&&((v2.2.length:Int)==8))&&(v5.V==1))&&(v6.V==1))&&(v7.V==0))&&(v8.V==1))&&(v9.V==0))&&((v10.V==0)&&((v10.E==0)&&true)))&&(v11.E==14))&&(v12.E==2))==true) ⟨0,0,0,0⟩ (a32 v2.1)).bind λv13=>
 (u4 ((((((((((((((v1.2==0)&&(v3.2==13))&&(v4.2==1))&&((v2.2.length:Int)==8))&&(v5.V==1))&&(v6.V==1))&&(v7.V==0))&&(v8.V==1))&&(v9.V==0))&&((v10.V==0)&&((v10.E==0)&&true)))&&(v11.E==14))&&(v12.E==2))&&((v13.a==4)&&((v13.b==0)&&((v13.c==0)&&((v13.d==0)&&true)))))==true) false (a31 v2.1)).bind λv14=>
 (u4 (((((((((((((((v1.2==0)&&(v3.2==13))&&(v4.2==1))&&((v2.2.length:Int)==8))&&(v5.V==1))&&(v6.V==1))&&(v7.V==0))&&(v8.V==1))&&(v9.V==0))&&((v10.V==0)&&((v10.E==0)&&true)))&&(v11.E==14))&&(v12.E==2))&&((v13.a==4)&&((v13.b==0)&&((v13.c==0)&&((v13.d==0)&&true)))))&&v14)==true) [] (a30 v2.1)).bind λv15=>
 some (((((((((((((((v1.2==0)&&(v3.2==13))&&(v4.2==1))&&((v2.2.length:Int)==8))&&(v5.V==1))&&(v6.V==1))&&(v7.V==0))&&(v8.V==1))&&(v9.V==0))&&((v10.V==0)&&((v10.E==0)&&true)))&&(v11.E==14))&&(v12.E==2))&&((v13.a==4)&&((v13.b==0)&&((v13.c==0)&&((v13.d==0)&&true)))))&&v14)&&((v15.length:Int)==0))
def b4J(a0:m9):Option C6:=
 some (⟨a0.Serial,a0.Strong,a0.Weak,a0.Prog,a0.Started,a0.Fields⟩:C6)
def b4I(a0:a7):Option k8:=
 jn (λ(j10:List n8)=>
  some (⟨j10,a0.S.Last,a0.Serial⟩:k8)) (λκ9=>
  (lp (S:=Int × (List n8)) (E:=(List n8)) (λ((s12,s13):Int × (List n8))=>
   if (decide (s12<(a0.S.a8.length:Int))) then
    (ix a0.S.a8 s12).bind λv16=>
    (b4J v16.Val).bind λv17=>
    (app 80 s13 [(⟨v16.State,v16.Gen,v17⟩:n8)]).bind λv18=>
    some (.inl (x8 (s12+1),v18))
   else
   some (.inr s13)) (0,[])).bind λe11=>
  κ9 e11)
def a9W(a0:List g6):Option (List m8):=
 jn (λ(j9:List m8)=>
  some j9) (λκ8=>
  (lp (S:=Int × (List m8)) (E:=(List m8)) (λ((s11,s12):Int × (List m8))=>
   if (decide (s11<(a0.length:Int))) then
    (ix a0 s11).bind λv15=>
    (app 24 s12 [(⟨v15.Target,v15.Intact,v15.Call⟩:m8)]).bind λv16=>
    some (.inl (x8 (s11+1),v16))
   else
   some (.inr s12)) (0,[])).bind λe10=>
  κ8 e10)
def b4K(a0:List c5):Option (List g9):=
 jn (λ(j9:List g9)=>
  some j9) (λκ8=>
  (lp (S:=Int × (List g9)) (E:=(List g9)) (λ((s11,s12):Int × (List g9))=>
   if (decide (s11<(a0.length:Int))) then
    (ix a0 s11).bind λv15=>
    (app 24 s12 [(⟨v15.State,v15.Key,v15.Val⟩:g9)]).bind λv16=>
    some (.inl (x8 (s11+1),v16))
   else
   some (.inr s12)) (0,[])).bind λe10=>
  κ8 e10)
def a9Z(a0:g5):Option w7:=
 jn (λ(j9:List o6)=>
  some (⟨j9,a0.Cap⟩:w7)) (λκ8=>
  (lp (S:=Int × (List o6)) (E:=(List o6)) (λ((s11,s12):Int × (List o6))=>
   if (decide (s11<(a0.L.length:Int))) then
    (ix a0.L s11).bind λv15=>
    (app 24 s12 [(⟨v15.Kind,v15.At,v15.Prog⟩:o6)]).bind λv16=>
    some (.inl (x8 (s11+1),v16))
   else
   some (.inr s12)) (0,[])).bind λe10=>
  κ8 e10)
def a40(a0:b7):Option c7:=
 (b4I a0.S).bind λv1=>
 (a9W a0.a8).bind λv2=>
 (b4K a0.T).bind λv3=>
 (a9Z a0.Q).bind λv4=>
 some (⟨v1,a0.Roots,v2,v3,v4⟩:c7)
def a9X(a0:List (List g8)):Option (List (List r8)):=
 jn (λ(j47:List (List r8))=>
  some j47) (λκ46=>
  (lp (S:=Int × (List (List r8))) (E:=(List (List r8))) (λ((s49,s50):Int × (List (List r8)))=>
   if (decide (s49<(a0.length:Int))) then
    jn (λ(j73:List (List r8))=>
     some (.inl (x8 (s49+1),j73))) (λκ72=>
     jn (λ(j83:List r8)=>
      (app 24 s50 [j83]).bind λv84=>
      κ72 v84) (λκ82=>
      (lp (S:=Int × (List r8)) (E:=(List r8)) (λ((s86,s87):Int × (List r8))=>
       (ix a0 s49).bind λv90=>
       if (decide (s86<(v90.length:Int))) then
        (ix v90 s86).bind λv91=>
        (app 32 s87 [(⟨v91.Kind,v91.A,v91.B,v91.C⟩:r8)]).bind λv92=>
        some (.inl (x8 (s86+1),v92))
       else
       some (.inr s87)) (0,[])).bind λe85=>
      κ82 e85))
   else
   some (.inr s50)) (0,[])).bind λe48=>
  κ46 e48)
def a9i(a0:p6):Option w8:=
 (a40 a0.X).bind λv1=>
 (a9X a0.Progs).bind λv2=>
 some (⟨v1,v2⟩:w8)
def a07(a0:Int)(a1:Int)(a2:Int)(a3:Int):Option Int:=
 if ((decide (a0<a1))||(decide (a0 > a2))) then
  some a3
 else
 some 0
def Y9(a0:Int)(a1:Int)(a2:Int):Option Int:=
 if (a0 != 0) then
  some a0
 else
 if (a1 != 0) then
  some a1
 else
 some a2
def a0S(a0:r8):Option Int:=
 (a07 a0.A 0 5 6).bind λv1=>
 (a07 a0.B 0 5 6).bind λv2=>
 if (a0.Kind==1) then
  (a07 a0.B 0 4 1).bind λv3=>
  (a07 a0.C (-1) 5 13).bind λv4=>
  (Y9 v1 v3 v4).bind λv5=>
  some v5
 else
 jn (λ(j7:Bool)=>
  if j7 then
   (Y9 v1 v2 0).bind λv8=>
   some v8
  else
  if (a0.Kind==3) then
   some v1
  else
  if (a0.Kind==4) then
   (a07 a0.C 0 3 5).bind λv9=>
   (Y9 v1 v2 v9).bind λv10=>
   some v10
  else
  if (a0.Kind==5) then
   (a07 a0.B 0 3 5).bind λv11=>
   (a07 a0.C (-1) 5 6).bind λv12=>
   (Y9 v1 v11 v12).bind λv13=>
   some v13
  else
  if (a0.Kind==6) then
   (a07 a0.A 0 5 7).bind λv14=>
   (a07 a0.B (-1) 5 6).bind λv15=>
   (a07 a0.C (-1) 5 13).bind λv16=>
   (Y9 v14 v15 v16).bind λv17=>
   some v17
  else
  if (a0.Kind==7) then
   (a07 a0.B 0 5 7).bind λv18=>
   (Y9 v1 v18 0).bind λv19=>
   some v19
  else
  if (a0.Kind==8) then
   (a07 a0.B (-1) 5 6).bind λv20=>
   (Y9 v1 v20 0).bind λv21=>
   some v21
  else
  if (a0.Kind==11) then
   some 0
  else
  if (a0.Kind==12) then
   (a07 a0.A 0 200 12).bind λv22=>
   some v22
  else
  some 14) (λκ6=>
  if (a0.Kind==2) then
   κ6 (a0.Kind==2)
  else
  if (a0.Kind==9) then
   κ6 (a0.Kind==9)
  else
  κ6 (a0.Kind==10))
def a1B(a0:List Int):Option (r8 × Int):=
 if ((a0.length:Int) != 4) then
  some ((⟨0,0,0,0⟩:r8),14)
 else
 (ix a0 0).bind λv1=>
 (ix a0 1).bind λv2=>
 (ix a0 2).bind λv3=>
 (ix a0 3).bind λv4=>
 (a0S (⟨v1,v2,v3,v4⟩:r8)).bind λv5=>
 if (v5 != 0) then
  some ((⟨0,0,0,0⟩:r8),v5)
 else
 some ((⟨v1,v2,v3,v4⟩:r8),0)
def a3w(a0:Int)(a1:Int):Option Int:=
 if ((((decide (a0<0))||(decide (a0 > 23)))||(decide (a1<0)))||(decide (a1 > 9))) then
  some 0
 else
 some (x8 ((x8 (1+a0))+(x8 (32*a1))))
def K4(a0:k8):Option y7:=
 jn (λ(j9:List x4)=>
  some (⟨j9,a0.Last⟩:y7)) (λκ8=>
  (lp (S:=Int × (List x4)) (E:=(List x4)) (λ((s11,s12):Int × (List x4))=>
   if (decide (s11<(a0.a8.length:Int))) then
    (ix a0.a8 s11).bind λv15=>
    (app 24 s12 [(⟨v15.State,v15.Gen,s11⟩:x4)]).bind λv16=>
    some (.inl (x8 (s11+1),v16))
   else
   some (.inr s12)) (0,[])).bind λe10=>
  κ8 e10)
def a6p(a0:Int):Option Bool:=
 if ((decide (a0<1))||(decide (a0 > 400))) then
  some false
 else
 (rem (x8 (a0-1)) 32).bind λv1=>
 (quo .i64 (x8 (a0-1)) 32).bind λv2=>
 (a3w v1 v2).bind λv3=>
 some (v3==a0)
def a6o(a0:Int):Option Int:=
 (a6p a0).bind λv1=>
 if (!v1) then
  some (-1)
 else
 (rem (x8 (a0-1)) 32).bind λv2=>
 some v2
def b4v(a0:Int):Option Int:=
 (a6p a0).bind λv1=>
 if (!v1) then
  some (-1)
 else
 (quo .i64 (x8 (a0-1)) 32).bind λv2=>
 some v2
def O0(a0:y7)(a1:Int):Option (Int × Int):=
 if (a1==0) then
  some ((-1),2)
 else
 (a6o a1).bind λv1=>
 if ((decide (v1<0))||(decide (v1≥(a0.a8.length:Int)))) then
  some ((-1),3)
 else
 (ix a0.a8 v1).bind λv2=>
 (b4v a1).bind λv3=>
 if ((v2.Gen != v3)||((v2.State != 1)&&(v2.State != 2))) then
  some ((-1),3)
 else
 some (v1,0)
def a4M(a0:k8)(a1:List Int):Option (List Int):=
 (app 8 [] a1).bind λv1=>
 jn (λ(j36:List Int)=>
  some j36) (λκ35=>
  (lp (S:=Int × (List Int)) (E:=(List Int)) (λ((s38,s39):Int × (List Int))=>
   if (decide (s38<(s39.length:Int))) then
    jn (λ(j56:List Int)=>
     some (.inl (x8 (s38+1),j56))) (λκ55=>
     (lp (S:=Int × (List Int)) (E:=(List Int)) (λ((s58,s59):Int × (List Int))=>
      if (decide (s58 > 0)) then
       (K4 a0).bind λv62=>
       (ix s59 (x8 (s58-1))).bind λv63=>
       (O0 v62 v63).bind λv64=>
       (ix s59 s58).bind λv65=>
       (O0 v62 v65).bind λv66=>
       (u4 (((decide (v64.1<0))||(decide (v66.1<0)))==false) (⟨0,0,⟨0,0,0,0,false,[]⟩⟩:n8) (ix a0.a8 v64.1)).bind λv67=>
       (u4 (((decide (v64.1<0))||(decide (v66.1<0)))==false) (⟨0,0,⟨0,0,0,0,false,[]⟩⟩:n8) (ix a0.a8 v66.1)).bind λv68=>
       if (((decide (v64.1<0))||(decide (v66.1<0)))||(decide (v67.Val.Serial≤v68.Val.Serial))) then
        some (.inr s59)
       else
       (ix (s59.set (s58).toNat v63) (x8 (s58-1))).bind λv69=>
       some (.inl (x8 (s58-1),((s59.set (s58).toNat v63).set (x8 (s58-1)).toNat v65)))
      else
      some (.inr s59)) (s38,s39)).bind λe57=>
     κ55 e57)
   else
   some (.inr s39)) (1,v1)).bind λe37=>
  κ35 e37)
def R1(a0:k8):Option (List Int):=
 jn (λ(j15:List Int)=>
  (a4M a0 j15).bind λv16=>
  some v16) (λκ14=>
  (lp (S:=Int × (List Int)) (E:=(List Int)) (λ((s18,s19):Int × (List Int))=>
   if (decide (s18<(a0.a8.length:Int))) then
    jn (λ(j26:List Int)=>
     some (.inl (x8 (s18+1),j26))) (λκ25=>
     (ix a0.a8 s18).bind λv27=>
     if (v27.State==1) then
      (a3w s18 v27.Gen).bind λv28=>
      (app 8 s19 [v28]).bind λv29=>
      κ25 v29
     else
     κ25 s19)
   else
   some (.inr s19)) (0,[])).bind λe17=>
  κ14 e17)
def b1S(a0:y7)(a1:Int):Option (Int × Int):=
 (O0 a0 a1).bind λv1=>
 if (v1.2 != 0) then
  some (0,v1.2)
 else
 (ix a0.a8 v1.1).bind λv2=>
 if (v2.State==2) then
  some (0,3)
 else
 some (v2.Val,0)
def F5(a0:k8)(a1:Int):Option (C6 × Int):=
 (K4 a0).bind λv1=>
 (b1S v1 a1).bind λv2=>
 if (v2.2 != 0) then
  some ((⟨0,0,0,0,false,[]⟩:C6),v2.2)
 else
 (ix a0.a8 v2.1).bind λv3=>
 some (v3.Val,0)
def a2Q(a0:List Int):Option (List Int):=
 jn (λ(j13:List Int)=>
  some j13) (λκ12=>
  (lp (S:=Int × (List Int)) (E:=(List Int)) (λ((s15,s16):Int × (List Int))=>
   if (decide (s15<(a0.length:Int))) then
    jn (λ(j22:List Int)=>
     some (.inl (x8 (s15+1),j22))) (λκ21=>
     (ix a0 s15).bind λv23=>
     if (v23 != 0) then
      (app 8 s16 [v23]).bind λv24=>
      κ21 v24
     else
     κ21 s16)
   else
   some (.inr s16)) (0,[])).bind λe14=>
  κ12 e14)
def b1Z(a0:k8)(a1:Int):Option (List Int):=
 (F5 a0 a1).bind λv1=>
 if (v1.2 != 0) then
  some []
 else
 (a2Q v1.1.Fields).bind λv2=>
 some v2
def a1M(a0:List Int)(a1:Int):Option Int:=
 jn (λ(j11:Int)=>
  some j11) (λκ10=>
  (lp (S:=Int × Int) (E:=Int) (λ((s13,s14):Int × Int)=>
   if (decide (s14<(a0.length:Int))) then
    jn (λ(j19:Int)=>
     some (.inl (j19,x8 (s14+1)))) (λκ18=>
     (ix a0 s14).bind λv20=>
     if ((v20==a1)&&(a1 != 0)) then
      κ18 (x8 (s13+1))
     else
     κ18 s13)
   else
   some (.inr s13)) (0,0)).bind λe12=>
  κ10 e12)
def b8T(a0:k8)(a1:Int):Option Int:=
 (R1 a0).bind λv1=>
 jn (λ(j11:Int)=>
  some j11) (λκ10=>
  (lp (S:=Int × Int) (E:=Int) (λ((s13,s14):Int × Int)=>
   if (decide (s14<(v1.length:Int))) then
    (ix v1 s14).bind λv17=>
    (b1Z a0 v17).bind λv18=>
    (a1M v18 a1).bind λv19=>
    some (.inl (x8 (s13+v19),x8 (s14+1)))
   else
   some (.inr s13)) (0,0)).bind λe12=>
  κ10 e12)
def b13(a0:List g9):Option (List Int):=
 jn (λ(j13:List Int)=>
  some j13) (λκ12=>
  (lp (S:=Int × (List Int)) (E:=(List Int)) (λ((s15,s16):Int × (List Int))=>
   if (decide (s15<(a0.length:Int))) then
    jn (λ(j22:List Int)=>
     some (.inl (x8 (s15+1),j22))) (λκ21=>
     (ix a0 s15).bind λv23=>
     if (v23.State==1) then
      (app 8 s16 [v23.Key]).bind λv24=>
      κ21 v24
     else
     κ21 s16)
   else
   some (.inr s16)) (0,[])).bind λe14=>
  κ12 e14)
def a1i(a0:List g9)(a1:Int):Option Int:=
 jn (λ(_:Unit)=>
  some (-1)) (λκ5=>
  (lp (S:=Int) (E:=Int ⊕ Unit) (λ(s8:Int)=>
   if (decide (s8<(a0.length:Int))) then
    (ix a0 s8).bind λv10=>
    if ((v10.State==1)&&(v10.Key==a1)) then
     some (.inr (.inl s8))
    else
    some (.inl (x8 (s8+1)))
   else
   some (.inr (.inr ()))) 0).bind λe7=>
  match e7 with
  | .inl w=>some w
  | .inr w=>κ5 w)
def a9F(a0:List g9)(a1:Int):Option (Int × Int):=
 (a1i a0 a1).bind λv1=>
 if (decide (v1<0)) then
  some (0,9)
 else
 (ix a0 v1).bind λv2=>
 some (v2.Val,0)
def a4n(a0:List g9):Option (List B9):=
 (b13 a0).bind λv1=>
 jn (λ(j11:List B9)=>
  some j11) (λκ10=>
  (lp (S:=Int × (List B9)) (E:=(List B9)) (λ((s13,s14):Int × (List B9))=>
   if (decide (s13<(v1.length:Int))) then
    (ix v1 s13).bind λv17=>
    (a9F a0 v17).bind λv18=>
    (app 16 s14 [(⟨v17,v18.1⟩:B9)]).bind λv19=>
    some (.inl (x8 (s13+1),v19))
   else
   some (.inr s14)) (0,[])).bind λe12=>
  κ10 e12)
def a9G(a0:List g9)(a1:Int):Option Int:=
 (a4n a0).bind λv1=>
 jn (λ(j12:Int)=>
  some j12) (λκ11=>
  (lp (S:=Int × Int) (E:=Int) (λ((s14,s15):Int × Int)=>
   if (decide (s15<(v1.length:Int))) then
    jn (λ(j20:Int)=>
     some (.inl (j20,x8 (s15+1)))) (λκ19=>
     (ix v1 s15).bind λv21=>
     if ((v21.Val==a1)&&(a1 != 0)) then
      κ19 (x8 (s14+1))
     else
     κ19 s14)
   else
   some (.inr s14)) (0,0)).bind λe13=>
  κ11 e13)
def a9H(a0:k8)(a1:List g9)(a2:Int):Option Int:=
 (b8T a0 a2).bind λv1=>
 (a9G a1 a2).bind λv2=>
 some (x8 (v1+v2))
def a8X(a0:k8)(a1:List g9)(a2:Int):Option Int:=
 (F5 a0 a2).bind λv1=>
 if (v1.2 != 0) then
  some 0
 else
 (a9H a0 a1 a2).bind λv2=>
 some (x8 (v1.1.Strong-v2))
def a0R(a0:Int):Option Bool:=
 some (decide (a0≥12))
def a6w(a0:k8)(a1:Int):Option Bool:=
 (F5 a0 a1).bind λv1=>
 (a0R v1.1.Strong).bind λv2=>
 some v2
def b2a(a0:k8)(a1:List g9):Option (List Int):=
 (R1 a0).bind λv1=>
 jn (λ(j18:List Int)=>
  some j18) (λκ17=>
  (lp (S:=Int × (List Int)) (E:=(List Int)) (λ((s20,s21):Int × (List Int))=>
   if (decide (s20<(v1.length:Int))) then
    jn (λ(j29:List Int)=>
     some (.inl (x8 (s20+1),j29))) (λκ28=>
     (ix v1 s20).bind λv30=>
     (a8X a0 a1 v30).bind λv31=>
     (u4 ((decide (v31 > 0))==false) false (a6w a0 v30)).bind λv32=>
     if ((decide (v31 > 0))||v32) then
      (app 8 s21 [v30]).bind λv33=>
      κ28 v33
     else
     κ28 s21)
   else
   some (.inr s21)) (0,[])).bind λe19=>
  κ17 e19)
def a7x(a0:List Int)(a1:Int):Option Bool:=
 (a1M a0 a1).bind λv1=>
 some (decide (v1 > 0))
def a6t(a0:List Int)(a1:List Int)(a2:Bool):Option (List Int):=
 jn (λ(j15:List Int)=>
  some j15) (λκ14=>
  (lp (S:=Int × (List Int)) (E:=(List Int)) (λ((s17,s18):Int × (List Int))=>
   if (decide (s17<(a0.length:Int))) then
    jn (λ(j25:List Int)=>
     some (.inl (x8 (s17+1),j25))) (λκ24=>
     (ix a0 s17).bind λv26=>
     (a7x a1 v26).bind λv27=>
     if (v27==a2) then
      (app 8 s18 [v26]).bind λv28=>
      κ24 v28
     else
     κ24 s18)
   else
   some (.inr s18)) (0,[])).bind λe16=>
  κ14 e16)
def a6s(a0:k8)(a1:List Int):Option (List Int):=
 (R1 a0).bind λv1=>
 (a6t v1 a1 true).bind λv2=>
 jn (λ(j51:List Int)=>
  some j51) (λκ50=>
  (lp (S:=(List Int) × Int) (E:=(List Int)) (λ((s53,s54):(List Int) × Int)=>
   if (decide (s54<(v1.length:Int))) then
    jn (λ(j78:List Int)=>
     some (.inl (j78,x8 (s54+1)))) (λκ77=>
     (app 8 [] s53).bind λv79=>
     jn (λ(j89:List Int)=>
      (a6t v1 j89 true).bind λv90=>
      κ77 v90) (λκ88=>
      (lp (S:=Int × (List Int)) (E:=(List Int)) (λ((s92,s93):Int × (List Int))=>
       if (decide (s92<(s53.length:Int))) then
        (ix s53 s92).bind λv96=>
        (b1Z a0 v96).bind λv97=>
        (app 8 s93 v97).bind λv98=>
        some (.inl (x8 (s92+1),v98))
       else
       some (.inr s93)) (0,v79)).bind λe91=>
      κ88 e91))
   else
   some (.inr s53)) (v2,0)).bind λe52=>
  κ50 e52)
def a6v(a0:k8)(a1:Int):Option Bool:=
 (F5 a0 a1).bind λv1=>
 some (v1.2==0)
def a8W(a0:k8)(a1:List g9)(a2:List Int):Option (List Int):=
 (a4n a1).bind λv1=>
 jn (λ(j20:List Int)=>
  some j20) (λκ19=>
  (lp (S:=Int × (List Int)) (E:=(List Int)) (λ((s22,s23):Int × (List Int))=>
   if (decide (s22<(v1.length:Int))) then
    jn (λ(j32:List Int)=>
     some (.inl (x8 (s22+1),j32))) (λκ31=>
     (ix v1 s22).bind λv33=>
     (a6v a0 v33.Key).bind λv34=>
     (u4 (v34==true) false (a7x a2 v33.Key)).bind λv35=>
     (u4 ((v34&&v35)==true) false (a6v a0 v33.Val)).bind λv36=>
     if ((v34&&v35)&&v36) then
      (app 8 s23 [v33.Val]).bind λv37=>
      κ31 v37
     else
     κ31 s23)
   else
   some (.inr s23)) (0,[])).bind λe21=>
  κ19 e21)
def a3x(a0:List Int)(a1:List Int):Option Bool:=
 if ((a0.length:Int) != (a1.length:Int)) then
  some false
 else
 jn (λ(_:Unit)=>
  some true) (λκ6=>
  (lp (S:=Int) (E:=Bool ⊕ Unit) (λ(s9:Int)=>
   if (decide (s9<(a0.length:Int))) then
    (ix a0 s9).bind λv11=>
    (ix a1 s9).bind λv12=>
    if (v11 != v12) then
     some (.inr (.inl false))
    else
    some (.inl (x8 (s9+1)))
   else
   some (.inr (.inr ()))) 0).bind λe8=>
  match e8 with
  | .inl w=>some w
  | .inr w=>κ6 w)
def a7z(a0:k8)(a1:List g9)(a2:List Int):Option ((List Int) × Int):=
 (a6s a0 a2).bind λv1=>
 jn (λ(j13:List Int)=>
  some (j13,30)) (λκ12=>
  (lp (S:=(List Int) × Int) (E:=((List Int) × Int) ⊕ (List Int)) (λ((s15,s16):(List Int) × Int)=>
   if (decide (s16<30)) then
    (app 8 [] s15).bind λv19=>
    (a8W a0 a1 s15).bind λv20=>
    (app 8 v19 v20).bind λv21=>
    (a6s a0 v21).bind λv22=>
    (a3x v22 s15).bind λv23=>
    if v23 then
     some (.inr (.inl (s15,s16)))
    else
    some (.inl (v22,x8 (s16+1)))
   else
   some (.inr (.inr s15))) (v1,0)).bind λe14=>
  match e14 with
  | .inl w=>some w
  | .inr w=>κ12 w)
def b17(a0:k8)(a1:List g9)(a2:List Int):Option (List Int):=
 (a7z a0 a1 a2).bind λv1=>
 some v1.1
def b18(a0:k8)(a1:List g9)(a2:List Int):Option (List Int):=
 (b17 a0 a1 a2).bind λv1=>
 (R1 a0).bind λv2=>
 jn (λ(j17:List Int)=>
  some j17) (λκ16=>
  (lp (S:=Int × (List Int)) (E:=(List Int)) (λ((s19,s20):Int × (List Int))=>
   if (decide (s19<(v2.length:Int))) then
    jn (λ(j27:List Int)=>
     some (.inl (x8 (s19+1),j27))) (λκ26=>
     (ix v2 s19).bind λv28=>
     (a7x v1 v28).bind λv29=>
     if (!v29) then
      (app 8 s20 [v28]).bind λv30=>
      κ26 v30
     else
     κ26 s20)
   else
   some (.inr s20)) (0,[])).bind λe18=>
  κ16 e18)
def a3z(a0:k8)(a1:List g9):Option (List Int):=
 (b2a a0 a1).bind λv1=>
 (b18 a0 a1 v1).bind λv2=>
 some v2
def a1O(a0:c7):Option (List Int):=
 (a3z a0.S a0.T).bind λv1=>
 some v1
def Y6(a0:c7)(a1:Int):Option Bool:=
 (F5 a0.S a1).bind λv1=>
 some (v1.2==0)
def a7A(a0:c7)(a1:Int):Option Bool:=
 (F5 a0.S a1).bind λv1=>
 (Y6 a0 a1).bind λv2=>
 some ((v2&&(decide (v1.1.Prog≥0)))&&(!v1.1.Started))
def a9J(a0:c7):Option (List Int):=
 (a1O a0).bind λv1=>
 jn (λ(j16:List Int)=>
  some j16) (λκ15=>
  (lp (S:=Int × (List Int)) (E:=(List Int)) (λ((s18,s19):Int × (List Int))=>
   if (decide (s18<(v1.length:Int))) then
    jn (λ(j26:List Int)=>
     some (.inl (x8 (s18+1),j26))) (λκ25=>
     (ix v1 s18).bind λv27=>
     (a7A a0 v27).bind λv28=>
     if v28 then
      (app 8 s19 [v27]).bind λv29=>
      κ25 v29
     else
     κ25 s19)
   else
   some (.inr s19)) (0,[])).bind λe17=>
  κ15 e17)
def a1h(a0:k8)(a1:Int)(a2:C6):Option k8:=
 (app 80 [] a0.a8).bind λv1=>
 (ix v1 a1).bind λv2=>
 some (⟨(v1.set (a1).toNat (⟨v2.State,v2.Gen,a2⟩:n8)),a0.Last,a0.Serial⟩:k8)
def M9(a0:k8)(a1:Int)(a2:C6):Option (k8 × Int):=
 (K4 a0).bind λv1=>
 (O0 v1 a1).bind λv2=>
 if (v2.2 != 0) then
  some (a0,v2.2)
 else
 (a1h a0 v2.1 a2).bind λv3=>
 some (v3,0)
def a5B(a0:w7)(a1:o6):Option (w7 × Int):=
 if (decide ((a0.L.length:Int)≥a0.Cap)) then
  some (a0,4)
 else
 (app 24 [] a0.L).bind λv1=>
 (app 24 v1 [a1]).bind λv2=>
 some ((⟨v2,a0.Cap⟩:w7),0)
def b1T(a0:Int):Option Int:=
 (a0R a0).bind λv1=>
 if v1 then
  some 12
 else
 if (decide (a0<0)) then
  some 1
 else
 some (x8 (a0+1))
def a4N(a0:c7)(a1:Int)(a2:Int):Option c7:=
 (F5 a0.S a1).bind λv1=>
 if (v1.2 != 0) then
  some a0
 else
 (M9 a0.S a1 (⟨v1.1.Serial,a2,v1.1.Weak,v1.1.Prog,v1.1.Started,v1.1.Fields⟩:C6)).bind λv2=>
 some (⟨v2.1,a0.Roots,a0.a8,a0.T,a0.Q⟩:c7)
def a0x(a0:c7)(a1:Int):Option c7:=
 (F5 a0.S a1).bind λv1=>
 (b1T v1.1.Strong).bind λv2=>
 (a4N a0 a1 v2).bind λv3=>
 some v3
def a2T(a0:c7)(a1:Int):Option c7:=
 (a7A a0 a1).bind λv1=>
 if (!v1) then
  some a0
 else
 (F5 a0.S a1).bind λv2=>
 (M9 a0.S a1 (⟨v2.1.Serial,v2.1.Strong,v2.1.Weak,v2.1.Prog,true,v2.1.Fields⟩:C6)).bind λv3=>
 (a5B a0.Q (⟨1,a1,v2.1.Prog⟩:o6)).bind λv4=>
 (a0x (⟨v3.1,a0.Roots,a0.a8,a0.T,v4.1⟩:c7) a1).bind λv5=>
 some v5
def a8Z(a0:c7)(a1:List Int):Option (List Int):=
 jn (λ(j17:List Int)=>
  some j17) (λκ16=>
  (lp (S:=Int × (List Int)) (E:=(List Int)) (λ((s19,s20):Int × (List Int))=>
   if (decide (s19<(a1.length:Int))) then
    jn (λ(j28:List Int)=>
     some (.inl (x8 (s19+1),j28))) (λκ27=>
     (ix a1 s19).bind λv29=>
     (Y6 a0 v29).bind λv30=>
     (u4 (v30==true) false (a7x s20 v29)).bind λv31=>
     if (v30&&(!v31)) then
      (app 8 s20 [v29]).bind λv32=>
      κ27 v32
     else
     κ27 s20)
   else
   some (.inr s20)) (0,[])).bind λe18=>
  κ16 e18)
def a9E(a0:List m8)(a1:List Int):Option ((List m8) × (List Int)):=
 jn (λ((j18,j19):(List Int) × (List m8))=>
  some (j19,j18)) (λκ17=>
  (lp (S:=Int × (List m8) × (List Int)) (E:=((List Int) × (List m8))) (λ((s22,s23,s24):Int × (List m8) × (List Int))=>
   if (decide (s22<(a0.length:Int))) then
    (ix a0 s22).bind λv27=>
    jn (λ((j31,j32):Bool × (List Int))=>
     (app 24 s23 [(⟨v27.Target,j31,v27.Call⟩:m8)]).bind λv34=>
     some (.inl (x8 (s22+1),v34,j32))) (λκ30=>
     (u4 (v27.Intact==true) 0 (a1M a1 v27.Target)).bind λv35=>
     if (v27.Intact&&(decide (v35 > 0))) then
      if (decide (v27.Call≥0)) then
       (app 8 s24 [s22]).bind λv36=>
       κ30 (false,v36)
      else
      κ30 (false,s24)
     else
     κ30 (v27.Intact,s24))
   else
   some (.inr (s24,s23))) (0,[],[])).bind λe21=>
  κ17 e21)
def a1j(a0:List g9)(a1:Int)(a2:g9):Option (List g9):=
 (app 24 [] a0).bind λv1=>
 (ix v1 a1).bind λv2=>
 some (v1.set (a1).toNat a2)
def a6u(a0:List g9)(a1:Int):Option ((List g9) × Int × Int):=
 (a1i a0 a1).bind λv1=>
 if (decide (v1<0)) then
  some (a0,0,9)
 else
 (a1j a0 v1 (⟨2,0,0⟩:g9)).bind λv2=>
 (ix a0 v1).bind λv3=>
 some (v2,v3.Val,0)
def a3y(a0:List g9)(a1:List Int):Option ((List g9) × (List Int)):=
 jn (λ((j18,j19):(List g9) × (List Int))=>
  some (j18,j19)) (λκ17=>
  (lp (S:=(List g9) × Int × (List Int)) (E:=((List g9) × (List Int))) (λ((s22,s23,s24):(List g9) × Int × (List Int))=>
   if (decide (s23<(a1.length:Int))) then
    jn (λ((j31,j32):(List g9) × (List Int))=>
     some (.inl (j31,x8 (s23+1),j32))) (λκ30=>
     (ix a1 s23).bind λv34=>
     (a6u s22 v34).bind λv35=>
     if (v35.2.2==0) then
      (app 8 s24 [v35.2.1]).bind λv36=>
      κ30 (v35.1,v36)
     else
     κ30 (s22,s24))
   else
   some (.inr (s22,s24))) (a0,0,[])).bind λe21=>
  κ17 e21)
def X9(a0:y7)(a1:Int)(a2:x4):Option y7:=
 (app 24 [] a0.a8).bind λv1=>
 (ix v1 a1).bind λv2=>
 some (⟨(v1.set (a1).toNat a2),a0.Last⟩:y7)
def b5D(a0:y7)(a1:Int):Option (y7 × Int):=
 (b1S a0 a1).bind λv1=>
 if (v1.2 != 0) then
  some (a0,v1.2)
 else
 (O0 a0 a1).bind λv2=>
 (ix a0.a8 v2.1).bind λv3=>
 (X9 a0 v2.1 (⟨2,v3.Gen,v3.Val⟩:x4)).bind λv4=>
 some (v4,0)
def a0v(a0:k8)(a1:y7):Option k8:=
 jn (λ(j10:List n8)=>
  some (⟨j10,a0.Last,a0.Serial⟩:k8)) (λκ9=>
  (lp (S:=Int × (List n8)) (E:=(List n8)) (λ((s12,s13):Int × (List n8))=>
   if (decide (s12<(a0.a8.length:Int))) then
    (ix a1.a8 s12).bind λv16=>
    (ix a0.a8 s12).bind λv17=>
    (app 80 s13 [(⟨v16.State,v16.Gen,v17.Val⟩:n8)]).bind λv18=>
    some (.inl (x8 (s12+1),v18))
   else
   some (.inr s13)) (0,[])).bind λe11=>
  κ9 e11)
def b1X(a0:k8)(a1:Int):Option k8:=
 (K4 a0).bind λv1=>
 (b5D v1 a1).bind λv2=>
 (a0v a0 v2.1).bind λv3=>
 some v3
def b5C(a0:y7)(a1:Int):Option (y7 × Int):=
 (O0 a0 a1).bind λv1=>
 if (v1.2 != 0) then
  some (a0,v1.2)
 else
 (ix a0.a8 v1.1).bind λv2=>
 if (decide (v2.Gen≥a0.Last)) then
  (X9 a0 v1.1 (⟨3,v2.Gen,0⟩:x4)).bind λv3=>
  some (v3,0)
 else
 (X9 a0 v1.1 (⟨0,x8 (v2.Gen+1),0⟩:x4)).bind λv4=>
 some (v4,0)
def a8R(a0:k8)(a1:Int):Option k8:=
 (K4 a0).bind λv1=>
 (b5C v1 a1).bind λv2=>
 if (v2.2 != 0) then
  some a0
 else
 (a0v a0 v2.1).bind λv3=>
 (a6o a1).bind λv4=>
 (a1h v3 v4 (⟨0,0,0,0,false,[]⟩:C6)).bind λv5=>
 some v5
def a6A(a0:c7)(a1:Int):Option c7:=
 (F5 a0.S a1).bind λv1=>
 (M9 a0.S a1 (⟨v1.1.Serial,0,v1.1.Weak,v1.1.Prog,v1.1.Started,[]⟩:C6)).bind λv2=>
 (b1X v2.1 a1).bind λv3=>
 if (v1.1.Weak==0) then
  (a8R v3 a1).bind λv4=>
  some (⟨v4,a0.Roots,a0.a8,a0.T,a0.Q⟩:c7)
 else
 some (⟨v3,a0.Roots,a0.a8,a0.T,a0.Q⟩:c7)
def b4w(a0:Int):Option (Int × Int):=
 (a0R a0).bind λv1=>
 if v1 then
  some (12,0)
 else
 if (decide (a0<1)) then
  some (0,11)
 else
 some (x8 (a0-1),0)
def E8(a0:c7)(a1:Int):Option c7:=
 (F5 a0.S a1).bind λv1=>
 (b4w v1.1.Strong).bind λv2=>
 if (v2.2 != 0) then
  some a0
 else
 (a4N a0 a1 v2.1).bind λv3=>
 some v3
def a6y(a0:c7)(a1:List Int):Option c7:=
 (a8Z a0 a1).bind λv1=>
 (a9E a0.a8 v1).bind λv2=>
 jn (λ(j12:w7)=>
  jn (λ(j23:List Int)=>
   (a3y a0.T v1).bind λv24=>
   (app 8 j23 v24.2).bind λv25=>
   jn (λ(j34:c7)=>
    jn (λ(j43:c7)=>
     some j43) (λκ42=>
     (lp (S:=Int × c7) (E:=c7) (λ((s45,s46):Int × c7)=>
      if (decide (s45<(v25.length:Int))) then
       (ix v25 s45).bind λv49=>
       (E8 s46 v49).bind λv50=>
       some (.inl (x8 (s45+1),v50))
      else
      some (.inr s46)) (0,j34)).bind λe44=>
     κ42 e44)) (λκ33=>
    (lp (S:=Int × c7) (E:=c7) (λ((s52,s53):Int × c7)=>
     if (decide (s52<(v1.length:Int))) then
      (ix v1 s52).bind λv56=>
      (a6A s53 v56).bind λv57=>
      some (.inl (x8 (s52+1),v57))
     else
     some (.inr s53)) (0,(⟨a0.S,a0.Roots,v2.1,v24.1,j12⟩:c7))).bind λe51=>
    κ33 e51)) (λκ22=>
   (lp (S:=Int × (List Int)) (E:=(List Int)) (λ((s59,s60):Int × (List Int))=>
    if (decide (s59<(v1.length:Int))) then
     (ix v1 s59).bind λv63=>
     (F5 a0.S v63).bind λv64=>
     (a2Q v64.1.Fields).bind λv65=>
     (app 8 s60 v65).bind λv66=>
     some (.inl (x8 (s59+1),v66))
    else
    some (.inr s60)) (0,[])).bind λe58=>
   κ22 e58)) (λκ11=>
  (lp (S:=Int × w7) (E:=w7) (λ((s68,s69):Int × w7)=>
   if (decide (s68<(v2.2.length:Int))) then
    (ix v2.2 s68).bind λv72=>
    (ix v2.1 v72).bind λv73=>
    (a5B s69 (⟨2,v72,v73.Call⟩:o6)).bind λv74=>
    some (.inl (x8 (s68+1),v74.1))
   else
   some (.inr s69)) (0,a0.Q)).bind λe67=>
  κ11 e67)
def a6z(a0:c7):Option (List Int):=
 (R1 a0.S).bind λv1=>
 jn (λ(j16:List Int)=>
  some j16) (λκ15=>
  (lp (S:=Int × (List Int)) (E:=(List Int)) (λ((s18,s19):Int × (List Int))=>
   if (decide (s18<(v1.length:Int))) then
    jn (λ(j26:List Int)=>
     some (.inl (x8 (s18+1),j26))) (λκ25=>
     (ix v1 s18).bind λv27=>
     (F5 a0.S v27).bind λv28=>
     if (v28.1.Strong==0) then
      (app 8 s19 [v27]).bind λv29=>
      κ25 v29
     else
     κ25 s19)
   else
   some (.inr s19)) (0,[])).bind λe17=>
  κ15 e17)
def N8(a0:c7):Option c7:=
 jn (λ(j21:c7)=>
  some j21) (λκ20=>
  (lp (S:=Int × c7) (E:=c7 ⊕ c7) (λ((s23,s24):Int × c7)=>
   if (decide (s23<100)) then
    jn (λ(j34:c7)=>
     some (.inl (x8 (s23+1),j34))) (λκ33=>
     (a6z s24).bind λv35=>
     if ((v35.length:Int)==0) then
      some (.inr (.inl s24))
     else
     (ix v35 0).bind λv36=>
     (a7A s24 v36).bind λv37=>
     if v37 then
      (a2T s24 v36).bind λv38=>
      κ33 v38
     else
     (cut v35 0 1).bind λv39=>
     (a6y s24 v39).bind λv40=>
     κ33 v40)
   else
   some (.inr (.inr s24))) (0,a0)).bind λe22=>
  match e22 with
  | .inl w=>some w
  | .inr w=>κ20 w)
def a5E(a0:c7):Option (c7 × Int × Int):=
 (a9J a0).bind λv1=>
 jn (λ(_:Unit)=>
  (a1O a0).bind λv20=>
  (a6y a0 v20).bind λv21=>
  (N8 v21).bind λv22=>
  (R1 a0.S).bind λv23=>
  (R1 v22.S).bind λv24=>
  some (v22,0,x8 ((v23.length:Int)-(v24.length:Int)))) (λκ18=>
  if (decide ((v1.length:Int) > 0)) then
   jn (λ(j33:c7)=>
    some (j33,(v1.length:Int),0)) (λκ32=>
    (lp (S:=Int × c7) (E:=c7) (λ((s35,s36):Int × c7)=>
     if (decide (s35<(v1.length:Int))) then
      (ix v1 s35).bind λv39=>
      (a2T s36 v39).bind λv40=>
      some (.inl (x8 (s35+1),v40))
     else
     some (.inr s36)) (0,a0)).bind λe34=>
    κ32 e34)
  else
  κ18 ())
def a4q(a0:c7):Option Bool:=
 some ((a0.Q.L.length:Int)==0)
def a6D(a0:List (List r8))(a1:Int):Option (List r8):=
 if ((decide (a1<0))||(decide (a1≥(a0.length:Int)))) then
  some []
 else
 (ix a0 a1).bind λv1=>
 some v1
def a6B(a0:List (List r8))(a1:o6):Option Int:=
 (a6D a0 a1.Prog).bind λv1=>
 some (x8 (1+(v1.length:Int)))
def b2b(a0:w7):Option (w7 × o6 × Int):=
 if ((a0.L.length:Int)==0) then
  some (a0,(⟨0,0,0⟩:o6),10)
 else
 (cut a0.L 1 (a0.L.length:Int)).bind λv1=>
 (ix a0.L 0).bind λv2=>
 some ((⟨v1,a0.Cap⟩:w7),v2,0)
def Y7(a0:c7)(a1:Int):Option Bool:=
 (u4 ((a1==0)==false) false (Y6 a0 a1)).bind λv1=>
 some ((a1==0)||v1)
def V7(a0:c7)(a1:Int)(a2:Int):Option (c7 × Int):=
 if ((decide (a1<0))||(decide (a1 > 5))) then
  some (a0,6)
 else
 (Y7 a0 a2).bind λv1=>
 if (!v1) then
  some (a0,3)
 else
 (ix a0.Roots a1).bind λv2=>
 (a0x a0 a2).bind λv3=>
 (app 8 [] a0.Roots).bind λv4=>
 (ix v4 a1).bind λv5=>
 (E8 (⟨v3.S,(v4.set (a1).toNat a2),v3.a8,v3.T,v3.Q⟩:c7) v2).bind λv6=>
 some (v6,0)
def Q6(a0:r8):Option Bool:=
 some ((decide (a0.Kind≥1))&&(decide (a0.Kind≤10)))
def a4o(a0:w7)(a1:Int):Option Bool:=
 jn (λ(_:Unit)=>
  some false) (λκ5=>
  (lp (S:=Int) (E:=Bool ⊕ Unit) (λ(s8:Int)=>
   if (decide (s8<(a0.L.length:Int))) then
    (ix a0.L s8).bind λv10=>
    if ((v10.Kind==2)&&(v10.At==a1)) then
     some (.inr (.inl true))
    else
    some (.inl (x8 (s8+1)))
   else
   some (.inr (.inr ()))) 0).bind λe7=>
  match e7 with
  | .inl w=>some w
  | .inr w=>κ5 w)
def b4y(a0:List m8)(a1:Int)(a2:Int)(a3:Int):Option ((List m8) × Int × Int):=
 if ((decide (a1<0))||(decide (a1≥(a0.length:Int)))) then
  some (a0,0,7)
 else
 (app 24 [] a0).bind λv1=>
 (ix v1 a1).bind λv2=>
 (ix a0 a1).bind λv3=>
 some ((v1.set (a1).toNat (⟨a2,(a2 != 0),a3⟩:m8)),v3.Target,0)
def a0y(a0:c7)(a1:Int):Option c7:=
 (K4 a0.S).bind λv1=>
 (O0 v1 a1).bind λv2=>
 if (v2.2 != 0) then
  some a0
 else
 (ix a0.S.a8 v2.1).bind λv3=>
 (M9 a0.S a1 (⟨v3.Val.Serial,v3.Val.Strong,x8 (v3.Val.Weak-1),v3.Val.Prog,v3.Val.Started,v3.Val.Fields⟩:C6)).bind λv4=>
 (ix v4.1.a8 v2.1).bind λv5=>
 if ((v5.State==2)&&(decide ((x8 (v3.Val.Weak-1))<1))) then
  (a8R v4.1 a1).bind λv6=>
  some (⟨v6,a0.Roots,a0.a8,a0.T,a0.Q⟩:c7)
 else
 some (⟨v4.1,a0.Roots,a0.a8,a0.T,a0.Q⟩:c7)
def a2k(a0:c7)(a1:Int)(a2:Int)(a3:Int):Option (c7 × Int):=
 (u4 (((decide (a1<0))||(decide (a1 > 5)))==false) false (a4o a0.Q a1)).bind λv1=>
 if (((decide (a1<0))||(decide (a1 > 5)))||v1) then
  some (a0,7)
 else
 (Y7 a0 a2).bind λv2=>
 if (!v2) then
  some (a0,3)
 else
 (b4y a0.a8 a1 a2 a3).bind λv3=>
 if (a2 != 0) then
  (F5 a0.S a2).bind λv4=>
  (M9 a0.S a2 (⟨v4.1.Serial,v4.1.Strong,x8 (v4.1.Weak+1),v4.1.Prog,v4.1.Started,v4.1.Fields⟩:C6)).bind λv5=>
  (a0y (⟨v5.1,a0.Roots,v3.1,a0.T,a0.Q⟩:c7) v3.2.1).bind λv6=>
  some (v6,0)
 else
 (a0y (⟨a0.S,a0.Roots,v3.1,a0.T,a0.Q⟩:c7) v3.2.1).bind λv7=>
 some (v7,0)
def V8(a0:c7)(a1:Int):Option (Int × Int):=
 (ix a0.Roots a1).bind λv1=>
 if (v1==0) then
  some (0,2)
 else
 some (v1,0)
def a4O(a0:c7)(a1:Int):Option Int:=
 if (decide (a1<0)) then
  some 0
 else
 (ix a0.Roots a1).bind λv1=>
 some v1
def b29(a0:List Int)(a1:Int):Option (Int × Int):=
 if ((decide (a1<0))||(decide (a1≥(a0.length:Int)))) then
  some (0,5)
 else
 (ix a0 a1).bind λv1=>
 some (v1,0)
def a2R(a0:k8)(a1:Int)(a2:Int):Option (Int × Int):=
 (F5 a0 a1).bind λv1=>
 if (v1.2 != 0) then
  some (0,v1.2)
 else
 (b29 v1.1.Fields a2).bind λv2=>
 some (v2.1,v2.2)
def b5E(a0:List Int)(a1:Int)(a2:Int):Option ((List Int) × Int):=
 if ((decide (a1<0))||(decide (a1≥(a0.length:Int)))) then
  some (a0,5)
 else
 (app 8 [] a0).bind λv1=>
 (ix v1 a1).bind λv2=>
 some ((v1.set (a1).toNat a2),0)
def b4x(a0:k8)(a1:Int)(a2:Int)(a3:Int):Option (k8 × Int):=
 (F5 a0 a1).bind λv1=>
 if (v1.2 != 0) then
  some (a0,v1.2)
 else
 (b5E v1.1.Fields a2 a3).bind λv2=>
 if (v2.2 != 0) then
  some (a0,v2.2)
 else
 (M9 a0 a1 (⟨v1.1.Serial,v1.1.Strong,v1.1.Weak,v1.1.Prog,v1.1.Started,v2.1⟩:C6)).bind λv3=>
 some (v3.1,v3.2)
def a4p(a0:c7)(a1:Int)(a2:Int)(a3:Int):Option (c7 × Int):=
 (a2R a0.S a1 a2).bind λv1=>
 if (v1.2 != 0) then
  some (a0,v1.2)
 else
 (Y7 a0 a3).bind λv2=>
 if (!v2) then
  some (a0,3)
 else
 (a0x a0 a3).bind λv3=>
 (b4x v3.S a1 a2 a3).bind λv4=>
 (E8 (⟨v4.1,v3.Roots,v3.a8,v3.T,v3.Q⟩:c7) v1.1).bind λv5=>
 some (v5,0)
def b12(a0:Int)(a1:Int):Option Int:=
 if (decide (a0<1)) then
  some 0
 else
 (rem (x8 ((x8 (5*a1))+1)) a0).bind λv1=>
 if (decide (v1<0)) then
  some (x8 (v1+a0))
 else
 some v1
def b4z(a0:List g9)(a1:Int)(a2:Int):Option ((List g9) × Int):=
 (a1i a0 a1).bind λv1=>
 if (decide (v1≥0)) then
  (a1j a0 v1 (⟨1,a1,a2⟩:g9)).bind λv2=>
  some (v2,0)
 else
 (b12 (a0.length:Int) a1).bind λv3=>
 jn (λ(_:Unit)=>
  some (a0,8)) (λκ12=>
  (lp (S:=Int × Int) (E:=((List g9) × Int) ⊕ Unit) (λ((s15,s16):Int × Int)=>
   if (decide (s16<(a0.length:Int))) then
    (ix a0 s15).bind λv19=>
    if (v19.State != 1) then
     (a1j a0 s15 (⟨1,a1,a2⟩:g9)).bind λv20=>
     some (.inr (.inl (v20,0)))
    else
    (rem (x8 (s15+1)) (a0.length:Int)).bind λv21=>
    some (.inl (v21,x8 (s16+1)))
   else
   some (.inr (.inr ()))) (v3,0)).bind λe14=>
  match e14 with
  | .inl w=>some w
  | .inr w=>κ12 w)
def b4A(a0:List g9)(a1:Int)(a2:Int):Option ((List g9) × Int × Int):=
 if (a1==0) then
  some (a0,0,2)
 else
 (a9F a0 a1).bind λv1=>
 if (a2==0) then
  (a6u a0 a1).bind λv2=>
  some (v2.1,v1.1,0)
 else
 (b4z a0 a1 a2).bind λv3=>
 if (v3.2 != 0) then
  some (a0,0,v3.2)
 else
 some (v3.1,v1.1,0)
def a6x(a0:c7)(a1:Int)(a2:Int):Option (c7 × Int):=
 if (a1==0) then
  some (a0,2)
 else
 (Y6 a0 a1).bind λv1=>
 (u4 ((!v1)==false) false (Y7 a0 a2)).bind λv2=>
 if ((!v1)||(!v2)) then
  some (a0,3)
 else
 (b4A a0.T a1 a2).bind λv3=>
 if (v3.2.2 != 0) then
  some (a0,v3.2.2)
 else
 (a0x a0 a2).bind λv4=>
 (E8 (⟨v4.S,v4.Roots,v4.a8,v3.1,v4.Q⟩:c7) v3.2.1).bind λv5=>
 some (v5,0)
def a0T(a0:c7)(a1:r8):Option (c7 × Int × Int):=
 if ((a1.Kind==6)&&(decide (a1.B<0))) then
  (a2k a0 a1.A 0 a1.C).bind λv1=>
  some (v1.1,0,v1.2)
 else
 jn (λ(j3:Int)=>
  (V8 a0 j3).bind λv4=>
  if (v4.2 != 0) then
   some (a0,0,v4.2)
  else
  if (a1.Kind==5) then
   (a4O a0 a1.C).bind λv5=>
   (a4p a0 v4.1 a1.B v5).bind λv6=>
   some (v6.1,v5,v6.2)
  else
  if (a1.Kind==6) then
   (a2k a0 a1.A v4.1 a1.C).bind λv7=>
   some (v7.1,v4.1,v7.2)
  else
  (a4O a0 a1.B).bind λv8=>
  (a6x a0 v4.1 v8).bind λv9=>
  some (v9.1,v8,v9.2)) (λκ2=>
  if (a1.Kind==6) then
   κ2 a1.B
  else
  κ2 a1.A)
def a1C(a0:c7)(a1:Int):Option Int:=
 (F5 a0.S a1).bind λv1=>
 some v1.1.Serial
def b1V(a0:Int):Option ((List Int) × Int):=
 if ((decide (a0<0))||(decide (a0 > 4))) then
  some ([],1)
 else
 (mk 8 a0 (0:Int)).bind λv1=>
 some (v1,0)
def a6q(a0:y7)(a1:Int):Option (y7 × Int × Int):=
 jn (λ(_:Unit)=>
  some (a0,0,4)) (λκ7=>
  (lp (S:=Int) (E:=(y7 × Int × Int) ⊕ Unit) (λ(s10:Int)=>
   if (decide (s10<(a0.a8.length:Int))) then
    (ix a0.a8 s10).bind λv12=>
    if (v12.State==0) then
     (X9 a0 s10 (⟨1,v12.Gen,a1⟩:x4)).bind λv13=>
     (a3w s10 v12.Gen).bind λv14=>
     some (.inr (.inl (v13,v14,0)))
    else
    some (.inl (x8 (s10+1)))
   else
   some (.inr (.inr ()))) 0).bind λe9=>
  match e9 with
  | .inl w=>some w
  | .inr w=>κ7 w)
def a2j(a0:k8)(a1:Int)(a2:Int):Option (k8 × Int × Int):=
 (b1V a1).bind λv1=>
 if (v1.2 != 0) then
  some (a0,0,v1.2)
 else
 if ((decide (a2<(-1)))||(decide (a2 > 5))) then
  some (a0,0,13)
 else
 (K4 a0).bind λv2=>
 (a6q v2 0).bind λv3=>
 if (v3.2.2 != 0) then
  some (a0,0,v3.2.2)
 else
 (a0v a0 v3.1).bind λv4=>
 (a6o v3.2.1).bind λv5=>
 (a1h v4 v5 (⟨x8 (a0.Serial+1),0,0,a2,false,v1.1⟩:C6)).bind λv6=>
 some ((⟨v6.a8,v6.Last,x8 (a0.Serial+1)⟩:k8),v3.2.1,0)
def b0V(a0:c7)(a1:Int):Option Int:=
 if ((decide (a1<0))||(decide (a1 > 5))) then
  some 0
 else
 (ix a0.Roots a1).bind λv1=>
 (a1C a0 v1).bind λv2=>
 some v2
def a8T(a0:List m8)(a1:Int):Option (Int × Int):=
 if ((decide (a1<0))||(decide (a1≥(a0.length:Int)))) then
  some (0,7)
 else
 (ix a0 a1).bind λv1=>
 if ((v1.Target==0)||(!v1.Intact)) then
  some (0,9)
 else
 some (v1.Target,0)
def b15(a0:List g9)(a1:Int):Option (Int × Int):=
 (a9F a0 a1).bind λv1=>
 some (v1.1,v1.2)
def a1N(a0:c7)(a1:r8):Option (Int × Int):=
 if (a1.Kind==2) then
  (ix a0.Roots a1.B).bind λv1=>
  some (v1,0)
 else
 if (a1.Kind==4) then
  (V8 a0 a1.B).bind λv2=>
  if (v2.2 != 0) then
   some (0,v2.2)
  else
  (a2R a0.S v2.1 a1.C).bind λv3=>
  some (v3.1,v3.2)
 else
 if (a1.Kind==7) then
  (a8T a0.a8 a1.B).bind λv4=>
  some (v4.1,v4.2)
 else
 if (a1.Kind==9) then
  (V8 a0 a1.B).bind λv5=>
  if (v5.2 != 0) then
   some (0,v5.2)
  else
  (b15 a0.T v5.1).bind λv6=>
  some (v6.1,v6.2)
 else
 some (0,0)
def D2(a0:c7)(a1:r8):Option (c7 × Int × Int):=
 (a0S a1).bind λv1=>
 if (v1 != 0) then
  some (a0,0,v1)
 else
 (Q6 a1).bind λv2=>
 if (!v2) then
  some (a0,0,14)
 else
 if (a1.Kind==10) then
  (ix a0.Roots a1.A).bind λv3=>
  (ix a0.Roots a1.B).bind λv4=>
  if (v3==v4) then
   some (a0,1,0)
  else
  some (a0,0,0)
 else
 jn (λ(j6:Bool)=>
  if j6 then
   (a0T a0 a1).bind λv7=>
   if (v7.2.2 != 0) then
    some (a0,0,v7.2.2)
   else
   (N8 v7.1).bind λv8=>
   (a1C a0 v7.2.1).bind λv9=>
   some (v8,v9,0)
  else
  if (a1.Kind==1) then
   (a2j a0.S a1.B a1.C).bind λv10=>
   if (v10.2.2 != 0) then
    some (a0,0,v10.2.2)
   else
   (V7 (⟨v10.1,a0.Roots,a0.a8,a0.T,a0.Q⟩:c7) a1.A v10.2.1).bind λv11=>
   (N8 v11.1).bind λv12=>
   (b0V v12 a1.A).bind λv13=>
   some (v12,v13,0)
  else
  (a1N a0 a1).bind λv14=>
  if (v14.2 != 0) then
   some (a0,0,v14.2)
  else
  (V7 a0 a1.A v14.1).bind λv15=>
  (N8 v15.1).bind λv16=>
  (b0V v16 a1.A).bind λv17=>
  some (v16,v17,0)) (λκ5=>
  if (a1.Kind==5) then
   κ5 (a1.Kind==5)
  else
  if (a1.Kind==6) then
   κ5 (a1.Kind==6)
  else
  κ5 (a1.Kind==8))
def b2g(a0:c7)(a1:List r8):Option (c7 × (List Int)):=
 jn (λ((j11,j12):c7 × (List Int))=>
  some (j11,j12)) (λκ10=>
  (lp (S:=Int × c7 × (List Int)) (E:=(c7 × (List Int))) (λ((s15,s16,s17):Int × c7 × (List Int))=>
   if (decide (s15<(a1.length:Int))) then
    (ix a1 s15).bind λv20=>
    (D2 s16 v20).bind λv21=>
    (app 8 s17 [v21.2.1]).bind λv22=>
    some (.inl (x8 (s15+1),v21.1,v22))
   else
   some (.inr (s16,s17))) (0,a0,[])).bind λe14=>
  κ10 e14)
def b2h(a0:c7)(a1:List (List r8)):Option (c7 × o6 × Int):=
 (b2b a0.Q).bind λv1=>
 if (v1.2.2 != 0) then
  some (a0,(⟨0,0,0⟩:o6),v1.2.2)
 else
 jn (λ(j6:c7)=>
  (a6D a1 v1.2.1.Prog).bind λv7=>
  (b2g j6 v7).bind λv8=>
  if (v1.2.1.Kind==1) then
   (V7 v8.1 5 0).bind λv9=>
   (N8 v9.1).bind λv10=>
   some (v10,v1.2.1,0)
  else
  some (v8.1,v1.2.1,0)) (λκ5=>
  if (v1.2.1.Kind==1) then
   (V7 (⟨a0.S,a0.Roots,a0.a8,a0.T,v1.1⟩:c7) 5 v1.2.1.At).bind λv11=>
   (E8 v11.1 v1.2.1.At).bind λv12=>
   (N8 v12).bind λv13=>
   κ5 v13
  else
  κ5 (⟨a0.S,a0.Roots,a0.a8,a0.T,v1.1⟩:c7))
def a6C(a0:c7)(a1:List (List r8))(a2:Int):Option (c7 × Int × Int × Int):=
 jn (λ((j12,j13,j14):Int × Int × c7)=>
  some (j14,j13,j12,0)) (λκ11=>
  (lp (S:=Int × Int × c7) (E:=(c7 × Int × Int × Int) ⊕ (Int × Int × c7)) (λ((s17,s18,s19):Int × Int × c7)=>
   (a4q s19).bind λv22=>
   if (!v22) then
    (ix s19.Q.L 0).bind λv23=>
    (a6B a1 v23).bind λv24=>
    if (decide (v24 > s17)) then
     some (.inr (.inl (s19,s18,s17,12)))
    else
    (b2h s19 a1).bind λv25=>
    some (.inl (x8 (s17-v24),x8 (s18+1),v25.1))
   else
   some (.inr (.inr (s17,s18,s19)))) (a2,0,a0)).bind λe16=>
  match e16 with
  | .inl w=>some w
  | .inr w=>κ11 w)
def b86(a0:w8)(a1:List Int):Option (w8 × p7):=
 (a1B a1).bind λv1=>
 if (v1.2 != 0) then
  some (a0,(⟨0,v1.2⟩:p7))
 else
 if (v1.1.Kind==11) then
  (a5E a0.X).bind λv2=>
  some ((⟨v2.1,a0.Progs⟩:w8),(⟨x8 (v2.2.2-v2.2.1),0⟩:p7))
 else
 if (v1.1.Kind==12) then
  (a6C a0.X a0.Progs v1.1.A).bind λv3=>
  some ((⟨v3.1,a0.Progs⟩:w8),(⟨v3.2.1,v3.2.2.2⟩:p7))
 else
 (D2 a0.X v1.1).bind λv4=>
 some ((⟨v4.1,a0.Progs⟩:w8),(⟨v4.2.1,v4.2.2⟩:p7))
def a9K(a0:w8)(a1:List (List Int)):Option (w8 × (List p7)):=
 jn (λ((j11,j12):w8 × (List p7))=>
  some (j11,j12)) (λκ10=>
  (lp (S:=Int × w8 × (List p7)) (E:=(w8 × (List p7))) (λ((s15,s16,s17):Int × w8 × (List p7))=>
   if (decide (s15<(a1.length:Int))) then
    (ix a1 s15).bind λv20=>
    (b86 s16 v20).bind λv21=>
    (app 16 s17 [v21.2]).bind λv22=>
    some (.inl (x8 (s15+1),v21.1,v22))
   else
   some (.inr (s16,s17))) (0,a0,[])).bind λe14=>
  κ10 e14)
def a9Y(a0:a7):Option Bool:=
 jn (λ(_:Unit)=>
  some (decide ((a0.S.a8.length:Int)≤30))) (λκ5=>
  (lp (S:=Int) (E:=Bool ⊕ Unit) (λ(s8:Int)=>
   if ((decide (s8<(a0.S.a8.length:Int)))&&(decide (s8<30))) then
    (ix a0.S.a8 s8).bind λv10=>
    if (decide ((v10.Val.Fields.length:Int) > 10)) then
     some (.inr (.inl false))
    else
    some (.inl (x8 (s8+1)))
   else
   some (.inr (.inr ()))) 0).bind λe7=>
  match e7 with
  | .inl w=>some w
  | .inr w=>κ5 w)
def b2C(a0:b7):Option Bool:=
 (a9Y a0.S).bind λv1=>
 some ((((v1&&(decide ((a0.Roots.length:Int)≤20)))&&(decide ((a0.a8.length:Int)≤20)))&&(decide ((a0.T.length:Int)≤20)))&&(decide ((a0.Q.L.length:Int)≤60)))
def a6r(a0:C6)(a1:C6):Option Bool:=
 (u4 ((((((a0.Serial==a1.Serial)&&(a0.Strong==a1.Strong))&&(a0.Weak==a1.Weak))&&(a0.Prog==a1.Prog))&&(a0.Started==a1.Started))==true) false (a3x a0.Fields a1.Fields)).bind λv1=>
 some ((((((a0.Serial==a1.Serial)&&(a0.Strong==a1.Strong))&&(a0.Weak==a1.Weak))&&(a0.Prog==a1.Prog))&&(a0.Started==a1.Started))&&v1)
def b1Y(a0:k8)(a1:k8):Option Bool:=
 if (((a0.Last != a1.Last)||(a0.Serial != a1.Serial))||((a0.a8.length:Int) != (a1.a8.length:Int))) then
  some false
 else
 jn (λ(_:Unit)=>
  some true) (λκ7=>
  (lp (S:=Int) (E:=Bool ⊕ Unit) (λ(s10:Int)=>
   if (decide (s10<(a0.a8.length:Int))) then
    (ix a0.a8 s10).bind λv12=>
    (ix a1.a8 s10).bind λv13=>
    (u4 (((v12.State != v13.State)||(v12.Gen != v13.Gen))==false) false (a6r v12.Val v13.Val)).bind λv14=>
    if (((v12.State != v13.State)||(v12.Gen != v13.Gen))||(!v14)) then
     some (.inr (.inl false))
    else
    some (.inl (x8 (s10+1)))
   else
   some (.inr (.inr ()))) 0).bind λe9=>
  match e9 with
  | .inl w=>some w
  | .inr w=>κ7 w)
def b11(a0:List m8)(a1:List m8):Option Bool:=
 if ((a0.length:Int) != (a1.length:Int)) then
  some false
 else
 jn (λ(_:Unit)=>
  some true) (λκ6=>
  (lp (S:=Int) (E:=Bool ⊕ Unit) (λ(s9:Int)=>
   if (decide (s9<(a0.length:Int))) then
    (ix a0 s9).bind λv11=>
    (ix a1 s9).bind λv12=>
    if (!((v11.Target==v12.Target)&&((v11.Intact==v12.Intact)&&((v11.Call==v12.Call)&&true)))) then
     some (.inr (.inl false))
    else
    some (.inl (x8 (s9+1)))
   else
   some (.inr (.inr ()))) 0).bind λe8=>
  match e8 with
  | .inl w=>some w
  | .inr w=>κ6 w)
def b14(a0:List g9)(a1:List g9):Option Bool:=
 if ((a0.length:Int) != (a1.length:Int)) then
  some false
 else
 jn (λ(_:Unit)=>
  some true) (λκ6=>
  (lp (S:=Int) (E:=Bool ⊕ Unit) (λ(s9:Int)=>
   if (decide (s9<(a0.length:Int))) then
    (ix a0 s9).bind λv11=>
    (ix a1 s9).bind λv12=>
    if (!((v11.State==v12.State)&&((v11.Key==v12.Key)&&((v11.Val==v12.Val)&&true)))) then
     some (.inr (.inl false))
    else
    some (.inl (x8 (s9+1)))
   else
   some (.inr (.inr ()))) 0).bind λe8=>
  match e8 with
  | .inl w=>some w
  | .inr w=>κ6 w)
def b2c(a0:w7)(a1:w7):Option Bool:=
 if ((a0.Cap != a1.Cap)||((a0.L.length:Int) != (a1.L.length:Int))) then
  some false
 else
 jn (λ(_:Unit)=>
  some true) (λκ6=>
  (lp (S:=Int) (E:=Bool ⊕ Unit) (λ(s9:Int)=>
   if (decide (s9<(a0.L.length:Int))) then
    (ix a0.L s9).bind λv11=>
    (ix a1.L s9).bind λv12=>
    if (!((v11.Kind==v12.Kind)&&((v11.At==v12.At)&&((v11.Prog==v12.Prog)&&true)))) then
     some (.inr (.inl false))
    else
    some (.inl (x8 (s9+1)))
   else
   some (.inr (.inr ()))) 0).bind λe8=>
  match e8 with
  | .inl w=>some w
  | .inr w=>κ6 w)
def b2e(a0:c7)(a1:c7):Option Bool:=
 (b1Y a0.S a1.S).bind λv1=>
 (u4 (v1==true) false (a3x a0.Roots a1.Roots)).bind λv2=>
 (u4 ((v1&&v2)==true) false (b11 a0.a8 a1.a8)).bind λv3=>
 (u4 (((v1&&v2)&&v3)==true) false (b14 a0.T a1.T)).bind λv4=>
 (u4 ((((v1&&v2)&&v3)&&v4)==true) false (b2c a0.Q a1.Q)).bind λv5=>
 some ((((v1&&v2)&&v3)&&v4)&&v5)
def a5J(a0:List l6):Option (List p7):=
 jn (λ(j9:List p7)=>
  some j9) (λκ8=>
  (lp (S:=Int × (List p7)) (E:=(List p7)) (λ((s11,s12):Int × (List p7))=>
   if (decide (s11<(a0.length:Int))) then
    (ix a0 s11).bind λv15=>
    (app 16 s12 [(⟨v15.V,v15.E⟩:p7)]).bind λv16=>
    some (.inl (x8 (s11+1),v16))
   else
   some (.inr s12)) (0,[])).bind λe10=>
  κ8 e10)
def a5F(a0:List p7)(a1:List p7):Option Bool:=
 if ((a0.length:Int) != (a1.length:Int)) then
  some false
 else
 jn (λ(_:Unit)=>
  some true) (λκ6=>
  (lp (S:=Int) (E:=Bool ⊕ Unit) (λ(s9:Int)=>
   if (decide (s9<(a0.length:Int))) then
    (ix a0 s9).bind λv11=>
    (ix a1 s9).bind λv12=>
    if (!((v11.V==v12.V)&&((v11.E==v12.E)&&true))) then
     some (.inr (.inl false))
    else
    some (.inl (x8 (s9+1)))
   else
   some (.inr (.inr ()))) 0).bind λe8=>
  match e8 with
  | .inl w=>some w
  | .inr w=>κ6 w)
def a4Z(a0:Int)(a1:Int)(a2:Int)(a3:List (List g8))(a4:List (List Int)):Option Bool:=
 (a9j a3).bind λv1=>
 (u4 ((!v1)==false) false (a2Z a4 60)).bind λv2=>
 (u4 (((!v1)||(!v2))==false) false a20).bind λv3=>
 if (((!v1)||(!v2))||(!v3)) then
  (a20).bind λv4=>
  some v4
 else
 (W7 a0 a1 a2 a3).bind λv5=>
 if (v5.2 != 0) then
  some ((v5.1.X.Roots.length:Int)==0)
 else
 (a2I v5.1 a4).bind λv6=>
 (a9i v5.1).bind λv7=>
 (a9K v7 a4).bind λv8=>
 (b2C v6.1.X).bind λv9=>
 (u4 (v9==true) ⟨⟨[],0,0⟩,[],[],[],⟨[],0⟩⟩ (a40 v6.1.X)).bind λv10=>
 (u4 (v9==true) false (b2e v10 v8.1.X)).bind λv11=>
 (u4 ((v9&&v11)==true) [] (a5J v6.2)).bind λv12=>
 (u4 ((v9&&v11)==true) false (a5F v12 v8.2)).bind λv13=>
 some ((v9&&v11)&&v13)
def a9I(a0:List (List r8)):Option Bool:=
 if (decide ((a0.length:Int) > 6)) then
  some false
 else
 jn (λ(_:Unit)=>
  some true) (λκ20=>
  (lp (S:=Int) (E:=Bool ⊕ Unit) (λ(s23:Int)=>
   if (decide (s23<(a0.length:Int))) then
    jn (λ(_:Unit)=>
     some (.inl (x8 (s23+1)))) (λκ32=>
     (ix a0 s23).bind λv34=>
     if (decide ((v34.length:Int) > 6)) then
      some (.inr (.inl false))
     else
     (lp (S:=Int) (E:=Bool ⊕ Unit) (λ(s36:Int)=>
      if (decide (s36<(v34.length:Int))) then
       (ix v34 s36).bind λv38=>
       (Q6 v38).bind λv39=>
       (u4 ((!v39)==false) 0 (a0S v38)).bind λv40=>
       if ((!v39)||(v40 != 0)) then
        some (.inr (.inl false))
       else
       some (.inl (x8 (s36+1)))
      else
      some (.inr (.inr ()))) 0).bind λe35=>
     match e35 with
     | .inl w=>some (.inr (.inl w))
     | .inr w=>κ32 w)
   else
   some (.inr (.inr ()))) 0).bind λe22=>
  match e22 with
  | .inl w=>some w
  | .inr w=>κ20 w)
def c4v(a0:Int)(a1:Int):Option y7:=
 if ((((decide (a0<0))||(decide (a0 > 24)))||(decide (a1<0)))||(decide (a1 > 9))) then
  some (⟨[],0⟩:y7)
 else
 (mk 24 a0 (⟨0,0,0⟩:x4)).bind λv1=>
 some (⟨v1,a1⟩:y7)
def b8S(a0:Int)(a1:Int):Option k8:=
 (c4v a0 a1).bind λv1=>
 (mk 80 (v1.a8.length:Int) (⟨0,0,⟨0,0,0,0,false,[]⟩⟩:n8)).bind λv2=>
 some (⟨v2,v1.Last,0⟩:k8)
def d0W(a0:Int):Option (List m8):=
 jn (λ(j8:List m8)=>
  some j8) (λκ7=>
  (lp (S:=Int × (List m8)) (E:=(List m8)) (λ((s10,s11):Int × (List m8))=>
   if ((decide (s10<a0))&&(decide (a0≤6))) then
    (app 24 s11 [(⟨0,false,(-1)⟩:m8)]).bind λv14=>
    some (.inl (x8 (s10+1),v14))
   else
   some (.inr s11)) (0,[])).bind λe9=>
  κ7 e9)
def c4w(a0:Int):Option (List g9):=
 if ((decide (a0<1))||(decide (a0 > 8))) then
  some []
 else
 (mk 24 a0 (⟨0,0,0⟩:g9)).bind λv1=>
 some v1
def d0X:Option w7:=
 some (⟨[],30⟩:w7)
def b2d(a0:Int)(a1:Int)(a2:Int):Option c7:=
 if ((((((decide (a0<1))||(decide (a0 > 24)))||(decide (a1<0)))||(decide (a1 > 9)))||(decide (a2<1)))||(decide (a2 > 8))) then
  some (⟨⟨[],0,0⟩,[],[],[],⟨[],0⟩⟩:c7)
 else
 (b8S a0 a1).bind λv1=>
 (mk 8 6 (0:Int)).bind λv2=>
 (d0W 6).bind λv3=>
 (c4w a2).bind λv4=>
 (d0X).bind λv5=>
 some (⟨v1,v2,v3,v4,v5⟩:c7)
def b87(a0:Int)(a1:Int)(a2:Int)(a3:List (List r8)):Option (w8 × Int):=
 (a9I a3).bind λv1=>
 if (!v1) then
  some ((⟨⟨⟨[],0,0⟩,[],[],[],⟨[],0⟩⟩,[]⟩:w8),13)
 else
 (b2d a0 a1 a2).bind λv2=>
 if ((v2.Roots.length:Int)==0) then
  some ((⟨⟨⟨[],0,0⟩,[],[],[],⟨[],0⟩⟩,[]⟩:w8),1)
 else
 some ((⟨v2,a3⟩:w8),0)
def b7n(a0:w8):Option (List Int):=
 (R1 a0.X.S).bind λv1=>
 jn (λ(j11:List Int)=>
  some j11) (λκ10=>
  (lp (S:=Int × (List Int)) (E:=(List Int)) (λ((s13,s14):Int × (List Int))=>
   if (decide (s13<(v1.length:Int))) then
    (ix v1 s13).bind λv17=>
    (a1C a0.X v17).bind λv18=>
    (app 8 s14 [v18]).bind λv19=>
    some (.inl (x8 (s13+1),v19))
   else
   some (.inr s14)) (0,[])).bind λe12=>
  κ10 e12)
def b3a(a0:c7):Option Bool:=
 (a1O a0).bind λv1=>
 some ((v1.length:Int)==0)
def b7o(a0:w8):Option Bool:=
 (a4q a0.X).bind λv1=>
 (u4 (v1==true) false (b3a a0.X)).bind λv2=>
 some (v1&&v2)
end
end Go.Sh
