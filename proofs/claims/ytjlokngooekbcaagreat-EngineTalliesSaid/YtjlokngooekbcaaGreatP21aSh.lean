/-
 Plain functions: what the functions of the program come to.
-/
import Derived.Test.YtjlokngooekbcaaGreatP21aSh0
import Derived.Test.YtjlokngooekbcaaGreatP21aPwD
import Derived.Test.YtjlokngooekbcaaGreatP21aPwC
set_option linter.unusedVariables false
set_option linter.unusedSimpArgs false
set_option linter.unusedSectionVars false
namespace Go.Sh
set_option maxRecDepth 100000
noncomputable section
structure g9 where
 Kind:Int
 A:Int
 B:Int
 C:Int
structure m8 where
 Serial:Int
 Strong:Int
 Weak:Int
 Prog:Int
 Started:Bool
 Fields:List Int
structure b8 where
 State:Int
 Gen:Int
 Val:m8
structure g5 where
 Target:Int
 Intact:Bool
 Call:Int
structure c4 where
 State:Int
 Key:Int
 Val:Int
structure k8 where
 Kind:Int
 At:Int
 Prog:Int
structure j5 where
 part:Fv
 least:Int
 most:Int
 e:Int
structure c8 where
 a8:List b8
 Last:Int
structure a7 where
 S:c8
 Serial:Int
structure c9 where
 L:List k8
 Cap:Int
structure b7 where
 S:a7
 Roots:List Int
 a8:List g5
 T:List c4
 Q:c9
structure n9 where
 X:b7
 Progs:List (List g9)
structure l7 where
 V:Int
 E:Int
structure r9 where
 x:b7
 o:g9
structure I0 where
 r:Int
 h:Int
structure G6 where
 h:Int
 k:Int
 v:Int
structure H9 where
 t:List c4
structure n8 where
 Key:Int
 Val:Int
structure l6 where
 L:List Int
 Cap:Int
structure D9 where
 Serial:Int
 Strong:Int
 Weak:Int
 Prog:Int
 Started:Bool
 Fields:List Int
structure p9 where
 State:Int
 Gen:Int
 Val:D9
structure u9 where
 Target:Int
 Intact:Bool
 Call:Int
structure m7 where
 State:Int
 Key:Int
 Val:Int
structure w7 where
 Kind:Int
 At:Int
 Prog:Int
structure m9 where
 a8:List p9
 Last:Int
 Serial:Int
structure y7 where
 L:List w7
 Cap:Int
structure g8 where
 S:m9
 Roots:List Int
 a8:List u9
 T:List m7
 Q:y7
structure B8 where
 State:Int
 Gen:Int
 Val:Int
structure B9 where
 a8:List B8
 Last:Int
structure D3 where
 Key:Int
 Val:Int
structure J5 where
 Kind:Int
 A:Int
 B:Int
 C:Int
structure B1 where
 X:g8
 Progs:List (List J5)
structure F6 where
 V:Int
 E:Int
def a8E(a0:List (List g9)):Option Bool:=
 jn (λ(_:Unit)=>
  some (decide ((a0.length:Int)≤10))) (λκ5=>
  (lp (S:=Int) (E:=Bool ⊕ Unit) (λ(s8:Int)=>
   if ((decide (s8<(a0.length:Int)))&&(decide (s8<10))) then
    (ix a0 s8).bind λv10=>
    if (decide ((v10.length:Int) > 10)) then
     some (.inr (.inl false))
    else
    some (.inl (u5 (s8+1)))
   else
   some (.inr (.inr ()))) 0).bind λe7=>
  match e7 with
  | .inl w=>some w
  | .inr w=>κ5 w)
def a2K(a0:List (List Int))(a1:Int):Option Bool:=
 jn (λ(_:Unit)=>
  some (decide ((a0.length:Int)≤a1))) (λκ5=>
  (lp (S:=Int) (E:=Bool ⊕ Unit) (λ(s8:Int)=>
   if ((decide (s8<(a0.length:Int)))&&(decide (s8<200))) then
    (ix a0 s8).bind λv10=>
    if (decide ((v10.length:Int) > 10)) then
     some (.inr (.inl false))
    else
    some (.inl (u5 (s8+1)))
   else
   some (.inr (.inr ()))) 0).bind λe7=>
  match e7 with
  | .inl w=>some w
  | .inr w=>κ5 w)
def a2p(a0:g9):Option Bool:=
 some ((decide (a0.Kind≥1))&&(decide (a0.Kind≤10)))
def Z0:Option j5:=
 some (⟨(some 233),0,5,6⟩:j5)
def R5:Option j5:=
 some (⟨(some 236),(-1),5,13⟩:j5)
def J0(a0:List j5):Option (List j5):=
 some a0
def Z1:Option j5:=
 some (⟨(some 234),0,5,6⟩:j5)
def V9:Option j5:=
 some (⟨(some 236),0,3,5⟩:j5)
def V8:Option j5:=
 some (⟨(some 234),0,3,5⟩:j5)
def N8:Option j5:=
 some (⟨(some 236),(-1),5,6⟩:j5)
def Y8:Option j5:=
 some (⟨(some 233),0,5,7⟩:j5)
def N7:Option j5:=
 some (⟨(some 234),(-1),5,6⟩:j5)
def Y9:Option j5:=
 some (⟨(some 234),0,5,7⟩:j5)
def a6t:Option (List (Int × (List j5))):=
 (Z0).bind λv1=>
 (R5).bind λv2=>
 (J0 [v1,(⟨(some 234),0,4,1⟩:j5),v2]).bind λv3=>
 (Z1).bind λv4=>
 (J0 [v1,v4]).bind λv5=>
 (J0 [v1]).bind λv6=>
 (V9).bind λv7=>
 (J0 [v1,v4,v7]).bind λv8=>
 (V8).bind λv9=>
 (N8).bind λv10=>
 (J0 [v1,v9,v10]).bind λv11=>
 (Y8).bind λv12=>
 (N7).bind λv13=>
 (J0 [v12,v13,v2]).bind λv14=>
 (Y9).bind λv15=>
 (J0 [v1,v15]).bind λv16=>
 (J0 [v1,v13]).bind λv17=>
 (J0 []).bind λv18=>
 (J0 [(⟨(some 233),0,200,12⟩:j5)]).bind λv19=>
 some (r8 (r8 (r8 (r8 (r8 (r8 (r8 (r8 (r8 (r8 (r8 (r8 [] 1 v3) 2 v5) 3 v6) 4 v8) 5 v11) 6 v14) 7 v16) 8 v17) 9 v5) 10 v5) 11 v18) 12 v19)
def a93(a0:g9):Option Int:=
 some a0.A
def a94(a0:g9):Option Int:=
 some a0.B
def a95(a0:g9):Option Int:=
 some a0.C
def b0V(f:Fv)(a0:g9):Option Int:=
 if f=some 233 then a93 a0 else
 if f=some 234 then a94 a0 else
 if f=some 236 then a95 a0 else
 none
def R4(a0:g9):Option Int:=
 (a6t).bind λv1=>
 if (!((B5 v1 a0.Kind).isSome)) then
  some 14
 else
 jn (λ(_:Unit)=>
  some 0) (λκ8=>
  (lp (S:=Int) (E:=Int ⊕ Unit) (λ(s11:Int)=>
   if (decide (s11<(((B5 v1 a0.Kind).getD ([]:List j5)).length:Int))) then
    (ix ((B5 v1 a0.Kind).getD ([]:List j5)) s11).bind λv13=>
    (b0V v13.part a0).bind λv14=>
    if ((decide (v14<v13.least))||(decide (v14 > v13.most))) then
     some (.inr (.inl v13.e))
    else
    some (.inl (u5 (s11+1)))
   else
   some (.inr (.inr ()))) 0).bind λe10=>
  match e10 with
  | .inl w=>some w
  | .inr w=>κ8 w)
def a37(a0:List (List g9)):Option Bool:=
 if (decide ((a0.length:Int) > 6)) then
  some false
 else
 jn (λ(_:Unit)=>
  some true) (λκ20=>
  (lp (S:=Int) (E:=Bool ⊕ Unit) (λ(s23:Int)=>
   if (decide (s23<(a0.length:Int))) then
    jn (λ(_:Unit)=>
     some (.inl (u5 (s23+1)))) (λκ32=>
     (ix a0 s23).bind λv34=>
     if (decide ((v34.length:Int) > 6)) then
      some (.inr (.inl false))
     else
     (lp (S:=Int) (E:=Bool ⊕ Unit) (λ(s36:Int)=>
      if (decide (s36<(v34.length:Int))) then
       (ix v34 s36).bind λv38=>
       (a2p v38).bind λv39=>
       (u4 ((!v39)==false) 0 (R4 v38)).bind λv40=>
       if ((!v39)||(v40 != 0)) then
        some (.inr (.inl false))
       else
       some (.inl (u5 (s36+1)))
      else
      some (.inr (.inr ()))) 0).bind λe35=>
     match e35 with
     | .inl w=>some (.inr (.inl w))
     | .inr w=>κ32 w)
   else
   some (.inr (.inr ()))) 0).bind λe22=>
  match e22 with
  | .inl w=>some w
  | .inr w=>κ20 w)
def P5(a0:Int)(a1:Int):Option c8:=
 if ((((decide (a0<0))||(decide (a0 > 24)))||(decide (a1<0)))||(decide (a1 > 9))) then
  some (⟨[],0⟩:c8)
 else
 (mk 80 a0 (⟨0,0,⟨0,0,0,0,false,[]⟩⟩:b8)).bind λv1=>
 some (⟨v1,a1⟩:c8)
def a1z(a0:Int)(a1:Int):Option a7:=
 (P5 a0 a1).bind λv1=>
 some (⟨v1,0⟩:a7)
def c0D(a0:Int):Option (List g5):=
 if ((decide (a0<0))||(decide (a0 > 6))) then
  some []
 else
 (mk 24 a0 (⟨0,false,0⟩:g5)).bind λv1=>
 jn (λ(j9:List g5)=>
  some j9) (λκ8=>
  (lp (S:=Int × (List g5)) (E:=(List g5)) (λ((s11,s12):Int × (List g5))=>
   if (decide (s11<(v1.length:Int))) then
    (ix s12 s11).bind λv15=>
    some (.inl (u5 (s11+1),(s12.set (s11).toNat (⟨v15.Target,v15.Intact,(-1)⟩:g5))))
   else
   some (.inr s12)) (0,v1)).bind λe10=>
  κ8 e10)
def b03(a0:Int):Option (List c4):=
 if ((decide (a0<1))||(decide (a0 > 8))) then
  some []
 else
 (mk 24 a0 (⟨0,0,0⟩:c4)).bind λv1=>
 some v1
def a0O(a0:Int):Option c9:=
 some (⟨[],a0⟩:c9)
def c0r:Option c9:=
 (a0O 30).bind λv1=>
 some v1
def a1S(a0:Int)(a1:Int)(a2:Int):Option b7:=
 if ((((((decide (a0<1))||(decide (a0 > 24)))||(decide (a1<0)))||(decide (a1 > 9)))||(decide (a2<1)))||(decide (a2 > 8))) then
  some (⟨⟨⟨[],0⟩,0⟩,[],[],[],⟨[],0⟩⟩:b7)
 else
 (a1z a0 a1).bind λv1=>
 (mk 8 6 (0:Int)).bind λv2=>
 (c0D 6).bind λv3=>
 (b03 a2).bind λv4=>
 (c0r).bind λv5=>
 some (⟨v1,v2,v3,v4,v5⟩:b7)
def O8(a0:Int)(a1:Int)(a2:Int)(a3:List (List g9)):Option (n9 × Int):=
 (a37 a3).bind λv1=>
 if (!v1) then
  some ((⟨⟨⟨⟨[],0⟩,0⟩,[],[],[],⟨[],0⟩⟩,[]⟩:n9),13)
 else
 (a1S a0 a1 a2).bind λv2=>
 if ((v2.Roots.length:Int)==0) then
  some ((⟨⟨⟨⟨[],0⟩,0⟩,[],[],[],⟨[],0⟩⟩,[]⟩:n9),1)
 else
 some ((⟨v2,a3⟩:n9),0)
def V5(a0:List Int):Option (g9 × Int):=
 if ((a0.length:Int) != 4) then
  some ((⟨0,0,0,0⟩:g9),14)
 else
 (ix a0 0).bind λv1=>
 (ix a0 1).bind λv2=>
 (ix a0 2).bind λv3=>
 (ix a0 3).bind λv4=>
 (R4 (⟨v1,v2,v3,v4⟩:g9)).bind λv5=>
 if (v5 != 0) then
  some ((⟨0,0,0,0⟩:g9),v5)
 else
 some ((⟨v1,v2,v3,v4⟩:g9),0)
def a6w(a0:g9):Option Ifc:=
 if (a0.Kind==11) then
  some (⟨136,[]⟩:Ifc)
 else
 if (a0.Kind==12) then
  some (⟨140,[a0.A]⟩:Ifc)
 else
 some (⟨132,[a0.Kind,a0.A,a0.B,a0.C]⟩:Ifc)
def a2W:Option (List (Int × Fv)):=
 some (r8 (r8 (r8 (r8 (r8 (r8 (r8 (r8 (r8 (r8 [] 1 (some 151)) 2 (some 152)) 3 (some 153)) 4 (some 154)) 5 (some 155)) 6 (some 156)) 7 (some 157)) 8 (some 158)) 9 (some 159)) 10 (some 160))
def b8Q(a0:Int):Option ((List Int) × Int):=
 if ((decide (a0<0))||(decide (a0 > 4))) then
  some ([],1)
 else
 (mk 8 a0 (0:Int)).bind λv1=>
 some (v1,0)
def Q9(a0:Int):Option Bool:=
 some ((decide (a0≥(-1)))&&(decide (a0<6)))
def N6(a0:c8):Option c8:=
 some a0
def y5(a0:List b8):Option (List b8):=
 app 80 [] a0
def D0(a0:c8)(a1:Int)(a2:b8):Option c8:=
 (y5 a0.a8).bind λv1=>
 (ix v1 a1).bind λv2=>
 some (⟨(v1.set (a1).toNat a2),a0.Last⟩:c8)
def a1p(a0:Int)(a1:Int):Option Int:=
 if ((((decide (a0<0))||(decide (a0≥24)))||(decide (a1<0)))||(decide (a1 > 9))) then
  some 0
 else
 some (u5 ((u5 (1+(u5 (a0*1))))+(u5 (a1*32))))
def I9(a0:c8)(a1:m8):Option (c8 × Int × Int):=
 jn (λ(_:Unit)=>
  some (a0,0,4)) (λκ9=>
  (N6 a0).bind λv11=>
  (lp (S:=Int) (E:=(c8 × Int × Int) ⊕ Unit) (λ(s13:Int)=>
   if (decide (s13<(v11.a8.length:Int))) then
    (ix v11.a8 s13).bind λv15=>
    if ((v15.State==0)==true) then
     (ix a0.a8 s13).bind λv16=>
     (D0 a0 s13 (⟨1,v16.Gen,a1⟩:b8)).bind λv17=>
     (a1p s13 v16.Gen).bind λv18=>
     some (.inr (.inl (v17,v18,0)))
    else
    some (.inl (u5 (s13+1)))
   else
   some (.inr (.inr ()))) 0).bind λe12=>
  match e12 with
  | .inl w=>some w
  | .inr w=>κ9 w)
def T0(a0:a7)(a1:Int)(a2:Int):Option (a7 × Int × Int):=
 (b8Q a1).bind λv1=>
 if (v1.2 != 0) then
  some (a0,0,v1.2)
 else
 (Q9 a2).bind λv2=>
 if (!v2) then
  some (a0,0,13)
 else
 (I9 a0.S (⟨u5 (a0.Serial+1),0,0,a2,false,v1.1⟩:m8)).bind λv3=>
 if (v3.2.2 != 0) then
  some (a0,0,v3.2.2)
 else
 some ((⟨v3.1,u5 (a0.Serial+1)⟩:a7),v3.2.1,0)
def a1R(a0:Int):Option (Int × Int × Bool):=
 if (decide (a0<1)) then
  some ((-1),(-1),false)
 else
 (rem (u5 (a0-1)) 32).bind λv1=>
 (quo .i64 v1 1).bind λv2=>
 (quo .i64 (u5 (a0-1)) 32).bind λv3=>
 if ((decide (v2≥24))||(decide (v3 > 9))) then
  some ((-1),(-1),false)
 else
 some (v2,v3,true)
def a27(a0:Int):Option Int:=
 (a1R a0).bind λv1=>
 some v1.1
def a4i(a0:Int):Option Int:=
 (a1R a0).bind λv1=>
 some v1.2.1
def w8(a0:c8)(a1:Int):Option (Int × Int):=
 if (a1==0) then
  some ((-1),2)
 else
 (a27 a1).bind λv1=>
 if ((decide (v1<0))||(decide (v1≥(a0.a8.length:Int)))) then
  some ((-1),3)
 else
 (ix a0.a8 v1).bind λv2=>
 (a4i a1).bind λv3=>
 if ((v2.Gen != v3)||((v2.State != 1)&&(v2.State != 2))) then
  some ((-1),3)
 else
 some (v1,0)
def E0(a0:c8)(a1:Int):Option (m8 × Int):=
 (w8 a0 a1).bind λv1=>
 if (v1.2 != 0) then
  some ((⟨0,0,0,0,false,[]⟩:m8),v1.2)
 else
 (ix a0.a8 v1.1).bind λv2=>
 if (v2.State==2) then
  some ((⟨0,0,0,0,false,[]⟩:m8),3)
 else
 some (v2.Val,0)
def y4(a0:a7)(a1:Int):Option (m8 × Int):=
 (E0 a0.S a1).bind λv1=>
 some (v1.1,v1.2)
def a4Z(a0:b7)(a1:Int):Option Bool:=
 (y4 a0.S a1).bind λv1=>
 some (v1.2==0)
def K8(a0:b7)(a1:Int):Option Bool:=
 (u4 ((a1==0)==false) false (a4Z a0 a1)).bind λv1=>
 some ((a1==0)||v1)
def G0(a0:Int):Option Bool:=
 some (decide (a0≥12))
def a38(a0:Int):Option (Int × Int):=
 (G0 a0).bind λv1=>
 if v1 then
  some (12,0)
 else
 some (u5 ((if 0 > a0 then 0 else a0)+1),0)
def a8K(a0:Int):Option Int:=
 (a38 a0).bind λv1=>
 some v1.1
def K1(a0:c8)(a1:Int)(a2:m8):Option (c8 × Int):=
 (w8 a0 a1).bind λv1=>
 if (v1.2 != 0) then
  some (a0,v1.2)
 else
 (ix a0.a8 v1.1).bind λv2=>
 (D0 a0 v1.1 (⟨v2.State,v2.Gen,a2⟩:b8)).bind λv3=>
 some (v3,0)
def K2(a0:a7)(a1:Int)(a2:m8):Option (a7 × Int):=
 (K1 a0.S a1 a2).bind λv1=>
 some ((⟨v1.1,a0.Serial⟩:a7),v1.2)
def U2(a0:b7)(a1:Int):Option b7:=
 (y4 a0.S a1).bind λv1=>
 if (v1.2==0) then
  (a8K v1.1.Strong).bind λv2=>
  (K2 a0.S a1 (⟨v1.1.Serial,v2,v1.1.Weak,v1.1.Prog,v1.1.Started,v1.1.Fields⟩:m8)).bind λv3=>
  some (⟨v3.1,a0.Roots,a0.a8,a0.T,a0.Q⟩:b7)
 else
 some a0
def a0g(a0:b7)(a1:Int):Option b7:=
 (U2 a0 a1).bind λv1=>
 some v1
def L9(a0:List Int):Option (List Int):=
 app 8 [] a0
def O9(a0:I0)(a1:b7):Option b7:=
 (L9 a1.Roots).bind λv1=>
 (ix v1 a0.r).bind λv2=>
 some (⟨a1.S,(v1.set (a0.r).toNat a0.h),a1.a8,a1.T,a1.Q⟩:b7)
def a2r(a0:Int):Option (Int × Int):=
 (G0 a0).bind λv1=>
 if v1 then
  some (12,0)
 else
 if (decide (a0<1)) then
  some (0,11)
 else
 some (u5 (a0-1),0)
def b19(a0:Int):Option (Int × Int):=
 (a2r a0).bind λv1=>
 some (v1.1,v1.2)
def a1T(a0:Int):Option Int:=
 (b19 a0).bind λv1=>
 if (v1.2 != 0) then
  some a0
 else
 some v1.1
def N2(a0:b7)(a1:Int):Option b7:=
 (y4 a0.S a1).bind λv1=>
 if (v1.2==0) then
  (a1T v1.1.Strong).bind λv2=>
  (K2 a0.S a1 (⟨v1.1.Serial,v2,v1.1.Weak,v1.1.Prog,v1.1.Started,v1.1.Fields⟩:m8)).bind λv3=>
  some (⟨v3.1,a0.Roots,a0.a8,a0.T,a0.Q⟩:b7)
 else
 some a0
def C9(a0:b7)(a1:Int):Option b7:=
 (N2 a0 a1).bind λv1=>
 some v1
def F0(a0:b7)(a1:Int)(a2:Int)(a3:I0):Option b7:=
 (a0g a0 a2).bind λv1=>
 (O9 a3 v1).bind λv2=>
 (C9 v2 a1).bind λv3=>
 some v3
def a0w(a0:b7)(a1:Int)(a2:Int):Option (b7 × Int):=
 if ((decide (a1<0))||(decide (a1≥(a0.Roots.length:Int)))) then
  some (a0,6)
 else
 (K8 a0 a2).bind λv1=>
 if (!v1) then
  some (a0,3)
 else
 (ix a0.Roots a1).bind λv2=>
 (F0 a0 v2 a2 (⟨a1,a2⟩:I0)).bind λv3=>
 some (v3,0)
def C1(a0:r9)(a1:Int)(a2:Int):Option (b7 × Int):=
 if (a2 != 0) then
  some (a0.x,a2)
 else
 (a0w a0.x a0.o.A a1).bind λv1=>
 some (v1.1,v1.2)
def T2(a0:r9):Option (b7 × Int):=
 (T0 a0.x.S a0.o.B a0.o.C).bind λv1=>
 if (v1.2.2 != 0) then
  some (a0.x,v1.2.2)
 else
 (C1 (⟨⟨v1.1,a0.x.Roots,a0.x.a8,a0.x.T,a0.x.Q⟩,a0.o⟩:r9) v1.2.1 0).bind λv2=>
 some (v2.1,v2.2)
def L0(a0:b7)(a1:Int):Option Int:=
 if ((decide (a1<0))||(decide (a1≥(a0.Roots.length:Int)))) then
  some 0
 else
 (ix a0.Roots a1).bind λv1=>
 some v1
def I2(a0:r9):Option (b7 × Int):=
 (L0 a0.x a0.o.B).bind λv1=>
 (C1 a0 v1 0).bind λv2=>
 some (v2.1,v2.2)
def Z5(a0:r9):Option (b7 × Int):=
 (C1 a0 0 0).bind λv1=>
 some (v1.1,v1.2)
def L7(a0:b7)(a1:Int):Option (Int × Int):=
 (L0 a0 a1).bind λv1=>
 if (v1==0) then
  some (0,2)
 else
 some (v1,0)
def a7g(a0:List Int)(a1:Int):Option Bool:=
 some ((decide (a1≥0))&&(decide (a1<(a0.length:Int))))
def b2Q(a0:List Int)(a1:Int):Option (Int × Int):=
 (a7g a0 a1).bind λv1=>
 if (!v1) then
  some (0,5)
 else
 (ix a0 a1).bind λv2=>
 some (v2,0)
def a0o(a0:a7)(a1:Int)(a2:Int):Option (Int × Int):=
 (y4 a0 a1).bind λv1=>
 if (v1.2 != 0) then
  some (0,v1.2)
 else
 (b2Q v1.1.Fields a2).bind λv2=>
 some (v2.1,v2.2)
def Z6(a0:r9):Option (b7 × Int):=
 (L7 a0.x a0.o.B).bind λv1=>
 if (v1.2 != 0) then
  some (a0.x,v1.2)
 else
 (a0o a0.x.S v1.1 a0.o.C).bind λv2=>
 (C1 a0 v2.1 v2.2).bind λv3=>
 some (v3.1,v3.2)
def b5v(a0:List Int)(a1:Int)(a2:Int):Option ((List Int) × Int):=
 (a7g a0 a1).bind λv1=>
 if (!v1) then
  some (a0,5)
 else
 (mk 8 (a0.length:Int) (0:Int)).bind λv2=>
 (cpy v2 a0).bind λv3=>
 (ix v3 a1).bind λv4=>
 some ((v3.set (a1).toNat a2),0)
def a9j(a0:a7)(a1:Int)(a2:Int)(a3:Int):Option (a7 × Int):=
 (y4 a0 a1).bind λv1=>
 if (v1.2 != 0) then
  some (a0,v1.2)
 else
 (b5v v1.1.Fields a2 a3).bind λv2=>
 if (v2.2 != 0) then
  some (a0,v2.2)
 else
 (K2 a0 a1 (⟨v1.1.Serial,v1.1.Strong,v1.1.Weak,v1.1.Prog,v1.1.Started,v2.1⟩:m8)).bind λv3=>
 some (v3.1,v3.2)
def a0M(a0:G6)(a1:b7):Option b7:=
 (a9j a1.S a0.h a0.k a0.v).bind λv1=>
 some (⟨v1.1,a1.Roots,a1.a8,a1.T,a1.Q⟩:b7)
def I1(a0:b7)(a1:Int)(a2:Int)(a3:G6):Option b7:=
 (a0g a0 a2).bind λv1=>
 (a0M a3 v1).bind λv2=>
 (C9 v2 a1).bind λv3=>
 some v3
def a2u(a0:b7)(a1:Int)(a2:Int)(a3:Int):Option (b7 × Int):=
 (a0o a0.S a1 a2).bind λv1=>
 if (v1.2 != 0) then
  some (a0,v1.2)
 else
 (K8 a0 a3).bind λv2=>
 if (!v2) then
  some (a0,3)
 else
 (I1 a0 v1.1 a3 (⟨a1,a2,a3⟩:G6)).bind λv3=>
 some (v3,0)
def W3(a0:r9):Option (b7 × Int):=
 (L7 a0.x a0.o.A).bind λv1=>
 if (v1.2 != 0) then
  some (a0.x,v1.2)
 else
 (L0 a0.x a0.o.C).bind λv2=>
 (a2u a0.x v1.1 a0.o.B v2).bind λv3=>
 some (v3.1,v3.2)
def b3W(a0:c9)(a1:Int):Option (c9 × Int):=
 some (a0,a1)
def a4B(a0:c9)(a1:Int):Option Bool:=
 jn (λ(_:Unit)=>
  some false) (λκ6=>
  (b3W a0 2).bind λv8=>
  (lp (S:=Int) (E:=Bool ⊕ Unit) (λ(s10:Int)=>
   if (decide (s10<(v8.1.L.length:Int))) then
    (ix v8.1.L s10).bind λv12=>
    if ((v12.Kind==v8.2)==true) then
     if (v12.At==a1) then
      some (.inr (.inl true))
     else
     some (.inl (u5 (s10+1)))
    else
    some (.inl (u5 (s10+1)))
   else
   some (.inr (.inr ()))) 0).bind λe9=>
  match e9 with
  | .inl w=>some w
  | .inr w=>κ6 w)
def a6h(a0:List g5)(a1:Int):Option Bool:=
 some ((decide (a1≥0))&&(decide (a1<(a0.length:Int))))
def a0p(a0:List g5):Option (List g5):=
 (mk 24 (a0.length:Int) (⟨0,false,0⟩:g5)).bind λv1=>
 (cpy v1 a0).bind λv2=>
 some v2
def b1X(a0:List g5)(a1:Int)(a2:Int)(a3:Int):Option ((List g5) × Int × Int):=
 (a6h a0 a1).bind λv1=>
 if (!v1) then
  some (a0,0,7)
 else
 (a0p a0).bind λv2=>
 (ix v2 a1).bind λv3=>
 (ix a0 a1).bind λv4=>
 some ((v2.set (a1).toNat (⟨a2,(a2 != 0),a3⟩:g5)),v4.Target,0)
def a1r(a0:b7)(a1:Int)(a2:Int):Option b7:=
 (w8 a0.S.S a1).bind λv1=>
 if (v1.2==0) then
  (ix a0.S.S.a8 v1.1).bind λv2=>
  (K2 a0.S a1 (⟨v2.Val.Serial,v2.Val.Strong,u5 (v2.Val.Weak+a2),v2.Val.Prog,v2.Val.Started,v2.Val.Fields⟩:m8)).bind λv3=>
  some (⟨v3.1,a0.Roots,a0.a8,a0.T,a0.Q⟩:b7)
 else
 some a0
def N5(a0:c8)(a1:Int):Option (c8 × Int):=
 (w8 a0 a1).bind λv1=>
 if (v1.2 != 0) then
  some (a0,v1.2)
 else
 (ix a0.a8 v1.1).bind λv2=>
 if (v2.Gen==a0.Last) then
  (D0 a0 v1.1 (⟨3,v2.Gen,⟨0,0,0,0,false,[]⟩⟩:b8)).bind λv3=>
  some (v3,0)
 else
 (D0 a0 v1.1 (⟨0,u5 (v2.Gen+1),⟨0,0,0,0,false,[]⟩⟩:b8)).bind λv4=>
 some (v4,0)
def a2V(a0:b7)(a1:Int):Option b7:=
 (a1r a0 a1 (-1)).bind λv1=>
 (w8 v1.S.S a1).bind λv2=>
 if (v2.2 != 0) then
  some v1
 else
 (ix v1.S.S.a8 v2.1).bind λv3=>
 if ((v3.State==2)&&(v3.Val.Weak==0)) then
  (N5 v1.S.S a1).bind λv4=>
  some (⟨⟨v4.1,v1.S.Serial⟩,v1.Roots,v1.a8,v1.T,v1.Q⟩:b7)
 else
 some v1
def a0x(a0:b7)(a1:Int)(a2:Int)(a3:Int):Option (b7 × Int):=
 (u4 (((decide (a1<0))||(decide (a1≥(a0.a8.length:Int))))==false) false (a4B a0.Q a1)).bind λv1=>
 if (((decide (a1<0))||(decide (a1≥(a0.a8.length:Int))))||v1) then
  some (a0,7)
 else
 (K8 a0 a2).bind λv2=>
 if (!v2) then
  some (a0,3)
 else
 (b1X a0.a8 a1 a2 a3).bind λv3=>
 (a1r (⟨a0.S,a0.Roots,v3.1,a0.T,a0.Q⟩:b7) a2 1).bind λv4=>
 (a2V v4 v3.2.1).bind λv5=>
 some (v5,0)
def T3(a0:r9):Option (b7 × Int):=
 if (a0.o.B==(-1)) then
  (a0x a0.x a0.o.A 0 a0.o.C).bind λv1=>
  some (v1.1,v1.2)
 else
 (L7 a0.x a0.o.B).bind λv2=>
 if (v2.2 != 0) then
  some (a0.x,v2.2)
 else
 (a0x a0.x a0.o.A v2.1 a0.o.C).bind λv3=>
 some (v3.1,v3.2)
def a6g(a0:List g5)(a1:Int):Option (Int × Int):=
 (a6h a0 a1).bind λv1=>
 if (!v1) then
  some (0,7)
 else
 (ix a0 a1).bind λv2=>
 if ((v2.Target==0)||(!v2.Intact)) then
  some (0,9)
 else
 some (v2.Target,0)
def W9(a0:r9):Option (b7 × Int):=
 (a6g a0.x.a8 a0.o.B).bind λv1=>
 (C1 a0 v1.1 v1.2).bind λv2=>
 some (v2.1,v2.2)
def a3W(a0:Int)(a1:Int):Option (Int × Int):=
 some (a0,a1)
def a0v(a0:Int)(a1:Int):Option Int:=
 if (decide (a0<1)) then
  some 0
 else
 (rem (u5 ((u5 (5*a1))+1)) a0).bind λv1=>
 if (decide (v1<0)) then
  some (u5 (v1+a0))
 else
 some v1
def X8(a0:List c4)(a1:Int):Option Int:=
 jn (λ(_:Unit)=>
  some (-1)) (λκ8=>
  (a3W (a0.length:Int) a1).bind λv10=>
  (lp (S:=Int) (E:=Int ⊕ Unit) (λ(s12:Int)=>
   if (decide (s12<v10.1)) then
    (a0v v10.1 v10.2).bind λv14=>
    (rem (u5 (v14+s12)) v10.1).bind λv15=>
    (ix a0 v15).bind λv16=>
    if (v16.State==0) then
     some (.inr (.inr ()))
    else
    if ((v16.State==1)&&(v16.Key==a1)) then
     some (.inr (.inl v15))
    else
    some (.inl (u5 (s12+1)))
   else
   some (.inr (.inr ()))) 0).bind λe11=>
  match e11 with
  | .inl w=>some w
  | .inr w=>κ8 w)
def L6(a0:List c4)(a1:Int):Option (Int × Int):=
 (X8 a0 a1).bind λv1=>
 if (decide (v1<0)) then
  some (0,9)
 else
 (ix a0 v1).bind λv2=>
 some (v2.Val,0)
def E1(a0:List c4):Option (List c4):=
 app 24 [] a0
def a1q(a0:List c4)(a1:Int)(a2:c4):Option (List c4):=
 (E1 a0).bind λv1=>
 (ix v1 a1).bind λv2=>
 some (v1.set (a1).toNat a2)
def X7(a0:List c4)(a1:Int):Option ((List c4) × Int × Int):=
 (X8 a0 a1).bind λv1=>
 if (decide (v1<0)) then
  some (a0,0,9)
 else
 (a1q a0 v1 (⟨2,0,0⟩:c4)).bind λv2=>
 (ix a0 v1).bind λv3=>
 some (v2,v3.Val,0)
def a71(a0:List c4)(a1:Int)(a2:Int):Option ((List c4) × Int):=
 (X8 a0 a1).bind λv1=>
 if (decide (v1≥0)) then
  (a1q a0 v1 (⟨1,a1,a2⟩:c4)).bind λv2=>
  some (v2,0)
 else
 jn (λ(_:Unit)=>
  some (a0,8)) (λκ11=>
  (a3W (a0.length:Int) a1).bind λv13=>
  (lp (S:=Int) (E:=((List c4) × Int) ⊕ Unit) (λ(s15:Int)=>
   if (decide (s15<v13.1)) then
    (a0v v13.1 v13.2).bind λv17=>
    (rem (u5 (v17+s15)) v13.1).bind λv18=>
    (ix a0 v18).bind λv19=>
    if (v19.State != 1) then
     (a1q a0 v18 (⟨1,a1,a2⟩:c4)).bind λv20=>
     some (.inr (.inl (v20,0)))
    else
    some (.inl (u5 (s15+1)))
   else
   some (.inr (.inr ()))) 0).bind λe14=>
  match e14 with
  | .inl w=>some w
  | .inr w=>κ11 w)
def T9(a0:List c4)(a1:Int)(a2:Int):Option ((List c4) × Int × Int):=
 if (a1==0) then
  some (a0,0,2)
 else
 (L6 a0 a1).bind λv1=>
 if (a2==0) then
  (X7 a0 a1).bind λv2=>
  some (v2.1,v1.1,0)
 else
 (a71 a0 a1 a2).bind λv3=>
 if (v3.2 != 0) then
  some (a0,0,v3.2)
 else
 some (v3.1,v1.1,0)
def W2(a0:H9)(a1:b7):Option b7:=
 some (⟨a1.S,a1.Roots,a1.a8,a0.t,a1.Q⟩:b7)
def J2(a0:b7)(a1:Int)(a2:Int)(a3:H9):Option b7:=
 (a0g a0 a2).bind λv1=>
 (W2 a3 v1).bind λv2=>
 (C9 v2 a1).bind λv3=>
 some v3
def a3X(a0:b7)(a1:Int)(a2:Int):Option (b7 × Int):=
 if (a1==0) then
  some (a0,2)
 else
 (K8 a0 a1).bind λv1=>
 (u4 ((!v1)==false) false (K8 a0 a2)).bind λv2=>
 if ((!v1)||(!v2)) then
  some (a0,3)
 else
 (T9 a0.T a1 a2).bind λv3=>
 if (v3.2.2 != 0) then
  some (a0,v3.2.2)
 else
 (J2 a0 v3.2.1 a2 (⟨v3.1⟩:H9)).bind λv4=>
 some (v4,0)
def Z7(a0:r9):Option (b7 × Int):=
 (L7 a0.x a0.o.A).bind λv1=>
 if (v1.2 != 0) then
  some (a0.x,v1.2)
 else
 (L0 a0.x a0.o.B).bind λv2=>
 (a3X a0.x v1.1 v2).bind λv3=>
 some (v3.1,v3.2)
def b2a(a0:List c4)(a1:Int):Option (Int × Int):=
 (L6 a0 a1).bind λv1=>
 some (v1.1,v1.2)
def a0z(a0:r9):Option (b7 × Int):=
 (L7 a0.x a0.o.B).bind λv1=>
 if (v1.2 != 0) then
  some (a0.x,v1.2)
 else
 (b2a a0.x.T v1.1).bind λv2=>
 (C1 a0 v2.1 v2.2).bind λv3=>
 some (v3.1,v3.2)
def P0(a0:r9):Option (b7 × Int):=
 some (a0.x,0)
def b3E(f:Fv)(a0:r9):Option (b7 × Int):=
 if f=some 151 then T2 a0 else
 if f=some 152 then I2 a0 else
 if f=some 153 then Z5 a0 else
 if f=some 154 then Z6 a0 else
 if f=some 155 then W3 a0 else
 if f=some 156 then T3 a0 else
 if f=some 157 then W9 a0 else
 if f=some 158 then Z7 a0 else
 if f=some 159 then a0z a0 else
 if f=some 160 then P0 a0 else
 none
def a0U(a0:Int):Option Bool:=
 some (a0 != a0)
def a3o(a0:Int)(a1:Int):Option Int:=
 (a0U a0).bind λv1=>
 (a0U a1).bind λv2=>
 if v1 then
  if v2 then
   some 0
  else
  some (-1)
 else
 if v2 then
  some 1
 else
 if (decide (a0<a1)) then
  some (-1)
 else
 if (decide (a0 > a1)) then
  some 1
 else
 some 0
def a3S(a0:Int)(a1:Int)(a2:List (Int × Int)):Option Int:=
 (a3o ((B5 a2 a0).getD (0:Int)) ((B5 a2 a1).getD (0:Int))).bind λv1=>
 some v1
def E2(a0:a7):Option (List Int):=
 jn (λ((j18,j19):(List (Int × Int)) × (List Int))=>
  (b2K (λp q=>a3S p q j18) j19).bind λv21=>
  some v21) (λκ17=>
  (lp (S:=Int × (List (Int × Int)) × (List Int)) (E:=((List (Int × Int)) × (List Int))) (λ((s23,s24,s25):Int × (List (Int × Int)) × (List Int))=>
   if (decide (s23<(a0.S.a8.length:Int))) then
    jn (λ((j32,j33):(List (Int × Int)) × (List Int))=>
     some (.inl (u5 (s23+1),j32,j33))) (λκ31=>
     (ix a0.S.a8 s23).bind λv35=>
     if (v35.State==1) then
      (a1p s23 v35.Gen).bind λv36=>
      (app 8 s25 [v36]).bind λv37=>
      κ31 ((r8 s24 v36 v35.Val.Serial),v37)
     else
     κ31 (s24,s25))
   else
   some (.inr (s24,s25))) (0,[],[])).bind λe22=>
  κ17 e22)
def a1y(a0:b7):Option (List Int):=
 jn (λ(j16:List Int)=>
  some j16) (λκ15=>
  (E2 a0.S).bind λv17=>
  (lp (S:=Int × (List Int)) (E:=(List Int)) (λ((s19,s20):Int × (List Int))=>
   if (decide (s19<(v17.length:Int))) then
    jn (λ(j27:List Int)=>
     some (.inl (u5 (s19+1),j27))) (λκ26=>
     (ix v17 s19).bind λv28=>
     (y4 a0.S v28).bind λv29=>
     if (v29.1.Strong==0) then
      (app 8 s20 [v28]).bind λv30=>
      κ26 v30
     else
     κ26 s20)
   else
   some (.inr s20)) (0,[])).bind λe18=>
  κ15 e18)
def L8(a0:m8):Option Bool:=
 some ((decide (a0.Prog≥0))&&(!a0.Started))
def I8(a0:c9):Option Int:=
 some (a0.L.length:Int)
def F4(a0:List k8)(a1:Int)(a2:Int):Option (List k8):=
 (cut a0 a1 a2).bind λv1=>
 some v1
def Q5(a0:c9)(a1:k8):Option (c9 × Int):=
 (I8 a0).bind λv1=>
 if (decide (v1≥a0.Cap)) then
  some (a0,4)
 else
 (F4 a0.L 0 v1).bind λv2=>
 (app 24 v2 [a1]).bind λv3=>
 some ((⟨v3,a0.Cap⟩:c9),0)
def a8B(a0:c9)(a1:k8):Option (c9 × Int):=
 (Q5 a0 a1).bind λv1=>
 some (v1.1,v1.2)
def S0(a0:b7)(a1:Int):Option b7:=
 (y4 a0.S a1).bind λv1=>
 (u4 ((v1.2 != 0)==false) false (L8 v1.1)).bind λv2=>
 if ((v1.2 != 0)||(!v2)) then
  some a0
 else
 (K2 a0.S a1 (⟨v1.1.Serial,v1.1.Strong,v1.1.Weak,v1.1.Prog,true,v1.1.Fields⟩:m8)).bind λv3=>
 (a8B a0.Q (⟨1,a1,v1.1.Prog⟩:k8)).bind λv4=>
 (a0g (⟨v3.1,a0.Roots,a0.a8,a0.T,v4.1⟩:b7) a1).bind λv5=>
 some v5
def V0(a0:b7)(a1:List Int):Option (List Int):=
 jn (λ(j18:List Int)=>
  some j18) (λκ17=>
  (lp (S:=Int × (List (Int × Bool)) × (List Int)) (E:=(List Int)) (λ((s20,s21,s22):Int × (List (Int × Bool)) × (List Int))=>
   if (decide (s20<(a1.length:Int))) then
    jn (λ((j29,j30):(List Int) × (List (Int × Bool)))=>
     some (.inl (u5 (s20+1),j30,j29))) (λκ28=>
     (ix a1 s20).bind λv32=>
     (y4 a0.S v32).bind λv33=>
     if ((v33.2==0)==true) then
      if (!((B5 s21 v32).getD (false:Bool))) then
       (app 8 s22 [v32]).bind λv34=>
       κ28 (v34,(r8 s21 v32 true))
      else
      κ28 (s22,s21)
     else
     κ28 (s22,s21))
   else
   some (.inr s22)) (0,[],[])).bind λe19=>
  κ17 e19)
def Q8(a0:List Int)(a1:Int):Option Int:=
 jn (λ(_:Unit)=>
  some (-1)) (λκ5=>
  (lp (S:=Int) (E:=Int ⊕ Unit) (λ(s8:Int)=>
   if (decide (s8<(a0.length:Int))) then
    (ix a0 s8).bind λv10=>
    if (a1==v10) then
     some (.inr (.inl s8))
    else
    some (.inl (u5 (s8+1)))
   else
   some (.inr (.inr ()))) 0).bind λe7=>
  match e7 with
  | .inl w=>some w
  | .inr w=>κ5 w)
def E9(a0:List Int)(a1:Int):Option Bool:=
 (Q8 a0 a1).bind λv1=>
 some (decide (v1≥0))
def a0H(a0:g5)(a1:List Int):Option Bool:=
 (u4 ((a0.Intact&&(a0.Target != 0))==true) false (E9 a1 a0.Target)).bind λv1=>
 some ((a0.Intact&&(a0.Target != 0))&&v1)
def J7(a0:List g5)(a1:List Int):Option (List Int):=
 jn (λ(j15:List Int)=>
  some j15) (λκ14=>
  (lp (S:=Int × (List Int)) (E:=(List Int)) (λ((s17,s18):Int × (List Int))=>
   if (decide (s17<(a0.length:Int))) then
    jn (λ(j25:List Int)=>
     some (.inl (u5 (s17+1),j25))) (λκ24=>
     (ix a0 s17).bind λv26=>
     (a0H v26 a1).bind λv27=>
     if v27 then
      (app 8 s18 [s17]).bind λv28=>
      κ24 v28
     else
     κ24 s18)
   else
   some (.inr s18)) (0,[])).bind λe16=>
  κ14 e16)
def a4D(a0:List g5)(a1:List Int):Option ((List g5) × (List Int)):=
 (J7 a0 a1).bind λv1=>
 (a0p a0).bind λv2=>
 jn (λ((j22,j23):(List Int) × (List g5))=>
  some (j23,j22)) (λκ21=>
  (lp (S:=Int × (List g5) × (List Int)) (E:=((List Int) × (List g5))) (λ((s26,s27,s28):Int × (List g5) × (List Int))=>
   if (decide (s26<(v1.length:Int))) then
    jn (λ((j36,j37):(List Int) × (List g5))=>
     some (.inl (u5 (s26+1),j37,j36))) (λκ35=>
     (ix v1 s26).bind λv39=>
     (ix s27 v39).bind λv40=>
     (ix (s27.set (v39).toNat (⟨v40.Target,false,v40.Call⟩:g5)) v39).bind λv41=>
     if (decide (v41.Call≥0)) then
      (app 8 s28 [v39]).bind λv42=>
      κ35 (v42,(s27.set (v39).toNat (⟨v40.Target,false,v40.Call⟩:g5)))
     else
     κ35 (s28,(s27.set (v39).toNat (⟨v40.Target,false,v40.Call⟩:g5))))
   else
   some (.inr (s28,s27))) (0,v2,[])).bind λe25=>
  κ21 e25)
def a17(a0:b7)(a1:List Int):Option b7:=
 (a4D a0.a8 a1).bind λv1=>
 jn (λ(j11:c9)=>
  some (⟨a0.S,a0.Roots,v1.1,a0.T,j11⟩:b7)) (λκ10=>
  (lp (S:=Int × c9) (E:=c9) (λ((s13,s14):Int × c9)=>
   if (decide (s13<(v1.2.length:Int))) then
    (ix v1.2 s13).bind λv17=>
    (ix v1.1 v17).bind λv18=>
    (a8B s14 (⟨2,v17,v18.Call⟩:k8)).bind λv19=>
    some (.inl (u5 (s13+1),v19.1))
   else
   some (.inr s14)) (0,a0.Q)).bind λe12=>
  κ10 e12)
def a9n(a0:List Int):Option (List Int):=
 some a0
def a34(a0:List Int):Option (List Int):=
 jn (λ(j10:List Int)=>
  some j10) (λκ9=>
  (a9n a0).bind λv11=>
  (lp (S:=Int × (List Int)) (E:=(List Int)) (λ((s13,s14):Int × (List Int))=>
   if (decide (s13<(v11.length:Int))) then
    (ix v11 s13).bind λv17=>
    if ((v17 != 0)==true) then
     (app 8 s14 [v17]).bind λv18=>
     some (.inl (u5 (s13+1),v18))
    else
    some (.inl (u5 (s13+1),s14))
   else
   some (.inr s14)) (0,[])).bind λe12=>
  κ9 e12)
def X5(a0:List c4)(a1:List Int):Option ((List c4) × (List Int)):=
 jn (λ((j18,j19):(List c4) × (List Int))=>
  some (j18,j19)) (λκ17=>
  (lp (S:=(List c4) × Int × (List Int)) (E:=((List c4) × (List Int))) (λ((s22,s23,s24):(List c4) × Int × (List Int))=>
   if (decide (s23<(a1.length:Int))) then
    jn (λ((j31,j32):(List c4) × (List Int))=>
     some (.inl (j31,u5 (s23+1),j32))) (λκ30=>
     (ix a1 s23).bind λv34=>
     (X7 s22 v34).bind λv35=>
     if (v35.2.2==0) then
      (app 8 s24 [v35.2.1]).bind λv36=>
      κ30 (v35.1,v36)
     else
     κ30 (s22,s24))
   else
   some (.inr (s22,s24))) (a0,0,[])).bind λe21=>
  κ17 e21)
def T4(a0:c8)(a1:Int):Option (c8 × Int):=
 (E0 a0 a1).bind λv1=>
 if (v1.2 != 0) then
  some (a0,v1.2)
 else
 (a27 a1).bind λv2=>
 (a4i a1).bind λv3=>
 (D0 a0 v2 (⟨2,v3,v1.1⟩:b8)).bind λv4=>
 some (v4,0)
def Y3(a0:b7)(a1:Int):Option b7:=
 (y4 a0.S a1).bind λv1=>
 (K2 a0.S a1 (⟨v1.1.Serial,0,v1.1.Weak,v1.1.Prog,v1.1.Started,[]⟩:m8)).bind λv2=>
 (T4 v2.1.S a1).bind λv3=>
 if (v1.1.Weak==0) then
  (N5 v3.1 a1).bind λv4=>
  some (⟨⟨v4.1,v2.1.Serial⟩,a0.Roots,a0.a8,a0.T,a0.Q⟩:b7)
 else
 some (⟨⟨v3.1,v2.1.Serial⟩,a0.Roots,a0.a8,a0.T,a0.Q⟩:b7)
def a0l(a0:b7)(a1:List Int):Option b7:=
 (V0 a0 a1).bind λv1=>
 (a17 a0 v1).bind λv2=>
 jn (λ(j13:List Int)=>
  (X5 v2.T v1).bind λv14=>
  (app 8 j13 v14.2).bind λv15=>
  jn (λ(j24:b7)=>
   jn (λ(j33:b7)=>
    some j33) (λκ32=>
    (lp (S:=Int × b7) (E:=b7) (λ((s35,s36):Int × b7)=>
     if (decide (s35<(v15.length:Int))) then
      (ix v15 s35).bind λv39=>
      (C9 s36 v39).bind λv40=>
      some (.inl (u5 (s35+1),v40))
     else
     some (.inr s36)) (0,j24)).bind λe34=>
    κ32 e34)) (λκ23=>
   (lp (S:=Int × b7) (E:=b7) (λ((s42,s43):Int × b7)=>
    if (decide (s42<(v1.length:Int))) then
     (ix v1 s42).bind λv46=>
     (Y3 s43 v46).bind λv47=>
     some (.inl (u5 (s42+1),v47))
    else
    some (.inr s43)) (0,(⟨v2.S,v2.Roots,v2.a8,v14.1,v2.Q⟩:b7))).bind λe41=>
   κ23 e41)) (λκ12=>
  (lp (S:=Int × (List Int)) (E:=(List Int)) (λ((s49,s50):Int × (List Int))=>
   if (decide (s49<(v1.length:Int))) then
    (ix v1 s49).bind λv53=>
    (y4 v2.S v53).bind λv54=>
    (a34 v54.1.Fields).bind λv55=>
    (app 8 s50 v55).bind λv56=>
    some (.inl (u5 (s49+1),v56))
   else
   some (.inr s50)) (0,[])).bind λe48=>
  κ12 e48)
def O5(a0:b7):Option b7:=
 (lp (S:=b7) (E:=b7) (λ(s2:b7)=>
  (a1y s2).bind λv4=>
  if ((v4.length:Int)==0) then
   some (.inr s2)
  else
  (ix v4 0).bind λv5=>
  (y4 s2.S v5).bind λv6=>
  (L8 v6.1).bind λv7=>
  if v7 then
   (S0 s2 v5).bind λv8=>
   some (.inl v8)
  else
  (cut v4 0 1).bind λv9=>
  (a0l s2 v9).bind λv10=>
  some (.inl v10)) a0).bind λe1=>
 some e1
def a0h(a0:b7)(a1:Int):Option Int:=
 (y4 a0.S a1).bind λv1=>
 some v1.1.Serial
def a1d(a0:b7)(a1:Int):Option Int:=
 (L0 a0 a1).bind λv1=>
 (a0h a0 v1).bind λv2=>
 some v2
def U5(a0:b7)(a1:b7)(a2:g9):Option Int:=
 if (a2.Kind==5) then
  (a1d a0 a2.C).bind λv1=>
  some v1
 else
 jn (λ(j3:Bool)=>
  if j3 then
   (a1d a0 a2.B).bind λv4=>
   some v4
  else
  if (a2.Kind==10) then
   (L0 a0 a2.A).bind λv5=>
   (L0 a0 a2.B).bind λv6=>
   if (v5==v6) then
    some 1
   else
   some 0
  else
  (a1d a1 a2.A).bind λv7=>
  some v7) (λκ2=>
  if (a2.Kind==6) then
   κ2 (a2.Kind==6)
  else
  κ2 (a2.Kind==8))
def x4(a0:b7)(a1:g9):Option (b7 × Int × Int):=
 (R4 a1).bind λv1=>
 if (v1 != 0) then
  some (a0,0,v1)
 else
 (a2W).bind λv2=>
 if (!((B5 v2 a1.Kind).isSome)) then
  some (a0,0,14)
 else
 (b3E ((B5 v2 a1.Kind).getD (none:Fv)) (⟨a0,a1⟩:r9)).bind λv3=>
 if (v3.2 != 0) then
  some (a0,0,v3.2)
 else
 (O5 v3.1).bind λv5=>
 (U5 v3.1 v5 a1).bind λv6=>
 some (v5,v6,0)
def a60(a0:a7):Option a7:=
 some a0
def a52(a0:a7)(a1:Int):Option (List Int):=
 (y4 a0 a1).bind λv1=>
 (a34 v1.1.Fields).bind λv2=>
 some v2
def b3U(a0:a7)(a1:Int):Option Int:=
 jn (λ(j31:Int)=>
  some j31) (λκ30=>
  (a60 a0).bind λv32=>
  (E2 v32).bind λv33=>
  (lp (S:=Int × Int) (E:=Int) (λ((s35,s36):Int × Int)=>
   if (decide (s35<(v33.length:Int))) then
    jn (λ(j50:Int)=>
     some (.inl (u5 (s35+1),j50))) (λκ49=>
     (ix v33 s35).bind λv51=>
     (a52 v32 v51).bind λv52=>
     (lp (S:=Int × Int) (E:=Int) (λ((s54,s55):Int × Int)=>
      if (decide (s54<(v52.length:Int))) then
       (ix v52 s54).bind λv58=>
       jn (λ(j60:Int)=>
        some (.inl (u5 (s54+1),j60))) (λκ59=>
        if (v58==a1) then
         κ59 (u5 (s55+1))
        else
        κ59 s55)
      else
      some (.inr s55)) (0,s36)).bind λe53=>
     κ49 e53)
   else
   some (.inr s36)) (0,0)).bind λe34=>
  κ30 e34)
def a1n(a0:List c4):Option (List c4):=
 some a0
def a5K(a0:List c4):Option (List Int):=
 jn (λ(j13:List Int)=>
  some j13) (λκ12=>
  (lp (S:=Int × (List Int)) (E:=(List Int)) (λ((s15,s16):Int × (List Int))=>
   if (decide (s15<(a0.length:Int))) then
    jn (λ(j22:List Int)=>
     some (.inl (u5 (s15+1),j22))) (λκ21=>
     (ix a0 s15).bind λv23=>
     if (v23.State==1) then
      (app 8 s16 [v23.Key]).bind λv24=>
      κ21 v24
     else
     κ21 s16)
   else
   some (.inr s16)) (0,[])).bind λe14=>
  κ12 e14)
def a2T(a0:n8)(a1:Int):Option Bool:=
 some ((a1 != 0)&&(a0.Val==a1))
def A9(a0:List c4)(a1:Int):Option (List n8):=
 jn (λ(j16:List n8)=>
  some j16) (λκ15=>
  (a5K a0).bind λv17=>
  (lp (S:=Int × (List n8)) (E:=(List n8)) (λ((s19,s20):Int × (List n8))=>
   if (decide (s19<(v17.length:Int))) then
    (ix v17 s19).bind λv23=>
    (L6 a0 v23).bind λv24=>
    jn (λ(j28:List n8)=>
     some (.inl (u5 (s19+1),j28))) (λκ27=>
     (a2T (⟨v23,v24.1⟩:n8) a1).bind λv29=>
     if v29 then
      (app 16 s20 [(⟨v23,v24.1⟩:n8)]).bind λv30=>
      κ27 v30
     else
     κ27 s20)
   else
   some (.inr s20)) (0,[])).bind λe18=>
  κ15 e18)
def a4V(a0:List c4)(a1:Int):Option Int:=
 (a1n a0).bind λv1=>
 (A9 v1 a1).bind λv2=>
 some (v2.length:Int)
def a5g(a0:a7)(a1:List c4)(a2:Int):Option Int:=
 (b3U a0 a2).bind λv1=>
 (a4V a1 a2).bind λv2=>
 some (u5 (v1+v2))
def a7f(a0:a7)(a1:List c4)(a2:Int):Option Int:=
 (y4 a0 a2).bind λv1=>
 if (v1.2 != 0) then
  some 0
 else
 (a5g a0 a1 a2).bind λv2=>
 some (u5 (v1.1.Strong-v2))
def a7R(a0:Int):Option Bool:=
 (G0 a0).bind λv1=>
 some v1
def a7e(a0:Int)(a1:m8)(a2:a7)(a3:List c4):Option Bool:=
 (a7f a2 a3 a0).bind λv1=>
 (u4 ((decide (v1 > 0))==false) false (a7R a1.Strong)).bind λv2=>
 some ((decide (v1 > 0))||v2)
def a7d(a0:a7)(a1:List c4):Option (List Int):=
 jn (λ(j36:List Int)=>
  some j36) (λκ35=>
  jn (λ(j54:List Int)=>
   κ35 j54) (λκ53=>
   (E2 a0).bind λv55=>
   (lp (S:=Int × (List Int)) (E:=(List Int)) (λ((s57,s58):Int × (List Int))=>
    if (decide (s57<(v55.length:Int))) then
     jn (λ(j66:List Int)=>
      some (.inl (u5 (s57+1),j66))) (λκ65=>
      (ix v55 s57).bind λv67=>
      (y4 a0 v67).bind λv68=>
      (a7e v67 v68.1 a0 a1).bind λv69=>
      if v69 then
       (app 8 s58 [v67]).bind λv70=>
       κ65 v70
      else
      κ65 s58)
    else
    some (.inr s58)) (0,[])).bind λe56=>
   κ53 e56))
def a2Z(a0:Int):Option l6:=
 some (⟨[],a0⟩:l6)
def a0D(a0:a7)(a1:Int):Option Bool:=
 (y4 a0 a1).bind λv1=>
 some (v1.2==0)
def L2(a0:l6):Option Int:=
 some (a0.L.length:Int)
def P3(a0:List Int)(a1:Int)(a2:Int):Option (List Int):=
 (cut a0 a1 a2).bind λv1=>
 some v1
def P2(a0:l6)(a1:Int):Option (l6 × Int):=
 (L2 a0).bind λv1=>
 if (decide (v1≥a0.Cap)) then
  some (a0,4)
 else
 (P3 a0.L 0 v1).bind λv2=>
 (app 8 v2 [a1]).bind λv3=>
 some ((⟨v3,a0.Cap⟩:l6),0)
def a3v(a0:l6)(a1:Int):Option (l6 × (List Int)):=
 (L2 a0).bind λv1=>
 (P3 a0.L 0 (if (if v1<a1 then v1 else a1) > 0 then (if v1<a1 then v1 else a1) else 0)).bind λv2=>
 (P3 a0.L (if (if v1<a1 then v1 else a1) > 0 then (if v1<a1 then v1 else a1) else 0) v1).bind λv3=>
 some ((⟨v3,a0.Cap⟩:l6),v2)
def a0X(a0:l6):Option (l6 × Int × Int):=
 (a3v a0 1).bind λv1=>
 if ((v1.2.length:Int)==0) then
  some (a0,0,10)
 else
 (ix v1.2 0).bind λv2=>
 some (v1.1,v2,0)
def a14(a0:a7)(a1:List Int):Option (List (Int × Bool)):=
 (E2 a0).bind λv1=>
 (a2Z (v1.length:Int)).bind λv2=>
 jn (λ((j20,j21):l6 × (List (Int × Bool)))=>
  jn (λ(j68:List (Int × Bool))=>
   some j68) (λκ67=>
   (lp (S:=l6 × (List (Int × Bool))) (E:=(List (Int × Bool))) (λ((s70,s71):l6 × (List (Int × Bool)))=>
    (L2 s70).bind λv74=>
    if (decide (v74 > 0)) then
     (a0X s70).bind λv75=>
     (a52 a0 v75.2.1).bind λv76=>
     jn (λ((j94,j95):l6 × (List (Int × Bool)))=>
      some (.inl (j94,j95))) (λκ93=>
      (lp (S:=Int × l6 × (List (Int × Bool))) (E:=(l6 × (List (Int × Bool)))) (λ((s98,s99,s100):Int × l6 × (List (Int × Bool)))=>
       if (decide (s98<(v76.length:Int))) then
        jn (λ((j107,j108):l6 × (List (Int × Bool)))=>
         some (.inl (u5 (s98+1),j107,j108))) (λκ106=>
         (ix v76 s98).bind λv110=>
         (a0D a0 v110).bind λv111=>
         if (v111==true) then
          if (!((B5 s100 v110).getD (false:Bool))) then
           (P2 s99 v110).bind λv112=>
           κ106 (v112.1,(r8 s100 v110 true))
          else
          κ106 (s99,s100)
         else
         κ106 (s99,s100))
       else
       some (.inr (s99,s100))) (0,v75.1,s71)).bind λe97=>
      κ93 e97)
    else
    some (.inr s71)) (j20,j21)).bind λe69=>
   κ67 e69)) (λκ19=>
  (lp (S:=Int × l6 × (List (Int × Bool))) (E:=(l6 × (List (Int × Bool)))) (λ((s114,s115,s116):Int × l6 × (List (Int × Bool)))=>
   if (decide (s114<(a1.length:Int))) then
    jn (λ((j123,j124):l6 × (List (Int × Bool)))=>
     some (.inl (u5 (s114+1),j123,j124))) (λκ122=>
     (ix a1 s114).bind λv126=>
     (a0D a0 v126).bind λv127=>
     if (v127==true) then
      if (!((B5 s116 v126).getD (false:Bool))) then
       (P2 s115 v126).bind λv128=>
       κ122 (v128.1,(r8 s116 v126 true))
      else
      κ122 (s115,s116)
     else
     κ122 (s115,s116))
   else
   some (.inr (s115,s116))) (0,v2,[])).bind λe113=>
  κ19 e113)
def a3N(a0:Int)(a1:List (Int × Bool)):Option Bool:=
 some ((B5 a1 a0).getD (false:Bool))
def R8(a0:a7)(a1:List (Int × Bool)):Option (List Int):=
 jn (λ(j16:List Int)=>
  some j16) (λκ15=>
  (E2 a0).bind λv17=>
  (lp (S:=Int × (List Int)) (E:=(List Int)) (λ((s19,s20):Int × (List Int))=>
   if (decide (s19<(v17.length:Int))) then
    jn (λ(j27:List Int)=>
     some (.inl (u5 (s19+1),j27))) (λκ26=>
     (ix v17 s19).bind λv28=>
     (a3N v28 a1).bind λv29=>
     if v29 then
      (app 8 s20 [v28]).bind λv30=>
      κ26 v30
     else
     κ26 s20)
   else
   some (.inr s20)) (0,[])).bind λe18=>
  κ15 e18)
def a4s(a0:a7)(a1:List Int):Option (List Int):=
 (a14 a0 a1).bind λv1=>
 (R8 a0 v1).bind λv2=>
 some v2
def a2U(a0:n8):Option Bool:=
 some true
def B0(a0:List c4):Option (List n8):=
 jn (λ(j16:List n8)=>
  some j16) (λκ15=>
  (a5K a0).bind λv17=>
  (lp (S:=Int × (List n8)) (E:=(List n8)) (λ((s19,s20):Int × (List n8))=>
   if (decide (s19<(v17.length:Int))) then
    (ix v17 s19).bind λv23=>
    (L6 a0 v23).bind λv24=>
    jn (λ(j28:List n8)=>
     some (.inl (u5 (s19+1),j28))) (λκ27=>
     (a2U (⟨v23,v24.1⟩:n8)).bind λv29=>
     if v29 then
      (app 16 s20 [(⟨v23,v24.1⟩:n8)]).bind λv30=>
      κ27 v30
     else
     κ27 s20)
   else
   some (.inr s20)) (0,[])).bind λe18=>
  κ15 e18)
def a4W(a0:List c4):Option (List n8):=
 (a1n a0).bind λv1=>
 (B0 v1).bind λv2=>
 some v2
def a4f(a0:Int)(a1:a7):Option Bool:=
 (y4 a1 a0).bind λv1=>
 some (v1.2==0)
def b0R(a0:a7)(a1:List c4)(a2:List Int):Option (List Int):=
 jn (λ(j20:List Int)=>
  some j20) (λκ19=>
  (a4W a1).bind λv21=>
  (lp (S:=Int × (List Int)) (E:=(List Int)) (λ((s23,s24):Int × (List Int))=>
   if (decide (s23<(v21.length:Int))) then
    jn (λ(j33:List Int)=>
     some (.inl (u5 (s23+1),j33))) (λκ32=>
     (ix v21 s23).bind λv34=>
     (E9 a2 v34.Key).bind λv35=>
     (u4 (v35==true) false (a4f v34.Key a0)).bind λv36=>
     (u4 ((v35&&v36)==true) false (a4f v34.Val a0)).bind λv37=>
     if ((v35&&v36)&&v37) then
      (app 8 s24 [v34.Val]).bind λv38=>
      κ32 v38
     else
     κ32 s24)
   else
   some (.inr s24)) (0,[])).bind λe22=>
  κ19 e22)
def a8O(a0:a7)(a1:List c4)(a2:List Int):Option ((List Int) × Int):=
 (a4s a0 a2).bind λv1=>
 (lp (S:=(List Int) × Int) (E:=((List Int) × Int)) (λ((s3,s4):(List Int) × Int)=>
  (b0R a0 a1 s3).bind λv7=>
  jn (λ(_:Unit)=>
   some (.inr (s3,s4))) (λκ15=>
   (lp (S:=Int) (E:=((List Int) × Int) ⊕ Unit) (λ(s18:Int)=>
    if (decide (s18<(v7.length:Int))) then
     (ix v7 s18).bind λv20=>
     (E9 s3 v20).bind λv21=>
     if (!v21) then
      (app 8 v7 s3).bind λv22=>
      (a4s a0 v22).bind λv23=>
      some (.inr (.inl (v23,u5 (s4+1))))
     else
     some (.inl (u5 (s18+1)))
    else
    some (.inr (.inr ()))) 0).bind λe17=>
   match e17 with
   | .inl w=>some (.inl w)
   | .inr w=>κ15 w)) (v1,0)).bind λe2=>
 some e2
def b0Q(a0:a7)(a1:List c4)(a2:List Int):Option (List Int):=
 (a8O a0 a1 a2).bind λv1=>
 some v1.1
def a3O(a0:Int)(a1:List (Int × Bool)):Option Bool:=
 some (!((B5 a1 a0).getD (false:Bool)))
def R9(a0:a7)(a1:List (Int × Bool)):Option (List Int):=
 jn (λ(j16:List Int)=>
  some j16) (λκ15=>
  (E2 a0).bind λv17=>
  (lp (S:=Int × (List Int)) (E:=(List Int)) (λ((s19,s20):Int × (List Int))=>
   if (decide (s19<(v17.length:Int))) then
    jn (λ(j27:List Int)=>
     some (.inl (u5 (s19+1),j27))) (λκ26=>
     (ix v17 s19).bind λv28=>
     (a3O v28 a1).bind λv29=>
     if v29 then
      (app 8 s20 [v28]).bind λv30=>
      κ26 v30
     else
     κ26 s20)
   else
   some (.inr s20)) (0,[])).bind λe18=>
  κ15 e18)
def a6Z(a0:a7)(a1:List Int):Option (List Int):=
 (a14 a0 a1).bind λv1=>
 (R9 a0 v1).bind λv2=>
 some v2
def a7V(a0:a7)(a1:List c4)(a2:List Int):Option (List Int):=
 (b0Q a0 a1 a2).bind λv1=>
 (a6Z a0 v1).bind λv2=>
 some v2
def a02(a0:a7)(a1:List c4):Option (List Int):=
 (a7d a0 a1).bind λv1=>
 (a7V a0 a1 v1).bind λv2=>
 some v2
def M9(a0:b7):Option (List Int):=
 (a02 a0.S a0.T).bind λv1=>
 some v1
def a3p(a0:Int)(a1:b7):Option Bool:=
 (y4 a1.S a0).bind λv1=>
 some ((decide (v1.1.Prog≥0))&&(!v1.1.Started))
def H3(a0:List Int)(a1:b7):Option (List Int):=
 jn (λ(j15:List Int)=>
  some j15) (λκ14=>
  (lp (S:=Int × (List Int)) (E:=(List Int)) (λ((s17,s18):Int × (List Int))=>
   if (decide (s17<(a0.length:Int))) then
    jn (λ(j25:List Int)=>
     some (.inl (u5 (s17+1),j25))) (λκ24=>
     (ix a0 s17).bind λv26=>
     (a3p v26 a1).bind λv27=>
     if v27 then
      (app 8 s18 [v26]).bind λv28=>
      κ24 v28
     else
     κ24 s18)
   else
   some (.inr s18)) (0,[])).bind λe16=>
  κ14 e16)
def a2Q(a0:b7):Option (List Int):=
 (M9 a0).bind λv1=>
 (H3 v1 a0).bind λv2=>
 some v2
def W7(a0:b7):Option (b7 × Int × Int):=
 (a2Q a0).bind λv1=>
 jn (λ(j10:b7)=>
  if (decide ((v1.length:Int) > 0)) then
   some (j10,(v1.length:Int),0)
  else
  (M9 j10).bind λv11=>
  (a0l j10 v11).bind λv12=>
  (O5 v12).bind λv13=>
  (E2 j10.S).bind λv14=>
  (E2 v13.S).bind λv15=>
  some (v13,0,u5 ((v14.length:Int)-(v15.length:Int)))) (λκ9=>
  (lp (S:=Int × b7) (E:=b7) (λ((s17,s18):Int × b7)=>
   if (decide (s17<(v1.length:Int))) then
    (ix v1 s17).bind λv21=>
    (S0 s18 v21).bind λv22=>
    some (.inl (u5 (s17+1),v22))
   else
   some (.inr s18)) (0,a0)).bind λe16=>
  κ9 e16)
def Z2(a0:c9)(a1:Int):Option (c9 × (List k8)):=
 (I8 a0).bind λv1=>
 (F4 a0.L 0 (if (if v1<a1 then v1 else a1) > 0 then (if v1<a1 then v1 else a1) else 0)).bind λv2=>
 (F4 a0.L (if (if v1<a1 then v1 else a1) > 0 then (if v1<a1 then v1 else a1) else 0) v1).bind λv3=>
 some ((⟨v3,a0.Cap⟩:c9),v2)
def a0P(a0:c9):Option (c9 × k8 × Int):=
 (Z2 a0 1).bind λv1=>
 if ((v1.2.length:Int)==0) then
  some (a0,(⟨0,0,0⟩:k8),10)
 else
 (ix v1.2 0).bind λv2=>
 some (v1.1,v2,0)
def a1A(a0:c9):Option (c9 × k8 × Int):=
 (a0P a0).bind λv1=>
 some (v1.1,v1.2.1,v1.2.2)
def a1m(a0:b7):Option Bool:=
 (a1A a0.Q).bind λv1=>
 some (v1.2.2 != 0)
def a4c(a0:List (List g9))(a1:Int):Option (List g9):=
 if ((decide (a1<0))||(decide (a1≥(a0.length:Int)))) then
  some []
 else
 (ix a0 a1).bind λv1=>
 some v1
def a6u(a0:List (List g9))(a1:k8):Option Int:=
 (a4c a0 a1.Prog).bind λv1=>
 some (u5 (1+(v1.length:Int)))
def a29(a0:b7)(a1:List g9):Option (b7 × (List Int)):=
 jn (λ((j11,j12):b7 × (List Int))=>
  some (j11,j12)) (λκ10=>
  (lp (S:=Int × b7 × (List Int)) (E:=(b7 × (List Int))) (λ((s15,s16,s17):Int × b7 × (List Int))=>
   if (decide (s15<(a1.length:Int))) then
    (ix a1 s15).bind λv20=>
    (x4 s16 v20).bind λv21=>
    (app 8 s17 [v21.2.1]).bind λv22=>
    some (.inl (u5 (s15+1),v21.1,v22))
   else
   some (.inr (s16,s17))) (0,a0,[])).bind λe14=>
  κ10 e14)
def a6v(a0:b7)(a1:List (List g9)):Option (b7 × k8 × Int):=
 (a1A a0.Q).bind λv1=>
 if (v1.2.2 != 0) then
  some (a0,(⟨0,0,0⟩:k8),v1.2.2)
 else
 jn (λ(j6:b7)=>
  (a4c a1 v1.2.1.Prog).bind λv7=>
  (a29 j6 v7).bind λv8=>
  if (v1.2.1.Kind==1) then
   (a0w v8.1 5 0).bind λv9=>
   (O5 v9.1).bind λv10=>
   some (v10,v1.2.1,0)
  else
  some (v8.1,v1.2.1,0)) (λκ5=>
  if (v1.2.1.Kind==1) then
   (a0w (⟨a0.S,a0.Roots,a0.a8,a0.T,v1.1⟩:b7) 5 v1.2.1.At).bind λv11=>
   (C9 v11.1 v1.2.1.At).bind λv12=>
   (O5 v12).bind λv13=>
   κ5 v13
  else
  κ5 (⟨a0.S,a0.Roots,a0.a8,a0.T,v1.1⟩:b7))
def a24(a0:b7)(a1:List (List g9))(a2:Int):Option (b7 × Int × Int × Int):=
 jn (λ((j14,j15,j16):Int × Int × b7)=>
  (a1m j16).bind λv18=>
  if (!v18) then
   some (j16,j14,j15,12)
  else
  some (j16,j14,j15,0)) (λκ13=>
  (lp (S:=Int × b7 × Int × Int × b7) (E:=(Int × Int × b7)) (λ((s20,s21,s22,s23,s24):Int × b7 × Int × Int × b7)=>
   (a1m s21).bind λv27=>
   if (!v27) then
    (a1A s21.Q).bind λv28=>
    (a6u a1 v28.2.1).bind λv29=>
    if (decide (v29 > s20)) then
     some (.inr (s22,s23,s24))
    else
    (a6v s21 a1).bind λv30=>
    some (.inl (u5 (s20-v29),v30.1,u5 (s22+1),u5 (s20-v29),v30.1))
   else
   some (.inr (s22,s23,s24))) (a2,a0,0,a2,a0)).bind λe19=>
  κ13 e19)
def a5H(a0:n9)(a1:List Int):Option (n9 × l7):=
 (V5 a1).bind λv1=>
 if (v1.2 != 0) then
  some (a0,(⟨0,v1.2⟩:l7))
 else
 (a6w v1.1).bind λv2=>
 if (decide (v2.t=132)) then
  (x4 a0.X (⟨(ifG v2 132 0),(ifG v2 132 1),(ifG v2 132 2),(ifG v2 132 3)⟩:g9)).bind λv3=>
  some ((⟨v3.1,a0.Progs⟩:n9),(⟨v3.2.1,v3.2.2⟩:l7))
 else
 if (decide (v2.t=136)) then
  (W7 a0.X).bind λv4=>
  some ((⟨v4.1,a0.Progs⟩:n9),(⟨u5 (v4.2.2-v4.2.1),0⟩:l7))
 else
 if (decide (v2.t=140)) then
  (a24 a0.X a0.Progs (ifG v2 140 0)).bind λv5=>
  some ((⟨v5.1,a0.Progs⟩:n9),(⟨v5.2.1,v5.2.2.2⟩:l7))
 else
 some (a0,(⟨0,0⟩:l7))
def a4d(a0:n9)(a1:List (List Int)):Option (n9 × (List l7)):=
 jn (λ((j11,j12):n9 × (List l7))=>
  some (j11,j12)) (λκ10=>
  (lp (S:=Int × n9 × (List l7)) (E:=(n9 × (List l7))) (λ((s15,s16,s17):Int × n9 × (List l7))=>
   if (decide (s15<(a1.length:Int))) then
    (ix a1 s15).bind λv20=>
    (a5H s16 v20).bind λv21=>
    (app 16 s17 [v21.2]).bind λv22=>
    some (.inl (u5 (s15+1),v21.1,v22))
   else
   some (.inr (s16,s17))) (0,a0,[])).bind λe14=>
  κ10 e14)
def Q7(a0:c8):Option A4:=
 jn (λ(j9:A4)=>
  some j9) (λκ8=>
  (lp (S:=Int × A4) (E:=A4) (λ((s11,s12):Int × A4)=>
   if (decide (s11<(a0.a8.length:Int))) then
    (ix a0.a8 s11).bind λv15=>
    (A4.ix s12 v15.State).bind λv16=>
    some (.inl (u5 (s11+1),(A4.st s12 v15.State (u5 (v16+1)))))
   else
   some (.inr s12)) (0,(⟨0,0,0,0⟩:A4))).bind λe10=>
  κ8 e10)
def a1K(a0:n9):Option A4:=
 (Q7 a0.X.S.S).bind λv1=>
 some v1
def a2R(a0:b7):Option Bool:=
 (M9 a0).bind λv1=>
 some ((v1.length:Int)==0)
def a3G(a0:n9):Option Bool:=
 (a1m a0.X).bind λv1=>
 (u4 (v1==true) false (a2R a0.X)).bind λv2=>
 some (v1&&v2)
def a1J(a0:n9):Option (List Int):=
 jn (λ(j11:List Int)=>
  (a9i j11).bind λv12=>
  some v12) (λκ10=>
  (E2 a0.X.S).bind λv13=>
  (lp (S:=Int × (List Int)) (E:=(List Int)) (λ((s15,s16):Int × (List Int))=>
   if (decide (s15<(v13.length:Int))) then
    (ix v13 s15).bind λv19=>
    (a0h a0.X v19).bind λv20=>
    (app 8 s16 [v20]).bind λv21=>
    some (.inl (u5 (s15+1),v21))
   else
   some (.inr s16)) (0,[])).bind λe14=>
  κ10 e14)
def a2L:Option Bool:=
 (O8 4 5 8 []).bind λv1=>
 (a4d v1.1 [[1,0,1,(-1)],[5,0,0,0],[3,0,0,0],[11,0,0,0],[11,0,0,0],[12,9,0,0],[2,0],[4,0,1,0]]).bind λv2=>
 (O8 4 5 8 [[(⟨11,0,0,0⟩:g9)]]).bind λv3=>
 (O8 4 5 0 []).bind λv4=>
 (u4 (((((v1.2==0)&&(v3.2==13))&&(v4.2==1))&&((v2.2.length:Int)==8))==true) (⟨0,0⟩:l7) (ix v2.2 0)).bind λv5=>
 (u4 ((((((v1.2==0)&&(v3.2==13))&&(v4.2==1))&&((v2.2.length:Int)==8))&&(v5.V==1))==true) (⟨0,0⟩:l7) (ix v2.2 1)).bind λv6=>
 (u4 (((((((v1.2==0)&&(v3.2==13))&&(v4.2==1))&&((v2.2.length:Int)==8))&&(v5.V==1))&&(v6.V==1))==true) (⟨0,0⟩:l7) (ix v2.2 2)).bind λv7=>
 (u4 ((((((((v1.2==0)&&(v3.2==13))&&(v4.2==1))&&((v2.2.length:Int)==8))&&(v5.V==1))&&(v6.V==1))&&(v7.V==0))==true) (⟨0,0⟩:l7) (ix v2.2 3)).bind λv8=>
 (u4 (((((((((v1.2==0)&&(v3.2==13))&&(v4.2==1))&&((v2.2.length:Int)==8))&&(v5.V==1))&&(v6.V==1))&&(v7.V==0))&&(v8.V==1))==true) (⟨0,0⟩:l7) (ix v2.2 4)).bind λv9=>
 (u4 ((((((((((v1.2==0)&&(v3.2==13))&&(v4.2==1))&&((v2.2.length:Int)==8))&&(v5.V==1))&&(v6.V==1))&&(v7.V==0))&&(v8.V==1))&&(v9.V==0))==true) (⟨0,0⟩:l7) (ix v2.2 5)).bind λv10=>
 (u4 (((((((((((v1.2==0)&&(v3.2==13))&&(v4.2==1))&&((v2.2.length:Int)==8))&&(v5.V==1))&&(v6.V==1))&&(v7.V==0))&&(v8.V==1))&&(v9.V==0))&&((v10.V==0)&&((v10.E==0)&&true)))==true) (⟨0,0⟩:l7) (ix v2.2 6)).bind λv11=>
 (u4 ((((((((((((v1.2==0)&&(v3.2==13))&&(v4.2==1))&&((v2.2.length:Int)==8))&&(v5.V==1))&&(v6.V==1))&&(v7.V==0))&&(v8.V==1))&&(v9.V==0))&&((v10.V==0)&&((v10.E==0)&&true)))&&(v11.E==14))==true) (⟨0,0⟩:l7) (ix v2.2 7)).bind λv12=>
 (u4 (((((((((((((v1.2==0)&&(v3.2==13))&&(v4.2==1))&&((v2.2.length:Int)==8))&&(v5.V==1))&&(v6.V==1))&&(v7.V==0))&&(v8.V==1))&&(v9.V==0))&&((v10.V==0)&&((v10.E==0)&&true)))&&(v11.E==14))&&(v12.E==2))==true) ⟨0,0,0,0⟩ (a1K v2.1)).bind λv13=>
 (u4 ((((((((((((((v1.2==0)&&(v3.2==13))&&(v4.2==1))&&((v2.2.length:Int)==8))&&(v5.V==1))&&(v6.V==1))&&(v7.V==0))&&(v8.V==1))&&(v9.V==0))&&((v10.V==0)&&((v10.E==0)&&true)))&&(v11.E==14))&&(v12.E==2))&&((v13.a==4)&&((v13.b==0)&&((v13.c==0)&&((v13.d==0)&&true)))))==true) false (a3G v2.1)).bind λv14=>
 (u4 (((((((((((((((v1.2==0)&&(v3.2==13))&&(v4.2==1))&&((v2.2.length:Int)==8))&&(v5.V==1))&&(v6.V==1))&&(v7.V==0))&&(v8.V==1))&&(v9.V==0))&&((v10.V==0)&&((v10.E==0)&&true)))&&(v11.E==14))&&(v12.E==2))&&((v13.a==4)&&((v13.b==0)&&((v13.c==0)&&((v13.d==0)&&true)))))&&v14)==true) [] (a1J v2.1)).bind λv15=>
 some (((((((((((((((v1.2==0)&&(v3.2==13))&&(v4.2==1))&&((v2.2.length:Int)==8))&&(v5.V==1))&&(v6.V==1))&&(v7.V==0))&&(v8.V==1))&&(v9.V==0))&&((v10.V==0)&&((v10.E==0)&&true)))&&(v11.E==14))&&(v12.E==2))&&((v13.a==4)&&((v13.b==0)&&((v13.c==0)&&((v13.d==0)&&true)))))&&v14)&&((v15.length:Int)==0))
def a9r(a0:a7):Option Bool:=
 jn (λ(_:Unit)=>
  some (decide ((a0.S.a8.length:Int)≤30))) (λκ5=>
  (lp (S:=Int) (E:=Bool ⊕ Unit) (λ(s8:Int)=>
   if ((decide (s8<(a0.S.a8.length:Int)))&&(decide (s8<30))) then
    (ix a0.S.a8 s8).bind λv10=>
    if (decide ((v10.Val.Fields.length:Int) > 10)) then
     some (.inr (.inl false))
    else
    some (.inl (u5 (s8+1)))
   else
   some (.inr (.inr ()))) 0).bind λe7=>
  match e7 with
  | .inl w=>some w
  | .inr w=>κ5 w)
def b1V(a0:b7):Option Bool:=
 (a9r a0.S).bind λv1=>
 some ((((v1&&(decide ((a0.Roots.length:Int)≤20)))&&(decide ((a0.a8.length:Int)≤20)))&&(decide ((a0.T.length:Int)≤20)))&&(decide ((a0.Q.L.length:Int)≤60)))
def b32(a0:m8):Option D9:=
 some (⟨a0.Serial,a0.Strong,a0.Weak,a0.Prog,a0.Started,a0.Fields⟩:D9)
def b31(a0:a7):Option m9:=
 jn (λ(j10:List p9)=>
  some (⟨j10,a0.S.Last,a0.Serial⟩:m9)) (λκ9=>
  (lp (S:=Int × (List p9)) (E:=(List p9)) (λ((s12,s13):Int × (List p9))=>
   if (decide (s12<(a0.S.a8.length:Int))) then
    (ix a0.S.a8 s12).bind λv16=>
    (b32 v16.Val).bind λv17=>
    (app 80 s13 [(⟨v16.State,v16.Gen,v17⟩:p9)]).bind λv18=>
    some (.inl (u5 (s12+1),v18))
   else
   some (.inr s13)) (0,[])).bind λe11=>
  κ9 e11)
def a9q(a0:List g5):Option (List u9):=
 jn (λ(j9:List u9)=>
  some j9) (λκ8=>
  (lp (S:=Int × (List u9)) (E:=(List u9)) (λ((s11,s12):Int × (List u9))=>
   if (decide (s11<(a0.length:Int))) then
    (ix a0 s11).bind λv15=>
    (app 24 s12 [(⟨v15.Target,v15.Intact,v15.Call⟩:u9)]).bind λv16=>
    some (.inl (u5 (s11+1),v16))
   else
   some (.inr s12)) (0,[])).bind λe10=>
  κ8 e10)
def b33(a0:List c4):Option (List m7):=
 jn (λ(j9:List m7)=>
  some j9) (λκ8=>
  (lp (S:=Int × (List m7)) (E:=(List m7)) (λ((s11,s12):Int × (List m7))=>
   if (decide (s11<(a0.length:Int))) then
    (ix a0 s11).bind λv15=>
    (app 24 s12 [(⟨v15.State,v15.Key,v15.Val⟩:m7)]).bind λv16=>
    some (.inl (u5 (s11+1),v16))
   else
   some (.inr s12)) (0,[])).bind λe10=>
  κ8 e10)
def a9s(a0:c9):Option y7:=
 jn (λ(j9:List w7)=>
  some (⟨j9,a0.Cap⟩:y7)) (λκ8=>
  (lp (S:=Int × (List w7)) (E:=(List w7)) (λ((s11,s12):Int × (List w7))=>
   if (decide (s11<(a0.L.length:Int))) then
    (ix a0.L s11).bind λv15=>
    (app 24 s12 [(⟨v15.Kind,v15.At,v15.Prog⟩:w7)]).bind λv16=>
    some (.inl (u5 (s11+1),v16))
   else
   some (.inr s12)) (0,[])).bind λe10=>
  κ8 e10)
def a4C(a0:b7):Option g8:=
 (b31 a0.S).bind λv1=>
 (a9q a0.a8).bind λv2=>
 (b33 a0.T).bind λv3=>
 (a9s a0.Q).bind λv4=>
 some (⟨v1,a0.Roots,v2,v3,v4⟩:g8)
def K0(a0:m9):Option B9:=
 jn (λ(j9:List B8)=>
  some (⟨j9,a0.Last⟩:B9)) (λκ8=>
  (lp (S:=Int × (List B8)) (E:=(List B8)) (λ((s11,s12):Int × (List B8))=>
   if (decide (s11<(a0.a8.length:Int))) then
    (ix a0.a8 s11).bind λv15=>
    (app 24 s12 [(⟨v15.State,v15.Gen,s11⟩:B8)]).bind λv16=>
    some (.inl (u5 (s11+1),v16))
   else
   some (.inr s12)) (0,[])).bind λe10=>
  κ8 e10)
def a8V(a0:B9):Option Bool:=
 if (((decide ((a0.a8.length:Int) > 24))||(decide (a0.Last<0)))||(decide (a0.Last > 9))) then
  some false
 else
 jn (λ(_:Unit)=>
  some true) (λκ5=>
  (lp (S:=Int) (E:=Bool ⊕ Unit) (λ(s8:Int)=>
   if (decide (s8<(a0.a8.length:Int))) then
    (ix a0.a8 s8).bind λv10=>
    if ((((decide (v10.State<0))||(decide (v10.State > 3)))||(decide (v10.Gen<0)))||(decide (v10.Gen > a0.Last))) then
     some (.inr (.inl false))
    else
    some (.inl (u5 (s8+1)))
   else
   some (.inr (.inr ()))) 0).bind λe7=>
  match e7 with
  | .inl w=>some w
  | .inr w=>κ5 w)
def a30(a0:p9):Option Bool:=
 some ((a0.State==1)||(a0.State==2))
def a8W(a0:m9):Option Bool:=
 (K0 a0).bind λv1=>
 (a8V v1).bind λv2=>
 if ((!v2)||(decide (a0.Serial<0))) then
  some false
 else
 jn (λ(_:Unit)=>
  some true) (λκ22=>
  (lp (S:=Int) (E:=Bool ⊕ Unit) (λ(s25:Int)=>
   if (decide (s25<(a0.a8.length:Int))) then
    jn (λ(_:Unit)=>
     some (.inl (u5 (s25+1)))) (λκ34=>
     (ix a0.a8 s25).bind λv36=>
     (a30 v36).bind λv37=>
     if (!v37) then
      if ((((((v36.Val.Serial != 0)||(v36.Val.Strong != 0))||(v36.Val.Weak != 0))||(v36.Val.Prog != 0))||v36.Val.Started)||((v36.Val.Fields.length:Int) != 0)) then
       some (.inr (.inl false))
      else
      κ34 ()
     else
     if (((((((decide (v36.Val.Serial<1))||(decide (v36.Val.Serial > a0.Serial)))||(decide (v36.Val.Strong<0)))||(decide (v36.Val.Weak<0)))||(decide (v36.Val.Prog<(-1))))||(decide (v36.Val.Prog > 5)))||(decide ((v36.Val.Fields.length:Int) > 4))) then
      some (.inr (.inl false))
     else
     (lp (S:=Int) (E:=Bool ⊕ Unit) (λ(s39:Int)=>
      if (decide (s39<s25)) then
       (ix a0.a8 s39).bind λv41=>
       (a30 v41).bind λv42=>
       if (v42&&(v41.Val.Serial==v36.Val.Serial)) then
        some (.inr (.inl false))
       else
       some (.inl (u5 (s39+1)))
      else
      some (.inr (.inr ()))) 0).bind λe38=>
     match e38 with
     | .inl w=>some (.inr (.inl w))
     | .inr w=>κ34 w)
   else
   some (.inr (.inr ()))) 0).bind λe24=>
  match e24 with
  | .inl w=>some w
  | .inr w=>κ22 w)
def a0Z(a0:List m7)(a1:Int):Option Int:=
 jn (λ(_:Unit)=>
  some (-1)) (λκ5=>
  (lp (S:=Int) (E:=Int ⊕ Unit) (λ(s8:Int)=>
   if (decide (s8<(a0.length:Int))) then
    (ix a0 s8).bind λv10=>
    if ((v10.State==1)&&(v10.Key==a1)) then
     some (.inr (.inl s8))
    else
    some (.inl (u5 (s8+1)))
   else
   some (.inr (.inr ()))) 0).bind λe7=>
  match e7 with
  | .inl w=>some w
  | .inr w=>κ5 w)
def b1s(a0:Int)(a1:Int):Option Int:=
 if (decide (a0<1)) then
  some 0
 else
 (rem (u5 ((u5 (5*a1))+1)) a0).bind λv1=>
 if (decide (v1<0)) then
  some (u5 (v1+a0))
 else
 some v1
def a80(a0:List m7):Option Bool:=
 if ((decide ((a0.length:Int)<1))||(decide ((a0.length:Int) > 8))) then
  some false
 else
 jn (λ(_:Unit)=>
  some true) (λκ22=>
  (lp (S:=Int) (E:=Bool ⊕ Unit) (λ(s25:Int)=>
   if (decide (s25<(a0.length:Int))) then
    jn (λ(_:Unit)=>
     some (.inl (u5 (s25+1)))) (λκ35=>
     (ix a0 s25).bind λv37=>
     if (((decide (v37.State<0))||(decide (v37.State > 2)))||((v37.State != 1)&&((v37.Key != 0)||(v37.Val != 0)))) then
      some (.inr (.inl false))
     else
     if (v37.State != 1) then
      κ35 ()
     else
     (a0Z a0 v37.Key).bind λv38=>
     if (v38 != s25) then
      some (.inr (.inl false))
     else
     (b1s (a0.length:Int) v37.Key).bind λv39=>
     (lp (S:=Int) (E:=Bool ⊕ Unit) (λ(s41:Int)=>
      if (s41 != s25) then
       (ix a0 s41).bind λv43=>
       if (v43.State==0) then
        some (.inr (.inl false))
       else
       (rem (u5 (s41+1)) (a0.length:Int)).bind λv44=>
       some (.inl v44)
      else
      some (.inr (.inr ()))) v39).bind λe40=>
     match e40 with
     | .inl w=>some (.inr (.inl w))
     | .inr w=>κ35 w)
   else
   some (.inr (.inr ()))) 0).bind λe24=>
  match e24 with
  | .inl w=>some w
  | .inr w=>κ22 w)
def a3g(a0:Int)(a1:Int):Option Int:=
 if ((((decide (a0<0))||(decide (a0 > 23)))||(decide (a1<0)))||(decide (a1 > 9))) then
  some 0
 else
 some (u5 ((u5 (1+a0))+(u5 (32*a1))))
def a5V(a0:Int):Option Bool:=
 if ((decide (a0<1))||(decide (a0 > 400))) then
  some false
 else
 (rem (u5 (a0-1)) 32).bind λv1=>
 (quo .i64 (u5 (a0-1)) 32).bind λv2=>
 (a3g v1 v2).bind λv3=>
 some (v3==a0)
def a5U(a0:Int):Option Int:=
 (a5V a0).bind λv1=>
 if (!v1) then
  some (-1)
 else
 (rem (u5 (a0-1)) 32).bind λv2=>
 some v2
def b3O(a0:Int):Option Int:=
 (a5V a0).bind λv1=>
 if (!v1) then
  some (-1)
 else
 (quo .i64 (u5 (a0-1)) 32).bind λv2=>
 some v2
def N4(a0:B9)(a1:Int):Option (Int × Int):=
 if (a1==0) then
  some ((-1),2)
 else
 (a5U a1).bind λv1=>
 if ((decide (v1<0))||(decide (v1≥(a0.a8.length:Int)))) then
  some ((-1),3)
 else
 (ix a0.a8 v1).bind λv2=>
 (b3O a1).bind λv3=>
 if ((v2.Gen != v3)||((v2.State != 1)&&(v2.State != 2))) then
  some ((-1),3)
 else
 some (v1,0)
def b1m(a0:B9)(a1:Int):Option (Int × Int):=
 (N4 a0 a1).bind λv1=>
 if (v1.2 != 0) then
  some (0,v1.2)
 else
 (ix a0.a8 v1.1).bind λv2=>
 if (v2.State==2) then
  some (0,3)
 else
 some (v2.Val,0)
def F1(a0:m9)(a1:Int):Option (D9 × Int):=
 (K0 a0).bind λv1=>
 (b1m v1 a1).bind λv2=>
 if (v2.2 != 0) then
  some ((⟨0,0,0,0,false,[]⟩:D9),v2.2)
 else
 (ix a0.a8 v2.1).bind λv3=>
 some (v3.Val,0)
def a87(a0:g8):Option Bool:=
 jn (λ(_:Unit)=>
  some ((a0.Q.Cap==30)&&(decide ((a0.Q.L.length:Int)≤30)))) (λκ30=>
  (lp (S:=Int) (E:=Bool ⊕ Unit) (λ(s33:Int)=>
   if (decide (s33<(a0.Q.L.length:Int))) then
    jn (λ(_:Unit)=>
     some (.inl (u5 (s33+1)))) (λκ47=>
     (ix a0.Q.L s33).bind λv49=>
     if ((((v49.Kind != 1)&&(v49.Kind != 2))||(decide (v49.Prog<0)))||(decide (v49.Prog > 5))) then
      some (.inr (.inl false))
     else
     jn (λ(_:Unit)=>
      (F1 a0.S v49.At).bind λv56=>
      if (((v49.Kind==1)&&((v56.2 != 0)||(!v56.1.Started)))||((v49.Kind==2)&&((decide (v49.At<0))||(decide (v49.At > 5))))) then
       some (.inr (.inl false))
      else
      κ47 ()) (λκ54=>
      (lp (S:=Int) (E:=Bool ⊕ Unit) (λ(s58:Int)=>
       if (decide (s58<s33)) then
        (ix a0.Q.L s58).bind λv60=>
        if ((v60.Kind==v49.Kind)&&(v60.At==v49.At)) then
         some (.inr (.inl false))
        else
        some (.inl (u5 (s58+1)))
       else
       some (.inr (.inr ()))) 0).bind λe57=>
      match e57 with
      | .inl w=>some (.inr (.inl w))
      | .inr w=>κ54 w))
   else
   some (.inr (.inr ()))) 0).bind λe32=>
  match e32 with
  | .inl w=>some w
  | .inr w=>κ30 w)
def X9(a0:g8)(a1:Int):Option Bool:=
 (F1 a0.S a1).bind λv1=>
 some (v1.2==0)
def Y0(a0:g8)(a1:Int):Option Bool:=
 (u4 ((a1==0)==false) false (X9 a0 a1)).bind λv1=>
 some ((a1==0)||v1)
def a4p(a0:m9)(a1:List Int):Option (List Int):=
 (app 8 [] a1).bind λv1=>
 jn (λ(j36:List Int)=>
  some j36) (λκ35=>
  (lp (S:=Int × (List Int)) (E:=(List Int)) (λ((s38,s39):Int × (List Int))=>
   if (decide (s38<(s39.length:Int))) then
    jn (λ(j56:List Int)=>
     some (.inl (u5 (s38+1),j56))) (λκ55=>
     (lp (S:=Int × (List Int)) (E:=(List Int)) (λ((s58,s59):Int × (List Int))=>
      if (decide (s58 > 0)) then
       (K0 a0).bind λv62=>
       (ix s59 (u5 (s58-1))).bind λv63=>
       (N4 v62 v63).bind λv64=>
       (ix s59 s58).bind λv65=>
       (N4 v62 v65).bind λv66=>
       (u4 (((decide (v64.1<0))||(decide (v66.1<0)))==false) (⟨0,0,⟨0,0,0,0,false,[]⟩⟩:p9) (ix a0.a8 v64.1)).bind λv67=>
       (u4 (((decide (v64.1<0))||(decide (v66.1<0)))==false) (⟨0,0,⟨0,0,0,0,false,[]⟩⟩:p9) (ix a0.a8 v66.1)).bind λv68=>
       if (((decide (v64.1<0))||(decide (v66.1<0)))||(decide (v67.Val.Serial≤v68.Val.Serial))) then
        some (.inr s59)
       else
       (ix (s59.set (s58).toNat v63) (u5 (s58-1))).bind λv69=>
       some (.inl (u5 (s58-1),((s59.set (s58).toNat v63).set (u5 (s58-1)).toNat v65)))
      else
      some (.inr s59)) (s38,s39)).bind λe57=>
     κ55 e57)
   else
   some (.inr s39)) (1,v1)).bind λe37=>
  κ35 e37)
def Q6(a0:m9):Option (List Int):=
 jn (λ(j15:List Int)=>
  (a4p a0 j15).bind λv16=>
  some v16) (λκ14=>
  (lp (S:=Int × (List Int)) (E:=(List Int)) (λ((s18,s19):Int × (List Int))=>
   if (decide (s18<(a0.a8.length:Int))) then
    jn (λ(j26:List Int)=>
     some (.inl (u5 (s18+1),j26))) (λκ25=>
     (ix a0.a8 s18).bind λv27=>
     if (v27.State==1) then
      (a3g s18 v27.Gen).bind λv28=>
      (app 8 s19 [v28]).bind λv29=>
      κ25 v29
     else
     κ25 s19)
   else
   some (.inr s19)) (0,[])).bind λe17=>
  κ14 e17)
def b1t(a0:List m7):Option (List Int):=
 jn (λ(j13:List Int)=>
  some j13) (λκ12=>
  (lp (S:=Int × (List Int)) (E:=(List Int)) (λ((s15,s16):Int × (List Int))=>
   if (decide (s15<(a0.length:Int))) then
    jn (λ(j22:List Int)=>
     some (.inl (u5 (s15+1),j22))) (λκ21=>
     (ix a0 s15).bind λv23=>
     if (v23.State==1) then
      (app 8 s16 [v23.Key]).bind λv24=>
      κ21 v24
     else
     κ21 s16)
   else
   some (.inr s16)) (0,[])).bind λe14=>
  κ12 e14)
def a8Z(a0:List m7)(a1:Int):Option (Int × Int):=
 (a0Z a0 a1).bind λv1=>
 if (decide (v1<0)) then
  some (0,9)
 else
 (ix a0 v1).bind λv2=>
 some (v2.Val,0)
def a31(a0:List m7):Option (List D3):=
 (b1t a0).bind λv1=>
 jn (λ(j11:List D3)=>
  some j11) (λκ10=>
  (lp (S:=Int × (List D3)) (E:=(List D3)) (λ((s13,s14):Int × (List D3))=>
   if (decide (s13<(v1.length:Int))) then
    (ix v1 s13).bind λv17=>
    (a8Z a0 v17).bind λv18=>
    (app 16 s14 [(⟨v17,v18.1⟩:D3)]).bind λv19=>
    some (.inl (u5 (s13+1),v19))
   else
   some (.inr s14)) (0,[])).bind λe12=>
  κ10 e12)
def a86(a0:g8):Option Bool:=
 jn (λ(_:Unit)=>
  (Q6 a0.S).bind λv8=>
  jn (λ(_:Unit)=>
   (a31 a0.T).bind λv30=>
   jn (λ(_:Unit)=>
    some true) (λκ37=>
    (lp (S:=Int) (E:=Bool ⊕ Unit) (λ(s40:Int)=>
     if (decide (s40<(v30.length:Int))) then
      (ix v30 s40).bind λv42=>
      (X9 a0 v42.Key).bind λv43=>
      (u4 ((!v43)==false) false (X9 a0 v42.Val)).bind λv44=>
      if ((!v43)||(!v44)) then
       some (.inr (.inl false))
      else
      some (.inl (u5 (s40+1)))
     else
     some (.inr (.inr ()))) 0).bind λe39=>
    match e39 with
    | .inl w=>some w
    | .inr w=>κ37 w)) (λκ28=>
   (lp (S:=Int) (E:=Bool ⊕ Unit) (λ(s46:Int)=>
    if (decide (s46<(v8.length:Int))) then
     jn (λ(_:Unit)=>
      some (.inl (u5 (s46+1)))) (λκ55=>
      (ix v8 s46).bind λv57=>
      (F1 a0.S v57).bind λv58=>
      (lp (S:=Int) (E:=Bool ⊕ Unit) (λ(s60:Int)=>
       if (decide (s60<(v58.1.Fields.length:Int))) then
        (ix v58.1.Fields s60).bind λv62=>
        (Y0 a0 v62).bind λv63=>
        if (!v63) then
         some (.inr (.inl false))
        else
        some (.inl (u5 (s60+1)))
       else
       some (.inr (.inr ()))) 0).bind λe59=>
      match e59 with
      | .inl w=>some (.inr (.inl w))
      | .inr w=>κ55 w)
    else
    some (.inr (.inr ()))) 0).bind λe45=>
   match e45 with
   | .inl w=>some w
   | .inr w=>κ28 w)) (λκ6=>
  (lp (S:=Int) (E:=Bool ⊕ Unit) (λ(s65:Int)=>
   if (decide (s65<(a0.Roots.length:Int))) then
    (ix a0.Roots s65).bind λv67=>
    (Y0 a0 v67).bind λv68=>
    if (!v68) then
     some (.inr (.inl false))
    else
    some (.inl (u5 (s65+1)))
   else
   some (.inr (.inr ()))) 0).bind λe64=>
  match e64 with
  | .inl w=>some w
  | .inr w=>κ6 w)
def a2B(a0:y7)(a1:Int):Option Bool:=
 jn (λ(_:Unit)=>
  some false) (λκ5=>
  (lp (S:=Int) (E:=Bool ⊕ Unit) (λ(s8:Int)=>
   if (decide (s8<(a0.L.length:Int))) then
    (ix a0.L s8).bind λv10=>
    if ((v10.Kind==2)&&(v10.At==a1)) then
     some (.inr (.inl true))
    else
    some (.inl (u5 (s8+1)))
   else
   some (.inr (.inr ()))) 0).bind λe7=>
  match e7 with
  | .inl w=>some w
  | .inr w=>κ5 w)
def a85(a0:g8):Option Bool:=
 jn (λ(_:Unit)=>
  some true) (λκ9=>
  (lp (S:=Int) (E:=Bool ⊕ Unit) (λ(s12:Int)=>
   if (decide (s12<(a0.a8.length:Int))) then
    (ix a0.a8 s12).bind λv14=>
    (K0 a0.S).bind λv15=>
    (N4 v15 v14.Target).bind λv16=>
    (u4 ((((((decide (v14.Call<(-1)))||(decide (v14.Call > 5)))||((v14.Target==0)&&v14.Intact))||((v14.Target != 0)&&(v16.2 != 0)))==false)&&(v14.Intact==true)) false (X9 a0 v14.Target)).bind λv17=>
    (u4 (((((((decide (v14.Call<(-1)))||(decide (v14.Call > 5)))||((v14.Target==0)&&v14.Intact))||((v14.Target != 0)&&(v16.2 != 0)))==false)&&(v14.Intact==true))&&((!v17)==false)) false (a2B a0.Q s12)).bind λv18=>
    if (((((decide (v14.Call<(-1)))||(decide (v14.Call > 5)))||((v14.Target==0)&&v14.Intact))||((v14.Target != 0)&&(v16.2 != 0)))||(v14.Intact&&((!v17)||v18))) then
     some (.inr (.inl false))
    else
    some (.inl (u5 (s12+1)))
   else
   some (.inr (.inr ()))) 0).bind λe11=>
  match e11 with
  | .inl w=>some w
  | .inr w=>κ9 w)
def b0m(a0:Int)(a1:Int):Option Int:=
 (a3g a0 a1).bind λv1=>
 some v1
def a6W(a0:List u9)(a1:Int):Option Int:=
 jn (λ(j11:Int)=>
  some j11) (λκ10=>
  (lp (S:=Int × Int) (E:=Int) (λ((s13,s14):Int × Int)=>
   if (decide (s14<(a0.length:Int))) then
    jn (λ(j19:Int)=>
     some (.inl (j19,u5 (s14+1)))) (λκ18=>
     (ix a0 s14).bind λv20=>
     if ((v20.Target==a1)&&(a1 != 0)) then
      κ18 (u5 (s13+1))
     else
     κ18 s13)
   else
   some (.inr s13)) (0,0)).bind λe12=>
  κ10 e12)
def a88(a0:g8):Option Bool:=
 jn (λ(_:Unit)=>
  some true) (λκ12=>
  (lp (S:=Int) (E:=Bool ⊕ Unit) (λ(s15:Int)=>
   if (decide (s15<(a0.S.a8.length:Int))) then
    jn (λ(_:Unit)=>
     some (.inl (u5 (s15+1)))) (λκ20=>
     (ix a0.S.a8 s15).bind λv22=>
     if ((v22.State != 1)&&(v22.State != 2)) then
      κ20 ()
     else
     (b0m s15 v22.Gen).bind λv23=>
     (a6W a0.a8 v23).bind λv24=>
     if ((v22.Val.Weak != v24)||((v22.State==2)&&(((decide (v22.Val.Weak<1))||(decide ((v22.Val.Fields.length:Int) > 0)))||(v22.Val.Strong != 0)))) then
      some (.inr (.inl false))
     else
     κ20 ())
   else
   some (.inr (.inr ()))) 0).bind λe14=>
  match e14 with
  | .inl w=>some w
  | .inr w=>κ12 w)
def a8h(a0:y7):Option (List Int):=
 jn (λ(j13:List Int)=>
  some j13) (λκ12=>
  (lp (S:=Int × (List Int)) (E:=(List Int)) (λ((s15,s16):Int × (List Int))=>
   if (decide (s15<(a0.L.length:Int))) then
    jn (λ(j22:List Int)=>
     some (.inl (u5 (s15+1),j22))) (λκ21=>
     (ix a0.L s15).bind λv23=>
     if (v23.Kind==1) then
      (app 8 s16 [v23.At]).bind λv24=>
      κ21 v24
     else
     κ21 s16)
   else
   some (.inr s16)) (0,[])).bind λe14=>
  κ12 e14)
def a84(a0:g8):Option (List Int):=
 jn (λ(j13:List Int)=>
  (a8h a0.Q).bind λv14=>
  (app 8 j13 v14).bind λv15=>
  some v15) (λκ12=>
  (lp (S:=Int × (List Int)) (E:=(List Int)) (λ((s17,s18):Int × (List Int))=>
   if (decide (s17<(a0.Roots.length:Int))) then
    jn (λ(j24:List Int)=>
     some (.inl (u5 (s17+1),j24))) (λκ23=>
     (ix a0.Roots s17).bind λv25=>
     if (v25 != 0) then
      (app 8 s18 [v25]).bind λv26=>
      κ23 v26
     else
     κ23 s18)
   else
   some (.inr s18)) (0,[])).bind λe16=>
  κ12 e16)
def a0B(a0:Int):Option Bool:=
 some (decide (a0≥12))
def a5W(a0:m9)(a1:Int):Option Bool:=
 (F1 a0 a1).bind λv1=>
 (a0B v1.1.Strong).bind λv2=>
 some v2
def a2A(a0:List Int):Option (List Int):=
 jn (λ(j13:List Int)=>
  some j13) (λκ12=>
  (lp (S:=Int × (List Int)) (E:=(List Int)) (λ((s15,s16):Int × (List Int))=>
   if (decide (s15<(a0.length:Int))) then
    jn (λ(j22:List Int)=>
     some (.inl (u5 (s15+1),j22))) (λκ21=>
     (ix a0 s15).bind λv23=>
     if (v23 != 0) then
      (app 8 s16 [v23]).bind λv24=>
      κ21 v24
     else
     κ21 s16)
   else
   some (.inr s16)) (0,[])).bind λe14=>
  κ12 e14)
def b1p(a0:m9)(a1:Int):Option (List Int):=
 (F1 a0 a1).bind λv1=>
 if (v1.2 != 0) then
  some []
 else
 (a2A v1.1.Fields).bind λv2=>
 some v2
def a1t(a0:List Int)(a1:Int):Option Int:=
 jn (λ(j11:Int)=>
  some j11) (λκ10=>
  (lp (S:=Int × Int) (E:=Int) (λ((s13,s14):Int × Int)=>
   if (decide (s14<(a0.length:Int))) then
    jn (λ(j19:Int)=>
     some (.inl (j19,u5 (s14+1)))) (λκ18=>
     (ix a0 s14).bind λv20=>
     if ((v20==a1)&&(a1 != 0)) then
      κ18 (u5 (s13+1))
     else
     κ18 s13)
   else
   some (.inr s13)) (0,0)).bind λe12=>
  κ10 e12)
def b78(a0:m9)(a1:Int):Option Int:=
 (Q6 a0).bind λv1=>
 jn (λ(j11:Int)=>
  some j11) (λκ10=>
  (lp (S:=Int × Int) (E:=Int) (λ((s13,s14):Int × Int)=>
   if (decide (s14<(v1.length:Int))) then
    (ix v1 s14).bind λv17=>
    (b1p a0 v17).bind λv18=>
    (a1t v18 a1).bind λv19=>
    some (.inl (u5 (s13+v19),u5 (s14+1)))
   else
   some (.inr s13)) (0,0)).bind λe12=>
  κ10 e12)
def a81(a0:List m7)(a1:Int):Option Int:=
 (a31 a0).bind λv1=>
 jn (λ(j12:Int)=>
  some j12) (λκ11=>
  (lp (S:=Int × Int) (E:=Int) (λ((s14,s15):Int × Int)=>
   if (decide (s15<(v1.length:Int))) then
    jn (λ(j20:Int)=>
     some (.inl (j20,u5 (s15+1)))) (λκ19=>
     (ix v1 s15).bind λv21=>
     if ((v21.Val==a1)&&(a1 != 0)) then
      κ19 (u5 (s14+1))
     else
     κ19 s14)
   else
   some (.inr s14)) (0,0)).bind λe13=>
  κ11 e13)
def a83(a0:m9)(a1:List m7)(a2:Int):Option Int:=
 (b78 a0 a2).bind λv1=>
 (a81 a1 a2).bind λv2=>
 some (u5 (v1+v2))
def a8g(a0:m9)(a1:List m7)(a2:Int):Option Int:=
 (F1 a0 a2).bind λv1=>
 if (v1.2 != 0) then
  some 0
 else
 (a83 a0 a1 a2).bind λv2=>
 some (u5 (v1.1.Strong-v2))
def b1w(a0:m9)(a1:List m7)(a2:List Int):Option Bool:=
 (Q6 a0).bind λv1=>
 jn (λ(_:Unit)=>
  some true) (λκ9=>
  (lp (S:=Int) (E:=Bool ⊕ Unit) (λ(s12:Int)=>
   if (decide (s12<(v1.length:Int))) then
    (ix v1 s12).bind λv14=>
    (a5W a0 v14).bind λv15=>
    (u4 ((!v15)==true) 0 (a8g a0 a1 v14)).bind λv16=>
    (u4 ((!v15)==true) 0 (a1t a2 v14)).bind λv17=>
    if ((!v15)&&(v16 != v17)) then
     some (.inr (.inl false))
    else
    some (.inl (u5 (s12+1)))
   else
   some (.inr (.inr ()))) 0).bind λe11=>
  match e11 with
  | .inl w=>some w
  | .inr w=>κ9 w)
def a5Y(a0:g8):Option Bool:=
 (a8W a0.S).bind λv1=>
 (u4 ((!v1)==false) false (a80 a0.T)).bind λv2=>
 if ((((!v1)||(!v2))||((a0.Roots.length:Int) != 6))||((a0.a8.length:Int) != 6)) then
  some false
 else
 (a87 a0).bind λv3=>
 (u4 (v3==true) false (a86 a0)).bind λv4=>
 (u4 ((v3&&v4)==true) false (a85 a0)).bind λv5=>
 (u4 (((v3&&v4)&&v5)==true) false (a88 a0)).bind λv6=>
 (u4 ((((v3&&v4)&&v5)&&v6)==true) [] (a84 a0)).bind λv7=>
 (u4 ((((v3&&v4)&&v5)&&v6)==true) false (b1w a0.S a0.T v7)).bind λv8=>
 some ((((v3&&v4)&&v5)&&v6)&&v8)
def a5Z(a0:g8):Option (List Int):=
 (Q6 a0.S).bind λv1=>
 jn (λ(j16:List Int)=>
  some j16) (λκ15=>
  (lp (S:=Int × (List Int)) (E:=(List Int)) (λ((s18,s19):Int × (List Int))=>
   if (decide (s18<(v1.length:Int))) then
    jn (λ(j26:List Int)=>
     some (.inl (u5 (s18+1),j26))) (λκ25=>
     (ix v1 s18).bind λv27=>
     (F1 a0.S v27).bind λv28=>
     if (v28.1.Strong==0) then
      (app 8 s19 [v27]).bind λv29=>
      κ25 v29
     else
     κ25 s19)
   else
   some (.inr s19)) (0,[])).bind λe17=>
  κ15 e17)
def a5d(a0:g8):Option Bool:=
 (a5Z a0).bind λv1=>
 some ((v1.length:Int)==0)
def a2c(a0:Int)(a1:Int)(a2:List (List g9))(a3:List (List Int)):Option Bool:=
 (a8E a2).bind λv1=>
 (u4 ((!v1)==false) false (a2K a3 60)).bind λv2=>
 (u4 (((!v1)||(!v2))==false) false a2L).bind λv3=>
 if (((!v1)||(!v2))||(!v3)) then
  (a2L).bind λv4=>
  some v4
 else
 (rem (u5 a0) 24).bind λv5=>
 (rem (u5 a1) 10).bind λv6=>
 (O8 (u5 (1+v5)) v6 8 a2).bind λv7=>
 if (v7.2 != 0) then
  some (v7.2==13)
 else
 jn (λ(_:Unit)=>
  some true) (λκ22=>
  (lp (S:=Int × n9) (E:=Bool ⊕ Unit) (λ((s25,s26):Int × n9)=>
   if (decide (s25<(a3.length:Int))) then
    (ix a3 s25).bind λv29=>
    (a5H s26 v29).bind λv30=>
    (a1K v30.1).bind λv31=>
    (b1V v30.1.X).bind λv32=>
    (u4 (((!v32)||((u5 ((u5 ((u5 (v31.a+v31.b))+v31.c))+v31.d)) != (u5 (1+v5))))==false) [] (a1J v30.1)).bind λv33=>
    (u4 ((((!v32)||((u5 ((u5 ((u5 (v31.a+v31.b))+v31.c))+v31.d)) != (u5 (1+v5))))||((v33.length:Int) != v31.b))==false) ⟨⟨[],0,0⟩,[],[],[],⟨[],0⟩⟩ (a4C v30.1.X)).bind λv34=>
    (u4 ((((!v32)||((u5 ((u5 ((u5 (v31.a+v31.b))+v31.c))+v31.d)) != (u5 (1+v5))))||((v33.length:Int) != v31.b))==false) false (a5Y v34)).bind λv35=>
    (u4 (((((!v32)||((u5 ((u5 ((u5 (v31.a+v31.b))+v31.c))+v31.d)) != (u5 (1+v5))))||((v33.length:Int) != v31.b))||(!v35))==false) ⟨⟨[],0,0⟩,[],[],[],⟨[],0⟩⟩ (a4C v30.1.X)).bind λv36=>
    (u4 (((((!v32)||((u5 ((u5 ((u5 (v31.a+v31.b))+v31.c))+v31.d)) != (u5 (1+v5))))||((v33.length:Int) != v31.b))||(!v35))==false) false (a5d v36)).bind λv37=>
    if (((((!v32)||((u5 ((u5 ((u5 (v31.a+v31.b))+v31.c))+v31.d)) != (u5 (1+v5))))||((v33.length:Int) != v31.b))||(!v35))||(!v37)) then
     some (.inr (.inl false))
    else
    some (.inl (u5 (s25+1),v30.1))
   else
   some (.inr (.inr ()))) (0,v7.1)).bind λe24=>
  match e24 with
  | .inl w=>some w
  | .inr w=>κ22 w)
def Y1(a0:J5):Option Bool:=
 some ((decide (a0.Kind≥1))&&(decide (a0.Kind≤10)))
def a1i(a0:Int)(a1:Int)(a2:Int)(a3:Int):Option Int:=
 if ((decide (a0<a1))||(decide (a0 > a2))) then
  some a3
 else
 some 0
def a0C(a0:Int)(a1:Int)(a2:Int):Option Int:=
 if (a0 != 0) then
  some a0
 else
 if (a1 != 0) then
  some a1
 else
 some a2
def a1v(a0:J5):Option Int:=
 (a1i a0.A 0 5 6).bind λv1=>
 (a1i a0.B 0 5 6).bind λv2=>
 if (a0.Kind==1) then
  (a1i a0.B 0 4 1).bind λv3=>
  (a1i a0.C (-1) 5 13).bind λv4=>
  (a0C v1 v3 v4).bind λv5=>
  some v5
 else
 jn (λ(j7:Bool)=>
  if j7 then
   (a0C v1 v2 0).bind λv8=>
   some v8
  else
  if (a0.Kind==3) then
   some v1
  else
  if (a0.Kind==4) then
   (a1i a0.C 0 3 5).bind λv9=>
   (a0C v1 v2 v9).bind λv10=>
   some v10
  else
  if (a0.Kind==5) then
   (a1i a0.B 0 3 5).bind λv11=>
   (a1i a0.C (-1) 5 6).bind λv12=>
   (a0C v1 v11 v12).bind λv13=>
   some v13
  else
  if (a0.Kind==6) then
   (a1i a0.A 0 5 7).bind λv14=>
   (a1i a0.B (-1) 5 6).bind λv15=>
   (a1i a0.C (-1) 5 13).bind λv16=>
   (a0C v14 v15 v16).bind λv17=>
   some v17
  else
  if (a0.Kind==7) then
   (a1i a0.B 0 5 7).bind λv18=>
   (a0C v1 v18 0).bind λv19=>
   some v19
  else
  if (a0.Kind==8) then
   (a1i a0.B (-1) 5 6).bind λv20=>
   (a0C v1 v20 0).bind λv21=>
   some v21
  else
  if (a0.Kind==11) then
   some 0
  else
  if (a0.Kind==12) then
   (a1i a0.A 0 200 12).bind λv22=>
   some v22
  else
  some 14) (λκ6=>
  if (a0.Kind==2) then
   κ6 (a0.Kind==2)
  else
  if (a0.Kind==9) then
   κ6 (a0.Kind==9)
  else
  κ6 (a0.Kind==10))
def a9a(a0:List (List J5)):Option Bool:=
 if (decide ((a0.length:Int) > 6)) then
  some false
 else
 jn (λ(_:Unit)=>
  some true) (λκ20=>
  (lp (S:=Int) (E:=Bool ⊕ Unit) (λ(s23:Int)=>
   if (decide (s23<(a0.length:Int))) then
    jn (λ(_:Unit)=>
     some (.inl (u5 (s23+1)))) (λκ32=>
     (ix a0 s23).bind λv34=>
     if (decide ((v34.length:Int) > 6)) then
      some (.inr (.inl false))
     else
     (lp (S:=Int) (E:=Bool ⊕ Unit) (λ(s36:Int)=>
      if (decide (s36<(v34.length:Int))) then
       (ix v34 s36).bind λv38=>
       (Y1 v38).bind λv39=>
       (u4 ((!v39)==false) 0 (a1v v38)).bind λv40=>
       if ((!v39)||(v40 != 0)) then
        some (.inr (.inl false))
       else
       some (.inl (u5 (s36+1)))
      else
      some (.inr (.inr ()))) 0).bind λe35=>
     match e35 with
     | .inl w=>some (.inr (.inl w))
     | .inr w=>κ32 w)
   else
   some (.inr (.inr ()))) 0).bind λe22=>
  match e22 with
  | .inl w=>some w
  | .inr w=>κ20 w)
def c3i(a0:Int)(a1:Int):Option B9:=
 if ((((decide (a0<0))||(decide (a0 > 24)))||(decide (a1<0)))||(decide (a1 > 9))) then
  some (⟨[],0⟩:B9)
 else
 (mk 24 a0 (⟨0,0,0⟩:B8)).bind λv1=>
 some (⟨v1,a1⟩:B9)
def b75(a0:Int)(a1:Int):Option m9:=
 (c3i a0 a1).bind λv1=>
 (mk 80 (v1.a8.length:Int) (⟨0,0,⟨0,0,0,0,false,[]⟩⟩:p9)).bind λv2=>
 some (⟨v2,v1.Last,0⟩:m9)
def c9P(a0:Int):Option (List u9):=
 jn (λ(j8:List u9)=>
  some j8) (λκ7=>
  (lp (S:=Int × (List u9)) (E:=(List u9)) (λ((s10,s11):Int × (List u9))=>
   if ((decide (s10<a0))&&(decide (a0≤6))) then
    (app 24 s11 [(⟨0,false,(-1)⟩:u9)]).bind λv14=>
    some (.inl (u5 (s10+1),v14))
   else
   some (.inr s11)) (0,[])).bind λe9=>
  κ7 e9)
def c3j(a0:Int):Option (List m7):=
 if ((decide (a0<1))||(decide (a0 > 8))) then
  some []
 else
 (mk 24 a0 (⟨0,0,0⟩:m7)).bind λv1=>
 some v1
def c9Q:Option y7:=
 some (⟨[],30⟩:y7)
def b1x(a0:Int)(a1:Int)(a2:Int):Option g8:=
 if ((((((decide (a0<1))||(decide (a0 > 24)))||(decide (a1<0)))||(decide (a1 > 9)))||(decide (a2<1)))||(decide (a2 > 8))) then
  some (⟨⟨[],0,0⟩,[],[],[],⟨[],0⟩⟩:g8)
 else
 (b75 a0 a1).bind λv1=>
 (mk 8 6 (0:Int)).bind λv2=>
 (c9P 6).bind λv3=>
 (c3j a2).bind λv4=>
 (c9Q).bind λv5=>
 some (⟨v1,v2,v3,v4,v5⟩:g8)
def b8n(a0:Int)(a1:Int)(a2:Int)(a3:List (List J5)):Option (B1 × Int):=
 (a9a a3).bind λv1=>
 if (!v1) then
  some ((⟨⟨⟨[],0,0⟩,[],[],[],⟨[],0⟩⟩,[]⟩:B1),13)
 else
 (b1x a0 a1 a2).bind λv2=>
 if ((v2.Roots.length:Int)==0) then
  some ((⟨⟨⟨[],0,0⟩,[],[],[],⟨[],0⟩⟩,[]⟩:B1),1)
 else
 some ((⟨v2,a3⟩:B1),0)
def a2C(a0:List Int):Option (J5 × Int):=
 if ((a0.length:Int) != 4) then
  some ((⟨0,0,0,0⟩:J5),14)
 else
 (ix a0 0).bind λv1=>
 (ix a0 1).bind λv2=>
 (ix a0 2).bind λv3=>
 (ix a0 3).bind λv4=>
 (a1v (⟨v1,v2,v3,v4⟩:J5)).bind λv5=>
 if (v5 != 0) then
  some ((⟨0,0,0,0⟩:J5),v5)
 else
 some ((⟨v1,v2,v3,v4⟩:J5),0)
def b45(a0:m9)(a1:List m7):Option (List Int):=
 (Q6 a0).bind λv1=>
 jn (λ(j18:List Int)=>
  some j18) (λκ17=>
  (lp (S:=Int × (List Int)) (E:=(List Int)) (λ((s20,s21):Int × (List Int))=>
   if (decide (s20<(v1.length:Int))) then
    jn (λ(j29:List Int)=>
     some (.inl (u5 (s20+1),j29))) (λκ28=>
     (ix v1 s20).bind λv30=>
     (a8g a0 a1 v30).bind λv31=>
     (u4 ((decide (v31 > 0))==false) false (a5W a0 v30)).bind λv32=>
     if ((decide (v31 > 0))||v32) then
      (app 8 s21 [v30]).bind λv33=>
      κ28 v33
     else
     κ28 s21)
   else
   some (.inr s21)) (0,[])).bind λe19=>
  κ17 e19)
def a8X(a0:List Int)(a1:Int):Option Bool:=
 (a1t a0 a1).bind λv1=>
 some (decide (v1 > 0))
def a8Y(a0:List Int)(a1:List Int)(a2:Bool):Option (List Int):=
 jn (λ(j15:List Int)=>
  some j15) (λκ14=>
  (lp (S:=Int × (List Int)) (E:=(List Int)) (λ((s17,s18):Int × (List Int))=>
   if (decide (s17<(a0.length:Int))) then
    jn (λ(j25:List Int)=>
     some (.inl (u5 (s17+1),j25))) (λκ24=>
     (ix a0 s17).bind λv26=>
     (a8X a1 v26).bind λv27=>
     if (v27==a2) then
      (app 8 s18 [v26]).bind λv28=>
      κ24 v28
     else
     κ24 s18)
   else
   some (.inr s18)) (0,[])).bind λe16=>
  κ14 e16)
def a8d(a0:m9)(a1:List Int):Option (List Int):=
 (Q6 a0).bind λv1=>
 (a8Y v1 a1 true).bind λv2=>
 jn (λ(j51:List Int)=>
  some j51) (λκ50=>
  (lp (S:=(List Int) × Int) (E:=(List Int)) (λ((s53,s54):(List Int) × Int)=>
   if (decide (s54<(v1.length:Int))) then
    jn (λ(j78:List Int)=>
     some (.inl (j78,u5 (s54+1)))) (λκ77=>
     (app 8 [] s53).bind λv79=>
     jn (λ(j89:List Int)=>
      (a8Y v1 j89 true).bind λv90=>
      κ77 v90) (λκ88=>
      (lp (S:=Int × (List Int)) (E:=(List Int)) (λ((s92,s93):Int × (List Int))=>
       if (decide (s92<(s53.length:Int))) then
        (ix s53 s92).bind λv96=>
        (b1p a0 v96).bind λv97=>
        (app 8 s93 v97).bind λv98=>
        some (.inl (u5 (s92+1),v98))
       else
       some (.inr s93)) (0,v79)).bind λe91=>
      κ88 e91))
   else
   some (.inr s53)) (v2,0)).bind λe52=>
  κ50 e52)
def a82(a0:m9)(a1:Int):Option Bool:=
 (F1 a0 a1).bind λv1=>
 some (v1.2==0)
def b1v(a0:m9)(a1:List m7)(a2:List Int):Option (List Int):=
 (a31 a1).bind λv1=>
 jn (λ(j20:List Int)=>
  some j20) (λκ19=>
  (lp (S:=Int × (List Int)) (E:=(List Int)) (λ((s22,s23):Int × (List Int))=>
   if (decide (s22<(v1.length:Int))) then
    jn (λ(j32:List Int)=>
     some (.inl (u5 (s22+1),j32))) (λκ31=>
     (ix v1 s22).bind λv33=>
     (a82 a0 v33.Key).bind λv34=>
     (u4 (v34==true) false (a8X a2 v33.Key)).bind λv35=>
     (u4 ((v34&&v35)==true) false (a82 a0 v33.Val)).bind λv36=>
     if ((v34&&v35)&&v36) then
      (app 8 s23 [v33.Val]).bind λv37=>
      κ31 v37
     else
     κ31 s23)
   else
   some (.inr s23)) (0,[])).bind λe21=>
  κ19 e21)
def b40(a0:List Int)(a1:List Int):Option Bool:=
 if ((a0.length:Int) != (a1.length:Int)) then
  some false
 else
 jn (λ(_:Unit)=>
  some true) (λκ6=>
  (lp (S:=Int) (E:=Bool ⊕ Unit) (λ(s9:Int)=>
   if (decide (s9<(a0.length:Int))) then
    (ix a0 s9).bind λv11=>
    (ix a1 s9).bind λv12=>
    if (v11 != v12) then
     some (.inr (.inl false))
    else
    some (.inl (u5 (s9+1)))
   else
   some (.inr (.inr ()))) 0).bind λe8=>
  match e8 with
  | .inl w=>some w
  | .inr w=>κ6 w)
def b0n(a0:m9)(a1:List m7)(a2:List Int):Option ((List Int) × Int):=
 (a8d a0 a2).bind λv1=>
 jn (λ(j13:List Int)=>
  some (j13,30)) (λκ12=>
  (lp (S:=(List Int) × Int) (E:=((List Int) × Int) ⊕ (List Int)) (λ((s15,s16):(List Int) × Int)=>
   if (decide (s16<30)) then
    (app 8 [] s15).bind λv19=>
    (b1v a0 a1 s15).bind λv20=>
    (app 8 v19 v20).bind λv21=>
    (a8d a0 v21).bind λv22=>
    (b40 v22 s15).bind λv23=>
    if v23 then
     some (.inr (.inl (s15,s16)))
    else
    some (.inl (v22,u5 (s16+1)))
   else
   some (.inr (.inr s15))) (v1,0)).bind λe14=>
  match e14 with
  | .inl w=>some w
  | .inr w=>κ12 w)
def b43(a0:m9)(a1:List m7)(a2:List Int):Option (List Int):=
 (b0n a0 a1 a2).bind λv1=>
 some v1.1
def b44(a0:m9)(a1:List m7)(a2:List Int):Option (List Int):=
 (b43 a0 a1 a2).bind λv1=>
 (Q6 a0).bind λv2=>
 jn (λ(j17:List Int)=>
  some j17) (λκ16=>
  (lp (S:=Int × (List Int)) (E:=(List Int)) (λ((s19,s20):Int × (List Int))=>
   if (decide (s19<(v2.length:Int))) then
    jn (λ(j27:List Int)=>
     some (.inl (u5 (s19+1),j27))) (λκ26=>
     (ix v2 s19).bind λv28=>
     (a8X v1 v28).bind λv29=>
     if (!v29) then
      (app 8 s20 [v28]).bind λv30=>
      κ26 v30
     else
     κ26 s20)
   else
   some (.inr s20)) (0,[])).bind λe18=>
  κ16 e18)
def a8f(a0:m9)(a1:List m7):Option (List Int):=
 (b45 a0 a1).bind λv1=>
 (b44 a0 a1 v1).bind λv2=>
 some v2
def a3k(a0:g8):Option (List Int):=
 (a8f a0.S a0.T).bind λv1=>
 some v1
def a89(a0:g8)(a1:Int):Option Bool:=
 (F1 a0.S a1).bind λv1=>
 (X9 a0 a1).bind λv2=>
 some ((v2&&(decide (v1.1.Prog≥0)))&&(!v1.1.Started))
def b2z(a0:g8):Option (List Int):=
 (a3k a0).bind λv1=>
 jn (λ(j16:List Int)=>
  some j16) (λκ15=>
  (lp (S:=Int × (List Int)) (E:=(List Int)) (λ((s18,s19):Int × (List Int))=>
   if (decide (s18<(v1.length:Int))) then
    jn (λ(j26:List Int)=>
     some (.inl (u5 (s18+1),j26))) (λκ25=>
     (ix v1 s18).bind λv27=>
     (a89 a0 v27).bind λv28=>
     if v28 then
      (app 8 s19 [v27]).bind λv29=>
      κ25 v29
     else
     κ25 s19)
   else
   some (.inr s19)) (0,[])).bind λe17=>
  κ15 e17)
def a3i(a0:m9)(a1:Int)(a2:D9):Option m9:=
 (app 80 [] a0.a8).bind λv1=>
 (ix v1 a1).bind λv2=>
 some (⟨(v1.set (a1).toNat (⟨v2.State,v2.Gen,a2⟩:p9)),a0.Last,a0.Serial⟩:m9)
def O2(a0:m9)(a1:Int)(a2:D9):Option (m9 × Int):=
 (K0 a0).bind λv1=>
 (N4 v1 a1).bind λv2=>
 if (v2.2 != 0) then
  some (a0,v2.2)
 else
 (a3i a0 v2.1 a2).bind λv3=>
 some (v3,0)
def a6X(a0:y7)(a1:w7):Option (y7 × Int):=
 if (decide ((a0.L.length:Int)≥a0.Cap)) then
  some (a0,4)
 else
 (app 24 [] a0.L).bind λv1=>
 (app 24 v1 [a1]).bind λv2=>
 some ((⟨v2,a0.Cap⟩:y7),0)
def b3P(a0:Int):Option Int:=
 (a0B a0).bind λv1=>
 if v1 then
  some 12
 else
 if (decide (a0<0)) then
  some 1
 else
 some (u5 (a0+1))
def a6Y(a0:g8)(a1:Int)(a2:Int):Option g8:=
 (F1 a0.S a1).bind λv1=>
 if (v1.2 != 0) then
  some a0
 else
 (O2 a0.S a1 (⟨v1.1.Serial,a2,v1.1.Weak,v1.1.Prog,v1.1.Started,v1.1.Fields⟩:D9)).bind λv2=>
 some (⟨v2.1,a0.Roots,a0.a8,a0.T,a0.Q⟩:g8)
def a1h(a0:g8)(a1:Int):Option g8:=
 (F1 a0.S a1).bind λv1=>
 (b3P v1.1.Strong).bind λv2=>
 (a6Y a0 a1 v2).bind λv3=>
 some v3
def a4r(a0:g8)(a1:Int):Option g8:=
 (a89 a0 a1).bind λv1=>
 if (!v1) then
  some a0
 else
 (F1 a0.S a1).bind λv2=>
 (O2 a0.S a1 (⟨v2.1.Serial,v2.1.Strong,v2.1.Weak,v2.1.Prog,true,v2.1.Fields⟩:D9)).bind λv3=>
 (a6X a0.Q (⟨1,a1,v2.1.Prog⟩:w7)).bind λv4=>
 (a1h (⟨v3.1,a0.Roots,a0.a8,a0.T,v4.1⟩:g8) a1).bind λv5=>
 some v5
def b1z(a0:g8)(a1:List Int):Option (List Int):=
 jn (λ(j17:List Int)=>
  some j17) (λκ16=>
  (lp (S:=Int × (List Int)) (E:=(List Int)) (λ((s19,s20):Int × (List Int))=>
   if (decide (s19<(a1.length:Int))) then
    jn (λ(j28:List Int)=>
     some (.inl (u5 (s19+1),j28))) (λκ27=>
     (ix a1 s19).bind λv29=>
     (X9 a0 v29).bind λv30=>
     (u4 (v30==true) false (a8X s20 v29)).bind λv31=>
     if (v30&&(!v31)) then
      (app 8 s20 [v29]).bind λv32=>
      κ27 v32
     else
     κ27 s20)
   else
   some (.inr s20)) (0,[])).bind λe18=>
  κ16 e18)
def b2x(a0:List u9)(a1:List Int):Option ((List u9) × (List Int)):=
 jn (λ((j18,j19):(List Int) × (List u9))=>
  some (j19,j18)) (λκ17=>
  (lp (S:=Int × (List u9) × (List Int)) (E:=((List Int) × (List u9))) (λ((s22,s23,s24):Int × (List u9) × (List Int))=>
   if (decide (s22<(a0.length:Int))) then
    (ix a0 s22).bind λv27=>
    jn (λ((j31,j32):Bool × (List Int))=>
     (app 24 s23 [(⟨v27.Target,j31,v27.Call⟩:u9)]).bind λv34=>
     some (.inl (u5 (s22+1),v34,j32))) (λκ30=>
     (u4 (v27.Intact==true) 0 (a1t a1 v27.Target)).bind λv35=>
     if (v27.Intact&&(decide (v35 > 0))) then
      if (decide (v27.Call≥0)) then
       (app 8 s24 [s22]).bind λv36=>
       κ30 (false,v36)
      else
      κ30 (false,s24)
     else
     κ30 (v27.Intact,s24))
   else
   some (.inr (s24,s23))) (0,[],[])).bind λe21=>
  κ17 e21)
def a3j(a0:List m7)(a1:Int)(a2:m7):Option (List m7):=
 (app 24 [] a0).bind λv1=>
 (ix v1 a1).bind λv2=>
 some (v1.set (a1).toNat a2)
def a8e(a0:List m7)(a1:Int):Option ((List m7) × Int × Int):=
 (a0Z a0 a1).bind λv1=>
 if (decide (v1<0)) then
  some (a0,0,9)
 else
 (a3j a0 v1 (⟨2,0,0⟩:m7)).bind λv2=>
 (ix a0 v1).bind λv3=>
 some (v2,v3.Val,0)
def a5c(a0:List m7)(a1:List Int):Option ((List m7) × (List Int)):=
 jn (λ((j18,j19):(List m7) × (List Int))=>
  some (j18,j19)) (λκ17=>
  (lp (S:=(List m7) × Int × (List Int)) (E:=((List m7) × (List Int))) (λ((s22,s23,s24):(List m7) × Int × (List Int))=>
   if (decide (s23<(a1.length:Int))) then
    jn (λ((j31,j32):(List m7) × (List Int))=>
     some (.inl (j31,u5 (s23+1),j32))) (λκ30=>
     (ix a1 s23).bind λv34=>
     (a8e s22 v34).bind λv35=>
     if (v35.2.2==0) then
      (app 8 s24 [v35.2.1]).bind λv36=>
      κ30 (v35.1,v36)
     else
     κ30 (s22,s24))
   else
   some (.inr (s22,s24))) (a0,0,[])).bind λe21=>
  κ17 e21)
def a0Y(a0:B9)(a1:Int)(a2:B8):Option B9:=
 (app 24 [] a0.a8).bind λv1=>
 (ix v1 a1).bind λv2=>
 some (⟨(v1.set (a1).toNat a2),a0.Last⟩:B9)
def b93(a0:B9)(a1:Int):Option (B9 × Int):=
 (b1m a0 a1).bind λv1=>
 if (v1.2 != 0) then
  some (a0,v1.2)
 else
 (N4 a0 a1).bind λv2=>
 (ix a0.a8 v2.1).bind λv3=>
 (a0Y a0 v2.1 (⟨2,v3.Gen,v3.Val⟩:B8)).bind λv4=>
 some (v4,0)
def a1g(a0:m9)(a1:B9):Option m9:=
 jn (λ(j10:List p9)=>
  some (⟨j10,a0.Last,a0.Serial⟩:m9)) (λκ9=>
  (lp (S:=Int × (List p9)) (E:=(List p9)) (λ((s12,s13):Int × (List p9))=>
   if (decide (s12<(a0.a8.length:Int))) then
    (ix a1.a8 s12).bind λv16=>
    (ix a0.a8 s12).bind λv17=>
    (app 80 s13 [(⟨v16.State,v16.Gen,v17.Val⟩:p9)]).bind λv18=>
    some (.inl (u5 (s12+1),v18))
   else
   some (.inr s13)) (0,[])).bind λe11=>
  κ9 e11)
def b42(a0:m9)(a1:Int):Option m9:=
 (K0 a0).bind λv1=>
 (b93 v1 a1).bind λv2=>
 (a1g a0 v2.1).bind λv3=>
 some v3
def b92(a0:B9)(a1:Int):Option (B9 × Int):=
 (N4 a0 a1).bind λv1=>
 if (v1.2 != 0) then
  some (a0,v1.2)
 else
 (ix a0.a8 v1.1).bind λv2=>
 if (decide (v2.Gen≥a0.Last)) then
  (a0Y a0 v1.1 (⟨3,v2.Gen,0⟩:B8)).bind λv3=>
  some (v3,0)
 else
 (a0Y a0 v1.1 (⟨0,u5 (v2.Gen+1),0⟩:B8)).bind λv4=>
 some (v4,0)
def b1n(a0:m9)(a1:Int):Option m9:=
 (K0 a0).bind λv1=>
 (b92 v1 a1).bind λv2=>
 if (v2.2 != 0) then
  some a0
 else
 (a1g a0 v2.1).bind λv3=>
 (a5U a1).bind λv4=>
 (a3i v3 v4 (⟨0,0,0,0,false,[]⟩:D9)).bind λv5=>
 some v5
def a8k(a0:g8)(a1:Int):Option g8:=
 (F1 a0.S a1).bind λv1=>
 (O2 a0.S a1 (⟨v1.1.Serial,0,v1.1.Weak,v1.1.Prog,v1.1.Started,[]⟩:D9)).bind λv2=>
 (b42 v2.1 a1).bind λv3=>
 if (v1.1.Weak==0) then
  (b1n v3 a1).bind λv4=>
  some (⟨v4,a0.Roots,a0.a8,a0.T,a0.Q⟩:g8)
 else
 some (⟨v3,a0.Roots,a0.a8,a0.T,a0.Q⟩:g8)
def b72(a0:Int):Option (Int × Int):=
 (a0B a0).bind λv1=>
 if v1 then
  some (12,0)
 else
 if (decide (a0<1)) then
  some (0,11)
 else
 some (u5 (a0-1),0)
def F5(a0:g8)(a1:Int):Option g8:=
 (F1 a0.S a1).bind λv1=>
 (b72 v1.1.Strong).bind λv2=>
 if (v2.2 != 0) then
  some a0
 else
 (a6Y a0 a1 v2.1).bind λv3=>
 some v3
def a8j(a0:g8)(a1:List Int):Option g8:=
 (b1z a0 a1).bind λv1=>
 (b2x a0.a8 v1).bind λv2=>
 jn (λ(j12:y7)=>
  jn (λ(j23:List Int)=>
   (a5c a0.T v1).bind λv24=>
   (app 8 j23 v24.2).bind λv25=>
   jn (λ(j34:g8)=>
    jn (λ(j43:g8)=>
     some j43) (λκ42=>
     (lp (S:=Int × g8) (E:=g8) (λ((s45,s46):Int × g8)=>
      if (decide (s45<(v25.length:Int))) then
       (ix v25 s45).bind λv49=>
       (F5 s46 v49).bind λv50=>
       some (.inl (u5 (s45+1),v50))
      else
      some (.inr s46)) (0,j34)).bind λe44=>
     κ42 e44)) (λκ33=>
    (lp (S:=Int × g8) (E:=g8) (λ((s52,s53):Int × g8)=>
     if (decide (s52<(v1.length:Int))) then
      (ix v1 s52).bind λv56=>
      (a8k s53 v56).bind λv57=>
      some (.inl (u5 (s52+1),v57))
     else
     some (.inr s53)) (0,(⟨a0.S,a0.Roots,v2.1,v24.1,j12⟩:g8))).bind λe51=>
    κ33 e51)) (λκ22=>
   (lp (S:=Int × (List Int)) (E:=(List Int)) (λ((s59,s60):Int × (List Int))=>
    if (decide (s59<(v1.length:Int))) then
     (ix v1 s59).bind λv63=>
     (F1 a0.S v63).bind λv64=>
     (a2A v64.1.Fields).bind λv65=>
     (app 8 s60 v65).bind λv66=>
     some (.inl (u5 (s59+1),v66))
    else
    some (.inr s60)) (0,[])).bind λe58=>
   κ22 e58)) (λκ11=>
  (lp (S:=Int × y7) (E:=y7) (λ((s68,s69):Int × y7)=>
   if (decide (s68<(v2.2.length:Int))) then
    (ix v2.2 s68).bind λv72=>
    (ix v2.1 v72).bind λv73=>
    (a6X s69 (⟨2,v72,v73.Call⟩:w7)).bind λv74=>
    some (.inl (u5 (s68+1),v74.1))
   else
   some (.inr s69)) (0,a0.Q)).bind λe67=>
  κ11 e67)
def P4(a0:g8):Option g8:=
 jn (λ(j21:g8)=>
  some j21) (λκ20=>
  (lp (S:=Int × g8) (E:=g8 ⊕ g8) (λ((s23,s24):Int × g8)=>
   if (decide (s23<100)) then
    jn (λ(j34:g8)=>
     some (.inl (u5 (s23+1),j34))) (λκ33=>
     (a5Z s24).bind λv35=>
     if ((v35.length:Int)==0) then
      some (.inr (.inl s24))
     else
     (ix v35 0).bind λv36=>
     (a89 s24 v36).bind λv37=>
     if v37 then
      (a4r s24 v36).bind λv38=>
      κ33 v38
     else
     (cut v35 0 1).bind λv39=>
     (a8j s24 v39).bind λv40=>
     κ33 v40)
   else
   some (.inr (.inr s24))) (0,a0)).bind λe22=>
  match e22 with
  | .inl w=>some w
  | .inr w=>κ20 w)
def a8l(a0:g8):Option (g8 × Int × Int):=
 (b2z a0).bind λv1=>
 jn (λ(_:Unit)=>
  (a3k a0).bind λv20=>
  (a8j a0 v20).bind λv21=>
  (P4 v21).bind λv22=>
  (Q6 a0.S).bind λv23=>
  (Q6 v22.S).bind λv24=>
  some (v22,0,u5 ((v23.length:Int)-(v24.length:Int)))) (λκ18=>
  if (decide ((v1.length:Int) > 0)) then
   jn (λ(j33:g8)=>
    some (j33,(v1.length:Int),0)) (λκ32=>
    (lp (S:=Int × g8) (E:=g8) (λ((s35,s36):Int × g8)=>
     if (decide (s35<(v1.length:Int))) then
      (ix v1 s35).bind λv39=>
      (a4r s36 v39).bind λv40=>
      some (.inl (u5 (s35+1),v40))
     else
     some (.inr s36)) (0,a0)).bind λe34=>
    κ32 e34)
  else
  κ18 ())
def a9c(a0:g8):Option Bool:=
 some ((a0.Q.L.length:Int)==0)
def a8n(a0:List (List J5))(a1:Int):Option (List J5):=
 if ((decide (a1<0))||(decide (a1≥(a0.length:Int)))) then
  some []
 else
 (ix a0 a1).bind λv1=>
 some v1
def a8m(a0:List (List J5))(a1:w7):Option Int:=
 (a8n a0 a1.Prog).bind λv1=>
 some (u5 (1+(v1.length:Int)))
def b46(a0:y7):Option (y7 × w7 × Int):=
 if ((a0.L.length:Int)==0) then
  some (a0,(⟨0,0,0⟩:w7),10)
 else
 (cut a0.L 1 (a0.L.length:Int)).bind λv1=>
 (ix a0.L 0).bind λv2=>
 some ((⟨v1,a0.Cap⟩:y7),v2,0)
def X0(a0:g8)(a1:Int)(a2:Int):Option (g8 × Int):=
 if ((decide (a1<0))||(decide (a1 > 5))) then
  some (a0,6)
 else
 (Y0 a0 a2).bind λv1=>
 if (!v1) then
  some (a0,3)
 else
 (ix a0.Roots a1).bind λv2=>
 (a1h a0 a2).bind λv3=>
 (app 8 [] a0.Roots).bind λv4=>
 (ix v4 a1).bind λv5=>
 (F5 (⟨v3.S,(v4.set (a1).toNat a2),v3.a8,v3.T,v3.Q⟩:g8) v2).bind λv6=>
 some (v6,0)
def b79(a0:List u9)(a1:Int)(a2:Int)(a3:Int):Option ((List u9) × Int × Int):=
 if ((decide (a1<0))||(decide (a1≥(a0.length:Int)))) then
  some (a0,0,7)
 else
 (app 24 [] a0).bind λv1=>
 (ix v1 a1).bind λv2=>
 (ix a0 a1).bind λv3=>
 some ((v1.set (a1).toNat (⟨a2,(a2 != 0),a3⟩:u9)),v3.Target,0)
def a1u(a0:g8)(a1:Int):Option g8:=
 (K0 a0.S).bind λv1=>
 (N4 v1 a1).bind λv2=>
 if (v2.2 != 0) then
  some a0
 else
 (ix a0.S.a8 v2.1).bind λv3=>
 (O2 a0.S a1 (⟨v3.Val.Serial,v3.Val.Strong,u5 (v3.Val.Weak-1),v3.Val.Prog,v3.Val.Started,v3.Val.Fields⟩:D9)).bind λv4=>
 (ix v4.1.a8 v2.1).bind λv5=>
 if ((v5.State==2)&&(decide ((u5 (v3.Val.Weak-1))<1))) then
  (b1n v4.1 a1).bind λv6=>
  some (⟨v6,a0.Roots,a0.a8,a0.T,a0.Q⟩:g8)
 else
 some (⟨v4.1,a0.Roots,a0.a8,a0.T,a0.Q⟩:g8)
def a4q(a0:g8)(a1:Int)(a2:Int)(a3:Int):Option (g8 × Int):=
 (u4 (((decide (a1<0))||(decide (a1 > 5)))==false) false (a2B a0.Q a1)).bind λv1=>
 if (((decide (a1<0))||(decide (a1 > 5)))||v1) then
  some (a0,7)
 else
 (Y0 a0 a2).bind λv2=>
 if (!v2) then
  some (a0,3)
 else
 (b79 a0.a8 a1 a2 a3).bind λv3=>
 if (a2 != 0) then
  (F1 a0.S a2).bind λv4=>
  (O2 a0.S a2 (⟨v4.1.Serial,v4.1.Strong,u5 (v4.1.Weak+1),v4.1.Prog,v4.1.Started,v4.1.Fields⟩:D9)).bind λv5=>
  (a1u (⟨v5.1,a0.Roots,v3.1,a0.T,a0.Q⟩:g8) v3.2.1).bind λv6=>
  some (v6,0)
 else
 (a1u (⟨a0.S,a0.Roots,v3.1,a0.T,a0.Q⟩:g8) v3.2.1).bind λv7=>
 some (v7,0)
def Y2(a0:g8)(a1:Int):Option (Int × Int):=
 (ix a0.Roots a1).bind λv1=>
 if (v1==0) then
  some (0,2)
 else
 some (v1,0)
def a51(a0:g8)(a1:Int):Option Int:=
 if (decide (a1<0)) then
  some 0
 else
 (ix a0.Roots a1).bind λv1=>
 some v1
def b41(a0:List Int)(a1:Int):Option (Int × Int):=
 if ((decide (a1<0))||(decide (a1≥(a0.length:Int)))) then
  some (0,5)
 else
 (ix a0 a1).bind λv1=>
 some (v1,0)
def a3Z(a0:m9)(a1:Int)(a2:Int):Option (Int × Int):=
 (F1 a0 a1).bind λv1=>
 if (v1.2 != 0) then
  some (0,v1.2)
 else
 (b41 v1.1.Fields a2).bind λv2=>
 some (v2.1,v2.2)
def b94(a0:List Int)(a1:Int)(a2:Int):Option ((List Int) × Int):=
 if ((decide (a1<0))||(decide (a1≥(a0.length:Int)))) then
  some (a0,5)
 else
 (app 8 [] a0).bind λv1=>
 (ix v1 a1).bind λv2=>
 some ((v1.set (a1).toNat a2),0)
def b76(a0:m9)(a1:Int)(a2:Int)(a3:Int):Option (m9 × Int):=
 (F1 a0 a1).bind λv1=>
 if (v1.2 != 0) then
  some (a0,v1.2)
 else
 (b94 v1.1.Fields a2 a3).bind λv2=>
 if (v2.2 != 0) then
  some (a0,v2.2)
 else
 (O2 a0 a1 (⟨v1.1.Serial,v1.1.Strong,v1.1.Weak,v1.1.Prog,v1.1.Started,v2.1⟩:D9)).bind λv3=>
 some (v3.1,v3.2)
def a5X(a0:g8)(a1:Int)(a2:Int)(a3:Int):Option (g8 × Int):=
 (a3Z a0.S a1 a2).bind λv1=>
 if (v1.2 != 0) then
  some (a0,v1.2)
 else
 (Y0 a0 a3).bind λv2=>
 if (!v2) then
  some (a0,3)
 else
 (a1h a0 a3).bind λv3=>
 (b76 v3.S a1 a2 a3).bind λv4=>
 (F5 (⟨v4.1,v3.Roots,v3.a8,v3.T,v3.Q⟩:g8) v1.1).bind λv5=>
 some (v5,0)
def b8a(a0:List m7)(a1:Int)(a2:Int):Option ((List m7) × Int):=
 (a0Z a0 a1).bind λv1=>
 if (decide (v1≥0)) then
  (a3j a0 v1 (⟨1,a1,a2⟩:m7)).bind λv2=>
  some (v2,0)
 else
 (b1s (a0.length:Int) a1).bind λv3=>
 jn (λ(_:Unit)=>
  some (a0,8)) (λκ12=>
  (lp (S:=Int × Int) (E:=((List m7) × Int) ⊕ Unit) (λ((s15,s16):Int × Int)=>
   if (decide (s16<(a0.length:Int))) then
    (ix a0 s15).bind λv19=>
    if (v19.State != 1) then
     (a3j a0 s15 (⟨1,a1,a2⟩:m7)).bind λv20=>
     some (.inr (.inl (v20,0)))
    else
    (rem (u5 (s15+1)) (a0.length:Int)).bind λv21=>
    some (.inl (v21,u5 (s16+1)))
   else
   some (.inr (.inr ()))) (v3,0)).bind λe14=>
  match e14 with
  | .inl w=>some w
  | .inr w=>κ12 w)
def b8d(a0:List m7)(a1:Int)(a2:Int):Option ((List m7) × Int × Int):=
 if (a1==0) then
  some (a0,0,2)
 else
 (a8Z a0 a1).bind λv1=>
 if (a2==0) then
  (a8e a0 a1).bind λv2=>
  some (v2.1,v1.1,0)
 else
 (b8a a0 a1 a2).bind λv3=>
 if (v3.2 != 0) then
  some (a0,0,v3.2)
 else
 some (v3.1,v1.1,0)
def a8i(a0:g8)(a1:Int)(a2:Int):Option (g8 × Int):=
 if (a1==0) then
  some (a0,2)
 else
 (X9 a0 a1).bind λv1=>
 (u4 ((!v1)==false) false (Y0 a0 a2)).bind λv2=>
 if ((!v1)||(!v2)) then
  some (a0,3)
 else
 (b8d a0.T a1 a2).bind λv3=>
 if (v3.2.2 != 0) then
  some (a0,v3.2.2)
 else
 (a1h a0 a2).bind λv4=>
 (F5 (⟨v4.S,v4.Roots,v4.a8,v3.1,v4.Q⟩:g8) v3.2.1).bind λv5=>
 some (v5,0)
def a1w(a0:g8)(a1:J5):Option (g8 × Int × Int):=
 if ((a1.Kind==6)&&(decide (a1.B<0))) then
  (a4q a0 a1.A 0 a1.C).bind λv1=>
  some (v1.1,0,v1.2)
 else
 jn (λ(j3:Int)=>
  (Y2 a0 j3).bind λv4=>
  if (v4.2 != 0) then
   some (a0,0,v4.2)
  else
  if (a1.Kind==5) then
   (a51 a0 a1.C).bind λv5=>
   (a5X a0 v4.1 a1.B v5).bind λv6=>
   some (v6.1,v5,v6.2)
  else
  if (a1.Kind==6) then
   (a4q a0 a1.A v4.1 a1.C).bind λv7=>
   some (v7.1,v4.1,v7.2)
  else
  (a51 a0 a1.B).bind λv8=>
  (a8i a0 v4.1 v8).bind λv9=>
  some (v9.1,v8,v9.2)) (λκ2=>
  if (a1.Kind==6) then
   κ2 a1.B
  else
  κ2 a1.A)
def a2D(a0:g8)(a1:Int):Option Int:=
 (F1 a0.S a1).bind λv1=>
 some v1.1.Serial
def b3Q(a0:Int):Option ((List Int) × Int):=
 if ((decide (a0<0))||(decide (a0 > 4))) then
  some ([],1)
 else
 (mk 8 a0 (0:Int)).bind λv1=>
 some (v1,0)
def a8c(a0:B9)(a1:Int):Option (B9 × Int × Int):=
 jn (λ(_:Unit)=>
  some (a0,0,4)) (λκ7=>
  (lp (S:=Int) (E:=(B9 × Int × Int) ⊕ Unit) (λ(s10:Int)=>
   if (decide (s10<(a0.a8.length:Int))) then
    (ix a0.a8 s10).bind λv12=>
    if (v12.State==0) then
     (a0Y a0 s10 (⟨1,v12.Gen,a1⟩:B8)).bind λv13=>
     (a3g s10 v12.Gen).bind λv14=>
     some (.inr (.inl (v13,v14,0)))
    else
    some (.inl (u5 (s10+1)))
   else
   some (.inr (.inr ()))) 0).bind λe9=>
  match e9 with
  | .inl w=>some w
  | .inr w=>κ7 w)
def a3h(a0:m9)(a1:Int)(a2:Int):Option (m9 × Int × Int):=
 (b3Q a1).bind λv1=>
 if (v1.2 != 0) then
  some (a0,0,v1.2)
 else
 if ((decide (a2<(-1)))||(decide (a2 > 5))) then
  some (a0,0,13)
 else
 (K0 a0).bind λv2=>
 (a8c v2 0).bind λv3=>
 if (v3.2.2 != 0) then
  some (a0,0,v3.2.2)
 else
 (a1g a0 v3.1).bind λv4=>
 (a5U v3.2.1).bind λv5=>
 (a3i v4 v5 (⟨u5 (a0.Serial+1),0,0,a2,false,v1.1⟩:D9)).bind λv6=>
 some ((⟨v6.a8,v6.Last,u5 (a0.Serial+1)⟩:m9),v3.2.1,0)
def b2y(a0:g8)(a1:Int):Option Int:=
 if ((decide (a1<0))||(decide (a1 > 5))) then
  some 0
 else
 (ix a0.Roots a1).bind λv1=>
 (a2D a0 v1).bind λv2=>
 some v2
def b1r(a0:List u9)(a1:Int):Option (Int × Int):=
 if ((decide (a1<0))||(decide (a1≥(a0.length:Int)))) then
  some (0,7)
 else
 (ix a0 a1).bind λv1=>
 if ((v1.Target==0)||(!v1.Intact)) then
  some (0,9)
 else
 some (v1.Target,0)
def b3R(a0:List m7)(a1:Int):Option (Int × Int):=
 (a8Z a0 a1).bind λv1=>
 some (v1.1,v1.2)
def a2E(a0:g8)(a1:J5):Option (Int × Int):=
 if (a1.Kind==2) then
  (ix a0.Roots a1.B).bind λv1=>
  some (v1,0)
 else
 if (a1.Kind==4) then
  (Y2 a0 a1.B).bind λv2=>
  if (v2.2 != 0) then
   some (0,v2.2)
  else
  (a3Z a0.S v2.1 a1.C).bind λv3=>
  some (v3.1,v3.2)
 else
 if (a1.Kind==7) then
  (b1r a0.a8 a1.B).bind λv4=>
  some (v4.1,v4.2)
 else
 if (a1.Kind==9) then
  (Y2 a0 a1.B).bind λv5=>
  if (v5.2 != 0) then
   some (0,v5.2)
  else
  (b3R a0.T v5.1).bind λv6=>
  some (v6.1,v6.2)
 else
 some (0,0)
def D4(a0:g8)(a1:J5):Option (g8 × Int × Int):=
 (a1v a1).bind λv1=>
 if (v1 != 0) then
  some (a0,0,v1)
 else
 (Y1 a1).bind λv2=>
 if (!v2) then
  some (a0,0,14)
 else
 if (a1.Kind==10) then
  (ix a0.Roots a1.A).bind λv3=>
  (ix a0.Roots a1.B).bind λv4=>
  if (v3==v4) then
   some (a0,1,0)
  else
  some (a0,0,0)
 else
 jn (λ(j6:Bool)=>
  if j6 then
   (a1w a0 a1).bind λv7=>
   if (v7.2.2 != 0) then
    some (a0,0,v7.2.2)
   else
   (P4 v7.1).bind λv8=>
   (a2D a0 v7.2.1).bind λv9=>
   some (v8,v9,0)
  else
  if (a1.Kind==1) then
   (a3h a0.S a1.B a1.C).bind λv10=>
   if (v10.2.2 != 0) then
    some (a0,0,v10.2.2)
   else
   (X0 (⟨v10.1,a0.Roots,a0.a8,a0.T,a0.Q⟩:g8) a1.A v10.2.1).bind λv11=>
   (P4 v11.1).bind λv12=>
   (b2y v12 a1.A).bind λv13=>
   some (v12,v13,0)
  else
  (a2E a0 a1).bind λv14=>
  if (v14.2 != 0) then
   some (a0,0,v14.2)
  else
  (X0 a0 a1.A v14.1).bind λv15=>
  (P4 v15.1).bind λv16=>
  (b2y v16 a1.A).bind λv17=>
  some (v16,v17,0)) (λκ5=>
  if (a1.Kind==5) then
   κ5 (a1.Kind==5)
  else
  if (a1.Kind==6) then
   κ5 (a1.Kind==6)
  else
  κ5 (a1.Kind==8))
def b3S(a0:g8)(a1:List J5):Option (g8 × (List Int)):=
 jn (λ((j11,j12):g8 × (List Int))=>
  some (j11,j12)) (λκ10=>
  (lp (S:=Int × g8 × (List Int)) (E:=(g8 × (List Int))) (λ((s15,s16,s17):Int × g8 × (List Int))=>
   if (decide (s15<(a1.length:Int))) then
    (ix a1 s15).bind λv20=>
    (D4 s16 v20).bind λv21=>
    (app 8 s17 [v21.2.1]).bind λv22=>
    some (.inl (u5 (s15+1),v21.1,v22))
   else
   some (.inr (s16,s17))) (0,a0,[])).bind λe14=>
  κ10 e14)
def b48(a0:g8)(a1:List (List J5)):Option (g8 × w7 × Int):=
 (b46 a0.Q).bind λv1=>
 if (v1.2.2 != 0) then
  some (a0,(⟨0,0,0⟩:w7),v1.2.2)
 else
 jn (λ(j6:g8)=>
  (a8n a1 v1.2.1.Prog).bind λv7=>
  (b3S j6 v7).bind λv8=>
  if (v1.2.1.Kind==1) then
   (X0 v8.1 5 0).bind λv9=>
   (P4 v9.1).bind λv10=>
   some (v10,v1.2.1,0)
  else
  some (v8.1,v1.2.1,0)) (λκ5=>
  if (v1.2.1.Kind==1) then
   (X0 (⟨a0.S,a0.Roots,a0.a8,a0.T,v1.1⟩:g8) 5 v1.2.1.At).bind λv11=>
   (F5 v11.1 v1.2.1.At).bind λv12=>
   (P4 v12).bind λv13=>
   κ5 v13
  else
  κ5 (⟨a0.S,a0.Roots,a0.a8,a0.T,v1.1⟩:g8))
def a9b(a0:g8)(a1:List (List J5))(a2:Int):Option (g8 × Int × Int × Int):=
 jn (λ((j12,j13,j14):Int × Int × g8)=>
  some (j14,j13,j12,0)) (λκ11=>
  (lp (S:=Int × Int × g8) (E:=(g8 × Int × Int × Int) ⊕ (Int × Int × g8)) (λ((s17,s18,s19):Int × Int × g8)=>
   (a9c s19).bind λv22=>
   if (!v22) then
    (ix s19.Q.L 0).bind λv23=>
    (a8m a1 v23).bind λv24=>
    if (decide (v24 > s17)) then
     some (.inr (.inl (s19,s18,s17,12)))
    else
    (b48 s19 a1).bind λv25=>
    some (.inl (u5 (s17-v24),u5 (s18+1),v25.1))
   else
   some (.inr (.inr (s17,s18,s19)))) (a2,0,a0)).bind λe16=>
  match e16 with
  | .inl w=>some w
  | .inr w=>κ11 w)
def c1K(a0:B1)(a1:List Int):Option (B1 × F6):=
 (a2C a1).bind λv1=>
 if (v1.2 != 0) then
  some (a0,(⟨0,v1.2⟩:F6))
 else
 if (v1.1.Kind==11) then
  (a8l a0.X).bind λv2=>
  some ((⟨v2.1,a0.Progs⟩:B1),(⟨u5 (v2.2.2-v2.2.1),0⟩:F6))
 else
 if (v1.1.Kind==12) then
  (a9b a0.X a0.Progs v1.1.A).bind λv3=>
  some ((⟨v3.1,a0.Progs⟩:B1),(⟨v3.2.1,v3.2.2.2⟩:F6))
 else
 (D4 a0.X v1.1).bind λv4=>
 some ((⟨v4.1,a0.Progs⟩:B1),(⟨v4.2.1,v4.2.2⟩:F6))
def b6R(a0:B1):Option (List Int):=
 (Q6 a0.X.S).bind λv1=>
 jn (λ(j11:List Int)=>
  some j11) (λκ10=>
  (lp (S:=Int × (List Int)) (E:=(List Int)) (λ((s13,s14):Int × (List Int))=>
   if (decide (s13<(v1.length:Int))) then
    (ix v1 s13).bind λv17=>
    (a2D a0.X v17).bind λv18=>
    (app 8 s14 [v18]).bind λv19=>
    some (.inl (u5 (s13+1),v19))
   else
   some (.inr s14)) (0,[])).bind λe12=>
  κ10 e12)
def b2A(a0:g8):Option Bool:=
 (a3k a0).bind λv1=>
 some ((v1.length:Int)==0)
def b6S(a0:B1):Option Bool:=
 (a9c a0.X).bind λv1=>
 (u4 (v1==true) false (b2A a0.X)).bind λv2=>
 some (v1&&v2)
def b3T(a0:B1)(a1:List (List Int)):Option (B1 × (List F6)):=
 jn (λ((j11,j12):B1 × (List F6))=>
  some (j11,j12)) (λκ10=>
  (lp (S:=Int × B1 × (List F6)) (E:=(B1 × (List F6))) (λ((s15,s16,s17):Int × B1 × (List F6))=>
   if (decide (s15<(a1.length:Int))) then
    (ix a1 s15).bind λv20=>
    (c1K s16 v20).bind λv21=>
    (app 16 s17 [v21.2]).bind λv22=>
    some (.inl (u5 (s15+1),v21.1,v22))
   else
   some (.inr (s16,s17))) (0,a0,[])).bind λe14=>
  κ10 e14)
end
end Go.Sh
