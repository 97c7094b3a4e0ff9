/-
 Plain functions: what the functions of the program come to.
-/
import Derived.Test.YtjpgbnlcefhaiaaGreatW24gSh0
import Derived.Test.YtjpgbnlcefhaiaaGreatW24gPwD
import Derived.Test.YtjpgbnlcefhaiaaGreatW24gPwC
set_option linter.unusedVariables false
set_option linter.unusedSimpArgs false
set_option linter.unusedSectionVars false
namespace Go.Sh
set_option maxRecDepth 100000
noncomputable section
structure c9 where
 Kind:Int
 A:Int
 B:Int
 C:Int
structure l4 where
 Serial:Int
 Strong:Int
 Weak:Int
 Prog:Int
 Started:Bool
 Fields:List Int
structure b7 where
 State:Int
 Gen:Int
 Val:l4
structure c5 where
 Target:Int
 Intact:Bool
 Call:Int
structure b8 where
 State:Int
 Key:Int
 Val:Int
structure g8 where
 Kind:Int
 At:Int
 Prog:Int
structure e6 where
 part:Fv
 least:Int
 most:Int
 e:Int
structure c4 where
 a8:List b7
 Last:Int
structure a7 where
 S:c4
 Serial:Int
structure c7 where
 L:List g8
 Cap:Int
structure b6 where
 S:a7
 Roots:List Int
 a8:List c5
 T:List b8
 Q:c7
structure g5 where
 X:b6
 Progs:List (List c9)
structure m7 where
 V:Int
 E:Int
structure o5 where
 x:b6
 o:c9
structure F4 where
 r:Int
 h:Int
structure D9 where
 h:Int
 k:Int
 v:Int
structure F3 where
 t:List b8
structure l6 where
 Key:Int
 Val:Int
structure g9 where
 L:List Int
 Cap:Int
def b0F(a0:List (List c9))(a1:List (List Int))(a2:Int):Option Bool:=
 jn (λ(_:Unit)=>
  jn (λ(_:Unit)=>
   some ((decide ((a0.length:Int)≤10))&&(decide ((a1.length:Int)≤a2)))) (λκ11=>
   (lp (S:=Int) (E:=Bool ⊕ Unit) (λ(s14:Int)=>
    if ((decide (s14<(a1.length:Int)))&&(decide (s14<200))) then
     (ix a1 s14).bind λv16=>
     if (decide ((v16.length:Int) > 10)) then
      some (.inr (.inl false))
     else
     some (.inl (r8 (s14+1)))
    else
    some (.inr (.inr ()))) 0).bind λe13=>
   match e13 with
   | .inl w=>some w
   | .inr w=>κ11 w)) (λκ5=>
  (lp (S:=Int) (E:=Bool ⊕ Unit) (λ(s18:Int)=>
   if ((decide (s18<(a0.length:Int)))&&(decide (s18<10))) then
    (ix a0 s18).bind λv20=>
    if (decide ((v20.length:Int) > 10)) then
     some (.inr (.inl false))
    else
    some (.inl (r8 (s18+1)))
   else
   some (.inr (.inr ()))) 0).bind λe17=>
  match e17 with
  | .inl w=>some w
  | .inr w=>κ5 w)
def a1U(a0:c9):Option Bool:=
 some ((decide (a0.Kind≥1))&&(decide (a0.Kind≤10)))
def V5:Option e6:=
 some (⟨(some 114),0,5,6⟩:e6)
def O7:Option e6:=
 some (⟨(some 117),(-1),5,13⟩:e6)
def G3(a0:List e6):Option (List e6):=
 some a0
def V6:Option e6:=
 some (⟨(some 115),0,5,6⟩:e6)
def T0:Option e6:=
 some (⟨(some 117),0,3,5⟩:e6)
def S9:Option e6:=
 some (⟨(some 115),0,3,5⟩:e6)
def K9:Option e6:=
 some (⟨(some 117),(-1),5,6⟩:e6)
def V3:Option e6:=
 some (⟨(some 114),0,5,7⟩:e6)
def K8:Option e6:=
 some (⟨(some 115),(-1),5,6⟩:e6)
def V4:Option e6:=
 some (⟨(some 115),0,5,7⟩:e6)
def a5y:Option (List (Int × (List e6))):=
 (V5).bind λv1=>
 (O7).bind λv2=>
 (G3 [v1,(⟨(some 115),0,4,1⟩:e6),v2]).bind λv3=>
 (V6).bind λv4=>
 (G3 [v1,v4]).bind λv5=>
 (G3 [v1]).bind λv6=>
 (T0).bind λv7=>
 (G3 [v1,v4,v7]).bind λv8=>
 (S9).bind λv9=>
 (K9).bind λv10=>
 (G3 [v1,v9,v10]).bind λv11=>
 (V3).bind λv12=>
 (K8).bind λv13=>
 (G3 [v12,v13,v2]).bind λv14=>
 (V4).bind λv15=>
 (G3 [v1,v15]).bind λv16=>
 (G3 [v1,v13]).bind λv17=>
 (G3 []).bind λv18=>
 (G3 [(⟨(some 114),0,200,12⟩:e6)]).bind λv19=>
 some (n9 (n9 (n9 (n9 (n9 (n9 (n9 (n9 (n9 (n9 (n9 (n9 [] 1 v3) 2 v5) 3 v6) 4 v8) 5 v11) 6 v14) 7 v16) 8 v17) 9 v5) 10 v5) 11 v18) 12 v19)
def a8Y(a0:c9):Option Int:=
 some a0.A
def a8Z(a0:c9):Option Int:=
 some a0.B
def a80(a0:c9):Option Int:=
 some a0.C
def a9O(f:Fv)(a0:c9):Option Int:=
 if f=some 114 then a8Y a0 else
 if f=some 115 then a8Z a0 else
 if f=some 117 then a80 a0 else
 none
def O6(a0:c9):Option Int:=
 (a5y).bind λv1=>
 if (!((y8 v1 a0.Kind).isSome)) then
  some 14
 else
 jn (λ(_:Unit)=>
  some 0) (λκ8=>
  (lp (S:=Int) (E:=Int ⊕ Unit) (λ(s11:Int)=>
   if (decide (s11<(((y8 v1 a0.Kind).getD ([]:List e6)).length:Int))) then
    (ix ((y8 v1 a0.Kind).getD ([]:List e6)) s11).bind λv13=>
    (a9O v13.part a0).bind λv14=>
    if ((decide (v14<v13.least))||(decide (v14 > v13.most))) then
     some (.inr (.inl v13.e))
    else
    some (.inl (r8 (s11+1)))
   else
   some (.inr (.inr ()))) 0).bind λe10=>
  match e10 with
  | .inl w=>some w
  | .inr w=>κ8 w)
def a1V(a0:List (List c9)):Option Bool:=
 if (decide ((a0.length:Int) > 6)) then
  some false
 else
 jn (λ(_:Unit)=>
  some true) (λκ20=>
  (lp (S:=Int) (E:=Bool ⊕ Unit) (λ(s23:Int)=>
   if (decide (s23<(a0.length:Int))) then
    jn (λ(_:Unit)=>
     some (.inl (r8 (s23+1)))) (λκ32=>
     (ix a0 s23).bind λv34=>
     if (decide ((v34.length:Int) > 6)) then
      some (.inr (.inl false))
     else
     (lp (S:=Int) (E:=Bool ⊕ Unit) (λ(s36:Int)=>
      if (decide (s36<(v34.length:Int))) then
       (ix v34 s36).bind λv38=>
       (a1U v38).bind λv39=>
       (z6 ((!v39)==false) 0 (O6 v38)).bind λv40=>
       if ((!v39)||(v40 != 0)) then
        some (.inr (.inl false))
       else
       some (.inl (r8 (s36+1)))
      else
      some (.inr (.inr ()))) 0).bind λe35=>
     match e35 with
     | .inl w=>some (.inr (.inl w))
     | .inr w=>κ32 w)
   else
   some (.inr (.inr ()))) 0).bind λe22=>
  match e22 with
  | .inl w=>some w
  | .inr w=>κ20 w)
def T4(a0:Int)(a1:Int):Option c4:=
 if ((((decide (a0<0))||(decide (a0 > 24)))||(decide (a1<0)))||(decide (a1 > 9))) then
  some (⟨[],0⟩:c4)
 else
 (mk 80 a0 (⟨0,0,⟨0,0,0,0,false,[]⟩⟩:b7)).bind λv1=>
 some (⟨v1,a1⟩:c4)
def a3s(a0:Int)(a1:Int):Option a7:=
 (T4 a0 a1).bind λv1=>
 some (⟨v1,0⟩:a7)
def b8D(a0:Int):Option (List c5):=
 if ((decide (a0<0))||(decide (a0 > 6))) then
  some []
 else
 (mk 24 a0 (⟨0,false,0⟩:c5)).bind λv1=>
 jn (λ(j9:List c5)=>
  some j9) (λκ8=>
  (lp (S:=Int × (List c5)) (E:=(List c5)) (λ((s11,s12):Int × (List c5))=>
   if (decide (s11<(v1.length:Int))) then
    (ix s12 s11).bind λv15=>
    some (.inl (r8 (s11+1),(s12.set (s11).toNat (⟨v15.Target,v15.Intact,(-1)⟩:c5))))
   else
   some (.inr s12)) (0,v1)).bind λe10=>
  κ8 e10)
def a9W(a0:Int):Option (List b8):=
 if ((decide (a0<1))||(decide (a0 > 8))) then
  some []
 else
 (mk 24 a0 (⟨0,0,0⟩:b8)).bind λv1=>
 some v1
def a0o(a0:Int):Option c7:=
 some (⟨[],a0⟩:c7)
def b8r:Option c7:=
 (a0o 30).bind λv1=>
 some v1
def a3F(a0:Int)(a1:Int)(a2:Int):Option b6:=
 if ((((((decide (a0<1))||(decide (a0 > 24)))||(decide (a1<0)))||(decide (a1 > 9)))||(decide (a2<1)))||(decide (a2 > 8))) then
  some (⟨⟨⟨[],0⟩,0⟩,[],[],[],⟨[],0⟩⟩:b6)
 else
 (a3s a0 a1).bind λv1=>
 (mk 8 6 (0:Int)).bind λv2=>
 (b8D 6).bind λv3=>
 (a9W a2).bind λv4=>
 (b8r).bind λv5=>
 some (⟨v1,v2,v3,v4,v5⟩:b6)
def a1Y(a0:Int)(a1:Int)(a2:Int)(a3:List (List c9)):Option (g5 × Int):=
 (a1V a3).bind λv1=>
 if (!v1) then
  some ((⟨⟨⟨⟨[],0⟩,0⟩,[],[],[],⟨[],0⟩⟩,[]⟩:g5),13)
 else
 (a3F a0 a1 a2).bind λv2=>
 if ((v2.Roots.length:Int)==0) then
  some ((⟨⟨⟨⟨[],0⟩,0⟩,[],[],[],⟨[],0⟩⟩,[]⟩:g5),1)
 else
 some ((⟨v2,a3⟩:g5),0)
def a5o(a0:Int)(a1:Int):Option g5:=
 (a1Y a0 a1 8 []).bind λv1=>
 some v1.1
def a0W(a0:Int)(a1:Int)(a2:Int)(a3:Int):Option (List Int):=
 some [a0,a1,a2,a3]
def R9(a0:List Int):Option (c9 × Int):=
 if ((a0.length:Int) != 4) then
  some ((⟨0,0,0,0⟩:c9),14)
 else
 (ix a0 0).bind λv1=>
 (ix a0 1).bind λv2=>
 (ix a0 2).bind λv3=>
 (ix a0 3).bind λv4=>
 (O6 (⟨v1,v2,v3,v4⟩:c9)).bind λv5=>
 if (v5 != 0) then
  some ((⟨0,0,0,0⟩:c9),v5)
 else
 some ((⟨v1,v2,v3,v4⟩:c9),0)
def a5B(a0:c9):Option Ifc:=
 if (a0.Kind==11) then
  some (⟨89,[]⟩:Ifc)
 else
 if (a0.Kind==12) then
  some (⟨93,[a0.A]⟩:Ifc)
 else
 some (⟨85,[a0.Kind,a0.A,a0.B,a0.C]⟩:Ifc)
def a2m:Option (List (Int × Fv)):=
 some (n9 (n9 (n9 (n9 (n9 (n9 (n9 (n9 (n9 (n9 [] 1 (some 65)) 2 (some 66)) 3 (some 67)) 4 (some 68)) 5 (some 69)) 6 (some 70)) 7 (some 71)) 8 (some 72)) 9 (some 73)) 10 (some 74))
def b6Y(a0:Int):Option ((List Int) × Int):=
 if ((decide (a0<0))||(decide (a0 > 4))) then
  some ([],1)
 else
 (mk 8 a0 (0:Int)).bind λv1=>
 some (v1,0)
def O3(a0:Int):Option Bool:=
 some ((decide (a0≥(-1)))&&(decide (a0<6)))
def K6(a0:c4):Option c4:=
 some a0
def r9(a0:List b7):Option (List b7):=
 app 80 [] a0
def A8(a0:c4)(a1:Int)(a2:b7):Option c4:=
 (r9 a0.a8).bind λv1=>
 (ix v1 a1).bind λv2=>
 some (⟨(v1.set (a1).toNat a2),a0.Last⟩:c4)
def a01(a0:Int)(a1:Int):Option Int:=
 if ((((decide (a0<0))||(decide (a0≥24)))||(decide (a1<0)))||(decide (a1 > 9))) then
  some 0
 else
 some (r8 ((r8 (1+(r8 (a0*1))))+(r8 (a1*32))))
def G2(a0:c4)(a1:l4):Option (c4 × Int × Int):=
 jn (λ(_:Unit)=>
  some (a0,0,4)) (λκ9=>
  (K6 a0).bind λv11=>
  (lp (S:=Int) (E:=(c4 × Int × Int) ⊕ Unit) (λ(s13:Int)=>
   if (decide (s13<(v11.a8.length:Int))) then
    (ix v11.a8 s13).bind λv15=>
    if ((v15.State==0)==true) then
     (ix a0.a8 s13).bind λv16=>
     (A8 a0 s13 (⟨1,v16.Gen,a1⟩:b7)).bind λv17=>
     (a01 s13 v16.Gen).bind λv18=>
     some (.inr (.inl (v17,v18,0)))
    else
    some (.inl (r8 (s13+1)))
   else
   some (.inr (.inr ()))) 0).bind λe12=>
  match e12 with
  | .inl w=>some w
  | .inr w=>κ9 w)
def P4(a0:a7)(a1:Int)(a2:Int):Option (a7 × Int × Int):=
 (b6Y a1).bind λv1=>
 if (v1.2 != 0) then
  some (a0,0,v1.2)
 else
 (O3 a2).bind λv2=>
 if (!v2) then
  some (a0,0,13)
 else
 (G2 a0.S (⟨r8 (a0.Serial+1),0,0,a2,false,v1.1⟩:l4)).bind λv3=>
 if (v3.2.2 != 0) then
  some (a0,0,v3.2.2)
 else
 some ((⟨v3.1,r8 (a0.Serial+1)⟩:a7),v3.2.1,0)
def a1m(a0:Int):Option (Int × Int × Bool):=
 if (decide (a0<1)) then
  some ((-1),(-1),false)
 else
 (rem (r8 (a0-1)) 32).bind λv1=>
 (quo .i64 v1 1).bind λv2=>
 (quo .i64 (r8 (a0-1)) 32).bind λv3=>
 if ((decide (v2≥24))||(decide (v3 > 9))) then
  some ((-1),(-1),false)
 else
 some (v2,v3,true)
def a2x(a0:Int):Option Int:=
 (a1m a0).bind λv1=>
 some v1.1
def a3D(a0:Int):Option Int:=
 (a1m a0).bind λv1=>
 some v1.2.1
def p7(a0:c4)(a1:Int):Option (Int × Int):=
 if (a1==0) then
  some ((-1),2)
 else
 (a2x a1).bind λv1=>
 if ((decide (v1<0))||(decide (v1≥(a0.a8.length:Int)))) then
  some ((-1),3)
 else
 (ix a0.a8 v1).bind λv2=>
 (a3D a1).bind λv3=>
 if ((v2.Gen != v3)||((v2.State != 1)&&(v2.State != 2))) then
  some ((-1),3)
 else
 some (v1,0)
def B5(a0:c4)(a1:Int):Option (l4 × Int):=
 (p7 a0 a1).bind λv1=>
 if (v1.2 != 0) then
  some ((⟨0,0,0,0,false,[]⟩:l4),v1.2)
 else
 (ix a0.a8 v1.1).bind λv2=>
 if (v2.State==2) then
  some ((⟨0,0,0,0,false,[]⟩:l4),3)
 else
 some (v2.Val,0)
def r7(a0:a7)(a1:Int):Option (l4 × Int):=
 (B5 a0.S a1).bind λv1=>
 some (v1.1,v1.2)
def a4f(a0:b6)(a1:Int):Option Bool:=
 (r7 a0.S a1).bind λv1=>
 some (v1.2==0)
def I1(a0:b6)(a1:Int):Option Bool:=
 (z6 ((a1==0)==false) false (a4f a0 a1)).bind λv1=>
 some ((a1==0)||v1)
def D6(a0:Int):Option Bool:=
 some (decide (a0≥12))
def a3y(a0:Int):Option (Int × Int):=
 (D6 a0).bind λv1=>
 if v1 then
  some (12,0)
 else
 some (r8 ((if 0 > a0 then 0 else a0)+1),0)
def a7I(a0:Int):Option Int:=
 (a3y a0).bind λv1=>
 some v1.1
def H4(a0:c4)(a1:Int)(a2:l4):Option (c4 × Int):=
 (p7 a0 a1).bind λv1=>
 if (v1.2 != 0) then
  some (a0,v1.2)
 else
 (ix a0.a8 v1.1).bind λv2=>
 (A8 a0 v1.1 (⟨v2.State,v2.Gen,a2⟩:b7)).bind λv3=>
 some (v3,0)
def H5(a0:a7)(a1:Int)(a2:l4):Option (a7 × Int):=
 (H4 a0.S a1 a2).bind λv1=>
 some ((⟨v1.1,a0.Serial⟩:a7),v1.2)
def Q5(a0:b6)(a1:Int):Option b6:=
 (r7 a0.S a1).bind λv1=>
 if (v1.2==0) then
  (a7I v1.1.Strong).bind λv2=>
  (H5 a0.S a1 (⟨v1.1.Serial,v2,v1.1.Weak,v1.1.Prog,v1.1.Started,v1.1.Fields⟩:l4)).bind λv3=>
  some (⟨v3.1,a0.Roots,a0.a8,a0.T,a0.Q⟩:b6)
 else
 some a0
def Y1(a0:b6)(a1:Int):Option b6:=
 (Q5 a0 a1).bind λv1=>
 some v1
def J4(a0:List Int):Option (List Int):=
 app 8 [] a0
def L9(a0:F4)(a1:b6):Option b6:=
 (J4 a1.Roots).bind λv1=>
 (ix v1 a0.r).bind λv2=>
 some (⟨a1.S,(v1.set (a0.r).toNat a0.h),a1.a8,a1.T,a1.Q⟩:b6)
def a1X(a0:Int):Option (Int × Int):=
 (D6 a0).bind λv1=>
 if v1 then
  some (12,0)
 else
 if (decide (a0<1)) then
  some (0,11)
 else
 some (r8 (a0-1),0)
def b0N(a0:Int):Option (Int × Int):=
 (a1X a0).bind λv1=>
 some (v1.1,v1.2)
def a1o(a0:Int):Option Int:=
 (b0N a0).bind λv1=>
 if (v1.2 != 0) then
  some a0
 else
 some v1.1
def K2(a0:b6)(a1:Int):Option b6:=
 (r7 a0.S a1).bind λv1=>
 if (v1.2==0) then
  (a1o v1.1.Strong).bind λv2=>
  (H5 a0.S a1 (⟨v1.1.Serial,v2,v1.1.Weak,v1.1.Prog,v1.1.Started,v1.1.Fields⟩:l4)).bind λv3=>
  some (⟨v3.1,a0.Roots,a0.a8,a0.T,a0.Q⟩:b6)
 else
 some a0
def A7(a0:b6)(a1:Int):Option b6:=
 (K2 a0 a1).bind λv1=>
 some v1
def D0(a0:b6)(a1:Int)(a2:Int)(a3:F4):Option b6:=
 (Y1 a0 a2).bind λv1=>
 (L9 a3 v1).bind λv2=>
 (A7 v2 a1).bind λv3=>
 some v3
def Z5(a0:b6)(a1:Int)(a2:Int):Option (b6 × Int):=
 if ((decide (a1<0))||(decide (a1≥(a0.Roots.length:Int)))) then
  some (a0,6)
 else
 (I1 a0 a2).bind λv1=>
 if (!v1) then
  some (a0,3)
 else
 (ix a0.Roots a1).bind λv2=>
 (D0 a0 v2 a2 (⟨a1,a2⟩:F4)).bind λv3=>
 some (v3,0)
def z7(a0:o5)(a1:Int)(a2:Int):Option (b6 × Int):=
 if (a2 != 0) then
  some (a0.x,a2)
 else
 (Z5 a0.x a0.o.A a1).bind λv1=>
 some (v1.1,v1.2)
def P6(a0:o5):Option (b6 × Int):=
 (P4 a0.x.S a0.o.B a0.o.C).bind λv1=>
 if (v1.2.2 != 0) then
  some (a0.x,v1.2.2)
 else
 (z7 (⟨⟨v1.1,a0.x.Roots,a0.x.a8,a0.x.T,a0.x.Q⟩,a0.o⟩:o5) v1.2.1 0).bind λv2=>
 some (v2.1,v2.2)
def I4(a0:b6)(a1:Int):Option Int:=
 if ((decide (a1<0))||(decide (a1≥(a0.Roots.length:Int)))) then
  some 0
 else
 (ix a0.Roots a1).bind λv1=>
 some v1
def F6(a0:o5):Option (b6 × Int):=
 (I4 a0.x a0.o.B).bind λv1=>
 (z7 a0 v1 0).bind λv2=>
 some (v2.1,v2.2)
def W5(a0:o5):Option (b6 × Int):=
 (z7 a0 0 0).bind λv1=>
 some (v1.1,v1.2)
def J1(a0:b6)(a1:Int):Option (Int × Int):=
 (I4 a0 a1).bind λv1=>
 if (v1==0) then
  some (0,2)
 else
 some (v1,0)
def a6k(a0:List Int)(a1:Int):Option Bool:=
 some ((decide (a1≥0))&&(decide (a1<(a0.length:Int))))
def b1x(a0:List Int)(a1:Int):Option (Int × Int):=
 (a6k a0 a1).bind λv1=>
 if (!v1) then
  some (0,5)
 else
 (ix a0 a1).bind λv2=>
 some (v2,0)
def Y7(a0:a7)(a1:Int)(a2:Int):Option (Int × Int):=
 (r7 a0 a1).bind λv1=>
 if (v1.2 != 0) then
  some (0,v1.2)
 else
 (b1x v1.1.Fields a2).bind λv2=>
 some (v2.1,v2.2)
def W6(a0:o5):Option (b6 × Int):=
 (J1 a0.x a0.o.B).bind λv1=>
 if (v1.2 != 0) then
  some (a0.x,v1.2)
 else
 (Y7 a0.x.S v1.1 a0.o.C).bind λv2=>
 (z7 a0 v2.1 v2.2).bind λv3=>
 some (v3.1,v3.2)
def b32(a0:List Int)(a1:Int)(a2:Int):Option ((List Int) × Int):=
 (a6k a0 a1).bind λv1=>
 if (!v1) then
  some (a0,5)
 else
 (mk 8 (a0.length:Int) (0:Int)).bind λv2=>
 (cpy v2 a0).bind λv3=>
 (ix v3 a1).bind λv4=>
 some ((v3.set (a1).toNat a2),0)
def a8f(a0:a7)(a1:Int)(a2:Int)(a3:Int):Option (a7 × Int):=
 (r7 a0 a1).bind λv1=>
 if (v1.2 != 0) then
  some (a0,v1.2)
 else
 (b32 v1.1.Fields a2 a3).bind λv2=>
 if (v2.2 != 0) then
  some (a0,v2.2)
 else
 (H5 a0 a1 (⟨v1.1.Serial,v1.1.Strong,v1.1.Weak,v1.1.Prog,v1.1.Started,v2.1⟩:l4)).bind λv3=>
 some (v3.1,v3.2)
def a0l(a0:D9)(a1:b6):Option b6:=
 (a8f a1.S a0.h a0.k a0.v).bind λv1=>
 some (⟨v1.1,a1.Roots,a1.a8,a1.T,a1.Q⟩:b6)
def F5(a0:b6)(a1:Int)(a2:Int)(a3:D9):Option b6:=
 (Y1 a0 a2).bind λv1=>
 (a0l a3 v1).bind λv2=>
 (A7 v2 a1).bind λv3=>
 some v3
def a11(a0:b6)(a1:Int)(a2:Int)(a3:Int):Option (b6 × Int):=
 (Y7 a0.S a1 a2).bind λv1=>
 if (v1.2 != 0) then
  some (a0,v1.2)
 else
 (I1 a0 a3).bind λv2=>
 if (!v2) then
  some (a0,3)
 else
 (F5 a0 v1.1 a3 (⟨a1,a2,a3⟩:D9)).bind λv3=>
 some (v3,0)
def T2(a0:o5):Option (b6 × Int):=
 (J1 a0.x a0.o.A).bind λv1=>
 if (v1.2 != 0) then
  some (a0.x,v1.2)
 else
 (I4 a0.x a0.o.C).bind λv2=>
 (a11 a0.x v1.1 a0.o.B v2).bind λv3=>
 some (v3.1,v3.2)
def b2A(a0:c7)(a1:Int):Option (c7 × Int):=
 some (a0,a1)
def a3W(a0:c7)(a1:Int):Option Bool:=
 jn (λ(_:Unit)=>
  some false) (λκ6=>
  (b2A a0 2).bind λv8=>
  (lp (S:=Int) (E:=Bool ⊕ Unit) (λ(s10:Int)=>
   if (decide (s10<(v8.1.L.length:Int))) then
    (ix v8.1.L s10).bind λv12=>
    if ((v12.Kind==v8.2)==true) then
     if (v12.At==a1) then
      some (.inr (.inl true))
     else
     some (.inl (r8 (s10+1)))
    else
    some (.inl (r8 (s10+1)))
   else
   some (.inr (.inr ()))) 0).bind λe9=>
  match e9 with
  | .inl w=>some w
  | .inr w=>κ6 w)
def a5l(a0:List c5)(a1:Int):Option Bool:=
 some ((decide (a1≥0))&&(decide (a1<(a0.length:Int))))
def Y8(a0:List c5):Option (List c5):=
 (mk 24 (a0.length:Int) (⟨0,false,0⟩:c5)).bind λv1=>
 (cpy v1 a0).bind λv2=>
 some v2
def b0E(a0:List c5)(a1:Int)(a2:Int)(a3:Int):Option ((List c5) × Int × Int):=
 (a5l a0 a1).bind λv1=>
 if (!v1) then
  some (a0,0,7)
 else
 (Y8 a0).bind λv2=>
 (ix v2 a1).bind λv3=>
 (ix a0 a1).bind λv4=>
 some ((v2.set (a1).toNat (⟨a2,(a2 != 0),a3⟩:c5)),v4.Target,0)
def a03(a0:b6)(a1:Int)(a2:Int):Option b6:=
 (p7 a0.S.S a1).bind λv1=>
 if (v1.2==0) then
  (ix a0.S.S.a8 v1.1).bind λv2=>
  (H5 a0.S a1 (⟨v2.Val.Serial,v2.Val.Strong,r8 (v2.Val.Weak+a2),v2.Val.Prog,v2.Val.Started,v2.Val.Fields⟩:l4)).bind λv3=>
  some (⟨v3.1,a0.Roots,a0.a8,a0.T,a0.Q⟩:b6)
 else
 some a0
def K5(a0:c4)(a1:Int):Option (c4 × Int):=
 (p7 a0 a1).bind λv1=>
 if (v1.2 != 0) then
  some (a0,v1.2)
 else
 (ix a0.a8 v1.1).bind λv2=>
 if (v2.Gen==a0.Last) then
  (A8 a0 v1.1 (⟨3,v2.Gen,⟨0,0,0,0,false,[]⟩⟩:b7)).bind λv3=>
  some (v3,0)
 else
 (A8 a0 v1.1 (⟨0,r8 (v2.Gen+1),⟨0,0,0,0,false,[]⟩⟩:b7)).bind λv4=>
 some (v4,0)
def a2l(a0:b6)(a1:Int):Option b6:=
 (a03 a0 a1 (-1)).bind λv1=>
 (p7 v1.S.S a1).bind λv2=>
 if (v2.2 != 0) then
  some v1
 else
 (ix v1.S.S.a8 v2.1).bind λv3=>
 if ((v3.State==2)&&(v3.Val.Weak==0)) then
  (K5 v1.S.S a1).bind λv4=>
  some (⟨⟨v4.1,v1.S.Serial⟩,v1.Roots,v1.a8,v1.T,v1.Q⟩:b6)
 else
 some v1
def Z6(a0:b6)(a1:Int)(a2:Int)(a3:Int):Option (b6 × Int):=
 (z6 (((decide (a1<0))||(decide (a1≥(a0.a8.length:Int))))==false) false (a3W a0.Q a1)).bind λv1=>
 if (((decide (a1<0))||(decide (a1≥(a0.a8.length:Int))))||v1) then
  some (a0,7)
 else
 (I1 a0 a2).bind λv2=>
 if (!v2) then
  some (a0,3)
 else
 (b0E a0.a8 a1 a2 a3).bind λv3=>
 (a03 (⟨a0.S,a0.Roots,v3.1,a0.T,a0.Q⟩:b6) a2 1).bind λv4=>
 (a2l v4 v3.2.1).bind λv5=>
 some (v5,0)
def P7(a0:o5):Option (b6 × Int):=
 if (a0.o.B==(-1)) then
  (Z6 a0.x a0.o.A 0 a0.o.C).bind λv1=>
  some (v1.1,v1.2)
 else
 (J1 a0.x a0.o.B).bind λv2=>
 if (v2.2 != 0) then
  some (a0.x,v2.2)
 else
 (Z6 a0.x a0.o.A v2.1 a0.o.C).bind λv3=>
 some (v3.1,v3.2)
def a5k(a0:List c5)(a1:Int):Option (Int × Int):=
 (a5l a0 a1).bind λv1=>
 if (!v1) then
  some (0,7)
 else
 (ix a0 a1).bind λv2=>
 if ((v2.Target==0)||(!v2.Intact)) then
  some (0,9)
 else
 some (v2.Target,0)
def T9(a0:o5):Option (b6 × Int):=
 (a5k a0.x.a8 a0.o.B).bind λv1=>
 (z7 a0 v1.1 v1.2).bind λv2=>
 some (v2.1,v2.2)
def a3i(a0:Int)(a1:Int):Option (Int × Int):=
 some (a0,a1)
def Z3(a0:Int)(a1:Int):Option Int:=
 if (decide (a0<1)) then
  some 0
 else
 (rem (r8 ((r8 (5*a1))+1)) a0).bind λv1=>
 if (decide (v1<0)) then
  some (r8 (v1+a0))
 else
 some v1
def U5(a0:List b8)(a1:Int):Option Int:=
 jn (λ(_:Unit)=>
  some (-1)) (λκ8=>
  (a3i (a0.length:Int) a1).bind λv10=>
  (lp (S:=Int) (E:=Int ⊕ Unit) (λ(s12:Int)=>
   if (decide (s12<v10.1)) then
    (Z3 v10.1 v10.2).bind λv14=>
    (rem (r8 (v14+s12)) v10.1).bind λv15=>
    (ix a0 v15).bind λv16=>
    if (v16.State==0) then
     some (.inr (.inr ()))
    else
    if ((v16.State==1)&&(v16.Key==a1)) then
     some (.inr (.inl v15))
    else
    some (.inl (r8 (s12+1)))
   else
   some (.inr (.inr ()))) 0).bind λe11=>
  match e11 with
  | .inl w=>some w
  | .inr w=>κ8 w)
def J0(a0:List b8)(a1:Int):Option (Int × Int):=
 (U5 a0 a1).bind λv1=>
 if (decide (v1<0)) then
  some (0,9)
 else
 (ix a0 v1).bind λv2=>
 some (v2.Val,0)
def B6(a0:List b8):Option (List b8):=
 app 24 [] a0
def a02(a0:List b8)(a1:Int)(a2:b8):Option (List b8):=
 (B6 a0).bind λv1=>
 (ix v1 a1).bind λv2=>
 some (v1.set (a1).toNat a2)
def U4(a0:List b8)(a1:Int):Option ((List b8) × Int × Int):=
 (U5 a0 a1).bind λv1=>
 if (decide (v1<0)) then
  some (a0,0,9)
 else
 (a02 a0 v1 (⟨2,0,0⟩:b8)).bind λv2=>
 (ix a0 v1).bind λv3=>
 some (v2,v3.Val,0)
def a62(a0:List b8)(a1:Int)(a2:Int):Option ((List b8) × Int):=
 (U5 a0 a1).bind λv1=>
 if (decide (v1≥0)) then
  (a02 a0 v1 (⟨1,a1,a2⟩:b8)).bind λv2=>
  some (v2,0)
 else
 jn (λ(_:Unit)=>
  some (a0,8)) (λκ11=>
  (a3i (a0.length:Int) a1).bind λv13=>
  (lp (S:=Int) (E:=((List b8) × Int) ⊕ Unit) (λ(s15:Int)=>
   if (decide (s15<v13.1)) then
    (Z3 v13.1 v13.2).bind λv17=>
    (rem (r8 (v17+s15)) v13.1).bind λv18=>
    (ix a0 v18).bind λv19=>
    if (v19.State != 1) then
     (a02 a0 v18 (⟨1,a1,a2⟩:b8)).bind λv20=>
     some (.inr (.inl (v20,0)))
    else
    some (.inl (r8 (s15+1)))
   else
   some (.inr (.inr ()))) 0).bind λe14=>
  match e14 with
  | .inl w=>some w
  | .inr w=>κ11 w)
def Q2(a0:List b8)(a1:Int)(a2:Int):Option ((List b8) × Int × Int):=
 if (a1==0) then
  some (a0,0,2)
 else
 (J0 a0 a1).bind λv1=>
 if (a2==0) then
  (U4 a0 a1).bind λv2=>
  some (v2.1,v1.1,0)
 else
 (a62 a0 a1 a2).bind λv3=>
 if (v3.2 != 0) then
  some (a0,0,v3.2)
 else
 some (v3.1,v1.1,0)
def T1(a0:F3)(a1:b6):Option b6:=
 some (⟨a1.S,a1.Roots,a1.a8,a0.t,a1.Q⟩:b6)
def G6(a0:b6)(a1:Int)(a2:Int)(a3:F3):Option b6:=
 (Y1 a0 a2).bind λv1=>
 (T1 a3 v1).bind λv2=>
 (A7 v2 a1).bind λv3=>
 some v3
def a3j(a0:b6)(a1:Int)(a2:Int):Option (b6 × Int):=
 if (a1==0) then
  some (a0,2)
 else
 (I1 a0 a1).bind λv1=>
 (z6 ((!v1)==false) false (I1 a0 a2)).bind λv2=>
 if ((!v1)||(!v2)) then
  some (a0,3)
 else
 (Q2 a0.T a1 a2).bind λv3=>
 if (v3.2.2 != 0) then
  some (a0,v3.2.2)
 else
 (G6 a0 v3.2.1 a2 (⟨v3.1⟩:F3)).bind λv4=>
 some (v4,0)
def W7(a0:o5):Option (b6 × Int):=
 (J1 a0.x a0.o.A).bind λv1=>
 if (v1.2 != 0) then
  some (a0.x,v1.2)
 else
 (I4 a0.x a0.o.B).bind λv2=>
 (a3j a0.x v1.1 v2).bind λv3=>
 some (v3.1,v3.2)
def b0Q(a0:List b8)(a1:Int):Option (Int × Int):=
 (J0 a0 a1).bind λv1=>
 some (v1.1,v1.2)
def Z7(a0:o5):Option (b6 × Int):=
 (J1 a0.x a0.o.B).bind λv1=>
 if (v1.2 != 0) then
  some (a0.x,v1.2)
 else
 (b0Q a0.x.T v1.1).bind λv2=>
 (z7 a0 v2.1 v2.2).bind λv3=>
 some (v3.1,v3.2)
def M0(a0:o5):Option (b6 × Int):=
 some (a0.x,0)
def b2e(f:Fv)(a0:o5):Option (b6 × Int):=
 if f=some 65 then P6 a0 else
 if f=some 66 then F6 a0 else
 if f=some 67 then W5 a0 else
 if f=some 68 then W6 a0 else
 if f=some 69 then T2 a0 else
 if f=some 70 then P7 a0 else
 if f=some 71 then T9 a0 else
 if f=some 72 then W7 a0 else
 if f=some 73 then Z7 a0 else
 if f=some 74 then M0 a0 else
 none
def a0t(a0:Int):Option Bool:=
 some (a0 != a0)
def a2M(a0:Int)(a1:Int):Option Int:=
 (a0t a0).bind λv1=>
 (a0t a1).bind λv2=>
 if v1 then
  if v2 then
   some 0
  else
  some (-1)
 else
 if v2 then
  some 1
 else
 if (decide (a0<a1)) then
  some (-1)
 else
 if (decide (a0 > a1)) then
  some 1
 else
 some 0
def a3e(a0:Int)(a1:Int)(a2:List (Int × Int)):Option Int:=
 (a2M ((y8 a2 a0).getD (0:Int)) ((y8 a2 a1).getD (0:Int))).bind λv1=>
 some v1
def B8(a0:a7):Option (List Int):=
 jn (λ((j18,j19):(List (Int × Int)) × (List Int))=>
  (b1s (λp q=>a3e p q j18) j19).bind λv21=>
  some v21) (λκ17=>
  (lp (S:=Int × (List (Int × Int)) × (List Int)) (E:=((List (Int × Int)) × (List Int))) (λ((s23,s24,s25):Int × (List (Int × Int)) × (List Int))=>
   if (decide (s23<(a0.S.a8.length:Int))) then
    jn (λ((j32,j33):(List (Int × Int)) × (List Int))=>
     some (.inl (r8 (s23+1),j32,j33))) (λκ31=>
     (ix a0.S.a8 s23).bind λv35=>
     if (v35.State==1) then
      (a01 s23 v35.Gen).bind λv36=>
      (app 8 s25 [v36]).bind λv37=>
      κ31 ((n9 s24 v36 v35.Val.Serial),v37)
     else
     κ31 (s24,s25))
   else
   some (.inr (s24,s25))) (0,[],[])).bind λe22=>
  κ17 e22)
def a07(a0:b6):Option (List Int):=
 jn (λ(j16:List Int)=>
  some j16) (λκ15=>
  (B8 a0.S).bind λv17=>
  (lp (S:=Int × (List Int)) (E:=(List Int)) (λ((s19,s20):Int × (List Int))=>
   if (decide (s19<(v17.length:Int))) then
    jn (λ(j27:List Int)=>
     some (.inl (r8 (s19+1),j27))) (λκ26=>
     (ix v17 s19).bind λv28=>
     (r7 a0.S v28).bind λv29=>
     if (v29.1.Strong==0) then
      (app 8 s20 [v28]).bind λv30=>
      κ26 v30
     else
     κ26 s20)
   else
   some (.inr s20)) (0,[])).bind λe18=>
  κ15 e18)
def J3(a0:l4):Option Bool:=
 some ((decide (a0.Prog≥0))&&(!a0.Started))
def G1(a0:c7):Option Int:=
 some (a0.L.length:Int)
def D2(a0:List g8)(a1:Int)(a2:Int):Option (List g8):=
 (cut a0 a1 a2).bind λv1=>
 some v1
def N8(a0:c7)(a1:g8):Option (c7 × Int):=
 (G1 a0).bind λv1=>
 if (decide (v1≥a0.Cap)) then
  some (a0,4)
 else
 (D2 a0.L 0 v1).bind λv2=>
 (app 24 v2 [a1]).bind λv3=>
 some ((⟨v3,a0.Cap⟩:c7),0)
def a7B(a0:c7)(a1:g8):Option (c7 × Int):=
 (N8 a0 a1).bind λv1=>
 some (v1.1,v1.2)
def P2(a0:b6)(a1:Int):Option b6:=
 (r7 a0.S a1).bind λv1=>
 (z6 ((v1.2 != 0)==false) false (J3 v1.1)).bind λv2=>
 if ((v1.2 != 0)||(!v2)) then
  some a0
 else
 (H5 a0.S a1 (⟨v1.1.Serial,v1.1.Strong,v1.1.Weak,v1.1.Prog,true,v1.1.Fields⟩:l4)).bind λv3=>
 (a7B a0.Q (⟨1,a1,v1.1.Prog⟩:g8)).bind λv4=>
 (Y1 (⟨v3.1,a0.Roots,a0.a8,a0.T,v4.1⟩:b6) a1).bind λv5=>
 some v5
def R4(a0:b6)(a1:List Int):Option (List Int):=
 jn (λ(j18:List Int)=>
  some j18) (λκ17=>
  (lp (S:=Int × (List (Int × Bool)) × (List Int)) (E:=(List Int)) (λ((s20,s21,s22):Int × (List (Int × Bool)) × (List Int))=>
   if (decide (s20<(a1.length:Int))) then
    jn (λ((j29,j30):(List Int) × (List (Int × Bool)))=>
     some (.inl (r8 (s20+1),j30,j29))) (λκ28=>
     (ix a1 s20).bind λv32=>
     (r7 a0.S v32).bind λv33=>
     if ((v33.2==0)==true) then
      if (!((y8 s21 v32).getD (false:Bool))) then
       (app 8 s22 [v32]).bind λv34=>
       κ28 (v34,(n9 s21 v32 true))
      else
      κ28 (s22,s21)
     else
     κ28 (s22,s21))
   else
   some (.inr s22)) (0,[],[])).bind λe19=>
  κ17 e19)
def O2(a0:List Int)(a1:Int):Option Int:=
 jn (λ(_:Unit)=>
  some (-1)) (λκ5=>
  (lp (S:=Int) (E:=Int ⊕ Unit) (λ(s8:Int)=>
   if (decide (s8<(a0.length:Int))) then
    (ix a0 s8).bind λv10=>
    if (a1==v10) then
     some (.inr (.inl s8))
    else
    some (.inl (r8 (s8+1)))
   else
   some (.inr (.inr ()))) 0).bind λe7=>
  match e7 with
  | .inl w=>some w
  | .inr w=>κ5 w)
def C9(a0:List Int)(a1:Int):Option Bool:=
 (O2 a0 a1).bind λv1=>
 some (decide (v1≥0))
def a0f(a0:c5)(a1:List Int):Option Bool:=
 (z6 ((a0.Intact&&(a0.Target != 0))==true) false (C9 a1 a0.Target)).bind λv1=>
 some ((a0.Intact&&(a0.Target != 0))&&v1)
def G8(a0:List c5)(a1:List Int):Option (List Int):=
 jn (λ(j15:List Int)=>
  some j15) (λκ14=>
  (lp (S:=Int × (List Int)) (E:=(List Int)) (λ((s17,s18):Int × (List Int))=>
   if (decide (s17<(a0.length:Int))) then
    jn (λ(j25:List Int)=>
     some (.inl (r8 (s17+1),j25))) (λκ24=>
     (ix a0 s17).bind λv26=>
     (a0f v26 a1).bind λv27=>
     if v27 then
      (app 8 s18 [s17]).bind λv28=>
      κ24 v28
     else
     κ24 s18)
   else
   some (.inr s18)) (0,[])).bind λe16=>
  κ14 e16)
def a3X(a0:List c5)(a1:List Int):Option ((List c5) × (List Int)):=
 (G8 a0 a1).bind λv1=>
 (Y8 a0).bind λv2=>
 jn (λ((j22,j23):(List Int) × (List c5))=>
  some (j23,j22)) (λκ21=>
  (lp (S:=Int × (List c5) × (List Int)) (E:=((List Int) × (List c5))) (λ((s26,s27,s28):Int × (List c5) × (List Int))=>
   if (decide (s26<(v1.length:Int))) then
    jn (λ((j36,j37):(List Int) × (List c5))=>
     some (.inl (r8 (s26+1),j37,j36))) (λκ35=>
     (ix v1 s26).bind λv39=>
     (ix s27 v39).bind λv40=>
     (ix (s27.set (v39).toNat (⟨v40.Target,false,v40.Call⟩:c5)) v39).bind λv41=>
     if (decide (v41.Call≥0)) then
      (app 8 s28 [v39]).bind λv42=>
      κ35 (v42,(s27.set (v39).toNat (⟨v40.Target,false,v40.Call⟩:c5)))
     else
     κ35 (s28,(s27.set (v39).toNat (⟨v40.Target,false,v40.Call⟩:c5))))
   else
   some (.inr (s28,s27))) (0,v2,[])).bind λe25=>
  κ21 e25)
def a1E(a0:b6)(a1:List Int):Option b6:=
 (a3X a0.a8 a1).bind λv1=>
 jn (λ(j11:c7)=>
  some (⟨a0.S,a0.Roots,v1.1,a0.T,j11⟩:b6)) (λκ10=>
  (lp (S:=Int × c7) (E:=c7) (λ((s13,s14):Int × c7)=>
   if (decide (s13<(v1.2.length:Int))) then
    (ix v1.2 s13).bind λv17=>
    (ix v1.1 v17).bind λv18=>
    (a7B s14 (⟨2,v17,v18.Call⟩:g8)).bind λv19=>
    some (.inl (r8 (s13+1),v19.1))
   else
   some (.inr s14)) (0,a0.Q)).bind λe12=>
  κ10 e12)
def a8j(a0:List Int):Option (List Int):=
 some a0
def a3t(a0:List Int):Option (List Int):=
 jn (λ(j10:List Int)=>
  some j10) (λκ9=>
  (a8j a0).bind λv11=>
  (lp (S:=Int × (List Int)) (E:=(List Int)) (λ((s13,s14):Int × (List Int))=>
   if (decide (s13<(v11.length:Int))) then
    (ix v11 s13).bind λv17=>
    if ((v17 != 0)==true) then
     (app 8 s14 [v17]).bind λv18=>
     some (.inl (r8 (s13+1),v18))
    else
    some (.inl (r8 (s13+1),s14))
   else
   some (.inr s14)) (0,[])).bind λe12=>
  κ9 e12)
def L6(a0:List b8)(a1:List Int):Option ((List b8) × (List Int)):=
 jn (λ((j18,j19):(List b8) × (List Int))=>
  some (j18,j19)) (λκ17=>
  (lp (S:=(List b8) × Int × (List Int)) (E:=((List b8) × (List Int))) (λ((s22,s23,s24):(List b8) × Int × (List Int))=>
   if (decide (s23<(a1.length:Int))) then
    jn (λ((j31,j32):(List b8) × (List Int))=>
     some (.inl (j31,r8 (s23+1),j32))) (λκ30=>
     (ix a1 s23).bind λv34=>
     (U4 s22 v34).bind λv35=>
     if (v35.2.2==0) then
      (app 8 s24 [v35.2.1]).bind λv36=>
      κ30 (v35.1,v36)
     else
     κ30 (s22,s24))
   else
   some (.inr (s22,s24))) (a0,0,[])).bind λe21=>
  κ17 e21)
def P8(a0:c4)(a1:Int):Option (c4 × Int):=
 (B5 a0 a1).bind λv1=>
 if (v1.2 != 0) then
  some (a0,v1.2)
 else
 (a2x a1).bind λv2=>
 (a3D a1).bind λv3=>
 (A8 a0 v2 (⟨2,v3,v1.1⟩:b7)).bind λv4=>
 some (v4,0)
def U8(a0:b6)(a1:Int):Option b6:=
 (r7 a0.S a1).bind λv1=>
 (H5 a0.S a1 (⟨v1.1.Serial,0,v1.1.Weak,v1.1.Prog,v1.1.Started,[]⟩:l4)).bind λv2=>
 (P8 v2.1.S a1).bind λv3=>
 if (v1.1.Weak==0) then
  (K5 v3.1 a1).bind λv4=>
  some (⟨⟨v4.1,v2.1.Serial⟩,a0.Roots,a0.a8,a0.T,a0.Q⟩:b6)
 else
 some (⟨⟨v3.1,v2.1.Serial⟩,a0.Roots,a0.a8,a0.T,a0.Q⟩:b6)
def Y4(a0:b6)(a1:List Int):Option b6:=
 (R4 a0 a1).bind λv1=>
 (a1E a0 v1).bind λv2=>
 jn (λ(j13:List Int)=>
  (L6 v2.T v1).bind λv14=>
  (app 8 j13 v14.2).bind λv15=>
  jn (λ(j24:b6)=>
   jn (λ(j33:b6)=>
    some j33) (λκ32=>
    (lp (S:=Int × b6) (E:=b6) (λ((s35,s36):Int × b6)=>
     if (decide (s35<(v15.length:Int))) then
      (ix v15 s35).bind λv39=>
      (A7 s36 v39).bind λv40=>
      some (.inl (r8 (s35+1),v40))
     else
     some (.inr s36)) (0,j24)).bind λe34=>
    κ32 e34)) (λκ23=>
   (lp (S:=Int × b6) (E:=b6) (λ((s42,s43):Int × b6)=>
    if (decide (s42<(v1.length:Int))) then
     (ix v1 s42).bind λv46=>
     (U8 s43 v46).bind λv47=>
     some (.inl (r8 (s42+1),v47))
    else
    some (.inr s43)) (0,(⟨v2.S,v2.Roots,v2.a8,v14.1,v2.Q⟩:b6))).bind λe41=>
   κ23 e41)) (λκ12=>
  (lp (S:=Int × (List Int)) (E:=(List Int)) (λ((s49,s50):Int × (List Int))=>
   if (decide (s49<(v1.length:Int))) then
    (ix v1 s49).bind λv53=>
    (r7 v2.S v53).bind λv54=>
    (a3t v54.1.Fields).bind λv55=>
    (app 8 s50 v55).bind λv56=>
    some (.inl (r8 (s49+1),v56))
   else
   some (.inr s50)) (0,[])).bind λe48=>
  κ12 e48)
def L7(a0:b6):Option b6:=
 (lp (S:=b6) (E:=b6) (λ(s2:b6)=>
  (a07 s2).bind λv4=>
  if ((v4.length:Int)==0) then
   some (.inr s2)
  else
  (ix v4 0).bind λv5=>
  (r7 s2.S v5).bind λv6=>
  (J3 v6.1).bind λv7=>
  if v7 then
   (P2 s2 v5).bind λv8=>
   some (.inl v8)
  else
  (cut v4 0 1).bind λv9=>
  (Y4 s2 v9).bind λv10=>
  some (.inl v10)) a0).bind λe1=>
 some e1
def Y2(a0:b6)(a1:Int):Option Int:=
 (r7 a0.S a1).bind λv1=>
 some v1.1.Serial
def a0Q(a0:b6)(a1:Int):Option Int:=
 (I4 a0 a1).bind λv1=>
 (Y2 a0 v1).bind λv2=>
 some v2
def Q7(a0:b6)(a1:b6)(a2:c9):Option Int:=
 if (a2.Kind==5) then
  (a0Q a0 a2.C).bind λv1=>
  some v1
 else
 jn (λ(j3:Bool)=>
  if j3 then
   (a0Q a0 a2.B).bind λv4=>
   some v4
  else
  if (a2.Kind==10) then
   (I4 a0 a2.A).bind λv5=>
   (I4 a0 a2.B).bind λv6=>
   if (v5==v6) then
    some 1
   else
   some 0
  else
  (a0Q a1 a2.A).bind λv7=>
  some v7) (λκ2=>
  if (a2.Kind==6) then
   κ2 (a2.Kind==6)
  else
  κ2 (a2.Kind==8))
def o9(a0:b6)(a1:c9):Option (b6 × Int × Int):=
 (O6 a1).bind λv1=>
 if (v1 != 0) then
  some (a0,0,v1)
 else
 (a2m).bind λv2=>
 if (!((y8 v2 a1.Kind).isSome)) then
  some (a0,0,14)
 else
 (b2e ((y8 v2 a1.Kind).getD (none:Fv)) (⟨a0,a1⟩:o5)).bind λv3=>
 if (v3.2 != 0) then
  some (a0,0,v3.2)
 else
 (L7 v3.1).bind λv5=>
 (Q7 v3.1 v5 a1).bind λv6=>
 some (v5,v6,0)
def a54(a0:a7):Option a7:=
 some a0
def a48(a0:a7)(a1:Int):Option (List Int):=
 (r7 a0 a1).bind λv1=>
 (a3t v1.1.Fields).bind λv2=>
 some v2
def b2x(a0:a7)(a1:Int):Option Int:=
 jn (λ(j31:Int)=>
  some j31) (λκ30=>
  (a54 a0).bind λv32=>
  (B8 v32).bind λv33=>
  (lp (S:=Int × Int) (E:=Int) (λ((s35,s36):Int × Int)=>
   if (decide (s35<(v33.length:Int))) then
    jn (λ(j50:Int)=>
     some (.inl (r8 (s35+1),j50))) (λκ49=>
     (ix v33 s35).bind λv51=>
     (a48 v32 v51).bind λv52=>
     (lp (S:=Int × Int) (E:=Int) (λ((s54,s55):Int × Int)=>
      if (decide (s54<(v52.length:Int))) then
       (ix v52 s54).bind λv58=>
       jn (λ(j60:Int)=>
        some (.inl (r8 (s54+1),j60))) (λκ59=>
        if (v58==a1) then
         κ59 (r8 (s55+1))
        else
        κ59 s55)
      else
      some (.inr s55)) (0,s36)).bind λe53=>
     κ49 e53)
   else
   some (.inr s36)) (0,0)).bind λe34=>
  κ30 e34)
def a0Z(a0:List b8):Option (List b8):=
 some a0
def a4T(a0:List b8):Option (List Int):=
 jn (λ(j13:List Int)=>
  some j13) (λκ12=>
  (lp (S:=Int × (List Int)) (E:=(List Int)) (λ((s15,s16):Int × (List Int))=>
   if (decide (s15<(a0.length:Int))) then
    jn (λ(j22:List Int)=>
     some (.inl (r8 (s15+1),j22))) (λκ21=>
     (ix a0 s15).bind λv23=>
     if (v23.State==1) then
      (app 8 s16 [v23.Key]).bind λv24=>
      κ21 v24
     else
     κ21 s16)
   else
   some (.inr s16)) (0,[])).bind λe14=>
  κ12 e14)
def a2j(a0:l6)(a1:Int):Option Bool:=
 some ((a1 != 0)&&(a0.Val==a1))
def x6(a0:List b8)(a1:Int):Option (List l6):=
 jn (λ(j16:List l6)=>
  some j16) (λκ15=>
  (a4T a0).bind λv17=>
  (lp (S:=Int × (List l6)) (E:=(List l6)) (λ((s19,s20):Int × (List l6))=>
   if (decide (s19<(v17.length:Int))) then
    (ix v17 s19).bind λv23=>
    (J0 a0 v23).bind λv24=>
    jn (λ(j28:List l6)=>
     some (.inl (r8 (s19+1),j28))) (λκ27=>
     (a2j (⟨v23,v24.1⟩:l6) a1).bind λv29=>
     if v29 then
      (app 16 s20 [(⟨v23,v24.1⟩:l6)]).bind λv30=>
      κ27 v30
     else
     κ27 s20)
   else
   some (.inr s20)) (0,[])).bind λe18=>
  κ15 e18)
def a4b(a0:List b8)(a1:Int):Option Int:=
 (a0Z a0).bind λv1=>
 (x6 v1 a1).bind λv2=>
 some (v2.length:Int)
def a4v(a0:a7)(a1:List b8)(a2:Int):Option Int:=
 (b2x a0 a2).bind λv1=>
 (a4b a1 a2).bind λv2=>
 some (r8 (v1+v2))
def a6j(a0:a7)(a1:List b8)(a2:Int):Option Int:=
 (r7 a0 a2).bind λv1=>
 if (v1.2 != 0) then
  some 0
 else
 (a4v a0 a1 a2).bind λv2=>
 some (r8 (v1.1.Strong-v2))
def a6S(a0:Int):Option Bool:=
 (D6 a0).bind λv1=>
 some v1
def a6i(a0:Int)(a1:l4)(a2:a7)(a3:List b8):Option Bool:=
 (a6j a2 a3 a0).bind λv1=>
 (z6 ((decide (v1 > 0))==false) false (a6S a1.Strong)).bind λv2=>
 some ((decide (v1 > 0))||v2)
def a6h(a0:a7)(a1:List b8):Option (List Int):=
 jn (λ(j36:List Int)=>
  some j36) (λκ35=>
  jn (λ(j54:List Int)=>
   κ35 j54) (λκ53=>
   (B8 a0).bind λv55=>
   (lp (S:=Int × (List Int)) (E:=(List Int)) (λ((s57,s58):Int × (List Int))=>
    if (decide (s57<(v55.length:Int))) then
     jn (λ(j66:List Int)=>
      some (.inl (r8 (s57+1),j66))) (λκ65=>
      (ix v55 s57).bind λv67=>
      (r7 a0 v67).bind λv68=>
      (a6i v67 v68.1 a0 a1).bind λv69=>
      if v69 then
       (app 8 s58 [v67]).bind λv70=>
       κ65 v70
      else
      κ65 s58)
    else
    some (.inr s58)) (0,[])).bind λe56=>
   κ53 e56))
def a2n(a0:Int):Option g9:=
 some (⟨[],a0⟩:g9)
def a0c(a0:a7)(a1:Int):Option Bool:=
 (r7 a0 a1).bind λv1=>
 some (v1.2==0)
def I5(a0:g9):Option Int:=
 some (a0.L.length:Int)
def M3(a0:List Int)(a1:Int)(a2:Int):Option (List Int):=
 (cut a0 a1 a2).bind λv1=>
 some v1
def M2(a0:g9)(a1:Int):Option (g9 × Int):=
 (I5 a0).bind λv1=>
 if (decide (v1≥a0.Cap)) then
  some (a0,4)
 else
 (M3 a0.L 0 v1).bind λv2=>
 (app 8 v2 [a1]).bind λv3=>
 some ((⟨v3,a0.Cap⟩:g9),0)
def a2T(a0:g9)(a1:Int):Option (g9 × (List Int)):=
 (I5 a0).bind λv1=>
 (M3 a0.L 0 (if (if v1<a1 then v1 else a1) > 0 then (if v1<a1 then v1 else a1) else 0)).bind λv2=>
 (M3 a0.L (if (if v1<a1 then v1 else a1) > 0 then (if v1<a1 then v1 else a1) else 0) v1).bind λv3=>
 some ((⟨v3,a0.Cap⟩:g9),v2)
def a0y(a0:g9):Option (g9 × Int × Int):=
 (a2T a0 1).bind λv1=>
 if ((v1.2.length:Int)==0) then
  some (a0,0,10)
 else
 (ix v1.2 0).bind λv2=>
 some (v1.1,v2,0)
def a1B(a0:a7)(a1:List Int):Option (List (Int × Bool)):=
 (B8 a0).bind λv1=>
 (a2n (v1.length:Int)).bind λv2=>
 jn (λ((j20,j21):g9 × (List (Int × Bool)))=>
  jn (λ(j68:List (Int × Bool))=>
   some j68) (λκ67=>
   (lp (S:=g9 × (List (Int × Bool))) (E:=(List (Int × Bool))) (λ((s70,s71):g9 × (List (Int × Bool)))=>
    (I5 s70).bind λv74=>
    if (decide (v74 > 0)) then
     (a0y s70).bind λv75=>
     (a48 a0 v75.2.1).bind λv76=>
     jn (λ((j94,j95):g9 × (List (Int × Bool)))=>
      some (.inl (j94,j95))) (λκ93=>
      (lp (S:=Int × g9 × (List (Int × Bool))) (E:=(g9 × (List (Int × Bool)))) (λ((s98,s99,s100):Int × g9 × (List (Int × Bool)))=>
       if (decide (s98<(v76.length:Int))) then
        jn (λ((j107,j108):g9 × (List (Int × Bool)))=>
         some (.inl (r8 (s98+1),j107,j108))) (λκ106=>
         (ix v76 s98).bind λv110=>
         (a0c a0 v110).bind λv111=>
         if (v111==true) then
          if (!((y8 s100 v110).getD (false:Bool))) then
           (M2 s99 v110).bind λv112=>
           κ106 (v112.1,(n9 s100 v110 true))
          else
          κ106 (s99,s100)
         else
         κ106 (s99,s100))
       else
       some (.inr (s99,s100))) (0,v75.1,s71)).bind λe97=>
      κ93 e97)
    else
    some (.inr s71)) (j20,j21)).bind λe69=>
   κ67 e69)) (λκ19=>
  (lp (S:=Int × g9 × (List (Int × Bool))) (E:=(g9 × (List (Int × Bool)))) (λ((s114,s115,s116):Int × g9 × (List (Int × Bool)))=>
   if (decide (s114<(a1.length:Int))) then
    jn (λ((j123,j124):g9 × (List (Int × Bool)))=>
     some (.inl (r8 (s114+1),j123,j124))) (λκ122=>
     (ix a1 s114).bind λv126=>
     (a0c a0 v126).bind λv127=>
     if (v127==true) then
      if (!((y8 s116 v126).getD (false:Bool))) then
       (M2 s115 v126).bind λv128=>
       κ122 (v128.1,(n9 s116 v126 true))
      else
      κ122 (s115,s116)
     else
     κ122 (s115,s116))
   else
   some (.inr (s115,s116))) (0,v2,[])).bind λe113=>
  κ19 e113)
def a3a(a0:Int)(a1:List (Int × Bool)):Option Bool:=
 some ((y8 a1 a0).getD (false:Bool))
def O9(a0:a7)(a1:List (Int × Bool)):Option (List Int):=
 jn (λ(j16:List Int)=>
  some j16) (λκ15=>
  (B8 a0).bind λv17=>
  (lp (S:=Int × (List Int)) (E:=(List Int)) (λ((s19,s20):Int × (List Int))=>
   if (decide (s19<(v17.length:Int))) then
    jn (λ(j27:List Int)=>
     some (.inl (r8 (s19+1),j27))) (λκ26=>
     (ix v17 s19).bind λv28=>
     (a3a v28 a1).bind λv29=>
     if v29 then
      (app 8 s20 [v28]).bind λv30=>
      κ26 v30
     else
     κ26 s20)
   else
   some (.inr s20)) (0,[])).bind λe18=>
  κ15 e18)
def a3P(a0:a7)(a1:List Int):Option (List Int):=
 (a1B a0 a1).bind λv1=>
 (O9 a0 v1).bind λv2=>
 some v2
def a2k(a0:l6):Option Bool:=
 some true
def x8(a0:List b8):Option (List l6):=
 jn (λ(j16:List l6)=>
  some j16) (λκ15=>
  (a4T a0).bind λv17=>
  (lp (S:=Int × (List l6)) (E:=(List l6)) (λ((s19,s20):Int × (List l6))=>
   if (decide (s19<(v17.length:Int))) then
    (ix v17 s19).bind λv23=>
    (J0 a0 v23).bind λv24=>
    jn (λ(j28:List l6)=>
     some (.inl (r8 (s19+1),j28))) (λκ27=>
     (a2k (⟨v23,v24.1⟩:l6)).bind λv29=>
     if v29 then
      (app 16 s20 [(⟨v23,v24.1⟩:l6)]).bind λv30=>
      κ27 v30
     else
     κ27 s20)
   else
   some (.inr s20)) (0,[])).bind λe18=>
  κ15 e18)
def a4c(a0:List b8):Option (List l6):=
 (a0Z a0).bind λv1=>
 (x8 v1).bind λv2=>
 some v2
def a3B(a0:Int)(a1:a7):Option Bool:=
 (r7 a1 a0).bind λv1=>
 some (v1.2==0)
def a9K(a0:a7)(a1:List b8)(a2:List Int):Option (List Int):=
 jn (λ(j20:List Int)=>
  some j20) (λκ19=>
  (a4c a1).bind λv21=>
  (lp (S:=Int × (List Int)) (E:=(List Int)) (λ((s23,s24):Int × (List Int))=>
   if (decide (s23<(v21.length:Int))) then
    jn (λ(j33:List Int)=>
     some (.inl (r8 (s23+1),j33))) (λκ32=>
     (ix v21 s23).bind λv34=>
     (C9 a2 v34.Key).bind λv35=>
     (z6 (v35==true) false (a3B v34.Key a0)).bind λv36=>
     (z6 ((v35&&v36)==true) false (a3B v34.Val a0)).bind λv37=>
     if ((v35&&v36)&&v37) then
      (app 8 s24 [v34.Val]).bind λv38=>
      κ32 v38
     else
     κ32 s24)
   else
   some (.inr s24)) (0,[])).bind λe22=>
  κ19 e22)
def a7N(a0:a7)(a1:List b8)(a2:List Int):Option ((List Int) × Int):=
 (a3P a0 a2).bind λv1=>
 (lp (S:=(List Int) × Int) (E:=((List Int) × Int)) (λ((s3,s4):(List Int) × Int)=>
  (a9K a0 a1 s3).bind λv7=>
  jn (λ(_:Unit)=>
   some (.inr (s3,s4))) (λκ15=>
   (lp (S:=Int) (E:=((List Int) × Int) ⊕ Unit) (λ(s18:Int)=>
    if (decide (s18<(v7.length:Int))) then
     (ix v7 s18).bind λv20=>
     (C9 s3 v20).bind λv21=>
     if (!v21) then
      (app 8 v7 s3).bind λv22=>
      (a3P a0 v22).bind λv23=>
      some (.inr (.inl (v23,r8 (s4+1))))
     else
     some (.inl (r8 (s18+1)))
    else
    some (.inr (.inr ()))) 0).bind λe17=>
   match e17 with
   | .inl w=>some (.inl w)
   | .inr w=>κ15 w)) (v1,0)).bind λe2=>
 some e2
def a9J(a0:a7)(a1:List b8)(a2:List Int):Option (List Int):=
 (a7N a0 a1 a2).bind λv1=>
 some v1.1
def a3b(a0:Int)(a1:List (Int × Bool)):Option Bool:=
 some (!((y8 a1 a0).getD (false:Bool)))
def P0(a0:a7)(a1:List (Int × Bool)):Option (List Int):=
 jn (λ(j16:List Int)=>
  some j16) (λκ15=>
  (B8 a0).bind λv17=>
  (lp (S:=Int × (List Int)) (E:=(List Int)) (λ((s19,s20):Int × (List Int))=>
   if (decide (s19<(v17.length:Int))) then
    jn (λ(j27:List Int)=>
     some (.inl (r8 (s19+1),j27))) (λκ26=>
     (ix v17 s19).bind λv28=>
     (a3b v28 a1).bind λv29=>
     if v29 then
      (app 8 s20 [v28]).bind λv30=>
      κ26 v30
     else
     κ26 s20)
   else
   some (.inr s20)) (0,[])).bind λe18=>
  κ15 e18)
def a52(a0:a7)(a1:List Int):Option (List Int):=
 (a1B a0 a1).bind λv1=>
 (P0 a0 v1).bind λv2=>
 some v2
def a6X(a0:a7)(a1:List b8)(a2:List Int):Option (List Int):=
 (a9J a0 a1 a2).bind λv1=>
 (a52 a0 v1).bind λv2=>
 some v2
def a0B(a0:a7)(a1:List b8):Option (List Int):=
 (a6h a0 a1).bind λv1=>
 (a6X a0 a1 v1).bind λv2=>
 some v2
def N6(a0:b6):Option (List Int):=
 (a0B a0.S a0.T).bind λv1=>
 some v1
def a2N(a0:Int)(a1:b6):Option Bool:=
 (r7 a1.S a0).bind λv1=>
 some ((decide (v1.1.Prog≥0))&&(!v1.1.Started))
def E6(a0:List Int)(a1:b6):Option (List Int):=
 jn (λ(j15:List Int)=>
  some j15) (λκ14=>
  (lp (S:=Int × (List Int)) (E:=(List Int)) (λ((s17,s18):Int × (List Int))=>
   if (decide (s17<(a0.length:Int))) then
    jn (λ(j25:List Int)=>
     some (.inl (r8 (s17+1),j25))) (λκ24=>
     (ix a0 s17).bind λv26=>
     (a2N v26 a1).bind λv27=>
     if v27 then
      (app 8 s18 [v26]).bind λv28=>
      κ24 v28
     else
     κ24 s18)
   else
   some (.inr s18)) (0,[])).bind λe16=>
  κ14 e16)
def a2i(a0:b6):Option (List Int):=
 (N6 a0).bind λv1=>
 (E6 v1 a0).bind λv2=>
 some v2
def T7(a0:b6):Option (b6 × Int × Int):=
 (a2i a0).bind λv1=>
 jn (λ(j10:b6)=>
  if (decide ((v1.length:Int) > 0)) then
   some (j10,(v1.length:Int),0)
  else
  (N6 j10).bind λv11=>
  (Y4 j10 v11).bind λv12=>
  (L7 v12).bind λv13=>
  (B8 j10.S).bind λv14=>
  (B8 v13.S).bind λv15=>
  some (v13,0,r8 ((v14.length:Int)-(v15.length:Int)))) (λκ9=>
  (lp (S:=Int × b6) (E:=b6) (λ((s17,s18):Int × b6)=>
   if (decide (s17<(v1.length:Int))) then
    (ix v1 s17).bind λv21=>
    (P2 s18 v21).bind λv22=>
    some (.inl (r8 (s17+1),v22))
   else
   some (.inr s18)) (0,a0)).bind λe16=>
  κ9 e16)
def V8(a0:c7)(a1:Int):Option (c7 × (List g8)):=
 (G1 a0).bind λv1=>
 (D2 a0.L 0 (if (if v1<a1 then v1 else a1) > 0 then (if v1<a1 then v1 else a1) else 0)).bind λv2=>
 (D2 a0.L (if (if v1<a1 then v1 else a1) > 0 then (if v1<a1 then v1 else a1) else 0) v1).bind λv3=>
 some ((⟨v3,a0.Cap⟩:c7),v2)
def a0p(a0:c7):Option (c7 × g8 × Int):=
 (V8 a0 1).bind λv1=>
 if ((v1.2.length:Int)==0) then
  some (a0,(⟨0,0,0⟩:g8),10)
 else
 (ix v1.2 0).bind λv2=>
 some (v1.1,v2,0)
def a08(a0:c7):Option (c7 × g8 × Int):=
 (a0p a0).bind λv1=>
 some (v1.1,v1.2.1,v1.2.2)
def a2t(a0:b6):Option Bool:=
 (a08 a0.Q).bind λv1=>
 some (v1.2.2 != 0)
def a3z(a0:List (List c9))(a1:Int):Option (List c9):=
 if ((decide (a1<0))||(decide (a1≥(a0.length:Int)))) then
  some []
 else
 (ix a0 a1).bind λv1=>
 some v1
def a5z(a0:List (List c9))(a1:g8):Option Int:=
 (a3z a0 a1.Prog).bind λv1=>
 some (r8 (1+(v1.length:Int)))
def a2y(a0:b6)(a1:List c9):Option (b6 × (List Int)):=
 jn (λ((j11,j12):b6 × (List Int))=>
  some (j11,j12)) (λκ10=>
  (lp (S:=Int × b6 × (List Int)) (E:=(b6 × (List Int))) (λ((s15,s16,s17):Int × b6 × (List Int))=>
   if (decide (s15<(a1.length:Int))) then
    (ix a1 s15).bind λv20=>
    (o9 s16 v20).bind λv21=>
    (app 8 s17 [v21.2.1]).bind λv22=>
    some (.inl (r8 (s15+1),v21.1,v22))
   else
   some (.inr (s16,s17))) (0,a0,[])).bind λe14=>
  κ10 e14)
def a5A(a0:b6)(a1:List (List c9)):Option (b6 × g8 × Int):=
 (a08 a0.Q).bind λv1=>
 if (v1.2.2 != 0) then
  some (a0,(⟨0,0,0⟩:g8),v1.2.2)
 else
 jn (λ(j6:b6)=>
  (a3z a1 v1.2.1.Prog).bind λv7=>
  (a2y j6 v7).bind λv8=>
  if (v1.2.1.Kind==1) then
   (Z5 v8.1 5 0).bind λv9=>
   (L7 v9.1).bind λv10=>
   some (v10,v1.2.1,0)
  else
  some (v8.1,v1.2.1,0)) (λκ5=>
  if (v1.2.1.Kind==1) then
   (Z5 (⟨a0.S,a0.Roots,a0.a8,a0.T,v1.1⟩:b6) 5 v1.2.1.At).bind λv11=>
   (A7 v11.1 v1.2.1.At).bind λv12=>
   (L7 v12).bind λv13=>
   κ5 v13
  else
  κ5 (⟨a0.S,a0.Roots,a0.a8,a0.T,v1.1⟩:b6))
def a2s(a0:b6)(a1:List (List c9))(a2:Int):Option (b6 × Int × Int × Int):=
 jn (λ((j14,j15,j16):Int × Int × b6)=>
  (a2t j16).bind λv18=>
  if (!v18) then
   some (j16,j14,j15,12)
  else
  some (j16,j14,j15,0)) (λκ13=>
  (lp (S:=Int × b6 × Int × Int × b6) (E:=(Int × Int × b6)) (λ((s20,s21,s22,s23,s24):Int × b6 × Int × Int × b6)=>
   (a2t s21).bind λv27=>
   if (!v27) then
    (a08 s21.Q).bind λv28=>
    (a5z a1 v28.2.1).bind λv29=>
    if (decide (v29 > s20)) then
     some (.inr (s22,s23,s24))
    else
    (a5A s21 a1).bind λv30=>
    some (.inl (r8 (s20-v29),v30.1,r8 (s22+1),r8 (s20-v29),v30.1))
   else
   some (.inr (s22,s23,s24))) (a2,a0,0,a2,a0)).bind λe19=>
  κ13 e19)
def a0Y(a0:g5)(a1:List Int):Option (g5 × m7):=
 (R9 a1).bind λv1=>
 if (v1.2 != 0) then
  some (a0,(⟨0,v1.2⟩:m7))
 else
 (a5B v1.1).bind λv2=>
 if (decide (v2.t=85)) then
  (o9 a0.X (⟨(ifG v2 85 0),(ifG v2 85 1),(ifG v2 85 2),(ifG v2 85 3)⟩:c9)).bind λv3=>
  some ((⟨v3.1,a0.Progs⟩:g5),(⟨v3.2.1,v3.2.2⟩:m7))
 else
 if (decide (v2.t=89)) then
  (T7 a0.X).bind λv4=>
  some ((⟨v4.1,a0.Progs⟩:g5),(⟨r8 (v4.2.2-v4.2.1),0⟩:m7))
 else
 if (decide (v2.t=93)) then
  (a2s a0.X a0.Progs (ifG v2 93 0)).bind λv5=>
  some ((⟨v5.1,a0.Progs⟩:g5),(⟨v5.2.1,v5.2.2.2⟩:m7))
 else
 some (a0,(⟨0,0⟩:m7))
def a1Z(a0:g5)(a1:List (List Int)):Option (g5 × (List m7)):=
 jn (λ((j11,j12):g5 × (List m7))=>
  some (j11,j12)) (λκ10=>
  (lp (S:=Int × g5 × (List m7)) (E:=(g5 × (List m7))) (λ((s15,s16,s17):Int × g5 × (List m7))=>
   if (decide (s15<(a1.length:Int))) then
    (ix a1 s15).bind λv20=>
    (a0Y s16 v20).bind λv21=>
    (app 16 s17 [v21.2]).bind λv22=>
    some (.inl (r8 (s15+1),v21.1,v22))
   else
   some (.inr (s16,s17))) (0,a0,[])).bind λe14=>
  κ10 e14)
def O1(a0:c4):Option A4:=
 jn (λ(j9:A4)=>
  some j9) (λκ8=>
  (lp (S:=Int × A4) (E:=A4) (λ((s11,s12):Int × A4)=>
   if (decide (s11<(a0.a8.length:Int))) then
    (ix a0.a8 s11).bind λv15=>
    (A4.ix s12 v15.State).bind λv16=>
    some (.inl (r8 (s11+1),(A4.st s12 v15.State (r8 (v16+1)))))
   else
   some (.inr s12)) (0,(⟨0,0,0,0⟩:A4))).bind λe10=>
  κ8 e10)
def a1i(a0:g5):Option A4:=
 (O1 a0.X.S.S).bind λv1=>
 some v1
def a3Z:Option Bool:=
 (a5o 2 3).bind λv1=>
 (a0W 1 0 1 (-1)).bind λv2=>
 (a0W 5 0 0 0).bind λv3=>
 (a0W 3 0 0 0).bind λv4=>
 (a0W 11 0 0 0).bind λv5=>
 (a0W 1 0 0 (-1)).bind λv6=>
 (a0W 1 1 0 (-1)).bind λv7=>
 (a0W 1 2 0 (-1)).bind λv8=>
 (a1Z v1 [v2,v3,v4,v5,v6,v7,v8]).bind λv9=>
 (z6 (((v9.2.length:Int)==7)==true) (⟨0,0⟩:m7) (ix v9.2 3)).bind λv10=>
 (z6 ((((v9.2.length:Int)==7)&&(v10.V==1))==true) (⟨0,0⟩:m7) (ix v9.2 4)).bind λv11=>
 (z6 (((((v9.2.length:Int)==7)&&(v10.V==1))&&(v11.V==2))==true) (⟨0,0⟩:m7) (ix v9.2 5)).bind λv12=>
 (z6 ((((((v9.2.length:Int)==7)&&(v10.V==1))&&(v11.V==2))&&(v12.V==3))==true) (⟨0,0⟩:m7) (ix v9.2 6)).bind λv13=>
 (z6 (((((((v9.2.length:Int)==7)&&(v10.V==1))&&(v11.V==2))&&(v12.V==3))&&(v13.E==4))==true) ⟨0,0,0,0⟩ (a1i v9.1)).bind λv14=>
 some (((((((v9.2.length:Int)==7)&&(v10.V==1))&&(v11.V==2))&&(v12.V==3))&&(v13.E==4))&&((v14.a==0)&&((v14.b==2)&&((v14.c==0)&&((v14.d==0)&&true)))))
def b2G(a0:g5)(a1:Int):Option (g5 × Bool):=
 jn (λ(j11:g5)=>
  some (j11,false)) (λκ10=>
  (lp (S:=Int × g5) (E:=(g5 × Bool) ⊕ g5) (λ((s13,s14):Int × g5)=>
   if (decide (s13<a1)) then
    (a0W 11 0 0 0).bind λv17=>
    (a0Y s14 v17).bind λv18=>
    (a0W 12 200 0 0).bind λv19=>
    (a0Y v18.1 v19).bind λv20=>
    if (((v18.2.V==0)&&(v20.2.V==0))&&(v20.2.E==0)) then
     some (.inr (.inl (v20.1,true)))
    else
    some (.inl (r8 (s13+1),v20.1))
   else
   some (.inr (.inr s14))) (0,a0)).bind λe12=>
  match e12 with
  | .inl w=>some w
  | .inr w=>κ10 w)
def a1h(a0:g5):Option (List Int):=
 jn (λ(j11:List Int)=>
  (a8e j11).bind λv12=>
  some v12) (λκ10=>
  (B8 a0.X.S).bind λv13=>
  (lp (S:=Int × (List Int)) (E:=(List Int)) (λ((s15,s16):Int × (List Int))=>
   if (decide (s15<(v13.length:Int))) then
    (ix v13 s15).bind λv19=>
    (Y2 a0.X v19).bind λv20=>
    (app 8 s16 [v20]).bind λv21=>
    some (.inl (r8 (s15+1),v21))
   else
   some (.inr s16)) (0,[])).bind λe14=>
  κ10 e14)
def a9p(a0:Int)(a1:List (List Int)):Option Bool:=
 (b0F [] a1 60).bind λv1=>
 (z6 ((!v1)==false) false a3Z).bind λv2=>
 if ((!v1)||(!v2)) then
  (a3Z).bind λv3=>
  some v3
 else
 (rem (r8 a0) 24).bind λv4=>
 (a5o (r8 (1+v4)) 9).bind λv5=>
 (a1Z v5 a1).bind λv6=>
 jn (λ(j15:g5)=>
  jn (λ(j24:g5)=>
   (b2G j24 60).bind λv25=>
   jn (λ((j43,j44):Int × Int)=>
    (a1i v25.1).bind λv46=>
    (z6 ((((v25.2&&(v46.c==j44))==true)&&((decide (j43 > 0))==false))&&((v46.b==0)==true)) [] (a1h v25.1)).bind λv47=>
    some ((v25.2&&(v46.c==j44))&&((decide (j43 > 0))||((v46.b==0)&&((v47.length:Int)==0))))) (λκ42=>
    (lp (S:=Int × Int × Int) (E:=(Int × Int)) (λ((s49,s50,s51):Int × Int × Int)=>
     if ((decide (s51<(v25.1.X.S.S.a8.length:Int)))&&(decide (s51<30))) then
      jn (λ((j58,j59):Int × Int)=>
       some (.inl (j58,j59,r8 (s51+1)))) (λκ57=>
       (ix v25.1.X.S.S.a8 s51).bind λv61=>
       jn (λ(j63:Int)=>
        if ((v61.State==2)&&(decide (v61.Val.Weak > 0))) then
         κ57 (j63,r8 (s50+1))
        else
        κ57 (j63,s50)) (λκ62=>
        if ((v61.State==1)&&(decide (v61.Val.Strong≥12))) then
         κ62 (r8 (s49+1))
        else
        κ62 s49))
     else
     some (.inr (s49,s50))) (0,0,0)).bind λe48=>
    κ42 e48)) (λκ23=>
   (lp (S:=Int × g5) (E:=g5) (λ((s65,s66):Int × g5)=>
    if (decide (s65<6)) then
     (a0W 6 s65 (-1) (-1)).bind λv69=>
     (a0Y s66 v69).bind λv70=>
     some (.inl (r8 (s65+1),v70.1))
    else
    some (.inr s66)) (0,j15)).bind λe64=>
   κ23 e64)) (λκ14=>
  (lp (S:=Int × g5) (E:=g5) (λ((s72,s73):Int × g5)=>
   if (decide (s72<6)) then
    (a0W 3 s72 0 0).bind λv76=>
    (a0Y s73 v76).bind λv77=>
    some (.inl (r8 (s72+1),v77.1))
   else
   some (.inr s73)) (0,v6.1)).bind λe71=>
  κ14 e71)
structure M5 where
 Kind:Int
 A:Int
 B:Int
 C:Int
structure L3 where
 Serial:Int
 Strong:Int
 Weak:Int
 Prog:Int
 Started:Bool
 Fields:List Int
structure F8 where
 State:Int
 Gen:Int
 Val:L3
structure E5 where
 Target:Int
 Intact:Bool
 Call:Int
structure o8 where
 State:Int
 Key:Int
 Val:Int
structure O0 where
 Kind:Int
 At:Int
 Prog:Int
structure K4 where
 State:Int
 Gen:Int
 Val:Int
structure E4 where
 a8:List K4
 Last:Int
structure o0 where
 a8:List F8
 Last:Int
 Serial:Int
structure C3 where
 L:List O0
 Cap:Int
structure g7 where
 S:o0
 Roots:List Int
 a8:List E5
 T:List o8
 Q:C3
structure C6 where
 X:g7
 Progs:List (List M5)
structure a3L where
 Key:Int
 Val:Int
structure H3 where
 V:Int
 E:Int
def U6(a0:M5):Option Bool:=
 some ((decide (a0.Kind≥1))&&(decide (a0.Kind≤10)))
def a0U(a0:Int)(a1:Int)(a2:Int)(a3:Int):Option Int:=
 if ((decide (a0<a1))||(decide (a0 > a2))) then
  some a3
 else
 some 0
def a0b(a0:Int)(a1:Int)(a2:Int):Option Int:=
 if (a0 != 0) then
  some a0
 else
 if (a1 != 0) then
  some a1
 else
 some a2
def a05(a0:M5):Option Int:=
 (a0U a0.A 0 5 6).bind λv1=>
 (a0U a0.B 0 5 6).bind λv2=>
 if (a0.Kind==1) then
  (a0U a0.B 0 4 1).bind λv3=>
  (a0U a0.C (-1) 5 13).bind λv4=>
  (a0b v1 v3 v4).bind λv5=>
  some v5
 else
 jn (λ(j7:Bool)=>
  if j7 then
   (a0b v1 v2 0).bind λv8=>
   some v8
  else
  if (a0.Kind==3) then
   some v1
  else
  if (a0.Kind==4) then
   (a0U a0.C 0 3 5).bind λv9=>
   (a0b v1 v2 v9).bind λv10=>
   some v10
  else
  if (a0.Kind==5) then
   (a0U a0.B 0 3 5).bind λv11=>
   (a0U a0.C (-1) 5 6).bind λv12=>
   (a0b v1 v11 v12).bind λv13=>
   some v13
  else
  if (a0.Kind==6) then
   (a0U a0.A 0 5 7).bind λv14=>
   (a0U a0.B (-1) 5 6).bind λv15=>
   (a0U a0.C (-1) 5 13).bind λv16=>
   (a0b v14 v15 v16).bind λv17=>
   some v17
  else
  if (a0.Kind==7) then
   (a0U a0.B 0 5 7).bind λv18=>
   (a0b v1 v18 0).bind λv19=>
   some v19
  else
  if (a0.Kind==8) then
   (a0U a0.B (-1) 5 6).bind λv20=>
   (a0b v1 v20 0).bind λv21=>
   some v21
  else
  if (a0.Kind==11) then
   some 0
  else
  if (a0.Kind==12) then
   (a0U a0.A 0 200 12).bind λv22=>
   some v22
  else
  some 14) (λκ6=>
  if (a0.Kind==2) then
   κ6 (a0.Kind==2)
  else
  if (a0.Kind==9) then
   κ6 (a0.Kind==9)
  else
  κ6 (a0.Kind==10))
def a73(a0:List (List M5)):Option Bool:=
 if (decide ((a0.length:Int) > 6)) then
  some false
 else
 jn (λ(_:Unit)=>
  some true) (λκ20=>
  (lp (S:=Int) (E:=Bool ⊕ Unit) (λ(s23:Int)=>
   if (decide (s23<(a0.length:Int))) then
    jn (λ(_:Unit)=>
     some (.inl (r8 (s23+1)))) (λκ32=>
     (ix a0 s23).bind λv34=>
     if (decide ((v34.length:Int) > 6)) then
      some (.inr (.inl false))
     else
     (lp (S:=Int) (E:=Bool ⊕ Unit) (λ(s36:Int)=>
      if (decide (s36<(v34.length:Int))) then
       (ix v34 s36).bind λv38=>
       (U6 v38).bind λv39=>
       (z6 ((!v39)==false) 0 (a05 v38)).bind λv40=>
       if ((!v39)||(v40 != 0)) then
        some (.inr (.inl false))
       else
       some (.inl (r8 (s36+1)))
      else
      some (.inr (.inr ()))) 0).bind λe35=>
     match e35 with
     | .inl w=>some (.inr (.inl w))
     | .inr w=>κ32 w)
   else
   some (.inr (.inr ()))) 0).bind λe22=>
  match e22 with
  | .inl w=>some w
  | .inr w=>κ20 w)
def c0X(a0:Int)(a1:Int):Option E4:=
 if ((((decide (a0<0))||(decide (a0 > 24)))||(decide (a1<0)))||(decide (a1 > 9))) then
  some (⟨[],0⟩:E4)
 else
 (mk 24 a0 (⟨0,0,0⟩:K4)).bind λv1=>
 some (⟨v1,a1⟩:E4)
def b6r(a0:Int)(a1:Int):Option o0:=
 (c0X a0 a1).bind λv1=>
 (mk 80 (v1.a8.length:Int) (⟨0,0,⟨0,0,0,0,false,[]⟩⟩:F8)).bind λv2=>
 some (⟨v2,v1.Last,0⟩:o0)
def c6T(a0:Int):Option (List E5):=
 jn (λ(j8:List E5)=>
  some j8) (λκ7=>
  (lp (S:=Int × (List E5)) (E:=(List E5)) (λ((s10,s11):Int × (List E5))=>
   if ((decide (s10<a0))&&(decide (a0≤6))) then
    (app 24 s11 [(⟨0,false,(-1)⟩:E5)]).bind λv14=>
    some (.inl (r8 (s10+1),v14))
   else
   some (.inr s11)) (0,[])).bind λe9=>
  κ7 e9)
def c0Y(a0:Int):Option (List o8):=
 if ((decide (a0<1))||(decide (a0 > 8))) then
  some []
 else
 (mk 24 a0 (⟨0,0,0⟩:o8)).bind λv1=>
 some v1
def c6U:Option C3:=
 some (⟨[],30⟩:C3)
def b0i(a0:Int)(a1:Int)(a2:Int):Option g7:=
 if ((((((decide (a0<1))||(decide (a0 > 24)))||(decide (a1<0)))||(decide (a1 > 9)))||(decide (a2<1)))||(decide (a2 > 8))) then
  some (⟨⟨[],0,0⟩,[],[],[],⟨[],0⟩⟩:g7)
 else
 (b6r a0 a1).bind λv1=>
 (mk 8 6 (0:Int)).bind λv2=>
 (c6T 6).bind λv3=>
 (c0Y a2).bind λv4=>
 (c6U).bind λv5=>
 some (⟨v1,v2,v3,v4,v5⟩:g7)
def b6w(a0:Int)(a1:Int)(a2:Int)(a3:List (List M5)):Option (C6 × Int):=
 (a73 a3).bind λv1=>
 if (!v1) then
  some ((⟨⟨⟨[],0,0⟩,[],[],[],⟨[],0⟩⟩,[]⟩:C6),13)
 else
 (b0i a0 a1 a2).bind λv2=>
 if ((v2.Roots.length:Int)==0) then
  some ((⟨⟨⟨[],0,0⟩,[],[],[],⟨[],0⟩⟩,[]⟩:C6),1)
 else
 some ((⟨v2,a3⟩:C6),0)
def b3z(a0:List Int)(a1:List Int):Option Bool:=
 if ((a0.length:Int) != (a1.length:Int)) then
  some false
 else
 jn (λ(_:Unit)=>
  some true) (λκ6=>
  (lp (S:=Int) (E:=Bool ⊕ Unit) (λ(s9:Int)=>
   if (decide (s9<(a0.length:Int))) then
    (ix a0 s9).bind λv11=>
    (ix a1 s9).bind λv12=>
    if (v11 != v12) then
     some (.inr (.inl false))
    else
    some (.inl (r8 (s9+1)))
   else
   some (.inr (.inr ()))) 0).bind λe8=>
  match e8 with
  | .inl w=>some w
  | .inr w=>κ6 w)
def R2(a0:o0):Option E4:=
 jn (λ(j9:List K4)=>
  some (⟨j9,a0.Last⟩:E4)) (λκ8=>
  (lp (S:=Int × (List K4)) (E:=(List K4)) (λ((s11,s12):Int × (List K4))=>
   if (decide (s11<(a0.a8.length:Int))) then
    (ix a0.a8 s11).bind λv15=>
    (app 24 s12 [(⟨v15.State,v15.Gen,s11⟩:K4)]).bind λv16=>
    some (.inl (r8 (s11+1),v16))
   else
   some (.inr s12)) (0,[])).bind λe10=>
  κ8 e10)
def a2G(a0:List o8)(a1:Int):Option Int:=
 jn (λ(_:Unit)=>
  some (-1)) (λκ5=>
  (lp (S:=Int) (E:=Int ⊕ Unit) (λ(s8:Int)=>
   if (decide (s8<(a0.length:Int))) then
    (ix a0 s8).bind λv10=>
    if ((v10.State==1)&&(v10.Key==a1)) then
     some (.inr (.inl s8))
    else
    some (.inl (r8 (s8+1)))
   else
   some (.inr (.inr ()))) 0).bind λe7=>
  match e7 with
  | .inl w=>some w
  | .inr w=>κ5 w)
def b79(a0:Int)(a1:Int):Option Int:=
 if (decide (a0<1)) then
  some 0
 else
 (rem (r8 ((r8 (5*a1))+1)) a0).bind λv1=>
 if (decide (v1<0)) then
  some (r8 (v1+a0))
 else
 some v1
def a43(a0:Int)(a1:Int):Option Int:=
 if ((((decide (a0<0))||(decide (a0 > 23)))||(decide (a1<0)))||(decide (a1 > 9))) then
  some 0
 else
 some (r8 ((r8 (1+a0))+(r8 (32*a1))))
def a7V(a0:Int):Option Bool:=
 if ((decide (a0<1))||(decide (a0 > 400))) then
  some false
 else
 (rem (r8 (a0-1)) 32).bind λv1=>
 (quo .i64 (r8 (a0-1)) 32).bind λv2=>
 (a43 v1 v2).bind λv3=>
 some (v3==a0)
def a7c(a0:Int):Option Int:=
 (a7V a0).bind λv1=>
 if (!v1) then
  some (-1)
 else
 (rem (r8 (a0-1)) 32).bind λv2=>
 some v2
def b6p(a0:Int):Option Int:=
 (a7V a0).bind λv1=>
 if (!v1) then
  some (-1)
 else
 (quo .i64 (r8 (a0-1)) 32).bind λv2=>
 some v2
def N9(a0:E4)(a1:Int):Option (Int × Int):=
 if (a1==0) then
  some ((-1),2)
 else
 (a7c a1).bind λv1=>
 if ((decide (v1<0))||(decide (v1≥(a0.a8.length:Int)))) then
  some ((-1),3)
 else
 (ix a0.a8 v1).bind λv2=>
 (b6p a1).bind λv3=>
 if ((v2.Gen != v3)||((v2.State != 1)&&(v2.State != 2))) then
  some ((-1),3)
 else
 some (v1,0)
def b2q(a0:E4)(a1:Int):Option (Int × Int):=
 (N9 a0 a1).bind λv1=>
 if (v1.2 != 0) then
  some (0,v1.2)
 else
 (ix a0.a8 v1.1).bind λv2=>
 if (v2.State==2) then
  some (0,3)
 else
 some (v2.Val,0)
def E0(a0:o0)(a1:Int):Option (L3 × Int):=
 (R2 a0).bind λv1=>
 (b2q v1 a1).bind λv2=>
 if (v2.2 != 0) then
  some ((⟨0,0,0,0,false,[]⟩:L3),v2.2)
 else
 (ix a0.a8 v2.1).bind λv3=>
 some (v3.Val,0)
def a3o(a0:g7)(a1:Int):Option Bool:=
 (E0 a0.S a1).bind λv1=>
 some (v1.2==0)
def a3p(a0:g7)(a1:Int):Option Bool:=
 (z6 ((a1==0)==false) false (a3o a0 a1)).bind λv1=>
 some ((a1==0)||v1)
def a9g(a0:o0)(a1:List Int):Option (List Int):=
 (app 8 [] a1).bind λv1=>
 jn (λ(j36:List Int)=>
  some j36) (λκ35=>
  (lp (S:=Int × (List Int)) (E:=(List Int)) (λ((s38,s39):Int × (List Int))=>
   if (decide (s38<(s39.length:Int))) then
    jn (λ(j56:List Int)=>
     some (.inl (r8 (s38+1),j56))) (λκ55=>
     (lp (S:=Int × (List Int)) (E:=(List Int)) (λ((s58,s59):Int × (List Int))=>
      if (decide (s58 > 0)) then
       (R2 a0).bind λv62=>
       (ix s59 (r8 (s58-1))).bind λv63=>
       (N9 v62 v63).bind λv64=>
       (ix s59 s58).bind λv65=>
       (N9 v62 v65).bind λv66=>
       (z6 (((decide (v64.1<0))||(decide (v66.1<0)))==false) (⟨0,0,⟨0,0,0,0,false,[]⟩⟩:F8) (ix a0.a8 v64.1)).bind λv67=>
       (z6 (((decide (v64.1<0))||(decide (v66.1<0)))==false) (⟨0,0,⟨0,0,0,0,false,[]⟩⟩:F8) (ix a0.a8 v66.1)).bind λv68=>
       if (((decide (v64.1<0))||(decide (v66.1<0)))||(decide (v67.Val.Serial≤v68.Val.Serial))) then
        some (.inr s59)
       else
       (ix (s59.set (s58).toNat v63) (r8 (s58-1))).bind λv69=>
       some (.inl (r8 (s58-1),((s59.set (s58).toNat v63).set (r8 (s58-1)).toNat v65)))
      else
      some (.inr s59)) (s38,s39)).bind λe57=>
     κ55 e57)
   else
   some (.inr s39)) (1,v1)).bind λe37=>
  κ35 e37)
def a1A(a0:o0):Option (List Int):=
 jn (λ(j15:List Int)=>
  (a9g a0 j15).bind λv16=>
  some v16) (λκ14=>
  (lp (S:=Int × (List Int)) (E:=(List Int)) (λ((s18,s19):Int × (List Int))=>
   if (decide (s18<(a0.a8.length:Int))) then
    jn (λ(j26:List Int)=>
     some (.inl (r8 (s18+1),j26))) (λκ25=>
     (ix a0.a8 s18).bind λv27=>
     if (v27.State==1) then
      (a43 s18 v27.Gen).bind λv28=>
      (app 8 s19 [v28]).bind λv29=>
      κ25 v29
     else
     κ25 s19)
   else
   some (.inr s19)) (0,[])).bind λe17=>
  κ14 e17)
def b3C(a0:List o8):Option (List Int):=
 jn (λ(j13:List Int)=>
  some j13) (λκ12=>
  (lp (S:=Int × (List Int)) (E:=(List Int)) (λ((s15,s16):Int × (List Int))=>
   if (decide (s15<(a0.length:Int))) then
    jn (λ(j22:List Int)=>
     some (.inl (r8 (s15+1),j22))) (λκ21=>
     (ix a0 s15).bind λv23=>
     if (v23.State==1) then
      (app 8 s16 [v23.Key]).bind λv24=>
      κ21 v24
     else
     κ21 s16)
   else
   some (.inr s16)) (0,[])).bind λe14=>
  κ12 e14)
def b0g(a0:List o8)(a1:Int):Option (Int × Int):=
 (a2G a0 a1).bind λv1=>
 if (decide (v1<0)) then
  some (0,9)
 else
 (ix a0 v1).bind λv2=>
 some (v2.Val,0)
def a7Y(a0:List o8):Option (List a3L):=
 (b3C a0).bind λv1=>
 jn (λ(j11:List a3L)=>
  some j11) (λκ10=>
  (lp (S:=Int × (List a3L)) (E:=(List a3L)) (λ((s13,s14):Int × (List a3L))=>
   if (decide (s13<(v1.length:Int))) then
    (ix v1 s13).bind λv17=>
    (b0g a0 v17).bind λv18=>
    (app 16 s14 [(⟨v17,v18.1⟩:a3L)]).bind λv19=>
    some (.inl (r8 (s13+1),v19))
   else
   some (.inr s14)) (0,[])).bind λe12=>
  κ10 e12)
def a71(a0:C3)(a1:Int):Option Bool:=
 jn (λ(_:Unit)=>
  some false) (λκ5=>
  (lp (S:=Int) (E:=Bool ⊕ Unit) (λ(s8:Int)=>
   if (decide (s8<(a0.L.length:Int))) then
    (ix a0.L s8).bind λv10=>
    if ((v10.Kind==2)&&(v10.At==a1)) then
     some (.inr (.inl true))
    else
    some (.inl (r8 (s8+1)))
   else
   some (.inr (.inr ()))) 0).bind λe7=>
  match e7 with
  | .inl w=>some w
  | .inr w=>κ5 w)
def a18(a0:Int):Option Bool:=
 some (decide (a0≥12))
def b1g(a0:o0)(a1:Int):Option Bool:=
 (E0 a0 a1).bind λv1=>
 (a18 v1.1.Strong).bind λv2=>
 some v2
def a3l(a0:List Int):Option (List Int):=
 jn (λ(j13:List Int)=>
  some j13) (λκ12=>
  (lp (S:=Int × (List Int)) (E:=(List Int)) (λ((s15,s16):Int × (List Int))=>
   if (decide (s15<(a0.length:Int))) then
    jn (λ(j22:List Int)=>
     some (.inl (r8 (s15+1),j22))) (λκ21=>
     (ix a0 s15).bind λv23=>
     if (v23 != 0) then
      (app 8 s16 [v23]).bind λv24=>
      κ21 v24
     else
     κ21 s16)
   else
   some (.inr s16)) (0,[])).bind λe14=>
  κ12 e14)
def b2t(a0:o0)(a1:Int):Option (List Int):=
 (E0 a0 a1).bind λv1=>
 if (v1.2 != 0) then
  some []
 else
 (a3l v1.1.Fields).bind λv2=>
 some v2
def a3n(a0:List Int)(a1:Int):Option Int:=
 jn (λ(j11:Int)=>
  some j11) (λκ10=>
  (lp (S:=Int × Int) (E:=Int) (λ((s13,s14):Int × Int)=>
   if (decide (s14<(a0.length:Int))) then
    jn (λ(j19:Int)=>
     some (.inl (j19,r8 (s14+1)))) (λκ18=>
     (ix a0 s14).bind λv20=>
     if ((v20==a1)&&(a1 != 0)) then
      κ18 (r8 (s13+1))
     else
     κ18 s13)
   else
   some (.inr s13)) (0,0)).bind λe12=>
  κ10 e12)
def b9D(a0:o0)(a1:Int):Option Int:=
 (a1A a0).bind λv1=>
 jn (λ(j11:Int)=>
  some j11) (λκ10=>
  (lp (S:=Int × Int) (E:=Int) (λ((s13,s14):Int × Int)=>
   if (decide (s14<(v1.length:Int))) then
    (ix v1 s14).bind λv17=>
    (b2t a0 v17).bind λv18=>
    (a3n v18 a1).bind λv19=>
    some (.inl (r8 (s13+v19),r8 (s14+1)))
   else
   some (.inr s13)) (0,0)).bind λe12=>
  κ10 e12)
def b1e(a0:List o8)(a1:Int):Option Int:=
 (a7Y a0).bind λv1=>
 jn (λ(j12:Int)=>
  some j12) (λκ11=>
  (lp (S:=Int × Int) (E:=Int) (λ((s14,s15):Int × Int)=>
   if (decide (s15<(v1.length:Int))) then
    jn (λ(j20:Int)=>
     some (.inl (j20,r8 (s15+1)))) (λκ19=>
     (ix v1 s15).bind λv21=>
     if ((v21.Val==a1)&&(a1 != 0)) then
      κ19 (r8 (s14+1))
     else
     κ19 s14)
   else
   some (.inr s14)) (0,0)).bind λe13=>
  κ11 e13)
def b1f(a0:o0)(a1:List o8)(a2:Int):Option Int:=
 (b9D a0 a2).bind λv1=>
 (b1e a1 a2).bind λv2=>
 some (r8 (v1+v2))
def b3G(a0:o0)(a1:List o8)(a2:Int):Option Int:=
 (E0 a0 a2).bind λv1=>
 if (v1.2 != 0) then
  some 0
 else
 (b1f a0 a1 a2).bind λv2=>
 some (r8 (v1.1.Strong-v2))
def b0j(a0:g7):Option (List Int):=
 (a1A a0.S).bind λv1=>
 jn (λ(j16:List Int)=>
  some j16) (λκ15=>
  (lp (S:=Int × (List Int)) (E:=(List Int)) (λ((s18,s19):Int × (List Int))=>
   if (decide (s18<(v1.length:Int))) then
    jn (λ(j26:List Int)=>
     some (.inl (r8 (s18+1),j26))) (λκ25=>
     (ix v1 s18).bind λv27=>
     (E0 a0.S v27).bind λv28=>
     if (v28.1.Strong==0) then
      (app 8 s19 [v27]).bind λv29=>
      κ25 v29
     else
     κ25 s19)
   else
   some (.inr s19)) (0,[])).bind λe17=>
  κ15 e17)
def a19(a0:List Int):Option (M5 × Int):=
 if ((a0.length:Int) != 4) then
  some ((⟨0,0,0,0⟩:M5),14)
 else
 (ix a0 0).bind λv1=>
 (ix a0 1).bind λv2=>
 (ix a0 2).bind λv3=>
 (ix a0 3).bind λv4=>
 (a05 (⟨v1,v2,v3,v4⟩:M5)).bind λv5=>
 if (v5 != 0) then
  some ((⟨0,0,0,0⟩:M5),v5)
 else
 some ((⟨v1,v2,v3,v4⟩:M5),0)
def b3F(a0:o0)(a1:List o8):Option (List Int):=
 (a1A a0).bind λv1=>
 jn (λ(j18:List Int)=>
  some j18) (λκ17=>
  (lp (S:=Int × (List Int)) (E:=(List Int)) (λ((s20,s21):Int × (List Int))=>
   if (decide (s20<(v1.length:Int))) then
    jn (λ(j29:List Int)=>
     some (.inl (r8 (s20+1),j29))) (λκ28=>
     (ix v1 s20).bind λv30=>
     (b3G a0 a1 v30).bind λv31=>
     (z6 ((decide (v31 > 0))==false) false (b1g a0 v30)).bind λv32=>
     if ((decide (v31 > 0))||v32) then
      (app 8 s21 [v30]).bind λv33=>
      κ28 v33
     else
     κ28 s21)
   else
   some (.inr s21)) (0,[])).bind λe19=>
  κ17 e19)
def a7W(a0:List Int)(a1:Int):Option Bool:=
 (a3n a0 a1).bind λv1=>
 some (decide (v1 > 0))
def a7X(a0:List Int)(a1:List Int)(a2:Bool):Option (List Int):=
 jn (λ(j15:List Int)=>
  some j15) (λκ14=>
  (lp (S:=Int × (List Int)) (E:=(List Int)) (λ((s17,s18):Int × (List Int))=>
   if (decide (s17<(a0.length:Int))) then
    jn (λ(j25:List Int)=>
     some (.inl (r8 (s17+1),j25))) (λκ24=>
     (ix a0 s17).bind λv26=>
     (a7W a1 v26).bind λv27=>
     if (v27==a2) then
      (app 8 s18 [v26]).bind λv28=>
      κ24 v28
     else
     κ24 s18)
   else
   some (.inr s18)) (0,[])).bind λe16=>
  κ14 e16)
def a7f(a0:o0)(a1:List Int):Option (List Int):=
 (a1A a0).bind λv1=>
 (a7X v1 a1 true).bind λv2=>
 jn (λ(j51:List Int)=>
  some j51) (λκ50=>
  (lp (S:=(List Int) × Int) (E:=(List Int)) (λ((s53,s54):(List Int) × Int)=>
   if (decide (s54<(v1.length:Int))) then
    jn (λ(j78:List Int)=>
     some (.inl (j78,r8 (s54+1)))) (λκ77=>
     (app 8 [] s53).bind λv79=>
     jn (λ(j89:List Int)=>
      (a7X v1 j89 true).bind λv90=>
      κ77 v90) (λκ88=>
      (lp (S:=Int × (List Int)) (E:=(List Int)) (λ((s92,s93):Int × (List Int))=>
       if (decide (s92<(s53.length:Int))) then
        (ix s53 s92).bind λv96=>
        (b2t a0 v96).bind λv97=>
        (app 8 s93 v97).bind λv98=>
        some (.inl (r8 (s92+1),v98))
       else
       some (.inr s93)) (0,v79)).bind λe91=>
      κ88 e91))
   else
   some (.inr s53)) (v2,0)).bind λe52=>
  κ50 e52)
def a7Z(a0:o0)(a1:Int):Option Bool:=
 (E0 a0 a1).bind λv1=>
 some (v1.2==0)
def b0h(a0:o0)(a1:List o8)(a2:List Int):Option (List Int):=
 (a7Y a1).bind λv1=>
 jn (λ(j20:List Int)=>
  some j20) (λκ19=>
  (lp (S:=Int × (List Int)) (E:=(List Int)) (λ((s22,s23):Int × (List Int))=>
   if (decide (s22<(v1.length:Int))) then
    jn (λ(j32:List Int)=>
     some (.inl (r8 (s22+1),j32))) (λκ31=>
     (ix v1 s22).bind λv33=>
     (a7Z a0 v33.Key).bind λv34=>
     (z6 (v34==true) false (a7W a2 v33.Key)).bind λv35=>
     (z6 ((v34&&v35)==true) false (a7Z a0 v33.Val)).bind λv36=>
     if ((v34&&v35)&&v36) then
      (app 8 s23 [v33.Val]).bind λv37=>
      κ31 v37
     else
     κ31 s23)
   else
   some (.inr s23)) (0,[])).bind λe21=>
  κ19 e21)
def a9h(a0:o0)(a1:List o8)(a2:List Int):Option ((List Int) × Int):=
 (a7f a0 a2).bind λv1=>
 jn (λ(j13:List Int)=>
  some (j13,30)) (λκ12=>
  (lp (S:=(List Int) × Int) (E:=((List Int) × Int) ⊕ (List Int)) (λ((s15,s16):(List Int) × Int)=>
   if (decide (s16<30)) then
    (app 8 [] s15).bind λv19=>
    (b0h a0 a1 s15).bind λv20=>
    (app 8 v19 v20).bind λv21=>
    (a7f a0 v21).bind λv22=>
    (b3z v22 s15).bind λv23=>
    if v23 then
     some (.inr (.inl (s15,s16)))
    else
    some (.inl (v22,r8 (s16+1)))
   else
   some (.inr (.inr s15))) (v1,0)).bind λe14=>
  match e14 with
  | .inl w=>some w
  | .inr w=>κ12 w)
def b3D(a0:o0)(a1:List o8)(a2:List Int):Option (List Int):=
 (a9h a0 a1 a2).bind λv1=>
 some v1.1
def b3E(a0:o0)(a1:List o8)(a2:List Int):Option (List Int):=
 (b3D a0 a1 a2).bind λv1=>
 (a1A a0).bind λv2=>
 jn (λ(j17:List Int)=>
  some j17) (λκ16=>
  (lp (S:=Int × (List Int)) (E:=(List Int)) (λ((s19,s20):Int × (List Int))=>
   if (decide (s19<(v2.length:Int))) then
    jn (λ(j27:List Int)=>
     some (.inl (r8 (s19+1),j27))) (λκ26=>
     (ix v2 s19).bind λv28=>
     (a7W v1 v28).bind λv29=>
     if (!v29) then
      (app 8 s20 [v28]).bind λv30=>
      κ26 v30
     else
     κ26 s20)
   else
   some (.inr s20)) (0,[])).bind λe18=>
  κ16 e18)
def a7h(a0:o0)(a1:List o8):Option (List Int):=
 (b3F a0 a1).bind λv1=>
 (b3E a0 a1 v1).bind λv2=>
 some v2
def a4r(a0:g7):Option (List Int):=
 (a7h a0.S a0.T).bind λv1=>
 some v1
def a72(a0:g7)(a1:Int):Option Bool:=
 (E0 a0.S a1).bind λv1=>
 (a3o a0 a1).bind λv2=>
 some ((v2&&(decide (v1.1.Prog≥0)))&&(!v1.1.Started))
def b1i(a0:g7):Option (List Int):=
 (a4r a0).bind λv1=>
 jn (λ(j16:List Int)=>
  some j16) (λκ15=>
  (lp (S:=Int × (List Int)) (E:=(List Int)) (λ((s18,s19):Int × (List Int))=>
   if (decide (s18<(v1.length:Int))) then
    jn (λ(j26:List Int)=>
     some (.inl (r8 (s18+1),j26))) (λκ25=>
     (ix v1 s18).bind λv27=>
     (a72 a0 v27).bind λv28=>
     if v28 then
      (app 8 s19 [v27]).bind λv29=>
      κ25 v29
     else
     κ25 s19)
   else
   some (.inr s19)) (0,[])).bind λe17=>
  κ15 e17)
def a2F(a0:o0)(a1:Int)(a2:L3):Option o0:=
 (app 80 [] a0.a8).bind λv1=>
 (ix v1 a1).bind λv2=>
 some (⟨(v1.set (a1).toNat (⟨v2.State,v2.Gen,a2⟩:F8)),a0.Last,a0.Serial⟩:o0)
def L4(a0:o0)(a1:Int)(a2:L3):Option (o0 × Int):=
 (R2 a0).bind λv1=>
 (N9 v1 a1).bind λv2=>
 if (v2.2 != 0) then
  some (a0,v2.2)
 else
 (a2F a0 v2.1 a2).bind λv3=>
 some (v3,0)
def a5Z(a0:C3)(a1:O0):Option (C3 × Int):=
 if (decide ((a0.L.length:Int)≥a0.Cap)) then
  some (a0,4)
 else
 (app 24 [] a0.L).bind λv1=>
 (app 24 v1 [a1]).bind λv2=>
 some ((⟨v2,a0.Cap⟩:C3),0)
def b2r(a0:Int):Option Int:=
 (a18 a0).bind λv1=>
 if v1 then
  some 12
 else
 if (decide (a0<0)) then
  some 1
 else
 some (r8 (a0+1))
def a51(a0:g7)(a1:Int)(a2:Int):Option g7:=
 (E0 a0.S a1).bind λv1=>
 if (v1.2 != 0) then
  some a0
 else
 (L4 a0.S a1 (⟨v1.1.Serial,a2,v1.1.Weak,v1.1.Prog,v1.1.Started,v1.1.Fields⟩:L3)).bind λv2=>
 some (⟨v2.1,a0.Roots,a0.a8,a0.T,a0.Q⟩:g7)
def a0T(a0:g7)(a1:Int):Option g7:=
 (E0 a0.S a1).bind λv1=>
 (b2r v1.1.Strong).bind λv2=>
 (a51 a0 a1 v2).bind λv3=>
 some v3
def a3N(a0:g7)(a1:Int):Option g7:=
 (a72 a0 a1).bind λv1=>
 if (!v1) then
  some a0
 else
 (E0 a0.S a1).bind λv2=>
 (L4 a0.S a1 (⟨v2.1.Serial,v2.1.Strong,v2.1.Weak,v2.1.Prog,true,v2.1.Fields⟩:L3)).bind λv3=>
 (a5Z a0.Q (⟨1,a1,v2.1.Prog⟩:O0)).bind λv4=>
 (a0T (⟨v3.1,a0.Roots,a0.a8,a0.T,v4.1⟩:g7) a1).bind λv5=>
 some v5
def b0k(a0:g7)(a1:List Int):Option (List Int):=
 jn (λ(j17:List Int)=>
  some j17) (λκ16=>
  (lp (S:=Int × (List Int)) (E:=(List Int)) (λ((s19,s20):Int × (List Int))=>
   if (decide (s19<(a1.length:Int))) then
    jn (λ(j28:List Int)=>
     some (.inl (r8 (s19+1),j28))) (λκ27=>
     (ix a1 s19).bind λv29=>
     (a3o a0 v29).bind λv30=>
     (z6 (v30==true) false (a7W s20 v29)).bind λv31=>
     if (v30&&(!v31)) then
      (app 8 s20 [v29]).bind λv32=>
      κ27 v32
     else
     κ27 s20)
   else
   some (.inr s20)) (0,[])).bind λe18=>
  κ16 e18)
def b1d(a0:List E5)(a1:List Int):Option ((List E5) × (List Int)):=
 jn (λ((j18,j19):(List Int) × (List E5))=>
  some (j19,j18)) (λκ17=>
  (lp (S:=Int × (List E5) × (List Int)) (E:=((List Int) × (List E5))) (λ((s22,s23,s24):Int × (List E5) × (List Int))=>
   if (decide (s22<(a0.length:Int))) then
    (ix a0 s22).bind λv27=>
    jn (λ((j31,j32):Bool × (List Int))=>
     (app 24 s23 [(⟨v27.Target,j31,v27.Call⟩:E5)]).bind λv34=>
     some (.inl (r8 (s22+1),v34,j32))) (λκ30=>
     (z6 (v27.Intact==true) 0 (a3n a1 v27.Target)).bind λv35=>
     if (v27.Intact&&(decide (v35 > 0))) then
      if (decide (v27.Call≥0)) then
       (app 8 s24 [s22]).bind λv36=>
       κ30 (false,v36)
      else
      κ30 (false,s24)
     else
     κ30 (v27.Intact,s24))
   else
   some (.inr (s24,s23))) (0,[],[])).bind λe21=>
  κ17 e21)
def a2H(a0:List o8)(a1:Int)(a2:o8):Option (List o8):=
 (app 24 [] a0).bind λv1=>
 (ix v1 a1).bind λv2=>
 some (v1.set (a1).toNat a2)
def a7g(a0:List o8)(a1:Int):Option ((List o8) × Int × Int):=
 (a2G a0 a1).bind λv1=>
 if (decide (v1<0)) then
  some (a0,0,9)
 else
 (a2H a0 v1 (⟨2,0,0⟩:o8)).bind λv2=>
 (ix a0 v1).bind λv3=>
 some (v2,v3.Val,0)
def a4q(a0:List o8)(a1:List Int):Option ((List o8) × (List Int)):=
 jn (λ((j18,j19):(List o8) × (List Int))=>
  some (j18,j19)) (λκ17=>
  (lp (S:=(List o8) × Int × (List Int)) (E:=((List o8) × (List Int))) (λ((s22,s23,s24):(List o8) × Int × (List Int))=>
   if (decide (s23<(a1.length:Int))) then
    jn (λ((j31,j32):(List o8) × (List Int))=>
     some (.inl (j31,r8 (s23+1),j32))) (λκ30=>
     (ix a1 s23).bind λv34=>
     (a7g s22 v34).bind λv35=>
     if (v35.2.2==0) then
      (app 8 s24 [v35.2.1]).bind λv36=>
      κ30 (v35.1,v36)
     else
     κ30 (s22,s24))
   else
   some (.inr (s22,s24))) (a0,0,[])).bind λe21=>
  κ17 e21)
def a0z(a0:E4)(a1:Int)(a2:K4):Option E4:=
 (app 24 [] a0.a8).bind λv1=>
 (ix v1 a1).bind λv2=>
 some (⟨(v1.set (a1).toNat a2),a0.Last⟩:E4)
def b77(a0:E4)(a1:Int):Option (E4 × Int):=
 (b2q a0 a1).bind λv1=>
 if (v1.2 != 0) then
  some (a0,v1.2)
 else
 (N9 a0 a1).bind λv2=>
 (ix a0.a8 v2.1).bind λv3=>
 (a0z a0 v2.1 (⟨2,v3.Gen,v3.Val⟩:K4)).bind λv4=>
 some (v4,0)
def a0S(a0:o0)(a1:E4):Option o0:=
 jn (λ(j10:List F8)=>
  some (⟨j10,a0.Last,a0.Serial⟩:o0)) (λκ9=>
  (lp (S:=Int × (List F8)) (E:=(List F8)) (λ((s12,s13):Int × (List F8))=>
   if (decide (s12<(a0.a8.length:Int))) then
    (ix a1.a8 s12).bind λv16=>
    (ix a0.a8 s12).bind λv17=>
    (app 80 s13 [(⟨v16.State,v16.Gen,v17.Val⟩:F8)]).bind λv18=>
    some (.inl (r8 (s12+1),v18))
   else
   some (.inr s13)) (0,[])).bind λe11=>
  κ9 e11)
def b3B(a0:o0)(a1:Int):Option o0:=
 (R2 a0).bind λv1=>
 (b77 v1 a1).bind λv2=>
 (a0S a0 v2.1).bind λv3=>
 some v3
def b76(a0:E4)(a1:Int):Option (E4 × Int):=
 (N9 a0 a1).bind λv1=>
 if (v1.2 != 0) then
  some (a0,v1.2)
 else
 (ix a0.a8 v1.1).bind λv2=>
 if (decide (v2.Gen≥a0.Last)) then
  (a0z a0 v1.1 (⟨3,v2.Gen,0⟩:K4)).bind λv3=>
  some (v3,0)
 else
 (a0z a0 v1.1 (⟨0,r8 (v2.Gen+1),0⟩:K4)).bind λv4=>
 some (v4,0)
def b0e(a0:o0)(a1:Int):Option o0:=
 (R2 a0).bind λv1=>
 (b76 v1 a1).bind λv2=>
 if (v2.2 != 0) then
  some a0
 else
 (a0S a0 v2.1).bind λv3=>
 (a7c a1).bind λv4=>
 (a2F v3 v4 (⟨0,0,0,0,false,[]⟩:L3)).bind λv5=>
 some v5
def a7k(a0:g7)(a1:Int):Option g7:=
 (E0 a0.S a1).bind λv1=>
 (L4 a0.S a1 (⟨v1.1.Serial,0,v1.1.Weak,v1.1.Prog,v1.1.Started,[]⟩:L3)).bind λv2=>
 (b3B v2.1 a1).bind λv3=>
 if (v1.1.Weak==0) then
  (b0e v3 a1).bind λv4=>
  some (⟨v4,a0.Roots,a0.a8,a0.T,a0.Q⟩:g7)
 else
 some (⟨v3,a0.Roots,a0.a8,a0.T,a0.Q⟩:g7)
def b6q(a0:Int):Option (Int × Int):=
 (a18 a0).bind λv1=>
 if v1 then
  some (12,0)
 else
 if (decide (a0<1)) then
  some (0,11)
 else
 some (r8 (a0-1),0)
def D3(a0:g7)(a1:Int):Option g7:=
 (E0 a0.S a1).bind λv1=>
 (b6q v1.1.Strong).bind λv2=>
 if (v2.2 != 0) then
  some a0
 else
 (a51 a0 a1 v2.1).bind λv3=>
 some v3
def a7j(a0:g7)(a1:List Int):Option g7:=
 (b0k a0 a1).bind λv1=>
 (b1d a0.a8 v1).bind λv2=>
 jn (λ(j12:C3)=>
  jn (λ(j23:List Int)=>
   (a4q a0.T v1).bind λv24=>
   (app 8 j23 v24.2).bind λv25=>
   jn (λ(j34:g7)=>
    jn (λ(j43:g7)=>
     some j43) (λκ42=>
     (lp (S:=Int × g7) (E:=g7) (λ((s45,s46):Int × g7)=>
      if (decide (s45<(v25.length:Int))) then
       (ix v25 s45).bind λv49=>
       (D3 s46 v49).bind λv50=>
       some (.inl (r8 (s45+1),v50))
      else
      some (.inr s46)) (0,j34)).bind λe44=>
     κ42 e44)) (λκ33=>
    (lp (S:=Int × g7) (E:=g7) (λ((s52,s53):Int × g7)=>
     if (decide (s52<(v1.length:Int))) then
      (ix v1 s52).bind λv56=>
      (a7k s53 v56).bind λv57=>
      some (.inl (r8 (s52+1),v57))
     else
     some (.inr s53)) (0,(⟨a0.S,a0.Roots,v2.1,v24.1,j12⟩:g7))).bind λe51=>
    κ33 e51)) (λκ22=>
   (lp (S:=Int × (List Int)) (E:=(List Int)) (λ((s59,s60):Int × (List Int))=>
    if (decide (s59<(v1.length:Int))) then
     (ix v1 s59).bind λv63=>
     (E0 a0.S v63).bind λv64=>
     (a3l v64.1.Fields).bind λv65=>
     (app 8 s60 v65).bind λv66=>
     some (.inl (r8 (s59+1),v66))
    else
    some (.inr s60)) (0,[])).bind λe58=>
   κ22 e58)) (λκ11=>
  (lp (S:=Int × C3) (E:=C3) (λ((s68,s69):Int × C3)=>
   if (decide (s68<(v2.2.length:Int))) then
    (ix v2.2 s68).bind λv72=>
    (ix v2.1 v72).bind λv73=>
    (a5Z s69 (⟨2,v72,v73.Call⟩:O0)).bind λv74=>
    some (.inl (r8 (s68+1),v74.1))
   else
   some (.inr s69)) (0,a0.Q)).bind λe67=>
  κ11 e67)
def M4(a0:g7):Option g7:=
 jn (λ(j21:g7)=>
  some j21) (λκ20=>
  (lp (S:=Int × g7) (E:=g7 ⊕ g7) (λ((s23,s24):Int × g7)=>
   if (decide (s23<100)) then
    jn (λ(j34:g7)=>
     some (.inl (r8 (s23+1),j34))) (λκ33=>
     (b0j s24).bind λv35=>
     if ((v35.length:Int)==0) then
      some (.inr (.inl s24))
     else
     (ix v35 0).bind λv36=>
     (a72 s24 v36).bind λv37=>
     if v37 then
      (a3N s24 v36).bind λv38=>
      κ33 v38
     else
     (cut v35 0 1).bind λv39=>
     (a7j s24 v39).bind λv40=>
     κ33 v40)
   else
   some (.inr (.inr s24))) (0,a0)).bind λe22=>
  match e22 with
  | .inl w=>some w
  | .inr w=>κ20 w)
def a7l(a0:g7):Option (g7 × Int × Int):=
 (b1i a0).bind λv1=>
 jn (λ(_:Unit)=>
  (a4r a0).bind λv20=>
  (a7j a0 v20).bind λv21=>
  (M4 v21).bind λv22=>
  (a1A a0.S).bind λv23=>
  (a1A v22.S).bind λv24=>
  some (v22,0,r8 ((v23.length:Int)-(v24.length:Int)))) (λκ18=>
  if (decide ((v1.length:Int) > 0)) then
   jn (λ(j33:g7)=>
    some (j33,(v1.length:Int),0)) (λκ32=>
    (lp (S:=Int × g7) (E:=g7) (λ((s35,s36):Int × g7)=>
     if (decide (s35<(v1.length:Int))) then
      (ix v1 s35).bind λv39=>
      (a3N s36 v39).bind λv40=>
      some (.inl (r8 (s35+1),v40))
     else
     some (.inr s36)) (0,a0)).bind λe34=>
    κ32 e34)
  else
  κ18 ())
def b1j(a0:g7):Option Bool:=
 some ((a0.Q.L.length:Int)==0)
def a7n(a0:List (List M5))(a1:Int):Option (List M5):=
 if ((decide (a1<0))||(decide (a1≥(a0.length:Int)))) then
  some []
 else
 (ix a0 a1).bind λv1=>
 some v1
def a7m(a0:List (List M5))(a1:O0):Option Int:=
 (a7n a0 a1.Prog).bind λv1=>
 some (r8 (1+(v1.length:Int)))
def b3H(a0:C3):Option (C3 × O0 × Int):=
 if ((a0.L.length:Int)==0) then
  some (a0,(⟨0,0,0⟩:O0),10)
 else
 (cut a0.L 1 (a0.L.length:Int)).bind λv1=>
 (ix a0.L 0).bind λv2=>
 some ((⟨v1,a0.Cap⟩:C3),v2,0)
def U0(a0:g7)(a1:Int)(a2:Int):Option (g7 × Int):=
 if ((decide (a1<0))||(decide (a1 > 5))) then
  some (a0,6)
 else
 (a3p a0 a2).bind λv1=>
 if (!v1) then
  some (a0,3)
 else
 (ix a0.Roots a1).bind λv2=>
 (a0T a0 a2).bind λv3=>
 (app 8 [] a0.Roots).bind λv4=>
 (ix v4 a1).bind λv5=>
 (D3 (⟨v3.S,(v4.set (a1).toNat a2),v3.a8,v3.T,v3.Q⟩:g7) v2).bind λv6=>
 some (v6,0)
def b6t(a0:List E5)(a1:Int)(a2:Int)(a3:Int):Option ((List E5) × Int × Int):=
 if ((decide (a1<0))||(decide (a1≥(a0.length:Int)))) then
  some (a0,0,7)
 else
 (app 24 [] a0).bind λv1=>
 (ix v1 a1).bind λv2=>
 (ix a0 a1).bind λv3=>
 some ((v1.set (a1).toNat (⟨a2,(a2 != 0),a3⟩:E5)),v3.Target,0)
def a04(a0:g7)(a1:Int):Option g7:=
 (R2 a0.S).bind λv1=>
 (N9 v1 a1).bind λv2=>
 if (v2.2 != 0) then
  some a0
 else
 (ix a0.S.a8 v2.1).bind λv3=>
 (L4 a0.S a1 (⟨v3.Val.Serial,v3.Val.Strong,r8 (v3.Val.Weak-1),v3.Val.Prog,v3.Val.Started,v3.Val.Fields⟩:L3)).bind λv4=>
 (ix v4.1.a8 v2.1).bind λv5=>
 if ((v5.State==2)&&(decide ((r8 (v3.Val.Weak-1))<1))) then
  (b0e v4.1 a1).bind λv6=>
  some (⟨v6,a0.Roots,a0.a8,a0.T,a0.Q⟩:g7)
 else
 some (⟨v4.1,a0.Roots,a0.a8,a0.T,a0.Q⟩:g7)
def a3M(a0:g7)(a1:Int)(a2:Int)(a3:Int):Option (g7 × Int):=
 (z6 (((decide (a1<0))||(decide (a1 > 5)))==false) false (a71 a0.Q a1)).bind λv1=>
 if (((decide (a1<0))||(decide (a1 > 5)))||v1) then
  some (a0,7)
 else
 (a3p a0 a2).bind λv2=>
 if (!v2) then
  some (a0,3)
 else
 (b6t a0.a8 a1 a2 a3).bind λv3=>
 if (a2 != 0) then
  (E0 a0.S a2).bind λv4=>
  (L4 a0.S a2 (⟨v4.1.Serial,v4.1.Strong,r8 (v4.1.Weak+1),v4.1.Prog,v4.1.Started,v4.1.Fields⟩:L3)).bind λv5=>
  (a04 (⟨v5.1,a0.Roots,v3.1,a0.T,a0.Q⟩:g7) v3.2.1).bind λv6=>
  some (v6,0)
 else
 (a04 (⟨a0.S,a0.Roots,v3.1,a0.T,a0.Q⟩:g7) v3.2.1).bind λv7=>
 some (v7,0)
def U7(a0:g7)(a1:Int):Option (Int × Int):=
 (ix a0.Roots a1).bind λv1=>
 if (v1==0) then
  some (0,2)
 else
 some (v1,0)
def a47(a0:g7)(a1:Int):Option Int:=
 if (decide (a1<0)) then
  some 0
 else
 (ix a0.Roots a1).bind λv1=>
 some v1
def b3A(a0:List Int)(a1:Int):Option (Int × Int):=
 if ((decide (a1<0))||(decide (a1≥(a0.length:Int)))) then
  some (0,5)
 else
 (ix a0 a1).bind λv1=>
 some (v1,0)
def a3m(a0:o0)(a1:Int)(a2:Int):Option (Int × Int):=
 (E0 a0 a1).bind λv1=>
 if (v1.2 != 0) then
  some (0,v1.2)
 else
 (b3A v1.1.Fields a2).bind λv2=>
 some (v2.1,v2.2)
def b78(a0:List Int)(a1:Int)(a2:Int):Option ((List Int) × Int):=
 if ((decide (a1<0))||(decide (a1≥(a0.length:Int)))) then
  some (a0,5)
 else
 (app 8 [] a0).bind λv1=>
 (ix v1 a1).bind λv2=>
 some ((v1.set (a1).toNat a2),0)
def b6s(a0:o0)(a1:Int)(a2:Int)(a3:Int):Option (o0 × Int):=
 (E0 a0 a1).bind λv1=>
 if (v1.2 != 0) then
  some (a0,v1.2)
 else
 (b78 v1.1.Fields a2 a3).bind λv2=>
 if (v2.2 != 0) then
  some (a0,v2.2)
 else
 (L4 a0 a1 (⟨v1.1.Serial,v1.1.Strong,v1.1.Weak,v1.1.Prog,v1.1.Started,v2.1⟩:L3)).bind λv3=>
 some (v3.1,v3.2)
def a44(a0:g7)(a1:Int)(a2:Int)(a3:Int):Option (g7 × Int):=
 (a3m a0.S a1 a2).bind λv1=>
 if (v1.2 != 0) then
  some (a0,v1.2)
 else
 (a3p a0 a3).bind λv2=>
 if (!v2) then
  some (a0,3)
 else
 (a0T a0 a3).bind λv3=>
 (b6s v3.S a1 a2 a3).bind λv4=>
 (D3 (⟨v4.1,v3.Roots,v3.a8,v3.T,v3.Q⟩:g7) v1.1).bind λv5=>
 some (v5,0)
def b6u(a0:List o8)(a1:Int)(a2:Int):Option ((List o8) × Int):=
 (a2G a0 a1).bind λv1=>
 if (decide (v1≥0)) then
  (a2H a0 v1 (⟨1,a1,a2⟩:o8)).bind λv2=>
  some (v2,0)
 else
 (b79 (a0.length:Int) a1).bind λv3=>
 jn (λ(_:Unit)=>
  some (a0,8)) (λκ12=>
  (lp (S:=Int × Int) (E:=((List o8) × Int) ⊕ Unit) (λ((s15,s16):Int × Int)=>
   if (decide (s16<(a0.length:Int))) then
    (ix a0 s15).bind λv19=>
    if (v19.State != 1) then
     (a2H a0 s15 (⟨1,a1,a2⟩:o8)).bind λv20=>
     some (.inr (.inl (v20,0)))
    else
    (rem (r8 (s15+1)) (a0.length:Int)).bind λv21=>
    some (.inl (v21,r8 (s16+1)))
   else
   some (.inr (.inr ()))) (v3,0)).bind λe14=>
  match e14 with
  | .inl w=>some w
  | .inr w=>κ12 w)
def b6v(a0:List o8)(a1:Int)(a2:Int):Option ((List o8) × Int × Int):=
 if (a1==0) then
  some (a0,0,2)
 else
 (b0g a0 a1).bind λv1=>
 if (a2==0) then
  (a7g a0 a1).bind λv2=>
  some (v2.1,v1.1,0)
 else
 (b6u a0 a1 a2).bind λv3=>
 if (v3.2 != 0) then
  some (a0,0,v3.2)
 else
 some (v3.1,v1.1,0)
def a7i(a0:g7)(a1:Int)(a2:Int):Option (g7 × Int):=
 if (a1==0) then
  some (a0,2)
 else
 (a3o a0 a1).bind λv1=>
 (z6 ((!v1)==false) false (a3p a0 a2)).bind λv2=>
 if ((!v1)||(!v2)) then
  some (a0,3)
 else
 (b6v a0.T a1 a2).bind λv3=>
 if (v3.2.2 != 0) then
  some (a0,v3.2.2)
 else
 (a0T a0 a2).bind λv4=>
 (D3 (⟨v4.S,v4.Roots,v4.a8,v3.1,v4.Q⟩:g7) v3.2.1).bind λv5=>
 some (v5,0)
def a06(a0:g7)(a1:M5):Option (g7 × Int × Int):=
 if ((a1.Kind==6)&&(decide (a1.B<0))) then
  (a3M a0 a1.A 0 a1.C).bind λv1=>
  some (v1.1,0,v1.2)
 else
 jn (λ(j3:Int)=>
  (U7 a0 j3).bind λv4=>
  if (v4.2 != 0) then
   some (a0,0,v4.2)
  else
  if (a1.Kind==5) then
   (a47 a0 a1.C).bind λv5=>
   (a44 a0 v4.1 a1.B v5).bind λv6=>
   some (v6.1,v5,v6.2)
  else
  if (a1.Kind==6) then
   (a3M a0 a1.A v4.1 a1.C).bind λv7=>
   some (v7.1,v4.1,v7.2)
  else
  (a47 a0 a1.B).bind λv8=>
  (a7i a0 v4.1 v8).bind λv9=>
  some (v9.1,v8,v9.2)) (λκ2=>
  if (a1.Kind==6) then
   κ2 a1.B
  else
  κ2 a1.A)
def a3O(a0:g7)(a1:Int):Option Int:=
 (E0 a0.S a1).bind λv1=>
 some v1.1.Serial
def b2s(a0:Int):Option ((List Int) × Int):=
 if ((decide (a0<0))||(decide (a0 > 4))) then
  some ([],1)
 else
 (mk 8 a0 (0:Int)).bind λv1=>
 some (v1,0)
def a7e(a0:E4)(a1:Int):Option (E4 × Int × Int):=
 jn (λ(_:Unit)=>
  some (a0,0,4)) (λκ7=>
  (lp (S:=Int) (E:=(E4 × Int × Int) ⊕ Unit) (λ(s10:Int)=>
   if (decide (s10<(a0.a8.length:Int))) then
    (ix a0.a8 s10).bind λv12=>
    if (v12.State==0) then
     (a0z a0 s10 (⟨1,v12.Gen,a1⟩:K4)).bind λv13=>
     (a43 s10 v12.Gen).bind λv14=>
     some (.inr (.inl (v13,v14,0)))
    else
    some (.inl (r8 (s10+1)))
   else
   some (.inr (.inr ()))) 0).bind λe9=>
  match e9 with
  | .inl w=>some w
  | .inr w=>κ7 w)
def a2E(a0:o0)(a1:Int)(a2:Int):Option (o0 × Int × Int):=
 (b2s a1).bind λv1=>
 if (v1.2 != 0) then
  some (a0,0,v1.2)
 else
 if ((decide (a2<(-1)))||(decide (a2 > 5))) then
  some (a0,0,13)
 else
 (R2 a0).bind λv2=>
 (a7e v2 0).bind λv3=>
 if (v3.2.2 != 0) then
  some (a0,0,v3.2.2)
 else
 (a0S a0 v3.1).bind λv4=>
 (a7c v3.2.1).bind λv5=>
 (a2F v4 v5 (⟨r8 (a0.Serial+1),0,0,a2,false,v1.1⟩:L3)).bind λv6=>
 some ((⟨v6.a8,v6.Last,r8 (a0.Serial+1)⟩:o0),v3.2.1,0)
def b1h(a0:g7)(a1:Int):Option Int:=
 if ((decide (a1<0))||(decide (a1 > 5))) then
  some 0
 else
 (ix a0.Roots a1).bind λv1=>
 (a3O a0 v1).bind λv2=>
 some v2
def b0f(a0:List E5)(a1:Int):Option (Int × Int):=
 if ((decide (a1<0))||(decide (a1≥(a0.length:Int)))) then
  some (0,7)
 else
 (ix a0 a1).bind λv1=>
 if ((v1.Target==0)||(!v1.Intact)) then
  some (0,9)
 else
 some (v1.Target,0)
def b2u(a0:List o8)(a1:Int):Option (Int × Int):=
 (b0g a0 a1).bind λv1=>
 some (v1.1,v1.2)
def a2a(a0:g7)(a1:M5):Option (Int × Int):=
 if (a1.Kind==2) then
  (ix a0.Roots a1.B).bind λv1=>
  some (v1,0)
 else
 if (a1.Kind==4) then
  (U7 a0 a1.B).bind λv2=>
  if (v2.2 != 0) then
   some (0,v2.2)
  else
  (a3m a0.S v2.1 a1.C).bind λv3=>
  some (v3.1,v3.2)
 else
 if (a1.Kind==7) then
  (b0f a0.a8 a1.B).bind λv4=>
  some (v4.1,v4.2)
 else
 if (a1.Kind==9) then
  (U7 a0 a1.B).bind λv5=>
  if (v5.2 != 0) then
   some (0,v5.2)
  else
  (b2u a0.T v5.1).bind λv6=>
  some (v6.1,v6.2)
 else
 some (0,0)
def A9(a0:g7)(a1:M5):Option (g7 × Int × Int):=
 (a05 a1).bind λv1=>
 if (v1 != 0) then
  some (a0,0,v1)
 else
 (U6 a1).bind λv2=>
 if (!v2) then
  some (a0,0,14)
 else
 if (a1.Kind==10) then
  (ix a0.Roots a1.A).bind λv3=>
  (ix a0.Roots a1.B).bind λv4=>
  if (v3==v4) then
   some (a0,1,0)
  else
  some (a0,0,0)
 else
 jn (λ(j6:Bool)=>
  if j6 then
   (a06 a0 a1).bind λv7=>
   if (v7.2.2 != 0) then
    some (a0,0,v7.2.2)
   else
   (M4 v7.1).bind λv8=>
   (a3O a0 v7.2.1).bind λv9=>
   some (v8,v9,0)
  else
  if (a1.Kind==1) then
   (a2E a0.S a1.B a1.C).bind λv10=>
   if (v10.2.2 != 0) then
    some (a0,0,v10.2.2)
   else
   (U0 (⟨v10.1,a0.Roots,a0.a8,a0.T,a0.Q⟩:g7) a1.A v10.2.1).bind λv11=>
   (M4 v11.1).bind λv12=>
   (b1h v12 a1.A).bind λv13=>
   some (v12,v13,0)
  else
  (a2a a0 a1).bind λv14=>
  if (v14.2 != 0) then
   some (a0,0,v14.2)
  else
  (U0 a0 a1.A v14.1).bind λv15=>
  (M4 v15.1).bind λv16=>
  (b1h v16 a1.A).bind λv17=>
  some (v16,v17,0)) (λκ5=>
  if (a1.Kind==5) then
   κ5 (a1.Kind==5)
  else
  if (a1.Kind==6) then
   κ5 (a1.Kind==6)
  else
  κ5 (a1.Kind==8))
def b2v(a0:g7)(a1:List M5):Option (g7 × (List Int)):=
 jn (λ((j11,j12):g7 × (List Int))=>
  some (j11,j12)) (λκ10=>
  (lp (S:=Int × g7 × (List Int)) (E:=(g7 × (List Int))) (λ((s15,s16,s17):Int × g7 × (List Int))=>
   if (decide (s15<(a1.length:Int))) then
    (ix a1 s15).bind λv20=>
    (A9 s16 v20).bind λv21=>
    (app 8 s17 [v21.2.1]).bind λv22=>
    some (.inl (r8 (s15+1),v21.1,v22))
   else
   some (.inr (s16,s17))) (0,a0,[])).bind λe14=>
  κ10 e14)
def b3I(a0:g7)(a1:List (List M5)):Option (g7 × O0 × Int):=
 (b3H a0.Q).bind λv1=>
 if (v1.2.2 != 0) then
  some (a0,(⟨0,0,0⟩:O0),v1.2.2)
 else
 jn (λ(j6:g7)=>
  (a7n a1 v1.2.1.Prog).bind λv7=>
  (b2v j6 v7).bind λv8=>
  if (v1.2.1.Kind==1) then
   (U0 v8.1 5 0).bind λv9=>
   (M4 v9.1).bind λv10=>
   some (v10,v1.2.1,0)
  else
  some (v8.1,v1.2.1,0)) (λκ5=>
  if (v1.2.1.Kind==1) then
   (U0 (⟨a0.S,a0.Roots,a0.a8,a0.T,v1.1⟩:g7) 5 v1.2.1.At).bind λv11=>
   (D3 v11.1 v1.2.1.At).bind λv12=>
   (M4 v12).bind λv13=>
   κ5 v13
  else
  κ5 (⟨a0.S,a0.Roots,a0.a8,a0.T,v1.1⟩:g7))
def a74(a0:g7)(a1:List (List M5))(a2:Int):Option (g7 × Int × Int × Int):=
 jn (λ((j12,j13,j14):Int × Int × g7)=>
  some (j14,j13,j12,0)) (λκ11=>
  (lp (S:=Int × Int × g7) (E:=(g7 × Int × Int × Int) ⊕ (Int × Int × g7)) (λ((s17,s18,s19):Int × Int × g7)=>
   (b1j s19).bind λv22=>
   if (!v22) then
    (ix s19.Q.L 0).bind λv23=>
    (a7m a1 v23).bind λv24=>
    if (decide (v24 > s17)) then
     some (.inr (.inl (s19,s18,s17,12)))
    else
    (b3I s19 a1).bind λv25=>
    some (.inl (r8 (s17-v24),r8 (s18+1),v25.1))
   else
   some (.inr (.inr (s17,s18,s19)))) (a2,0,a0)).bind λe16=>
  match e16 with
  | .inl w=>some w
  | .inr w=>κ11 w)
def b9E(a0:C6)(a1:List Int):Option (C6 × H3):=
 (a19 a1).bind λv1=>
 if (v1.2 != 0) then
  some (a0,(⟨0,v1.2⟩:H3))
 else
 if (v1.1.Kind==11) then
  (a7l a0.X).bind λv2=>
  some ((⟨v2.1,a0.Progs⟩:C6),(⟨r8 (v2.2.2-v2.2.1),0⟩:H3))
 else
 if (v1.1.Kind==12) then
  (a74 a0.X a0.Progs v1.1.A).bind λv3=>
  some ((⟨v3.1,a0.Progs⟩:C6),(⟨v3.2.1,v3.2.2.2⟩:H3))
 else
 (A9 a0.X v1.1).bind λv4=>
 some ((⟨v4.1,a0.Progs⟩:C6),(⟨v4.2.1,v4.2.2⟩:H3))
def b2w(a0:C6)(a1:List (List Int)):Option (C6 × (List H3)):=
 jn (λ((j11,j12):C6 × (List H3))=>
  some (j11,j12)) (λκ10=>
  (lp (S:=Int × C6 × (List H3)) (E:=(C6 × (List H3))) (λ((s15,s16,s17):Int × C6 × (List H3))=>
   if (decide (s15<(a1.length:Int))) then
    (ix a1 s15).bind λv20=>
    (b9E s16 v20).bind λv21=>
    (app 16 s17 [v21.2]).bind λv22=>
    some (.inl (r8 (s15+1),v21.1,v22))
   else
   some (.inr (s16,s17))) (0,a0,[])).bind λe14=>
  κ10 e14)
end
end Go.Sh
