/-
 Plain functions: what the functions of the program come to.
-/
import Derived.Test.YtjpgbnlcefhaiaaGreatW24wSh0
import Derived.Test.YtjpgbnlcefhaiaaGreatW24wPwD
import Derived.Test.YtjpgbnlcefhaiaaGreatW24wPwC
set_option linter.unusedVariables false
set_option linter.unusedSimpArgs false
set_option linter.unusedSectionVars false
namespace Go.Sh
set_option maxRecDepth 100000
noncomputable section
structure l4 where
 Serial:Int
 Strong:Int
 Weak:Int
 Prog:Int
 Started:Bool
 Fields:List Int
structure b7 where
 State:Int
 Gen:Int
 Val:l4
structure c7 where
 Target:Int
 Intact:Bool
 Call:Int
structure b8 where
 State:Int
 Key:Int
 Val:Int
structure g7 where
 Kind:Int
 At:Int
 Prog:Int
structure e6 where
 Kind:Int
 A:Int
 B:Int
 C:Int
structure c9 where
 part:Fv
 least:Int
 most:Int
 e:Int
structure c4 where
 a8:List b7
 Last:Int
structure a7 where
 S:c4
 Serial:Int
structure c5 where
 L:List g7
 Cap:Int
structure b6 where
 S:a7
 Roots:List Int
 a8:List c7
 T:List b8
 Q:c5
structure m8 where
 X:b6
 Progs:List (List e6)
structure g8 where
 V:Int
 E:Int
structure o0 where
 x:b6
 o:e6
structure F0 where
 r:Int
 h:Int
structure D5 where
 h:Int
 k:Int
 v:Int
structure E9 where
 t:List b8
structure l6 where
 Key:Int
 Val:Int
structure g6 where
 L:List Int
 Cap:Int
def a1J(a0:e6):Option Bool:=
 some ((decide (a0.Kind≥1))&&(decide (a0.Kind≤10)))
def V3:Option c9:=
 some (⟨(some 114),0,5,6⟩:c9)
def O2:Option c9:=
 some (⟨(some 117),(-1),5,13⟩:c9)
def G1(a0:List c9):Option (List c9):=
 some a0
def V4:Option c9:=
 some (⟨(some 115),0,5,6⟩:c9)
def R9:Option c9:=
 some (⟨(some 117),0,3,5⟩:c9)
def R8:Option c9:=
 some (⟨(some 115),0,3,5⟩:c9)
def K4:Option c9:=
 some (⟨(some 117),(-1),5,6⟩:c9)
def V1:Option c9:=
 some (⟨(some 114),0,5,7⟩:c9)
def K3:Option c9:=
 some (⟨(some 115),(-1),5,6⟩:c9)
def V2:Option c9:=
 some (⟨(some 115),0,5,7⟩:c9)
def a5o:Option (List (Int × (List c9))):=
 (V3).bind λv1=>
 (O2).bind λv2=>
 (G1 [v1,(⟨(some 115),0,4,1⟩:c9),v2]).bind λv3=>
 (V4).bind λv4=>
 (G1 [v1,v4]).bind λv5=>
 (G1 [v1]).bind λv6=>
 (R9).bind λv7=>
 (G1 [v1,v4,v7]).bind λv8=>
 (R8).bind λv9=>
 (K4).bind λv10=>
 (G1 [v1,v9,v10]).bind λv11=>
 (V1).bind λv12=>
 (K3).bind λv13=>
 (G1 [v12,v13,v2]).bind λv14=>
 (V2).bind λv15=>
 (G1 [v1,v15]).bind λv16=>
 (G1 [v1,v13]).bind λv17=>
 (G1 []).bind λv18=>
 (G1 [(⟨(some 114),0,200,12⟩:c9)]).bind λv19=>
 some (n8 (n8 (n8 (n8 (n8 (n8 (n8 (n8 (n8 (n8 (n8 (n8 [] 1 v3) 2 v5) 3 v6) 4 v8) 5 v11) 6 v14) 7 v16) 8 v17) 9 v5) 10 v5) 11 v18) 12 v19)
def a8N(a0:e6):Option Int:=
 some a0.A
def a8O(a0:e6):Option Int:=
 some a0.B
def a8P(a0:e6):Option Int:=
 some a0.C
def a9y(f:Fv)(a0:e6):Option Int:=
 if f=some 114 then a8N a0 else
 if f=some 115 then a8O a0 else
 if f=some 117 then a8P a0 else
 none
def O1(a0:e6):Option Int:=
 (a5o).bind λv1=>
 if (!((y7 v1 a0.Kind).isSome)) then
  some 14
 else
 jn (λ(_:Unit)=>
  some 0) (λκ8=>
  (lp (S:=Int) (E:=Int ⊕ Unit) (λ(s11:Int)=>
   if (decide (s11<(((y7 v1 a0.Kind).getD ([]:List c9)).length:Int))) then
    (ix ((y7 v1 a0.Kind).getD ([]:List c9)) s11).bind λv13=>
    (a9y v13.part a0).bind λv14=>
    if ((decide (v14<v13.least))||(decide (v14 > v13.most))) then
     some (.inr (.inl v13.e))
    else
    some (.inl (s6 (s11+1)))
   else
   some (.inr (.inr ()))) 0).bind λe10=>
  match e10 with
  | .inl w=>some w
  | .inr w=>κ8 w)
def a1K(a0:List (List e6)):Option Bool:=
 if (decide ((a0.length:Int) > 6)) then
  some false
 else
 jn (λ(_:Unit)=>
  some true) (λκ20=>
  (lp (S:=Int) (E:=Bool ⊕ Unit) (λ(s23:Int)=>
   if (decide (s23<(a0.length:Int))) then
    jn (λ(_:Unit)=>
     some (.inl (s6 (s23+1)))) (λκ32=>
     (ix a0 s23).bind λv34=>
     if (decide ((v34.length:Int) > 6)) then
      some (.inr (.inl false))
     else
     (lp (S:=Int) (E:=Bool ⊕ Unit) (λ(s36:Int)=>
      if (decide (s36<(v34.length:Int))) then
       (ix v34 s36).bind λv38=>
       (a1J v38).bind λv39=>
       (y8 ((!v39)==false) 0 (O1 v38)).bind λv40=>
       if ((!v39)||(v40 != 0)) then
        some (.inr (.inl false))
       else
       some (.inl (s6 (s36+1)))
      else
      some (.inr (.inr ()))) 0).bind λe35=>
     match e35 with
     | .inl w=>some (.inr (.inl w))
     | .inr w=>κ32 w)
   else
   some (.inr (.inr ()))) 0).bind λe22=>
  match e22 with
  | .inl w=>some w
  | .inr w=>κ20 w)
def T0(a0:Int)(a1:Int):Option c4:=
 if ((((decide (a0<0))||(decide (a0 > 24)))||(decide (a1<0)))||(decide (a1 > 9))) then
  some (⟨[],0⟩:c4)
 else
 (mk 80 a0 (⟨0,0,⟨0,0,0,0,false,[]⟩⟩:b7)).bind λv1=>
 some (⟨v1,a1⟩:c4)
def a3k(a0:Int)(a1:Int):Option a7:=
 (T0 a0 a1).bind λv1=>
 some (⟨v1,0⟩:a7)
def b77(a0:Int):Option (List c7):=
 if ((decide (a0<0))||(decide (a0 > 6))) then
  some []
 else
 (mk 24 a0 (⟨0,false,0⟩:c7)).bind λv1=>
 jn (λ(j9:List c7)=>
  some j9) (λκ8=>
  (lp (S:=Int × (List c7)) (E:=(List c7)) (λ((s11,s12):Int × (List c7))=>
   if (decide (s11<(v1.length:Int))) then
    (ix s12 s11).bind λv15=>
    some (.inl (s6 (s11+1),(s12.set (s11).toNat (⟨v15.Target,v15.Intact,(-1)⟩:c7))))
   else
   some (.inr s12)) (0,v1)).bind λe10=>
  κ8 e10)
def a9G(a0:Int):Option (List b8):=
 if ((decide (a0<1))||(decide (a0 > 8))) then
  some []
 else
 (mk 24 a0 (⟨0,0,0⟩:b8)).bind λv1=>
 some v1
def a0f(a0:Int):Option c5:=
 some (⟨[],a0⟩:c5)
def b7W:Option c5:=
 (a0f 30).bind λv1=>
 some v1
def a3u(a0:Int)(a1:Int)(a2:Int):Option b6:=
 if ((((((decide (a0<1))||(decide (a0 > 24)))||(decide (a1<0)))||(decide (a1 > 9)))||(decide (a2<1)))||(decide (a2 > 8))) then
  some (⟨⟨⟨[],0⟩,0⟩,[],[],[],⟨[],0⟩⟩:b6)
 else
 (a3k a0 a1).bind λv1=>
 (mk 8 6 (0:Int)).bind λv2=>
 (b77 6).bind λv3=>
 (a9G a2).bind λv4=>
 (b7W).bind λv5=>
 some (⟨v1,v2,v3,v4,v5⟩:b6)
def a1N(a0:Int)(a1:Int)(a2:Int)(a3:List (List e6)):Option (m8 × Int):=
 (a1K a3).bind λv1=>
 if (!v1) then
  some ((⟨⟨⟨⟨[],0⟩,0⟩,[],[],[],⟨[],0⟩⟩,[]⟩:m8),13)
 else
 (a3u a0 a1 a2).bind λv2=>
 if ((v2.Roots.length:Int)==0) then
  some ((⟨⟨⟨⟨[],0⟩,0⟩,[],[],[],⟨[],0⟩⟩,[]⟩:m8),1)
 else
 some ((⟨v2,a3⟩:m8),0)
def a5b(a0:Int)(a1:Int):Option m8:=
 (a1N a0 a1 8 []).bind λv1=>
 some v1.1
def V8(a0:Int)(a1:Int)(a2:Int)(a3:Int):Option (List Int):=
 some [a0,a1,a2,a3]
def R5(a0:List Int):Option (e6 × Int):=
 if ((a0.length:Int) != 4) then
  some ((⟨0,0,0,0⟩:e6),14)
 else
 (ix a0 0).bind λv1=>
 (ix a0 1).bind λv2=>
 (ix a0 2).bind λv3=>
 (ix a0 3).bind λv4=>
 (O1 (⟨v1,v2,v3,v4⟩:e6)).bind λv5=>
 if (v5 != 0) then
  some ((⟨0,0,0,0⟩:e6),v5)
 else
 some ((⟨v1,v2,v3,v4⟩:e6),0)
def a5r(a0:e6):Option Ifc:=
 if (a0.Kind==11) then
  some (⟨89,[]⟩:Ifc)
 else
 if (a0.Kind==12) then
  some (⟨93,[a0.A]⟩:Ifc)
 else
 some (⟨85,[a0.Kind,a0.A,a0.B,a0.C]⟩:Ifc)
def a2c:Option (List (Int × Fv)):=
 some (n8 (n8 (n8 (n8 (n8 (n8 (n8 (n8 (n8 (n8 [] 1 (some 65)) 2 (some 66)) 3 (some 67)) 4 (some 68)) 5 (some 69)) 6 (some 70)) 7 (some 71)) 8 (some 72)) 9 (some 73)) 10 (some 74))
def b6x(a0:Int):Option ((List Int) × Int):=
 if ((decide (a0<0))||(decide (a0 > 4))) then
  some ([],1)
 else
 (mk 8 a0 (0:Int)).bind λv1=>
 some (v1,0)
def N9(a0:Int):Option Bool:=
 some ((decide (a0≥(-1)))&&(decide (a0<6)))
def K0(a0:c4):Option c4:=
 some a0
def r8(a0:List b7):Option (List b7):=
 app 80 [] a0
def A3(a0:c4)(a1:Int)(a2:b7):Option c4:=
 (r8 a0.a8).bind λv1=>
 (ix v1 a1).bind λv2=>
 some (⟨(v1.set (a1).toNat a2),a0.Last⟩:c4)
def a0U(a0:Int)(a1:Int):Option Int:=
 if ((((decide (a0<0))||(decide (a0≥24)))||(decide (a1<0)))||(decide (a1 > 9))) then
  some 0
 else
 some (s6 ((s6 (1+(s6 (a0*1))))+(s6 (a1*32))))
def F9(a0:c4)(a1:l4):Option (c4 × Int × Int):=
 jn (λ(_:Unit)=>
  some (a0,0,4)) (λκ9=>
  (K0 a0).bind λv11=>
  (lp (S:=Int) (E:=(c4 × Int × Int) ⊕ Unit) (λ(s13:Int)=>
   if (decide (s13<(v11.a8.length:Int))) then
    (ix v11.a8 s13).bind λv15=>
    if ((v15.State==0)==true) then
     (ix a0.a8 s13).bind λv16=>
     (A3 a0 s13 (⟨1,v16.Gen,a1⟩:b7)).bind λv17=>
     (a0U s13 v16.Gen).bind λv18=>
     some (.inr (.inl (v17,v18,0)))
    else
    some (.inl (s6 (s13+1)))
   else
   some (.inr (.inr ()))) 0).bind λe12=>
  match e12 with
  | .inl w=>some w
  | .inr w=>κ9 w)
def O7(a0:a7)(a1:Int)(a2:Int):Option (a7 × Int × Int):=
 (b6x a1).bind λv1=>
 if (v1.2 != 0) then
  some (a0,0,v1.2)
 else
 (N9 a2).bind λv2=>
 if (!v2) then
  some (a0,0,13)
 else
 (F9 a0.S (⟨s6 (a0.Serial+1),0,0,a2,false,v1.1⟩:l4)).bind λv3=>
 if (v3.2.2 != 0) then
  some (a0,0,v3.2.2)
 else
 some ((⟨v3.1,s6 (a0.Serial+1)⟩:a7),v3.2.1,0)
def a1c(a0:Int):Option (Int × Int × Bool):=
 if (decide (a0<1)) then
  some ((-1),(-1),false)
 else
 (rem (s6 (a0-1)) 32).bind λv1=>
 (quo .i64 v1 1).bind λv2=>
 (quo .i64 (s6 (a0-1)) 32).bind λv3=>
 if ((decide (v2≥24))||(decide (v3 > 9))) then
  some ((-1),(-1),false)
 else
 some (v2,v3,true)
def a2m(a0:Int):Option Int:=
 (a1c a0).bind λv1=>
 some v1.1
def a3s(a0:Int):Option Int:=
 (a1c a0).bind λv1=>
 some v1.2.1
def p6(a0:c4)(a1:Int):Option (Int × Int):=
 if (a1==0) then
  some ((-1),2)
 else
 (a2m a1).bind λv1=>
 if ((decide (v1<0))||(decide (v1≥(a0.a8.length:Int)))) then
  some ((-1),3)
 else
 (ix a0.a8 v1).bind λv2=>
 (a3s a1).bind λv3=>
 if ((v2.Gen != v3)||((v2.State != 1)&&(v2.State != 2))) then
  some ((-1),3)
 else
 some (v1,0)
def B3(a0:c4)(a1:Int):Option (l4 × Int):=
 (p6 a0 a1).bind λv1=>
 if (v1.2 != 0) then
  some ((⟨0,0,0,0,false,[]⟩:l4),v1.2)
 else
 (ix a0.a8 v1.1).bind λv2=>
 if (v2.State==2) then
  some ((⟨0,0,0,0,false,[]⟩:l4),3)
 else
 some (v2.Val,0)
def r7(a0:a7)(a1:Int):Option (l4 × Int):=
 (B3 a0.S a1).bind λv1=>
 some (v1.1,v1.2)
def a33(a0:b6)(a1:Int):Option Bool:=
 (r7 a0.S a1).bind λv1=>
 some (v1.2==0)
def H8(a0:b6)(a1:Int):Option Bool:=
 (y8 ((a1==0)==false) false (a33 a0 a1)).bind λv1=>
 some ((a1==0)||v1)
def D0(a0:Int):Option Bool:=
 some (decide (a0≥12))
def a3o(a0:Int):Option (Int × Int):=
 (D0 a0).bind λv1=>
 if v1 then
  some (12,0)
 else
 some (s6 ((if 0 > a0 then 0 else a0)+1),0)
def a7z(a0:Int):Option Int:=
 (a3o a0).bind λv1=>
 some v1.1
def H2(a0:c4)(a1:Int)(a2:l4):Option (c4 × Int):=
 (p6 a0 a1).bind λv1=>
 if (v1.2 != 0) then
  some (a0,v1.2)
 else
 (ix a0.a8 v1.1).bind λv2=>
 (A3 a0 v1.1 (⟨v2.State,v2.Gen,a2⟩:b7)).bind λv3=>
 some (v3,0)
def H3(a0:a7)(a1:Int)(a2:l4):Option (a7 × Int):=
 (H2 a0.S a1 a2).bind λv1=>
 some ((⟨v1.1,a0.Serial⟩:a7),v1.2)
def Q0(a0:b6)(a1:Int):Option b6:=
 (r7 a0.S a1).bind λv1=>
 if (v1.2==0) then
  (a7z v1.1.Strong).bind λv2=>
  (H3 a0.S a1 (⟨v1.1.Serial,v2,v1.1.Weak,v1.1.Prog,v1.1.Started,v1.1.Fields⟩:l4)).bind λv3=>
  some (⟨v3.1,a0.Roots,a0.a8,a0.T,a0.Q⟩:b6)
 else
 some a0
def X0(a0:b6)(a1:Int):Option b6:=
 (Q0 a0 a1).bind λv1=>
 some v1
def I7(a0:List Int):Option (List Int):=
 app 8 [] a0
def L5(a0:F0)(a1:b6):Option b6:=
 (I7 a1.Roots).bind λv1=>
 (ix v1 a0.r).bind λv2=>
 some (⟨a1.S,(v1.set (a0.r).toNat a0.h),a1.a8,a1.T,a1.Q⟩:b6)
def a1M(a0:Int):Option (Int × Int):=
 (D0 a0).bind λv1=>
 if v1 then
  some (12,0)
 else
 if (decide (a0<1)) then
  some (0,11)
 else
 some (s6 (a0-1),0)
def b0z(a0:Int):Option (Int × Int):=
 (a1M a0).bind λv1=>
 some (v1.1,v1.2)
def a1d(a0:Int):Option Int:=
 (b0z a0).bind λv1=>
 if (v1.2 != 0) then
  some a0
 else
 some v1.1
def J6(a0:b6)(a1:Int):Option b6:=
 (r7 a0.S a1).bind λv1=>
 if (v1.2==0) then
  (a1d v1.1.Strong).bind λv2=>
  (H3 a0.S a1 (⟨v1.1.Serial,v2,v1.1.Weak,v1.1.Prog,v1.1.Started,v1.1.Fields⟩:l4)).bind λv3=>
  some (⟨v3.1,a0.Roots,a0.a8,a0.T,a0.Q⟩:b6)
 else
 some a0
def A2(a0:b6)(a1:Int):Option b6:=
 (J6 a0 a1).bind λv1=>
 some v1
def C6(a0:b6)(a1:Int)(a2:Int)(a3:F0):Option b6:=
 (X0 a0 a2).bind λv1=>
 (L5 a3 v1).bind λv2=>
 (A2 v2 a1).bind λv3=>
 some v3
def Y6(a0:b6)(a1:Int)(a2:Int):Option (b6 × Int):=
 if ((decide (a1<0))||(decide (a1≥(a0.Roots.length:Int)))) then
  some (a0,6)
 else
 (H8 a0 a2).bind λv1=>
 if (!v1) then
  some (a0,3)
 else
 (ix a0.Roots a1).bind λv2=>
 (C6 a0 v2 a2 (⟨a1,a2⟩:F0)).bind λv3=>
 some (v3,0)
def z1(a0:o0)(a1:Int)(a2:Int):Option (b6 × Int):=
 if (a2 != 0) then
  some (a0.x,a2)
 else
 (Y6 a0.x a0.o.A a1).bind λv1=>
 some (v1.1,v1.2)
def P1(a0:o0):Option (b6 × Int):=
 (O7 a0.x.S a0.o.B a0.o.C).bind λv1=>
 if (v1.2.2 != 0) then
  some (a0.x,v1.2.2)
 else
 (z1 (⟨⟨v1.1,a0.x.Roots,a0.x.a8,a0.x.T,a0.x.Q⟩,a0.o⟩:o0) v1.2.1 0).bind λv2=>
 some (v2.1,v2.2)
def I0(a0:b6)(a1:Int):Option Int:=
 if ((decide (a1<0))||(decide (a1≥(a0.Roots.length:Int)))) then
  some 0
 else
 (ix a0.Roots a1).bind λv1=>
 some v1
def F2(a0:o0):Option (b6 × Int):=
 (I0 a0.x a0.o.B).bind λv1=>
 (z1 a0 v1 0).bind λv2=>
 some (v2.1,v2.2)
def W1(a0:o0):Option (b6 × Int):=
 (z1 a0 0 0).bind λv1=>
 some (v1.1,v1.2)
def I5(a0:b6)(a1:Int):Option (Int × Int):=
 (I0 a0 a1).bind λv1=>
 if (v1==0) then
  some (0,2)
 else
 some (v1,0)
def a6a(a0:List Int)(a1:Int):Option Bool:=
 some ((decide (a1≥0))&&(decide (a1<(a0.length:Int))))
def b1h(a0:List Int)(a1:Int):Option (Int × Int):=
 (a6a a0 a1).bind λv1=>
 if (!v1) then
  some (0,5)
 else
 (ix a0 a1).bind λv2=>
 some (v2,0)
def X9(a0:a7)(a1:Int)(a2:Int):Option (Int × Int):=
 (r7 a0 a1).bind λv1=>
 if (v1.2 != 0) then
  some (0,v1.2)
 else
 (b1h v1.1.Fields a2).bind λv2=>
 some (v2.1,v2.2)
def W2(a0:o0):Option (b6 × Int):=
 (I5 a0.x a0.o.B).bind λv1=>
 if (v1.2 != 0) then
  some (a0.x,v1.2)
 else
 (X9 a0.x.S v1.1 a0.o.C).bind λv2=>
 (z1 a0 v2.1 v2.2).bind λv3=>
 some (v3.1,v3.2)
def b3y(a0:List Int)(a1:Int)(a2:Int):Option ((List Int) × Int):=
 (a6a a0 a1).bind λv1=>
 if (!v1) then
  some (a0,5)
 else
 (mk 8 (a0.length:Int) (0:Int)).bind λv2=>
 (cpy v2 a0).bind λv3=>
 (ix v3 a1).bind λv4=>
 some ((v3.set (a1).toNat a2),0)
def a72(a0:a7)(a1:Int)(a2:Int)(a3:Int):Option (a7 × Int):=
 (r7 a0 a1).bind λv1=>
 if (v1.2 != 0) then
  some (a0,v1.2)
 else
 (b3y v1.1.Fields a2 a3).bind λv2=>
 if (v2.2 != 0) then
  some (a0,v2.2)
 else
 (H3 a0 a1 (⟨v1.1.Serial,v1.1.Strong,v1.1.Weak,v1.1.Prog,v1.1.Started,v2.1⟩:l4)).bind λv3=>
 some (v3.1,v3.2)
def a0c(a0:D5)(a1:b6):Option b6:=
 (a72 a1.S a0.h a0.k a0.v).bind λv1=>
 some (⟨v1.1,a1.Roots,a1.a8,a1.T,a1.Q⟩:b6)
def F1(a0:b6)(a1:Int)(a2:Int)(a3:D5):Option b6:=
 (X0 a0 a2).bind λv1=>
 (a0c a3 v1).bind λv2=>
 (A2 v2 a1).bind λv3=>
 some v3
def a1Q(a0:b6)(a1:Int)(a2:Int)(a3:Int):Option (b6 × Int):=
 (X9 a0.S a1 a2).bind λv1=>
 if (v1.2 != 0) then
  some (a0,v1.2)
 else
 (H8 a0 a3).bind λv2=>
 if (!v2) then
  some (a0,3)
 else
 (F1 a0 v1.1 a3 (⟨a1,a2,a3⟩:D5)).bind λv3=>
 some (v3,0)
def S9(a0:o0):Option (b6 × Int):=
 (I5 a0.x a0.o.A).bind λv1=>
 if (v1.2 != 0) then
  some (a0.x,v1.2)
 else
 (I0 a0.x a0.o.C).bind λv2=>
 (a1Q a0.x v1.1 a0.o.B v2).bind λv3=>
 some (v3.1,v3.2)
def b2g(a0:c5)(a1:Int):Option (c5 × Int):=
 some (a0,a1)
def a3L(a0:c5)(a1:Int):Option Bool:=
 jn (λ(_:Unit)=>
  some false) (λκ6=>
  (b2g a0 2).bind λv8=>
  (lp (S:=Int) (E:=Bool ⊕ Unit) (λ(s10:Int)=>
   if (decide (s10<(v8.1.L.length:Int))) then
    (ix v8.1.L s10).bind λv12=>
    if ((v12.Kind==v8.2)==true) then
     if (v12.At==a1) then
      some (.inr (.inl true))
     else
     some (.inl (s6 (s10+1)))
    else
    some (.inl (s6 (s10+1)))
   else
   some (.inr (.inr ()))) 0).bind λe9=>
  match e9 with
  | .inl w=>some w
  | .inr w=>κ6 w)
def a49(a0:List c7)(a1:Int):Option Bool:=
 some ((decide (a1≥0))&&(decide (a1<(a0.length:Int))))
def Y0(a0:List c7):Option (List c7):=
 (mk 24 (a0.length:Int) (⟨0,false,0⟩:c7)).bind λv1=>
 (cpy v1 a0).bind λv2=>
 some v2
def b0q(a0:List c7)(a1:Int)(a2:Int)(a3:Int):Option ((List c7) × Int × Int):=
 (a49 a0 a1).bind λv1=>
 if (!v1) then
  some (a0,0,7)
 else
 (Y0 a0).bind λv2=>
 (ix v2 a1).bind λv3=>
 (ix a0 a1).bind λv4=>
 some ((v2.set (a1).toNat (⟨a2,(a2 != 0),a3⟩:c7)),v4.Target,0)
def a0W(a0:b6)(a1:Int)(a2:Int):Option b6:=
 (p6 a0.S.S a1).bind λv1=>
 if (v1.2==0) then
  (ix a0.S.S.a8 v1.1).bind λv2=>
  (H3 a0.S a1 (⟨v2.Val.Serial,v2.Val.Strong,s6 (v2.Val.Weak+a2),v2.Val.Prog,v2.Val.Started,v2.Val.Fields⟩:l4)).bind λv3=>
  some (⟨v3.1,a0.Roots,a0.a8,a0.T,a0.Q⟩:b6)
 else
 some a0
def J9(a0:c4)(a1:Int):Option (c4 × Int):=
 (p6 a0 a1).bind λv1=>
 if (v1.2 != 0) then
  some (a0,v1.2)
 else
 (ix a0.a8 v1.1).bind λv2=>
 if (v2.Gen==a0.Last) then
  (A3 a0 v1.1 (⟨3,v2.Gen,⟨0,0,0,0,false,[]⟩⟩:b7)).bind λv3=>
  some (v3,0)
 else
 (A3 a0 v1.1 (⟨0,s6 (v2.Gen+1),⟨0,0,0,0,false,[]⟩⟩:b7)).bind λv4=>
 some (v4,0)
def a2a(a0:b6)(a1:Int):Option b6:=
 (a0W a0 a1 (-1)).bind λv1=>
 (p6 v1.S.S a1).bind λv2=>
 if (v2.2 != 0) then
  some v1
 else
 (ix v1.S.S.a8 v2.1).bind λv3=>
 if ((v3.State==2)&&(v3.Val.Weak==0)) then
  (J9 v1.S.S a1).bind λv4=>
  some (⟨⟨v4.1,v1.S.Serial⟩,v1.Roots,v1.a8,v1.T,v1.Q⟩:b6)
 else
 some v1
def Y7(a0:b6)(a1:Int)(a2:Int)(a3:Int):Option (b6 × Int):=
 (y8 (((decide (a1<0))||(decide (a1≥(a0.a8.length:Int))))==false) false (a3L a0.Q a1)).bind λv1=>
 if (((decide (a1<0))||(decide (a1≥(a0.a8.length:Int))))||v1) then
  some (a0,7)
 else
 (H8 a0 a2).bind λv2=>
 if (!v2) then
  some (a0,3)
 else
 (b0q a0.a8 a1 a2 a3).bind λv3=>
 (a0W (⟨a0.S,a0.Roots,v3.1,a0.T,a0.Q⟩:b6) a2 1).bind λv4=>
 (a2a v4 v3.2.1).bind λv5=>
 some (v5,0)
def P2(a0:o0):Option (b6 × Int):=
 if (a0.o.B==(-1)) then
  (Y7 a0.x a0.o.A 0 a0.o.C).bind λv1=>
  some (v1.1,v1.2)
 else
 (I5 a0.x a0.o.B).bind λv2=>
 if (v2.2 != 0) then
  some (a0.x,v2.2)
 else
 (Y7 a0.x a0.o.A v2.1 a0.o.C).bind λv3=>
 some (v3.1,v3.2)
def a48(a0:List c7)(a1:Int):Option (Int × Int):=
 (a49 a0 a1).bind λv1=>
 if (!v1) then
  some (0,7)
 else
 (ix a0 a1).bind λv2=>
 if ((v2.Target==0)||(!v2.Intact)) then
  some (0,9)
 else
 some (v2.Target,0)
def T6(a0:o0):Option (b6 × Int):=
 (a48 a0.x.a8 a0.o.B).bind λv1=>
 (z1 a0 v1.1 v1.2).bind λv2=>
 some (v2.1,v2.2)
def a29(a0:Int)(a1:Int):Option (Int × Int):=
 some (a0,a1)
def Y5(a0:Int)(a1:Int):Option Int:=
 if (decide (a0<1)) then
  some 0
 else
 (rem (s6 ((s6 (5*a1))+1)) a0).bind λv1=>
 if (decide (v1<0)) then
  some (s6 (v1+a0))
 else
 some v1
def U3(a0:List b8)(a1:Int):Option Int:=
 jn (λ(_:Unit)=>
  some (-1)) (λκ8=>
  (a29 (a0.length:Int) a1).bind λv10=>
  (lp (S:=Int) (E:=Int ⊕ Unit) (λ(s12:Int)=>
   if (decide (s12<v10.1)) then
    (Y5 v10.1 v10.2).bind λv14=>
    (rem (s6 (v14+s12)) v10.1).bind λv15=>
    (ix a0 v15).bind λv16=>
    if (v16.State==0) then
     some (.inr (.inr ()))
    else
    if ((v16.State==1)&&(v16.Key==a1)) then
     some (.inr (.inl v15))
    else
    some (.inl (s6 (s12+1)))
   else
   some (.inr (.inr ()))) 0).bind λe11=>
  match e11 with
  | .inl w=>some w
  | .inr w=>κ8 w)
def I4(a0:List b8)(a1:Int):Option (Int × Int):=
 (U3 a0 a1).bind λv1=>
 if (decide (v1<0)) then
  some (0,9)
 else
 (ix a0 v1).bind λv2=>
 some (v2.Val,0)
def B4(a0:List b8):Option (List b8):=
 app 24 [] a0
def a0V(a0:List b8)(a1:Int)(a2:b8):Option (List b8):=
 (B4 a0).bind λv1=>
 (ix v1 a1).bind λv2=>
 some (v1.set (a1).toNat a2)
def U2(a0:List b8)(a1:Int):Option ((List b8) × Int × Int):=
 (U3 a0 a1).bind λv1=>
 if (decide (v1<0)) then
  some (a0,0,9)
 else
 (a0V a0 v1 (⟨2,0,0⟩:b8)).bind λv2=>
 (ix a0 v1).bind λv3=>
 some (v2,v3.Val,0)
def a6R(a0:List b8)(a1:Int)(a2:Int):Option ((List b8) × Int):=
 (U3 a0 a1).bind λv1=>
 if (decide (v1≥0)) then
  (a0V a0 v1 (⟨1,a1,a2⟩:b8)).bind λv2=>
  some (v2,0)
 else
 jn (λ(_:Unit)=>
  some (a0,8)) (λκ11=>
  (a29 (a0.length:Int) a1).bind λv13=>
  (lp (S:=Int) (E:=((List b8) × Int) ⊕ Unit) (λ(s15:Int)=>
   if (decide (s15<v13.1)) then
    (Y5 v13.1 v13.2).bind λv17=>
    (rem (s6 (v17+s15)) v13.1).bind λv18=>
    (ix a0 v18).bind λv19=>
    if (v19.State != 1) then
     (a0V a0 v18 (⟨1,a1,a2⟩:b8)).bind λv20=>
     some (.inr (.inl (v20,0)))
    else
    some (.inl (s6 (s15+1)))
   else
   some (.inr (.inr ()))) 0).bind λe14=>
  match e14 with
  | .inl w=>some w
  | .inr w=>κ11 w)
def P8(a0:List b8)(a1:Int)(a2:Int):Option ((List b8) × Int × Int):=
 if (a1==0) then
  some (a0,0,2)
 else
 (I4 a0 a1).bind λv1=>
 if (a2==0) then
  (U2 a0 a1).bind λv2=>
  some (v2.1,v1.1,0)
 else
 (a6R a0 a1 a2).bind λv3=>
 if (v3.2 != 0) then
  some (a0,0,v3.2)
 else
 some (v3.1,v1.1,0)
def S0(a0:E9)(a1:b6):Option b6:=
 some (⟨a1.S,a1.Roots,a1.a8,a0.t,a1.Q⟩:b6)
def G3(a0:b6)(a1:Int)(a2:Int)(a3:E9):Option b6:=
 (X0 a0 a2).bind λv1=>
 (S0 a3 v1).bind λv2=>
 (A2 v2 a1).bind λv3=>
 some v3
def a3a(a0:b6)(a1:Int)(a2:Int):Option (b6 × Int):=
 if (a1==0) then
  some (a0,2)
 else
 (H8 a0 a1).bind λv1=>
 (y8 ((!v1)==false) false (H8 a0 a2)).bind λv2=>
 if ((!v1)||(!v2)) then
  some (a0,3)
 else
 (P8 a0.T a1 a2).bind λv3=>
 if (v3.2.2 != 0) then
  some (a0,v3.2.2)
 else
 (G3 a0 v3.2.1 a2 (⟨v3.1⟩:E9)).bind λv4=>
 some (v4,0)
def W3(a0:o0):Option (b6 × Int):=
 (I5 a0.x a0.o.A).bind λv1=>
 if (v1.2 != 0) then
  some (a0.x,v1.2)
 else
 (I0 a0.x a0.o.B).bind λv2=>
 (a3a a0.x v1.1 v2).bind λv3=>
 some (v3.1,v3.2)
def b0A(a0:List b8)(a1:Int):Option (Int × Int):=
 (I4 a0 a1).bind λv1=>
 some (v1.1,v1.2)
def Y8(a0:o0):Option (b6 × Int):=
 (I5 a0.x a0.o.B).bind λv1=>
 if (v1.2 != 0) then
  some (a0.x,v1.2)
 else
 (b0A a0.x.T v1.1).bind λv2=>
 (z1 a0 v2.1 v2.2).bind λv3=>
 some (v3.1,v3.2)
def L6(a0:o0):Option (b6 × Int):=
 some (a0.x,0)
def b1X(f:Fv)(a0:o0):Option (b6 × Int):=
 if f=some 65 then P1 a0 else
 if f=some 66 then F2 a0 else
 if f=some 67 then W1 a0 else
 if f=some 68 then W2 a0 else
 if f=some 69 then S9 a0 else
 if f=some 70 then P2 a0 else
 if f=some 71 then T6 a0 else
 if f=some 72 then W3 a0 else
 if f=some 73 then Y8 a0 else
 if f=some 74 then L6 a0 else
 none
def a0l(a0:Int):Option Bool:=
 some (a0 != a0)
def a2B(a0:Int)(a1:Int):Option Int:=
 (a0l a0).bind λv1=>
 (a0l a1).bind λv2=>
 if v1 then
  if v2 then
   some 0
  else
  some (-1)
 else
 if v2 then
  some 1
 else
 if (decide (a0<a1)) then
  some (-1)
 else
 if (decide (a0 > a1)) then
  some 1
 else
 some 0
def a27(a0:Int)(a1:Int)(a2:List (Int × Int)):Option Int:=
 (a2B ((y7 a2 a0).getD (0:Int)) ((y7 a2 a1).getD (0:Int))).bind λv1=>
 some v1
def C1(a0:a7):Option (List Int):=
 jn (λ((j18,j19):(List (Int × Int)) × (List Int))=>
  (b1b (λp q=>a27 p q j18) j19).bind λv21=>
  some v21) (λκ17=>
  (lp (S:=Int × (List (Int × Int)) × (List Int)) (E:=((List (Int × Int)) × (List Int))) (λ((s23,s24,s25):Int × (List (Int × Int)) × (List Int))=>
   if (decide (s23<(a0.S.a8.length:Int))) then
    jn (λ((j32,j33):(List (Int × Int)) × (List Int))=>
     some (.inl (s6 (s23+1),j32,j33))) (λκ31=>
     (ix a0.S.a8 s23).bind λv35=>
     if (v35.State==1) then
      (a0U s23 v35.Gen).bind λv36=>
      (app 8 s25 [v36]).bind λv37=>
      κ31 ((n8 s24 v36 v35.Val.Serial),v37)
     else
     κ31 (s24,s25))
   else
   some (.inr (s24,s25))) (0,[],[])).bind λe22=>
  κ17 e22)
def a00(a0:b6):Option (List Int):=
 jn (λ(j16:List Int)=>
  some j16) (λκ15=>
  (C1 a0.S).bind λv17=>
  (lp (S:=Int × (List Int)) (E:=(List Int)) (λ((s19,s20):Int × (List Int))=>
   if (decide (s19<(v17.length:Int))) then
    jn (λ(j27:List Int)=>
     some (.inl (s6 (s19+1),j27))) (λκ26=>
     (ix v17 s19).bind λv28=>
     (r7 a0.S v28).bind λv29=>
     if (v29.1.Strong==0) then
      (app 8 s20 [v28]).bind λv30=>
      κ26 v30
     else
     κ26 s20)
   else
   some (.inr s20)) (0,[])).bind λe18=>
  κ15 e18)
def I6(a0:l4):Option Bool:=
 some ((decide (a0.Prog≥0))&&(!a0.Started))
def F8(a0:c5):Option Int:=
 some (a0.L.length:Int)
def C7(a0:List g7)(a1:Int)(a2:Int):Option (List g7):=
 (cut a0 a1 a2).bind λv1=>
 some v1
def N4(a0:c5)(a1:g7):Option (c5 × Int):=
 (F8 a0).bind λv1=>
 if (decide (v1≥a0.Cap)) then
  some (a0,4)
 else
 (C7 a0.L 0 v1).bind λv2=>
 (app 24 v2 [a1]).bind λv3=>
 some ((⟨v3,a0.Cap⟩:c5),0)
def a7r(a0:c5)(a1:g7):Option (c5 × Int):=
 (N4 a0 a1).bind λv1=>
 some (v1.1,v1.2)
def O6(a0:b6)(a1:Int):Option b6:=
 (r7 a0.S a1).bind λv1=>
 (y8 ((v1.2 != 0)==false) false (I6 v1.1)).bind λv2=>
 if ((v1.2 != 0)||(!v2)) then
  some a0
 else
 (H3 a0.S a1 (⟨v1.1.Serial,v1.1.Strong,v1.1.Weak,v1.1.Prog,true,v1.1.Fields⟩:l4)).bind λv3=>
 (a7r a0.Q (⟨1,a1,v1.1.Prog⟩:g7)).bind λv4=>
 (X0 (⟨v3.1,a0.Roots,a0.a8,a0.T,v4.1⟩:b6) a1).bind λv5=>
 some v5
def R1(a0:b6)(a1:List Int):Option (List Int):=
 jn (λ(j18:List Int)=>
  some j18) (λκ17=>
  (lp (S:=Int × (List (Int × Bool)) × (List Int)) (E:=(List Int)) (λ((s20,s21,s22):Int × (List (Int × Bool)) × (List Int))=>
   if (decide (s20<(a1.length:Int))) then
    jn (λ((j29,j30):(List Int) × (List (Int × Bool)))=>
     some (.inl (s6 (s20+1),j30,j29))) (λκ28=>
     (ix a1 s20).bind λv32=>
     (r7 a0.S v32).bind λv33=>
     if ((v33.2==0)==true) then
      if (!((y7 s21 v32).getD (false:Bool))) then
       (app 8 s22 [v32]).bind λv34=>
       κ28 (v34,(n8 s21 v32 true))
      else
      κ28 (s22,s21)
     else
     κ28 (s22,s21))
   else
   some (.inr s22)) (0,[],[])).bind λe19=>
  κ17 e19)
def N8(a0:List Int)(a1:Int):Option Int:=
 jn (λ(_:Unit)=>
  some (-1)) (λκ5=>
  (lp (S:=Int) (E:=Int ⊕ Unit) (λ(s8:Int)=>
   if (decide (s8<(a0.length:Int))) then
    (ix a0 s8).bind λv10=>
    if (a1==v10) then
     some (.inr (.inl s8))
    else
    some (.inl (s6 (s8+1)))
   else
   some (.inr (.inr ()))) 0).bind λe7=>
  match e7 with
  | .inl w=>some w
  | .inr w=>κ5 w)
def C5(a0:List Int)(a1:Int):Option Bool:=
 (N8 a0 a1).bind λv1=>
 some (decide (v1≥0))
def Z5(a0:c7)(a1:List Int):Option Bool:=
 (y8 ((a0.Intact&&(a0.Target != 0))==true) false (C5 a1 a0.Target)).bind λv1=>
 some ((a0.Intact&&(a0.Target != 0))&&v1)
def G6(a0:List c7)(a1:List Int):Option (List Int):=
 jn (λ(j15:List Int)=>
  some j15) (λκ14=>
  (lp (S:=Int × (List Int)) (E:=(List Int)) (λ((s17,s18):Int × (List Int))=>
   if (decide (s17<(a0.length:Int))) then
    jn (λ(j25:List Int)=>
     some (.inl (s6 (s17+1),j25))) (λκ24=>
     (ix a0 s17).bind λv26=>
     (Z5 v26 a1).bind λv27=>
     if v27 then
      (app 8 s18 [s17]).bind λv28=>
      κ24 v28
     else
     κ24 s18)
   else
   some (.inr s18)) (0,[])).bind λe16=>
  κ14 e16)
def a3M(a0:List c7)(a1:List Int):Option ((List c7) × (List Int)):=
 (G6 a0 a1).bind λv1=>
 (Y0 a0).bind λv2=>
 jn (λ((j22,j23):(List Int) × (List c7))=>
  some (j23,j22)) (λκ21=>
  (lp (S:=Int × (List c7) × (List Int)) (E:=((List Int) × (List c7))) (λ((s26,s27,s28):Int × (List c7) × (List Int))=>
   if (decide (s26<(v1.length:Int))) then
    jn (λ((j36,j37):(List Int) × (List c7))=>
     some (.inl (s6 (s26+1),j37,j36))) (λκ35=>
     (ix v1 s26).bind λv39=>
     (ix s27 v39).bind λv40=>
     (ix (s27.set (v39).toNat (⟨v40.Target,false,v40.Call⟩:c7)) v39).bind λv41=>
     if (decide (v41.Call≥0)) then
      (app 8 s28 [v39]).bind λv42=>
      κ35 (v42,(s27.set (v39).toNat (⟨v40.Target,false,v40.Call⟩:c7)))
     else
     κ35 (s28,(s27.set (v39).toNat (⟨v40.Target,false,v40.Call⟩:c7))))
   else
   some (.inr (s28,s27))) (0,v2,[])).bind λe25=>
  κ21 e25)
def a1s(a0:b6)(a1:List Int):Option b6:=
 (a3M a0.a8 a1).bind λv1=>
 jn (λ(j11:c5)=>
  some (⟨a0.S,a0.Roots,v1.1,a0.T,j11⟩:b6)) (λκ10=>
  (lp (S:=Int × c5) (E:=c5) (λ((s13,s14):Int × c5)=>
   if (decide (s13<(v1.2.length:Int))) then
    (ix v1.2 s13).bind λv17=>
    (ix v1.1 v17).bind λv18=>
    (a7r s14 (⟨2,v17,v18.Call⟩:g7)).bind λv19=>
    some (.inl (s6 (s13+1),v19.1))
   else
   some (.inr s14)) (0,a0.Q)).bind λe12=>
  κ10 e12)
def a79(a0:List Int):Option (List Int):=
 some a0
def a3l(a0:List Int):Option (List Int):=
 jn (λ(j10:List Int)=>
  some j10) (λκ9=>
  (a79 a0).bind λv11=>
  (lp (S:=Int × (List Int)) (E:=(List Int)) (λ((s13,s14):Int × (List Int))=>
   if (decide (s13<(v11.length:Int))) then
    (ix v11 s13).bind λv17=>
    if ((v17 != 0)==true) then
     (app 8 s14 [v17]).bind λv18=>
     some (.inl (s6 (s13+1),v18))
    else
    some (.inl (s6 (s13+1),s14))
   else
   some (.inr s14)) (0,[])).bind λe12=>
  κ9 e12)
def U0(a0:List b8)(a1:List Int):Option ((List b8) × (List Int)):=
 jn (λ((j18,j19):(List b8) × (List Int))=>
  some (j18,j19)) (λκ17=>
  (lp (S:=(List b8) × Int × (List Int)) (E:=((List b8) × (List Int))) (λ((s22,s23,s24):(List b8) × Int × (List Int))=>
   if (decide (s23<(a1.length:Int))) then
    jn (λ((j31,j32):(List b8) × (List Int))=>
     some (.inl (j31,s6 (s23+1),j32))) (λκ30=>
     (ix a1 s23).bind λv34=>
     (U2 s22 v34).bind λv35=>
     if (v35.2.2==0) then
      (app 8 s24 [v35.2.1]).bind λv36=>
      κ30 (v35.1,v36)
     else
     κ30 (s22,s24))
   else
   some (.inr (s22,s24))) (a0,0,[])).bind λe21=>
  κ17 e21)
def P3(a0:c4)(a1:Int):Option (c4 × Int):=
 (B3 a0 a1).bind λv1=>
 if (v1.2 != 0) then
  some (a0,v1.2)
 else
 (a2m a1).bind λv2=>
 (a3s a1).bind λv3=>
 (A3 a0 v2 (⟨2,v3,v1.1⟩:b7)).bind λv4=>
 some (v4,0)
def U6(a0:b6)(a1:Int):Option b6:=
 (r7 a0.S a1).bind λv1=>
 (H3 a0.S a1 (⟨v1.1.Serial,0,v1.1.Weak,v1.1.Prog,v1.1.Started,[]⟩:l4)).bind λv2=>
 (P3 v2.1.S a1).bind λv3=>
 if (v1.1.Weak==0) then
  (J9 v3.1 a1).bind λv4=>
  some (⟨⟨v4.1,v2.1.Serial⟩,a0.Roots,a0.a8,a0.T,a0.Q⟩:b6)
 else
 some (⟨⟨v3.1,v2.1.Serial⟩,a0.Roots,a0.a8,a0.T,a0.Q⟩:b6)
def X6(a0:b6)(a1:List Int):Option b6:=
 (R1 a0 a1).bind λv1=>
 (a1s a0 v1).bind λv2=>
 jn (λ(j13:List Int)=>
  (U0 v2.T v1).bind λv14=>
  (app 8 j13 v14.2).bind λv15=>
  jn (λ(j24:b6)=>
   jn (λ(j33:b6)=>
    some j33) (λκ32=>
    (lp (S:=Int × b6) (E:=b6) (λ((s35,s36):Int × b6)=>
     if (decide (s35<(v15.length:Int))) then
      (ix v15 s35).bind λv39=>
      (A2 s36 v39).bind λv40=>
      some (.inl (s6 (s35+1),v40))
     else
     some (.inr s36)) (0,j24)).bind λe34=>
    κ32 e34)) (λκ23=>
   (lp (S:=Int × b6) (E:=b6) (λ((s42,s43):Int × b6)=>
    if (decide (s42<(v1.length:Int))) then
     (ix v1 s42).bind λv46=>
     (U6 s43 v46).bind λv47=>
     some (.inl (s6 (s42+1),v47))
    else
    some (.inr s43)) (0,(⟨v2.S,v2.Roots,v2.a8,v14.1,v2.Q⟩:b6))).bind λe41=>
   κ23 e41)) (λκ12=>
  (lp (S:=Int × (List Int)) (E:=(List Int)) (λ((s49,s50):Int × (List Int))=>
   if (decide (s49<(v1.length:Int))) then
    (ix v1 s49).bind λv53=>
    (r7 v2.S v53).bind λv54=>
    (a3l v54.1.Fields).bind λv55=>
    (app 8 s50 v55).bind λv56=>
    some (.inl (s6 (s49+1),v56))
   else
   some (.inr s50)) (0,[])).bind λe48=>
  κ12 e48)
def L2(a0:b6):Option b6:=
 (lp (S:=b6) (E:=b6) (λ(s2:b6)=>
  (a00 s2).bind λv4=>
  if ((v4.length:Int)==0) then
   some (.inr s2)
  else
  (ix v4 0).bind λv5=>
  (r7 s2.S v5).bind λv6=>
  (I6 v6.1).bind λv7=>
  if v7 then
   (O6 s2 v5).bind λv8=>
   some (.inl v8)
  else
  (cut v4 0 1).bind λv9=>
  (X6 s2 v9).bind λv10=>
  some (.inl v10)) a0).bind λe1=>
 some e1
def a1g(a0:b6)(a1:Int):Option Int:=
 (r7 a0.S a1).bind λv1=>
 some v1.1.Serial
def a0I(a0:b6)(a1:Int):Option Int:=
 (I0 a0 a1).bind λv1=>
 (a1g a0 v1).bind λv2=>
 some v2
def Q3(a0:b6)(a1:b6)(a2:e6):Option Int:=
 if (a2.Kind==5) then
  (a0I a0 a2.C).bind λv1=>
  some v1
 else
 jn (λ(j3:Bool)=>
  if j3 then
   (a0I a0 a2.B).bind λv4=>
   some v4
  else
  if (a2.Kind==10) then
   (I0 a0 a2.A).bind λv5=>
   (I0 a0 a2.B).bind λv6=>
   if (v5==v6) then
    some 1
   else
   some 0
  else
  (a0I a1 a2.A).bind λv7=>
  some v7) (λκ2=>
  if (a2.Kind==6) then
   κ2 (a2.Kind==6)
  else
  κ2 (a2.Kind==8))
def o9(a0:b6)(a1:e6):Option (b6 × Int × Int):=
 (O1 a1).bind λv1=>
 if (v1 != 0) then
  some (a0,0,v1)
 else
 (a2c).bind λv2=>
 if (!((y7 v2 a1.Kind).isSome)) then
  some (a0,0,14)
 else
 (b1X ((y7 v2 a1.Kind).getD (none:Fv)) (⟨a0,a1⟩:o0)).bind λv3=>
 if (v3.2 != 0) then
  some (a0,0,v3.2)
 else
 (L2 v3.1).bind λv5=>
 (Q3 v3.1 v5 a1).bind λv6=>
 some (v5,v6,0)
def a5S(a0:a7):Option a7:=
 some a0
def a4U(a0:a7)(a1:Int):Option (List Int):=
 (r7 a0 a1).bind λv1=>
 (a3l v1.1.Fields).bind λv2=>
 some v2
def b2e(a0:a7)(a1:Int):Option Int:=
 jn (λ(j31:Int)=>
  some j31) (λκ30=>
  (a5S a0).bind λv32=>
  (C1 v32).bind λv33=>
  (lp (S:=Int × Int) (E:=Int) (λ((s35,s36):Int × Int)=>
   if (decide (s35<(v33.length:Int))) then
    jn (λ(j50:Int)=>
     some (.inl (s6 (s35+1),j50))) (λκ49=>
     (ix v33 s35).bind λv51=>
     (a4U v32 v51).bind λv52=>
     (lp (S:=Int × Int) (E:=Int) (λ((s54,s55):Int × Int)=>
      if (decide (s54<(v52.length:Int))) then
       (ix v52 s54).bind λv58=>
       jn (λ(j60:Int)=>
        some (.inl (s6 (s54+1),j60))) (λκ59=>
        if (v58==a1) then
         κ59 (s6 (s55+1))
        else
        κ59 s55)
      else
      some (.inr s55)) (0,s36)).bind λe53=>
     κ49 e53)
   else
   some (.inr s36)) (0,0)).bind λe34=>
  κ30 e34)
def a0R(a0:List b8):Option (List b8):=
 some a0
def a4I(a0:List b8):Option (List Int):=
 jn (λ(j13:List Int)=>
  some j13) (λκ12=>
  (lp (S:=Int × (List Int)) (E:=(List Int)) (λ((s15,s16):Int × (List Int))=>
   if (decide (s15<(a0.length:Int))) then
    jn (λ(j22:List Int)=>
     some (.inl (s6 (s15+1),j22))) (λκ21=>
     (ix a0 s15).bind λv23=>
     if (v23.State==1) then
      (app 8 s16 [v23.Key]).bind λv24=>
      κ21 v24
     else
     κ21 s16)
   else
   some (.inr s16)) (0,[])).bind λe14=>
  κ12 e14)
def a18(a0:l6)(a1:Int):Option Bool:=
 some ((a1 != 0)&&(a0.Val==a1))
def w8(a0:List b8)(a1:Int):Option (List l6):=
 jn (λ(j16:List l6)=>
  some j16) (λκ15=>
  (a4I a0).bind λv17=>
  (lp (S:=Int × (List l6)) (E:=(List l6)) (λ((s19,s20):Int × (List l6))=>
   if (decide (s19<(v17.length:Int))) then
    (ix v17 s19).bind λv23=>
    (I4 a0 v23).bind λv24=>
    jn (λ(j28:List l6)=>
     some (.inl (s6 (s19+1),j28))) (λκ27=>
     (a18 (⟨v23,v24.1⟩:l6) a1).bind λv29=>
     if v29 then
      (app 16 s20 [(⟨v23,v24.1⟩:l6)]).bind λv30=>
      κ27 v30
     else
     κ27 s20)
   else
   some (.inr s20)) (0,[])).bind λe18=>
  κ15 e18)
def a3Z(a0:List b8)(a1:Int):Option Int:=
 (a0R a0).bind λv1=>
 (w8 v1 a1).bind λv2=>
 some (v2.length:Int)
def a4h(a0:a7)(a1:List b8)(a2:Int):Option Int:=
 (b2e a0 a2).bind λv1=>
 (a3Z a1 a2).bind λv2=>
 some (s6 (v1+v2))
def a59(a0:a7)(a1:List b8)(a2:Int):Option Int:=
 (r7 a0 a2).bind λv1=>
 if (v1.2 != 0) then
  some 0
 else
 (a4h a0 a1 a2).bind λv2=>
 some (s6 (v1.1.Strong-v2))
def a6G(a0:Int):Option Bool:=
 (D0 a0).bind λv1=>
 some v1
def a58(a0:Int)(a1:l4)(a2:a7)(a3:List b8):Option Bool:=
 (a59 a2 a3 a0).bind λv1=>
 (y8 ((decide (v1 > 0))==false) false (a6G a1.Strong)).bind λv2=>
 some ((decide (v1 > 0))||v2)
def a57(a0:a7)(a1:List b8):Option (List Int):=
 jn (λ(j36:List Int)=>
  some j36) (λκ35=>
  jn (λ(j54:List Int)=>
   κ35 j54) (λκ53=>
   (C1 a0).bind λv55=>
   (lp (S:=Int × (List Int)) (E:=(List Int)) (λ((s57,s58):Int × (List Int))=>
    if (decide (s57<(v55.length:Int))) then
     jn (λ(j66:List Int)=>
      some (.inl (s6 (s57+1),j66))) (λκ65=>
      (ix v55 s57).bind λv67=>
      (r7 a0 v67).bind λv68=>
      (a58 v67 v68.1 a0 a1).bind λv69=>
      if v69 then
       (app 8 s58 [v67]).bind λv70=>
       κ65 v70
      else
      κ65 s58)
    else
    some (.inr s58)) (0,[])).bind λe56=>
   κ53 e56))
def a2e(a0:Int):Option g6:=
 some (⟨[],a0⟩:g6)
def Z1(a0:a7)(a1:Int):Option Bool:=
 (r7 a0 a1).bind λv1=>
 some (v1.2==0)
def I1(a0:g6):Option Int:=
 some (a0.L.length:Int)
def L8(a0:List Int)(a1:Int)(a2:Int):Option (List Int):=
 (cut a0 a1 a2).bind λv1=>
 some v1
def L7(a0:g6)(a1:Int):Option (g6 × Int):=
 (I1 a0).bind λv1=>
 if (decide (v1≥a0.Cap)) then
  some (a0,4)
 else
 (L8 a0.L 0 v1).bind λv2=>
 (app 8 v2 [a1]).bind λv3=>
 some ((⟨v3,a0.Cap⟩:g6),0)
def a2K(a0:g6)(a1:Int):Option (g6 × (List Int)):=
 (I1 a0).bind λv1=>
 (L8 a0.L 0 (if (if v1<a1 then v1 else a1) > 0 then (if v1<a1 then v1 else a1) else 0)).bind λv2=>
 (L8 a0.L (if (if v1<a1 then v1 else a1) > 0 then (if v1<a1 then v1 else a1) else 0) v1).bind λv3=>
 some ((⟨v3,a0.Cap⟩:g6),v2)
def a0r(a0:g6):Option (g6 × Int × Int):=
 (a2K a0 1).bind λv1=>
 if ((v1.2.length:Int)==0) then
  some (a0,0,10)
 else
 (ix v1.2 0).bind λv2=>
 some (v1.1,v2,0)
def a1p(a0:a7)(a1:List Int):Option (List (Int × Bool)):=
 (C1 a0).bind λv1=>
 (a2e (v1.length:Int)).bind λv2=>
 jn (λ((j20,j21):g6 × (List (Int × Bool)))=>
  jn (λ(j68:List (Int × Bool))=>
   some j68) (λκ67=>
   (lp (S:=g6 × (List (Int × Bool))) (E:=(List (Int × Bool))) (λ((s70,s71):g6 × (List (Int × Bool)))=>
    (I1 s70).bind λv74=>
    if (decide (v74 > 0)) then
     (a0r s70).bind λv75=>
     (a4U a0 v75.2.1).bind λv76=>
     jn (λ((j94,j95):g6 × (List (Int × Bool)))=>
      some (.inl (j94,j95))) (λκ93=>
      (lp (S:=Int × g6 × (List (Int × Bool))) (E:=(g6 × (List (Int × Bool)))) (λ((s98,s99,s100):Int × g6 × (List (Int × Bool)))=>
       if (decide (s98<(v76.length:Int))) then
        jn (λ((j107,j108):g6 × (List (Int × Bool)))=>
         some (.inl (s6 (s98+1),j107,j108))) (λκ106=>
         (ix v76 s98).bind λv110=>
         (Z1 a0 v110).bind λv111=>
         if (v111==true) then
          if (!((y7 s100 v110).getD (false:Bool))) then
           (L7 s99 v110).bind λv112=>
           κ106 (v112.1,(n8 s100 v110 true))
          else
          κ106 (s99,s100)
         else
         κ106 (s99,s100))
       else
       some (.inr (s99,s100))) (0,v75.1,s71)).bind λe97=>
      κ93 e97)
    else
    some (.inr s71)) (j20,j21)).bind λe69=>
   κ67 e69)) (λκ19=>
  (lp (S:=Int × g6 × (List (Int × Bool))) (E:=(g6 × (List (Int × Bool)))) (λ((s114,s115,s116):Int × g6 × (List (Int × Bool)))=>
   if (decide (s114<(a1.length:Int))) then
    jn (λ((j123,j124):g6 × (List (Int × Bool)))=>
     some (.inl (s6 (s114+1),j123,j124))) (λκ122=>
     (ix a1 s114).bind λv126=>
     (Z1 a0 v126).bind λv127=>
     if (v127==true) then
      if (!((y7 s116 v126).getD (false:Bool))) then
       (L7 s115 v126).bind λv128=>
       κ122 (v128.1,(n8 s116 v126 true))
      else
      κ122 (s115,s116)
     else
     κ122 (s115,s116))
   else
   some (.inr (s115,s116))) (0,v2,[])).bind λe113=>
  κ19 e113)
def a21(a0:Int)(a1:List (Int × Bool)):Option Bool:=
 some ((y7 a1 a0).getD (false:Bool))
def O4(a0:a7)(a1:List (Int × Bool)):Option (List Int):=
 jn (λ(j16:List Int)=>
  some j16) (λκ15=>
  (C1 a0).bind λv17=>
  (lp (S:=Int × (List Int)) (E:=(List Int)) (λ((s19,s20):Int × (List Int))=>
   if (decide (s19<(v17.length:Int))) then
    jn (λ(j27:List Int)=>
     some (.inl (s6 (s19+1),j27))) (λκ26=>
     (ix v17 s19).bind λv28=>
     (a21 v28 a1).bind λv29=>
     if v29 then
      (app 8 s20 [v28]).bind λv30=>
      κ26 v30
     else
     κ26 s20)
   else
   some (.inr s20)) (0,[])).bind λe18=>
  κ15 e18)
def a3D(a0:a7)(a1:List Int):Option (List Int):=
 (a1p a0 a1).bind λv1=>
 (O4 a0 v1).bind λv2=>
 some v2
def a19(a0:l6):Option Bool:=
 some true
def w9(a0:List b8):Option (List l6):=
 jn (λ(j16:List l6)=>
  some j16) (λκ15=>
  (a4I a0).bind λv17=>
  (lp (S:=Int × (List l6)) (E:=(List l6)) (λ((s19,s20):Int × (List l6))=>
   if (decide (s19<(v17.length:Int))) then
    (ix v17 s19).bind λv23=>
    (I4 a0 v23).bind λv24=>
    jn (λ(j28:List l6)=>
     some (.inl (s6 (s19+1),j28))) (λκ27=>
     (a19 (⟨v23,v24.1⟩:l6)).bind λv29=>
     if v29 then
      (app 16 s20 [(⟨v23,v24.1⟩:l6)]).bind λv30=>
      κ27 v30
     else
     κ27 s20)
   else
   some (.inr s20)) (0,[])).bind λe18=>
  κ15 e18)
def a30(a0:List b8):Option (List l6):=
 (a0R a0).bind λv1=>
 (w9 v1).bind λv2=>
 some v2
def a3r(a0:Int)(a1:a7):Option Bool:=
 (r7 a1 a0).bind λv1=>
 some (v1.2==0)
def a9u(a0:a7)(a1:List b8)(a2:List Int):Option (List Int):=
 jn (λ(j20:List Int)=>
  some j20) (λκ19=>
  (a30 a1).bind λv21=>
  (lp (S:=Int × (List Int)) (E:=(List Int)) (λ((s23,s24):Int × (List Int))=>
   if (decide (s23<(v21.length:Int))) then
    jn (λ(j33:List Int)=>
     some (.inl (s6 (s23+1),j33))) (λκ32=>
     (ix v21 s23).bind λv34=>
     (C5 a2 v34.Key).bind λv35=>
     (y8 (v35==true) false (a3r v34.Key a0)).bind λv36=>
     (y8 ((v35&&v36)==true) false (a3r v34.Val a0)).bind λv37=>
     if ((v35&&v36)&&v37) then
      (app 8 s24 [v34.Val]).bind λv38=>
      κ32 v38
     else
     κ32 s24)
   else
   some (.inr s24)) (0,[])).bind λe22=>
  κ19 e22)
def a7E(a0:a7)(a1:List b8)(a2:List Int):Option ((List Int) × Int):=
 (a3D a0 a2).bind λv1=>
 (lp (S:=(List Int) × Int) (E:=((List Int) × Int)) (λ((s3,s4):(List Int) × Int)=>
  (a9u a0 a1 s3).bind λv7=>
  jn (λ(_:Unit)=>
   some (.inr (s3,s4))) (λκ15=>
   (lp (S:=Int) (E:=((List Int) × Int) ⊕ Unit) (λ(s18:Int)=>
    if (decide (s18<(v7.length:Int))) then
     (ix v7 s18).bind λv20=>
     (C5 s3 v20).bind λv21=>
     if (!v21) then
      (app 8 v7 s3).bind λv22=>
      (a3D a0 v22).bind λv23=>
      some (.inr (.inl (v23,s6 (s4+1))))
     else
     some (.inl (s6 (s18+1)))
    else
    some (.inr (.inr ()))) 0).bind λe17=>
   match e17 with
   | .inl w=>some (.inl w)
   | .inr w=>κ15 w)) (v1,0)).bind λe2=>
 some e2
def a9t(a0:a7)(a1:List b8)(a2:List Int):Option (List Int):=
 (a7E a0 a1 a2).bind λv1=>
 some v1.1
def a23(a0:Int)(a1:List (Int × Bool)):Option Bool:=
 some (!((y7 a1 a0).getD (false:Bool)))
def O5(a0:a7)(a1:List (Int × Bool)):Option (List Int):=
 jn (λ(j16:List Int)=>
  some j16) (λκ15=>
  (C1 a0).bind λv17=>
  (lp (S:=Int × (List Int)) (E:=(List Int)) (λ((s19,s20):Int × (List Int))=>
   if (decide (s19<(v17.length:Int))) then
    jn (λ(j27:List Int)=>
     some (.inl (s6 (s19+1),j27))) (λκ26=>
     (ix v17 s19).bind λv28=>
     (a23 v28 a1).bind λv29=>
     if v29 then
      (app 8 s20 [v28]).bind λv30=>
      κ26 v30
     else
     κ26 s20)
   else
   some (.inr s20)) (0,[])).bind λe18=>
  κ15 e18)
def a5R(a0:a7)(a1:List Int):Option (List Int):=
 (a1p a0 a1).bind λv1=>
 (O5 a0 v1).bind λv2=>
 some v2
def a6L(a0:a7)(a1:List b8)(a2:List Int):Option (List Int):=
 (a9t a0 a1 a2).bind λv1=>
 (a5R a0 v1).bind λv2=>
 some v2
def a0u(a0:a7)(a1:List b8):Option (List Int):=
 (a57 a0 a1).bind λv1=>
 (a6L a0 a1 v1).bind λv2=>
 some v2
def M7(a0:b6):Option (List Int):=
 (a0u a0.S a0.T).bind λv1=>
 some v1
def a2C(a0:Int)(a1:b6):Option Bool:=
 (r7 a1.S a0).bind λv1=>
 some ((decide (v1.1.Prog≥0))&&(!v1.1.Started))
def E2(a0:List Int)(a1:b6):Option (List Int):=
 jn (λ(j15:List Int)=>
  some j15) (λκ14=>
  (lp (S:=Int × (List Int)) (E:=(List Int)) (λ((s17,s18):Int × (List Int))=>
   if (decide (s17<(a0.length:Int))) then
    jn (λ(j25:List Int)=>
     some (.inl (s6 (s17+1),j25))) (λκ24=>
     (ix a0 s17).bind λv26=>
     (a2C v26 a1).bind λv27=>
     if v27 then
      (app 8 s18 [v26]).bind λv28=>
      κ24 v28
     else
     κ24 s18)
   else
   some (.inr s18)) (0,[])).bind λe16=>
  κ14 e16)
def a17(a0:b6):Option (List Int):=
 (M7 a0).bind λv1=>
 (E2 v1 a0).bind λv2=>
 some v2
def T4(a0:b6):Option (b6 × Int × Int):=
 (a17 a0).bind λv1=>
 jn (λ(j10:b6)=>
  if (decide ((v1.length:Int) > 0)) then
   some (j10,(v1.length:Int),0)
  else
  (M7 j10).bind λv11=>
  (X6 j10 v11).bind λv12=>
  (L2 v12).bind λv13=>
  (C1 j10.S).bind λv14=>
  (C1 v13.S).bind λv15=>
  some (v13,0,s6 ((v14.length:Int)-(v15.length:Int)))) (λκ9=>
  (lp (S:=Int × b6) (E:=b6) (λ((s17,s18):Int × b6)=>
   if (decide (s17<(v1.length:Int))) then
    (ix v1 s17).bind λv21=>
    (O6 s18 v21).bind λv22=>
    some (.inl (s6 (s17+1),v22))
   else
   some (.inr s18)) (0,a0)).bind λe16=>
  κ9 e16)
def V6(a0:c5)(a1:Int):Option (c5 × (List g7)):=
 (F8 a0).bind λv1=>
 (C7 a0.L 0 (if (if v1<a1 then v1 else a1) > 0 then (if v1<a1 then v1 else a1) else 0)).bind λv2=>
 (C7 a0.L (if (if v1<a1 then v1 else a1) > 0 then (if v1<a1 then v1 else a1) else 0) v1).bind λv3=>
 some ((⟨v3,a0.Cap⟩:c5),v2)
def a0g(a0:c5):Option (c5 × g7 × Int):=
 (V6 a0 1).bind λv1=>
 if ((v1.2.length:Int)==0) then
  some (a0,(⟨0,0,0⟩:g7),10)
 else
 (ix v1.2 0).bind λv2=>
 some (v1.1,v2,0)
def a01(a0:c5):Option (c5 × g7 × Int):=
 (a0g a0).bind λv1=>
 some (v1.1,v1.2.1,v1.2.2)
def a2j(a0:b6):Option Bool:=
 (a01 a0.Q).bind λv1=>
 some (v1.2.2 != 0)
def a3p(a0:List (List e6))(a1:Int):Option (List e6):=
 if ((decide (a1<0))||(decide (a1≥(a0.length:Int)))) then
  some []
 else
 (ix a0 a1).bind λv1=>
 some v1
def a5p(a0:List (List e6))(a1:g7):Option Int:=
 (a3p a0 a1.Prog).bind λv1=>
 some (s6 (1+(v1.length:Int)))
def a2n(a0:b6)(a1:List e6):Option (b6 × (List Int)):=
 jn (λ((j11,j12):b6 × (List Int))=>
  some (j11,j12)) (λκ10=>
  (lp (S:=Int × b6 × (List Int)) (E:=(b6 × (List Int))) (λ((s15,s16,s17):Int × b6 × (List Int))=>
   if (decide (s15<(a1.length:Int))) then
    (ix a1 s15).bind λv20=>
    (o9 s16 v20).bind λv21=>
    (app 8 s17 [v21.2.1]).bind λv22=>
    some (.inl (s6 (s15+1),v21.1,v22))
   else
   some (.inr (s16,s17))) (0,a0,[])).bind λe14=>
  κ10 e14)
def a5q(a0:b6)(a1:List (List e6)):Option (b6 × g7 × Int):=
 (a01 a0.Q).bind λv1=>
 if (v1.2.2 != 0) then
  some (a0,(⟨0,0,0⟩:g7),v1.2.2)
 else
 jn (λ(j6:b6)=>
  (a3p a1 v1.2.1.Prog).bind λv7=>
  (a2n j6 v7).bind λv8=>
  if (v1.2.1.Kind==1) then
   (Y6 v8.1 5 0).bind λv9=>
   (L2 v9.1).bind λv10=>
   some (v10,v1.2.1,0)
  else
  some (v8.1,v1.2.1,0)) (λκ5=>
  if (v1.2.1.Kind==1) then
   (Y6 (⟨a0.S,a0.Roots,a0.a8,a0.T,v1.1⟩:b6) 5 v1.2.1.At).bind λv11=>
   (A2 v11.1 v1.2.1.At).bind λv12=>
   (L2 v12).bind λv13=>
   κ5 v13
  else
  κ5 (⟨a0.S,a0.Roots,a0.a8,a0.T,v1.1⟩:b6))
def a2i(a0:b6)(a1:List (List e6))(a2:Int):Option (b6 × Int × Int × Int):=
 jn (λ((j14,j15,j16):Int × Int × b6)=>
  (a2j j16).bind λv18=>
  if (!v18) then
   some (j16,j14,j15,12)
  else
  some (j16,j14,j15,0)) (λκ13=>
  (lp (S:=Int × b6 × Int × Int × b6) (E:=(Int × Int × b6)) (λ((s20,s21,s22,s23,s24):Int × b6 × Int × Int × b6)=>
   (a2j s21).bind λv27=>
   if (!v27) then
    (a01 s21.Q).bind λv28=>
    (a5p a1 v28.2.1).bind λv29=>
    if (decide (v29 > s20)) then
     some (.inr (s22,s23,s24))
    else
    (a5q s21 a1).bind λv30=>
    some (.inl (s6 (s20-v29),v30.1,s6 (s22+1),s6 (s20-v29),v30.1))
   else
   some (.inr (s22,s23,s24))) (a2,a0,0,a2,a0)).bind λe19=>
  κ13 e19)
def a7C(a0:m8)(a1:List Int):Option (m8 × g8):=
 (R5 a1).bind λv1=>
 if (v1.2 != 0) then
  some (a0,(⟨0,v1.2⟩:g8))
 else
 (a5r v1.1).bind λv2=>
 if (decide (v2.t=85)) then
  (o9 a0.X (⟨(ifG v2 85 0),(ifG v2 85 1),(ifG v2 85 2),(ifG v2 85 3)⟩:e6)).bind λv3=>
  some ((⟨v3.1,a0.Progs⟩:m8),(⟨v3.2.1,v3.2.2⟩:g8))
 else
 if (decide (v2.t=89)) then
  (T4 a0.X).bind λv4=>
  some ((⟨v4.1,a0.Progs⟩:m8),(⟨s6 (v4.2.2-v4.2.1),0⟩:g8))
 else
 if (decide (v2.t=93)) then
  (a2i a0.X a0.Progs (ifG v2 93 0)).bind λv5=>
  some ((⟨v5.1,a0.Progs⟩:m8),(⟨v5.2.1,v5.2.2.2⟩:g8))
 else
 some (a0,(⟨0,0⟩:g8))
def W8(a0:m8)(a1:List (List Int)):Option (m8 × (List g8)):=
 jn (λ((j11,j12):m8 × (List g8))=>
  some (j11,j12)) (λκ10=>
  (lp (S:=Int × m8 × (List g8)) (E:=(m8 × (List g8))) (λ((s15,s16,s17):Int × m8 × (List g8))=>
   if (decide (s15<(a1.length:Int))) then
    (ix a1 s15).bind λv20=>
    (a7C s16 v20).bind λv21=>
    (app 16 s17 [v21.2]).bind λv22=>
    some (.inl (s6 (s15+1),v21.1,v22))
   else
   some (.inr (s16,s17))) (0,a0,[])).bind λe14=>
  κ10 e14)
def N7(a0:c4):Option A4:=
 jn (λ(j9:A4)=>
  some j9) (λκ8=>
  (lp (S:=Int × A4) (E:=A4) (λ((s11,s12):Int × A4)=>
   if (decide (s11<(a0.a8.length:Int))) then
    (ix a0.a8 s11).bind λv15=>
    (A4.ix s12 v15.State).bind λv16=>
    some (.inl (s6 (s11+1),(A4.st s12 v15.State (s6 (v16+1)))))
   else
   some (.inr s12)) (0,(⟨0,0,0,0⟩:A4))).bind λe10=>
  κ8 e10)
def a2V(a0:m8):Option A4:=
 (N7 a0.X.S.S).bind λv1=>
 some v1
def a7u:Option Bool:=
 (a5b 2 3).bind λv1=>
 (V8 1 0 1 (-1)).bind λv2=>
 (V8 5 0 0 0).bind λv3=>
 (V8 3 0 0 0).bind λv4=>
 (V8 11 0 0 0).bind λv5=>
 (V8 1 0 0 (-1)).bind λv6=>
 (V8 1 1 0 (-1)).bind λv7=>
 (V8 1 2 0 (-1)).bind λv8=>
 (W8 v1 [v2,v3,v4,v5,v6,v7,v8]).bind λv9=>
 (y8 (((v9.2.length:Int)==7)==true) (⟨0,0⟩:g8) (ix v9.2 3)).bind λv10=>
 (y8 ((((v9.2.length:Int)==7)&&(v10.V==1))==true) (⟨0,0⟩:g8) (ix v9.2 4)).bind λv11=>
 (y8 (((((v9.2.length:Int)==7)&&(v10.V==1))&&(v11.V==2))==true) (⟨0,0⟩:g8) (ix v9.2 5)).bind λv12=>
 (y8 ((((((v9.2.length:Int)==7)&&(v10.V==1))&&(v11.V==2))&&(v12.V==3))==true) (⟨0,0⟩:g8) (ix v9.2 6)).bind λv13=>
 (y8 (((((((v9.2.length:Int)==7)&&(v10.V==1))&&(v11.V==2))&&(v12.V==3))&&(v13.E==4))==true) ⟨0,0,0,0⟩ (a2V v9.1)).bind λv14=>
 some (((((((v9.2.length:Int)==7)&&(v10.V==1))&&(v11.V==2))&&(v12.V==3))&&(v13.E==4))&&((v14.a==0)&&((v14.b==2)&&((v14.c==0)&&((v14.d==0)&&true)))))
def a6c(a0:Int)(a1:Int):Option Bool:=
 (rem (s6 a0) 24).bind λv1=>
 (a5b (s6 (1+v1)) 9).bind λv2=>
 jn (λ(_:Unit)=>
  (a7u).bind λv25=>
  some v25) (λκ23=>
  (lp (S:=Int × m8) (E:=Bool ⊕ Unit) (λ((s27,s28):Int × m8)=>
   (rem (s6 a1) 8).bind λv31=>
   if (decide (s27<v31)) then
    (V8 1 0 0 (-1)).bind λv32=>
    (rem s27 6).bind λv33=>
    (V8 6 v33 0 (-1)).bind λv34=>
    (V8 7 1 v33 0).bind λv35=>
    (V8 3 1 0 0).bind λv36=>
    (V8 3 0 0 0).bind λv37=>
    (V8 1 2 0 (-1)).bind λv38=>
    (V8 3 2 0 0).bind λv39=>
    (W8 s28 [v32,v34,v35,v36,v37,v35,v38,v35,v39]).bind λv40=>
    (y8 (((v40.2.length:Int) != 9)==false) (⟨0,0⟩:g8) (ix v40.2 0)).bind λv41=>
    (y8 ((((v40.2.length:Int) != 9)==false)&&((v41.E==0)==true)) (⟨0,0⟩:g8) (ix v40.2 2)).bind λv42=>
    (y8 ((((v40.2.length:Int) != 9)==false)&&((v41.E==0)==true)) (⟨0,0⟩:g8) (ix v40.2 0)).bind λv43=>
    (y8 (((((v40.2.length:Int) != 9)==false)&&((v41.E==0)==true))&&((v42.V != v43.V)==false)) (⟨0,0⟩:g8) (ix v40.2 5)).bind λv44=>
    (y8 (((((v40.2.length:Int) != 9)==false)&&((v41.E==0)==true))&&(((v42.V != v43.V)||(v44.E != 9))==false)) (⟨0,0⟩:g8) (ix v40.2 7)).bind λv45=>
    if (((v40.2.length:Int) != 9)||((v41.E==0)&&(((v42.V != v43.V)||(v44.E != 9))||(v45.E != 9)))) then
     some (.inr (.inl false))
    else
    some (.inl (s6 (s27+1),v40.1))
   else
   some (.inr (.inr ()))) (0,v2)).bind λe26=>
  match e26 with
  | .inl w=>some w
  | .inr w=>κ23 w)
structure M0 where
 Kind:Int
 A:Int
 B:Int
 C:Int
structure K8 where
 Serial:Int
 Strong:Int
 Weak:Int
 Prog:Int
 Started:Bool
 Fields:List Int
structure F5 where
 State:Int
 Gen:Int
 Val:K8
structure E1 where
 Target:Int
 Intact:Bool
 Call:Int
structure o8 where
 State:Int
 Key:Int
 Val:Int
structure N6 where
 Kind:Int
 At:Int
 Prog:Int
structure J8 where
 State:Int
 Gen:Int
 Val:Int
structure E0 where
 a8:List J8
 Last:Int
structure n9 where
 a8:List F5
 Last:Int
 Serial:Int
structure B9 where
 L:List N6
 Cap:Int
structure g5 where
 S:n9
 Roots:List Int
 a8:List E1
 T:List o8
 Q:B9
structure B2 where
 X:g5
 Progs:List (List M0)
structure a3z where
 Key:Int
 Val:Int
structure C9 where
 V:Int
 E:Int
def U4(a0:M0):Option Bool:=
 some ((decide (a0.Kind≥1))&&(decide (a0.Kind≤10)))
def a0N(a0:Int)(a1:Int)(a2:Int)(a3:Int):Option Int:=
 if ((decide (a0<a1))||(decide (a0 > a2))) then
  some a3
 else
 some 0
def Z0(a0:Int)(a1:Int)(a2:Int):Option Int:=
 if (a0 != 0) then
  some a0
 else
 if (a1 != 0) then
  some a1
 else
 some a2
def a0Y(a0:M0):Option Int:=
 (a0N a0.A 0 5 6).bind λv1=>
 (a0N a0.B 0 5 6).bind λv2=>
 if (a0.Kind==1) then
  (a0N a0.B 0 4 1).bind λv3=>
  (a0N a0.C (-1) 5 13).bind λv4=>
  (Z0 v1 v3 v4).bind λv5=>
  some v5
 else
 jn (λ(j7:Bool)=>
  if j7 then
   (Z0 v1 v2 0).bind λv8=>
   some v8
  else
  if (a0.Kind==3) then
   some v1
  else
  if (a0.Kind==4) then
   (a0N a0.C 0 3 5).bind λv9=>
   (Z0 v1 v2 v9).bind λv10=>
   some v10
  else
  if (a0.Kind==5) then
   (a0N a0.B 0 3 5).bind λv11=>
   (a0N a0.C (-1) 5 6).bind λv12=>
   (Z0 v1 v11 v12).bind λv13=>
   some v13
  else
  if (a0.Kind==6) then
   (a0N a0.A 0 5 7).bind λv14=>
   (a0N a0.B (-1) 5 6).bind λv15=>
   (a0N a0.C (-1) 5 13).bind λv16=>
   (Z0 v14 v15 v16).bind λv17=>
   some v17
  else
  if (a0.Kind==7) then
   (a0N a0.B 0 5 7).bind λv18=>
   (Z0 v1 v18 0).bind λv19=>
   some v19
  else
  if (a0.Kind==8) then
   (a0N a0.B (-1) 5 6).bind λv20=>
   (Z0 v1 v20 0).bind λv21=>
   some v21
  else
  if (a0.Kind==11) then
   some 0
  else
  if (a0.Kind==12) then
   (a0N a0.A 0 200 12).bind λv22=>
   some v22
  else
  some 14) (λκ6=>
  if (a0.Kind==2) then
   κ6 (a0.Kind==2)
  else
  if (a0.Kind==9) then
   κ6 (a0.Kind==9)
  else
  κ6 (a0.Kind==10))
def a7S(a0:List (List M0)):Option Bool:=
 if (decide ((a0.length:Int) > 6)) then
  some false
 else
 jn (λ(_:Unit)=>
  some true) (λκ20=>
  (lp (S:=Int) (E:=Bool ⊕ Unit) (λ(s23:Int)=>
   if (decide (s23<(a0.length:Int))) then
    jn (λ(_:Unit)=>
     some (.inl (s6 (s23+1)))) (λκ32=>
     (ix a0 s23).bind λv34=>
     if (decide ((v34.length:Int) > 6)) then
      some (.inr (.inl false))
     else
     (lp (S:=Int) (E:=Bool ⊕ Unit) (λ(s36:Int)=>
      if (decide (s36<(v34.length:Int))) then
       (ix v34 s36).bind λv38=>
       (U4 v38).bind λv39=>
       (y8 ((!v39)==false) 0 (a0Y v38)).bind λv40=>
       if ((!v39)||(v40 != 0)) then
        some (.inr (.inl false))
       else
       some (.inl (s6 (s36+1)))
      else
      some (.inr (.inr ()))) 0).bind λe35=>
     match e35 with
     | .inl w=>some (.inr (.inl w))
     | .inr w=>κ32 w)
   else
   some (.inr (.inr ()))) 0).bind λe22=>
  match e22 with
  | .inl w=>some w
  | .inr w=>κ20 w)
def c0l(a0:Int)(a1:Int):Option E0:=
 if ((((decide (a0<0))||(decide (a0 > 24)))||(decide (a1<0)))||(decide (a1 > 9))) then
  some (⟨[],0⟩:E0)
 else
 (mk 24 a0 (⟨0,0,0⟩:J8)).bind λv1=>
 some (⟨v1,a1⟩:E0)
def b50(a0:Int)(a1:Int):Option n9:=
 (c0l a0 a1).bind λv1=>
 (mk 80 (v1.a8.length:Int) (⟨0,0,⟨0,0,0,0,false,[]⟩⟩:F5)).bind λv2=>
 some (⟨v2,v1.Last,0⟩:n9)
def c6c(a0:Int):Option (List E1):=
 jn (λ(j8:List E1)=>
  some j8) (λκ7=>
  (lp (S:=Int × (List E1)) (E:=(List E1)) (λ((s10,s11):Int × (List E1))=>
   if ((decide (s10<a0))&&(decide (a0≤6))) then
    (app 24 s11 [(⟨0,false,(-1)⟩:E1)]).bind λv14=>
    some (.inl (s6 (s10+1),v14))
   else
   some (.inr s11)) (0,[])).bind λe9=>
  κ7 e9)
def c0m(a0:Int):Option (List o8):=
 if ((decide (a0<1))||(decide (a0 > 8))) then
  some []
 else
 (mk 24 a0 (⟨0,0,0⟩:o8)).bind λv1=>
 some v1
def c6d:Option B9:=
 some (⟨[],30⟩:B9)
def a94(a0:Int)(a1:Int)(a2:Int):Option g5:=
 if ((((((decide (a0<1))||(decide (a0 > 24)))||(decide (a1<0)))||(decide (a1 > 9)))||(decide (a2<1)))||(decide (a2 > 8))) then
  some (⟨⟨[],0,0⟩,[],[],[],⟨[],0⟩⟩:g5)
 else
 (b50 a0 a1).bind λv1=>
 (mk 8 6 (0:Int)).bind λv2=>
 (c6c 6).bind λv3=>
 (c0m a2).bind λv4=>
 (c6d).bind λv5=>
 some (⟨v1,v2,v3,v4,v5⟩:g5)
def b55(a0:Int)(a1:Int)(a2:Int)(a3:List (List M0)):Option (B2 × Int):=
 (a7S a3).bind λv1=>
 if (!v1) then
  some ((⟨⟨⟨[],0,0⟩,[],[],[],⟨[],0⟩⟩,[]⟩:B2),13)
 else
 (a94 a0 a1 a2).bind λv2=>
 if ((v2.Roots.length:Int)==0) then
  some ((⟨⟨⟨[],0,0⟩,[],[],[],⟨[],0⟩⟩,[]⟩:B2),1)
 else
 some ((⟨v2,a3⟩:B2),0)
def b24(a0:List Int)(a1:List Int):Option Bool:=
 if ((a0.length:Int) != (a1.length:Int)) then
  some false
 else
 jn (λ(_:Unit)=>
  some true) (λκ6=>
  (lp (S:=Int) (E:=Bool ⊕ Unit) (λ(s9:Int)=>
   if (decide (s9<(a0.length:Int))) then
    (ix a0 s9).bind λv11=>
    (ix a1 s9).bind λv12=>
    if (v11 != v12) then
     some (.inr (.inl false))
    else
    some (.inl (s6 (s9+1)))
   else
   some (.inr (.inr ()))) 0).bind λe8=>
  match e8 with
  | .inl w=>some w
  | .inr w=>κ6 w)
def Q9(a0:n9):Option E0:=
 jn (λ(j9:List J8)=>
  some (⟨j9,a0.Last⟩:E0)) (λκ8=>
  (lp (S:=Int × (List J8)) (E:=(List J8)) (λ((s11,s12):Int × (List J8))=>
   if (decide (s11<(a0.a8.length:Int))) then
    (ix a0.a8 s11).bind λv15=>
    (app 24 s12 [(⟨v15.State,v15.Gen,s11⟩:J8)]).bind λv16=>
    some (.inl (s6 (s11+1),v16))
   else
   some (.inr s12)) (0,[])).bind λe10=>
  κ8 e10)
def a2v(a0:List o8)(a1:Int):Option Int:=
 jn (λ(_:Unit)=>
  some (-1)) (λκ5=>
  (lp (S:=Int) (E:=Int ⊕ Unit) (λ(s8:Int)=>
   if (decide (s8<(a0.length:Int))) then
    (ix a0 s8).bind λv10=>
    if ((v10.State==1)&&(v10.Key==a1)) then
     some (.inr (.inl s8))
    else
    some (.inl (s6 (s8+1)))
   else
   some (.inr (.inr ()))) 0).bind λe7=>
  match e7 with
  | .inl w=>some w
  | .inr w=>κ5 w)
def b7F(a0:Int)(a1:Int):Option Int:=
 if (decide (a0<1)) then
  some 0
 else
 (rem (s6 ((s6 (5*a1))+1)) a0).bind λv1=>
 if (decide (v1<0)) then
  some (s6 (v1+a0))
 else
 some v1
def a4R(a0:Int)(a1:Int):Option Int:=
 if ((((decide (a0<0))||(decide (a0 > 23)))||(decide (a1<0)))||(decide (a1 > 9))) then
  some 0
 else
 some (s6 ((s6 (1+a0))+(s6 (32*a1))))
def a7L(a0:Int):Option Bool:=
 if ((decide (a0<1))||(decide (a0 > 400))) then
  some false
 else
 (rem (s6 (a0-1)) 32).bind λv1=>
 (quo .i64 (s6 (a0-1)) 32).bind λv2=>
 (a4R v1 v2).bind λv3=>
 some (v3==a0)
def a60(a0:Int):Option Int:=
 (a7L a0).bind λv1=>
 if (!v1) then
  some (-1)
 else
 (rem (s6 (a0-1)) 32).bind λv2=>
 some v2
def b5Y(a0:Int):Option Int:=
 (a7L a0).bind λv1=>
 if (!v1) then
  some (-1)
 else
 (quo .i64 (s6 (a0-1)) 32).bind λv2=>
 some v2
def N5(a0:E0)(a1:Int):Option (Int × Int):=
 if (a1==0) then
  some ((-1),2)
 else
 (a60 a1).bind λv1=>
 if ((decide (v1<0))||(decide (v1≥(a0.a8.length:Int)))) then
  some ((-1),3)
 else
 (ix a0.a8 v1).bind λv2=>
 (b5Y a1).bind λv3=>
 if ((v2.Gen != v3)||((v2.State != 1)&&(v2.State != 2))) then
  some ((-1),3)
 else
 some (v1,0)
def b18(a0:E0)(a1:Int):Option (Int × Int):=
 (N5 a0 a1).bind λv1=>
 if (v1.2 != 0) then
  some (0,v1.2)
 else
 (ix a0.a8 v1.1).bind λv2=>
 if (v2.State==2) then
  some (0,3)
 else
 some (v2.Val,0)
def D6(a0:n9)(a1:Int):Option (K8 × Int):=
 (Q9 a0).bind λv1=>
 (b18 v1 a1).bind λv2=>
 if (v2.2 != 0) then
  some ((⟨0,0,0,0,false,[]⟩:K8),v2.2)
 else
 (ix a0.a8 v2.1).bind λv3=>
 some (v3.Val,0)
def a3g(a0:g5)(a1:Int):Option Bool:=
 (D6 a0.S a1).bind λv1=>
 some (v1.2==0)
def a3h(a0:g5)(a1:Int):Option Bool:=
 (y8 ((a1==0)==false) false (a3g a0 a1)).bind λv1=>
 some ((a1==0)||v1)
def a85(a0:n9)(a1:List Int):Option (List Int):=
 (app 8 [] a1).bind λv1=>
 jn (λ(j36:List Int)=>
  some j36) (λκ35=>
  (lp (S:=Int × (List Int)) (E:=(List Int)) (λ((s38,s39):Int × (List Int))=>
   if (decide (s38<(s39.length:Int))) then
    jn (λ(j56:List Int)=>
     some (.inl (s6 (s38+1),j56))) (λκ55=>
     (lp (S:=Int × (List Int)) (E:=(List Int)) (λ((s58,s59):Int × (List Int))=>
      if (decide (s58 > 0)) then
       (Q9 a0).bind λv62=>
       (ix s59 (s6 (s58-1))).bind λv63=>
       (N5 v62 v63).bind λv64=>
       (ix s59 s58).bind λv65=>
       (N5 v62 v65).bind λv66=>
       (y8 (((decide (v64.1<0))||(decide (v66.1<0)))==false) (⟨0,0,⟨0,0,0,0,false,[]⟩⟩:F5) (ix a0.a8 v64.1)).bind λv67=>
       (y8 (((decide (v64.1<0))||(decide (v66.1<0)))==false) (⟨0,0,⟨0,0,0,0,false,[]⟩⟩:F5) (ix a0.a8 v66.1)).bind λv68=>
       if (((decide (v64.1<0))||(decide (v66.1<0)))||(decide (v67.Val.Serial≤v68.Val.Serial))) then
        some (.inr s59)
       else
       (ix (s59.set (s58).toNat v63) (s6 (s58-1))).bind λv69=>
       some (.inl (s6 (s58-1),((s59.set (s58).toNat v63).set (s6 (s58-1)).toNat v65)))
      else
      some (.inr s59)) (s38,s39)).bind λe57=>
     κ55 e57)
   else
   some (.inr s39)) (1,v1)).bind λe37=>
  κ35 e37)
def a1o(a0:n9):Option (List Int):=
 jn (λ(j15:List Int)=>
  (a85 a0 j15).bind λv16=>
  some v16) (λκ14=>
  (lp (S:=Int × (List Int)) (E:=(List Int)) (λ((s18,s19):Int × (List Int))=>
   if (decide (s18<(a0.a8.length:Int))) then
    jn (λ(j26:List Int)=>
     some (.inl (s6 (s18+1),j26))) (λκ25=>
     (ix a0.a8 s18).bind λv27=>
     if (v27.State==1) then
      (a4R s18 v27.Gen).bind λv28=>
      (app 8 s19 [v28]).bind λv29=>
      κ25 v29
     else
     κ25 s19)
   else
   some (.inr s19)) (0,[])).bind λe17=>
  κ14 e17)
def b27(a0:List o8):Option (List Int):=
 jn (λ(j13:List Int)=>
  some j13) (λκ12=>
  (lp (S:=Int × (List Int)) (E:=(List Int)) (λ((s15,s16):Int × (List Int))=>
   if (decide (s15<(a0.length:Int))) then
    jn (λ(j22:List Int)=>
     some (.inl (s6 (s15+1),j22))) (λκ21=>
     (ix a0 s15).bind λv23=>
     if (v23.State==1) then
      (app 8 s16 [v23.Key]).bind λv24=>
      κ21 v24
     else
     κ21 s16)
   else
   some (.inr s16)) (0,[])).bind λe14=>
  κ12 e14)
def a92(a0:List o8)(a1:Int):Option (Int × Int):=
 (a2v a0 a1).bind λv1=>
 if (decide (v1<0)) then
  some (0,9)
 else
 (ix a0 v1).bind λv2=>
 some (v2.Val,0)
def a7O(a0:List o8):Option (List a3z):=
 (b27 a0).bind λv1=>
 jn (λ(j11:List a3z)=>
  some j11) (λκ10=>
  (lp (S:=Int × (List a3z)) (E:=(List a3z)) (λ((s13,s14):Int × (List a3z))=>
   if (decide (s13<(v1.length:Int))) then
    (ix v1 s13).bind λv17=>
    (a92 a0 v17).bind λv18=>
    (app 16 s14 [(⟨v17,v18.1⟩:a3z)]).bind λv19=>
    some (.inl (s6 (s13+1),v19))
   else
   some (.inr s14)) (0,[])).bind λe12=>
  κ10 e12)
def a7Q(a0:B9)(a1:Int):Option Bool:=
 jn (λ(_:Unit)=>
  some false) (λκ5=>
  (lp (S:=Int) (E:=Bool ⊕ Unit) (λ(s8:Int)=>
   if (decide (s8<(a0.L.length:Int))) then
    (ix a0.L s8).bind λv10=>
    if ((v10.Kind==2)&&(v10.At==a1)) then
     some (.inr (.inl true))
    else
    some (.inl (s6 (s8+1)))
   else
   some (.inr (.inr ()))) 0).bind λe7=>
  match e7 with
  | .inl w=>some w
  | .inr w=>κ5 w)
def a1V(a0:Int):Option Bool:=
 some (decide (a0≥12))
def b0Z(a0:n9)(a1:Int):Option Bool:=
 (D6 a0 a1).bind λv1=>
 (a1V v1.1.Strong).bind λv2=>
 some v2
def a3d(a0:List Int):Option (List Int):=
 jn (λ(j13:List Int)=>
  some j13) (λκ12=>
  (lp (S:=Int × (List Int)) (E:=(List Int)) (λ((s15,s16):Int × (List Int))=>
   if (decide (s15<(a0.length:Int))) then
    jn (λ(j22:List Int)=>
     some (.inl (s6 (s15+1),j22))) (λκ21=>
     (ix a0 s15).bind λv23=>
     if (v23 != 0) then
      (app 8 s16 [v23]).bind λv24=>
      κ21 v24
     else
     κ21 s16)
   else
   some (.inr s16)) (0,[])).bind λe14=>
  κ12 e14)
def b2b(a0:n9)(a1:Int):Option (List Int):=
 (D6 a0 a1).bind λv1=>
 if (v1.2 != 0) then
  some []
 else
 (a3d v1.1.Fields).bind λv2=>
 some v2
def a3f(a0:List Int)(a1:Int):Option Int:=
 jn (λ(j11:Int)=>
  some j11) (λκ10=>
  (lp (S:=Int × Int) (E:=Int) (λ((s13,s14):Int × Int)=>
   if (decide (s14<(a0.length:Int))) then
    jn (λ(j19:Int)=>
     some (.inl (j19,s6 (s14+1)))) (λκ18=>
     (ix a0 s14).bind λv20=>
     if ((v20==a1)&&(a1 != 0)) then
      κ18 (s6 (s13+1))
     else
     κ18 s13)
   else
   some (.inr s13)) (0,0)).bind λe12=>
  κ10 e12)
def b88(a0:n9)(a1:Int):Option Int:=
 (a1o a0).bind λv1=>
 jn (λ(j11:Int)=>
  some j11) (λκ10=>
  (lp (S:=Int × Int) (E:=Int) (λ((s13,s14):Int × Int)=>
   if (decide (s14<(v1.length:Int))) then
    (ix v1 s14).bind λv17=>
    (b2b a0 v17).bind λv18=>
    (a3f v18 a1).bind λv19=>
    some (.inl (s6 (s13+v19),s6 (s14+1)))
   else
   some (.inr s13)) (0,0)).bind λe12=>
  κ10 e12)
def b0X(a0:List o8)(a1:Int):Option Int:=
 (a7O a0).bind λv1=>
 jn (λ(j12:Int)=>
  some j12) (λκ11=>
  (lp (S:=Int × Int) (E:=Int) (λ((s14,s15):Int × Int)=>
   if (decide (s15<(v1.length:Int))) then
    jn (λ(j20:Int)=>
     some (.inl (j20,s6 (s15+1)))) (λκ19=>
     (ix v1 s15).bind λv21=>
     if ((v21.Val==a1)&&(a1 != 0)) then
      κ19 (s6 (s14+1))
     else
     κ19 s14)
   else
   some (.inr s14)) (0,0)).bind λe13=>
  κ11 e13)
def b0Y(a0:n9)(a1:List o8)(a2:Int):Option Int:=
 (b88 a0 a2).bind λv1=>
 (b0X a1 a2).bind λv2=>
 some (s6 (v1+v2))
def b3b(a0:n9)(a1:List o8)(a2:Int):Option Int:=
 (D6 a0 a2).bind λv1=>
 if (v1.2 != 0) then
  some 0
 else
 (b0Y a0 a1 a2).bind λv2=>
 some (s6 (v1.1.Strong-v2))
def a95(a0:g5):Option (List Int):=
 (a1o a0.S).bind λv1=>
 jn (λ(j16:List Int)=>
  some j16) (λκ15=>
  (lp (S:=Int × (List Int)) (E:=(List Int)) (λ((s18,s19):Int × (List Int))=>
   if (decide (s18<(v1.length:Int))) then
    jn (λ(j26:List Int)=>
     some (.inl (s6 (s18+1),j26))) (λκ25=>
     (ix v1 s18).bind λv27=>
     (D6 a0.S v27).bind λv28=>
     if (v28.1.Strong==0) then
      (app 8 s19 [v27]).bind λv29=>
      κ25 v29
     else
     κ25 s19)
   else
   some (.inr s19)) (0,[])).bind λe17=>
  κ15 e17)
def a1W(a0:List Int):Option (M0 × Int):=
 if ((a0.length:Int) != 4) then
  some ((⟨0,0,0,0⟩:M0),14)
 else
 (ix a0 0).bind λv1=>
 (ix a0 1).bind λv2=>
 (ix a0 2).bind λv3=>
 (ix a0 3).bind λv4=>
 (a0Y (⟨v1,v2,v3,v4⟩:M0)).bind λv5=>
 if (v5 != 0) then
  some ((⟨0,0,0,0⟩:M0),v5)
 else
 some ((⟨v1,v2,v3,v4⟩:M0),0)
def b3a(a0:n9)(a1:List o8):Option (List Int):=
 (a1o a0).bind λv1=>
 jn (λ(j18:List Int)=>
  some j18) (λκ17=>
  (lp (S:=Int × (List Int)) (E:=(List Int)) (λ((s20,s21):Int × (List Int))=>
   if (decide (s20<(v1.length:Int))) then
    jn (λ(j29:List Int)=>
     some (.inl (s6 (s20+1),j29))) (λκ28=>
     (ix v1 s20).bind λv30=>
     (b3b a0 a1 v30).bind λv31=>
     (y8 ((decide (v31 > 0))==false) false (b0Z a0 v30)).bind λv32=>
     if ((decide (v31 > 0))||v32) then
      (app 8 s21 [v30]).bind λv33=>
      κ28 v33
     else
     κ28 s21)
   else
   some (.inr s21)) (0,[])).bind λe19=>
  κ17 e19)
def a7M(a0:List Int)(a1:Int):Option Bool:=
 (a3f a0 a1).bind λv1=>
 some (decide (v1 > 0))
def a7N(a0:List Int)(a1:List Int)(a2:Bool):Option (List Int):=
 jn (λ(j15:List Int)=>
  some j15) (λκ14=>
  (lp (S:=Int × (List Int)) (E:=(List Int)) (λ((s17,s18):Int × (List Int))=>
   if (decide (s17<(a0.length:Int))) then
    jn (λ(j25:List Int)=>
     some (.inl (s6 (s17+1),j25))) (λκ24=>
     (ix a0 s17).bind λv26=>
     (a7M a1 v26).bind λv27=>
     if (v27==a2) then
      (app 8 s18 [v26]).bind λv28=>
      κ24 v28
     else
     κ24 s18)
   else
   some (.inr s18)) (0,[])).bind λe16=>
  κ14 e16)
def a63(a0:n9)(a1:List Int):Option (List Int):=
 (a1o a0).bind λv1=>
 (a7N v1 a1 true).bind λv2=>
 jn (λ(j51:List Int)=>
  some j51) (λκ50=>
  (lp (S:=(List Int) × Int) (E:=(List Int)) (λ((s53,s54):(List Int) × Int)=>
   if (decide (s54<(v1.length:Int))) then
    jn (λ(j78:List Int)=>
     some (.inl (j78,s6 (s54+1)))) (λκ77=>
     (app 8 [] s53).bind λv79=>
     jn (λ(j89:List Int)=>
      (a7N v1 j89 true).bind λv90=>
      κ77 v90) (λκ88=>
      (lp (S:=Int × (List Int)) (E:=(List Int)) (λ((s92,s93):Int × (List Int))=>
       if (decide (s92<(s53.length:Int))) then
        (ix s53 s92).bind λv96=>
        (b2b a0 v96).bind λv97=>
        (app 8 s93 v97).bind λv98=>
        some (.inl (s6 (s92+1),v98))
       else
       some (.inr s93)) (0,v79)).bind λe91=>
      κ88 e91))
   else
   some (.inr s53)) (v2,0)).bind λe52=>
  κ50 e52)
def a7P(a0:n9)(a1:Int):Option Bool:=
 (D6 a0 a1).bind λv1=>
 some (v1.2==0)
def a93(a0:n9)(a1:List o8)(a2:List Int):Option (List Int):=
 (a7O a1).bind λv1=>
 jn (λ(j20:List Int)=>
  some j20) (λκ19=>
  (lp (S:=Int × (List Int)) (E:=(List Int)) (λ((s22,s23):Int × (List Int))=>
   if (decide (s22<(v1.length:Int))) then
    jn (λ(j32:List Int)=>
     some (.inl (s6 (s22+1),j32))) (λκ31=>
     (ix v1 s22).bind λv33=>
     (a7P a0 v33.Key).bind λv34=>
     (y8 (v34==true) false (a7M a2 v33.Key)).bind λv35=>
     (y8 ((v34&&v35)==true) false (a7P a0 v33.Val)).bind λv36=>
     if ((v34&&v35)&&v36) then
      (app 8 s23 [v33.Val]).bind λv37=>
      κ31 v37
     else
     κ31 s23)
   else
   some (.inr s23)) (0,[])).bind λe21=>
  κ19 e21)
def a86(a0:n9)(a1:List o8)(a2:List Int):Option ((List Int) × Int):=
 (a63 a0 a2).bind λv1=>
 jn (λ(j13:List Int)=>
  some (j13,30)) (λκ12=>
  (lp (S:=(List Int) × Int) (E:=((List Int) × Int) ⊕ (List Int)) (λ((s15,s16):(List Int) × Int)=>
   if (decide (s16<30)) then
    (app 8 [] s15).bind λv19=>
    (a93 a0 a1 s15).bind λv20=>
    (app 8 v19 v20).bind λv21=>
    (a63 a0 v21).bind λv22=>
    (b24 v22 s15).bind λv23=>
    if v23 then
     some (.inr (.inl (s15,s16)))
    else
    some (.inl (v22,s6 (s16+1)))
   else
   some (.inr (.inr s15))) (v1,0)).bind λe14=>
  match e14 with
  | .inl w=>some w
  | .inr w=>κ12 w)
def b28(a0:n9)(a1:List o8)(a2:List Int):Option (List Int):=
 (a86 a0 a1 a2).bind λv1=>
 some v1.1
def b29(a0:n9)(a1:List o8)(a2:List Int):Option (List Int):=
 (b28 a0 a1 a2).bind λv1=>
 (a1o a0).bind λv2=>
 jn (λ(j17:List Int)=>
  some j17) (λκ16=>
  (lp (S:=Int × (List Int)) (E:=(List Int)) (λ((s19,s20):Int × (List Int))=>
   if (decide (s19<(v2.length:Int))) then
    jn (λ(j27:List Int)=>
     some (.inl (s6 (s19+1),j27))) (λκ26=>
     (ix v2 s19).bind λv28=>
     (a7M v1 v28).bind λv29=>
     if (!v29) then
      (app 8 s20 [v28]).bind λv30=>
      κ26 v30
     else
     κ26 s20)
   else
   some (.inr s20)) (0,[])).bind λe18=>
  κ16 e18)
def a65(a0:n9)(a1:List o8):Option (List Int):=
 (b3a a0 a1).bind λv1=>
 (b29 a0 a1 v1).bind λv2=>
 some v2
def a4d(a0:g5):Option (List Int):=
 (a65 a0.S a0.T).bind λv1=>
 some v1
def a7R(a0:g5)(a1:Int):Option Bool:=
 (D6 a0.S a1).bind λv1=>
 (a3g a0 a1).bind λv2=>
 some ((v2&&(decide (v1.1.Prog≥0)))&&(!v1.1.Started))
def b01(a0:g5):Option (List Int):=
 (a4d a0).bind λv1=>
 jn (λ(j16:List Int)=>
  some j16) (λκ15=>
  (lp (S:=Int × (List Int)) (E:=(List Int)) (λ((s18,s19):Int × (List Int))=>
   if (decide (s18<(v1.length:Int))) then
    jn (λ(j26:List Int)=>
     some (.inl (s6 (s18+1),j26))) (λκ25=>
     (ix v1 s18).bind λv27=>
     (a7R a0 v27).bind λv28=>
     if v28 then
      (app 8 s19 [v27]).bind λv29=>
      κ25 v29
     else
     κ25 s19)
   else
   some (.inr s19)) (0,[])).bind λe17=>
  κ15 e17)
def a2u(a0:n9)(a1:Int)(a2:K8):Option n9:=
 (app 80 [] a0.a8).bind λv1=>
 (ix v1 a1).bind λv2=>
 some (⟨(v1.set (a1).toNat (⟨v2.State,v2.Gen,a2⟩:F5)),a0.Last,a0.Serial⟩:n9)
def K9(a0:n9)(a1:Int)(a2:K8):Option (n9 × Int):=
 (Q9 a0).bind λv1=>
 (N5 v1 a1).bind λv2=>
 if (v2.2 != 0) then
  some (a0,v2.2)
 else
 (a2u a0 v2.1 a2).bind λv3=>
 some (v3,0)
def a5P(a0:B9)(a1:N6):Option (B9 × Int):=
 if (decide ((a0.L.length:Int)≥a0.Cap)) then
  some (a0,4)
 else
 (app 24 [] a0.L).bind λv1=>
 (app 24 v1 [a1]).bind λv2=>
 some ((⟨v2,a0.Cap⟩:B9),0)
def b19(a0:Int):Option Int:=
 (a1V a0).bind λv1=>
 if v1 then
  some 12
 else
 if (decide (a0<0)) then
  some 1
 else
 some (s6 (a0+1))
def a5Q(a0:g5)(a1:Int)(a2:Int):Option g5:=
 (D6 a0.S a1).bind λv1=>
 if (v1.2 != 0) then
  some a0
 else
 (K9 a0.S a1 (⟨v1.1.Serial,a2,v1.1.Weak,v1.1.Prog,v1.1.Started,v1.1.Fields⟩:K8)).bind λv2=>
 some (⟨v2.1,a0.Roots,a0.a8,a0.T,a0.Q⟩:g5)
def a0M(a0:g5)(a1:Int):Option g5:=
 (D6 a0.S a1).bind λv1=>
 (b19 v1.1.Strong).bind λv2=>
 (a5Q a0 a1 v2).bind λv3=>
 some v3
def a3B(a0:g5)(a1:Int):Option g5:=
 (a7R a0 a1).bind λv1=>
 if (!v1) then
  some a0
 else
 (D6 a0.S a1).bind λv2=>
 (K9 a0.S a1 (⟨v2.1.Serial,v2.1.Strong,v2.1.Weak,v2.1.Prog,true,v2.1.Fields⟩:K8)).bind λv3=>
 (a5P a0.Q (⟨1,a1,v2.1.Prog⟩:N6)).bind λv4=>
 (a0M (⟨v3.1,a0.Roots,a0.a8,a0.T,v4.1⟩:g5) a1).bind λv5=>
 some v5
def a96(a0:g5)(a1:List Int):Option (List Int):=
 jn (λ(j17:List Int)=>
  some j17) (λκ16=>
  (lp (S:=Int × (List Int)) (E:=(List Int)) (λ((s19,s20):Int × (List Int))=>
   if (decide (s19<(a1.length:Int))) then
    jn (λ(j28:List Int)=>
     some (.inl (s6 (s19+1),j28))) (λκ27=>
     (ix a1 s19).bind λv29=>
     (a3g a0 v29).bind λv30=>
     (y8 (v30==true) false (a7M s20 v29)).bind λv31=>
     if (v30&&(!v31)) then
      (app 8 s20 [v29]).bind λv32=>
      κ27 v32
     else
     κ27 s20)
   else
   some (.inr s20)) (0,[])).bind λe18=>
  κ16 e18)
def b0W(a0:List E1)(a1:List Int):Option ((List E1) × (List Int)):=
 jn (λ((j18,j19):(List Int) × (List E1))=>
  some (j19,j18)) (λκ17=>
  (lp (S:=Int × (List E1) × (List Int)) (E:=((List Int) × (List E1))) (λ((s22,s23,s24):Int × (List E1) × (List Int))=>
   if (decide (s22<(a0.length:Int))) then
    (ix a0 s22).bind λv27=>
    jn (λ((j31,j32):Bool × (List Int))=>
     (app 24 s23 [(⟨v27.Target,j31,v27.Call⟩:E1)]).bind λv34=>
     some (.inl (s6 (s22+1),v34,j32))) (λκ30=>
     (y8 (v27.Intact==true) 0 (a3f a1 v27.Target)).bind λv35=>
     if (v27.Intact&&(decide (v35 > 0))) then
      if (decide (v27.Call≥0)) then
       (app 8 s24 [s22]).bind λv36=>
       κ30 (false,v36)
      else
      κ30 (false,s24)
     else
     κ30 (v27.Intact,s24))
   else
   some (.inr (s24,s23))) (0,[],[])).bind λe21=>
  κ17 e21)
def a2w(a0:List o8)(a1:Int)(a2:o8):Option (List o8):=
 (app 24 [] a0).bind λv1=>
 (ix v1 a1).bind λv2=>
 some (v1.set (a1).toNat a2)
def a64(a0:List o8)(a1:Int):Option ((List o8) × Int × Int):=
 (a2v a0 a1).bind λv1=>
 if (decide (v1<0)) then
  some (a0,0,9)
 else
 (a2w a0 v1 (⟨2,0,0⟩:o8)).bind λv2=>
 (ix a0 v1).bind λv3=>
 some (v2,v3.Val,0)
def a4c(a0:List o8)(a1:List Int):Option ((List o8) × (List Int)):=
 jn (λ((j18,j19):(List o8) × (List Int))=>
  some (j18,j19)) (λκ17=>
  (lp (S:=(List o8) × Int × (List Int)) (E:=((List o8) × (List Int))) (λ((s22,s23,s24):(List o8) × Int × (List Int))=>
   if (decide (s23<(a1.length:Int))) then
    jn (λ((j31,j32):(List o8) × (List Int))=>
     some (.inl (j31,s6 (s23+1),j32))) (λκ30=>
     (ix a1 s23).bind λv34=>
     (a64 s22 v34).bind λv35=>
     if (v35.2.2==0) then
      (app 8 s24 [v35.2.1]).bind λv36=>
      κ30 (v35.1,v36)
     else
     κ30 (s22,s24))
   else
   some (.inr (s22,s24))) (a0,0,[])).bind λe21=>
  κ17 e21)
def a0s(a0:E0)(a1:Int)(a2:J8):Option E0:=
 (app 24 [] a0.a8).bind λv1=>
 (ix v1 a1).bind λv2=>
 some (⟨(v1.set (a1).toNat a2),a0.Last⟩:E0)
def b7D(a0:E0)(a1:Int):Option (E0 × Int):=
 (b18 a0 a1).bind λv1=>
 if (v1.2 != 0) then
  some (a0,v1.2)
 else
 (N5 a0 a1).bind λv2=>
 (ix a0.a8 v2.1).bind λv3=>
 (a0s a0 v2.1 (⟨2,v3.Gen,v3.Val⟩:J8)).bind λv4=>
 some (v4,0)
def a0L(a0:n9)(a1:E0):Option n9:=
 jn (λ(j10:List F5)=>
  some (⟨j10,a0.Last,a0.Serial⟩:n9)) (λκ9=>
  (lp (S:=Int × (List F5)) (E:=(List F5)) (λ((s12,s13):Int × (List F5))=>
   if (decide (s12<(a0.a8.length:Int))) then
    (ix a1.a8 s12).bind λv16=>
    (ix a0.a8 s12).bind λv17=>
    (app 80 s13 [(⟨v16.State,v16.Gen,v17.Val⟩:F5)]).bind λv18=>
    some (.inl (s6 (s12+1),v18))
   else
   some (.inr s13)) (0,[])).bind λe11=>
  κ9 e11)
def b26(a0:n9)(a1:Int):Option n9:=
 (Q9 a0).bind λv1=>
 (b7D v1 a1).bind λv2=>
 (a0L a0 v2.1).bind λv3=>
 some v3
def b7C(a0:E0)(a1:Int):Option (E0 × Int):=
 (N5 a0 a1).bind λv1=>
 if (v1.2 != 0) then
  some (a0,v1.2)
 else
 (ix a0.a8 v1.1).bind λv2=>
 if (decide (v2.Gen≥a0.Last)) then
  (a0s a0 v1.1 (⟨3,v2.Gen,0⟩:J8)).bind λv3=>
  some (v3,0)
 else
 (a0s a0 v1.1 (⟨0,s6 (v2.Gen+1),0⟩:J8)).bind λv4=>
 some (v4,0)
def a90(a0:n9)(a1:Int):Option n9:=
 (Q9 a0).bind λv1=>
 (b7C v1 a1).bind λv2=>
 if (v2.2 != 0) then
  some a0
 else
 (a0L a0 v2.1).bind λv3=>
 (a60 a1).bind λv4=>
 (a2u v3 v4 (⟨0,0,0,0,false,[]⟩:K8)).bind λv5=>
 some v5
def a69(a0:g5)(a1:Int):Option g5:=
 (D6 a0.S a1).bind λv1=>
 (K9 a0.S a1 (⟨v1.1.Serial,0,v1.1.Weak,v1.1.Prog,v1.1.Started,[]⟩:K8)).bind λv2=>
 (b26 v2.1 a1).bind λv3=>
 if (v1.1.Weak==0) then
  (a90 v3 a1).bind λv4=>
  some (⟨v4,a0.Roots,a0.a8,a0.T,a0.Q⟩:g5)
 else
 some (⟨v3,a0.Roots,a0.a8,a0.T,a0.Q⟩:g5)
def b5Z(a0:Int):Option (Int × Int):=
 (a1V a0).bind λv1=>
 if v1 then
  some (12,0)
 else
 if (decide (a0<1)) then
  some (0,11)
 else
 some (s6 (a0-1),0)
def C8(a0:g5)(a1:Int):Option g5:=
 (D6 a0.S a1).bind λv1=>
 (b5Z v1.1.Strong).bind λv2=>
 if (v2.2 != 0) then
  some a0
 else
 (a5Q a0 a1 v2.1).bind λv3=>
 some v3
def a68(a0:g5)(a1:List Int):Option g5:=
 (a96 a0 a1).bind λv1=>
 (b0W a0.a8 v1).bind λv2=>
 jn (λ(j12:B9)=>
  jn (λ(j23:List Int)=>
   (a4c a0.T v1).bind λv24=>
   (app 8 j23 v24.2).bind λv25=>
   jn (λ(j34:g5)=>
    jn (λ(j43:g5)=>
     some j43) (λκ42=>
     (lp (S:=Int × g5) (E:=g5) (λ((s45,s46):Int × g5)=>
      if (decide (s45<(v25.length:Int))) then
       (ix v25 s45).bind λv49=>
       (C8 s46 v49).bind λv50=>
       some (.inl (s6 (s45+1),v50))
      else
      some (.inr s46)) (0,j34)).bind λe44=>
     κ42 e44)) (λκ33=>
    (lp (S:=Int × g5) (E:=g5) (λ((s52,s53):Int × g5)=>
     if (decide (s52<(v1.length:Int))) then
      (ix v1 s52).bind λv56=>
      (a69 s53 v56).bind λv57=>
      some (.inl (s6 (s52+1),v57))
     else
     some (.inr s53)) (0,(⟨a0.S,a0.Roots,v2.1,v24.1,j12⟩:g5))).bind λe51=>
    κ33 e51)) (λκ22=>
   (lp (S:=Int × (List Int)) (E:=(List Int)) (λ((s59,s60):Int × (List Int))=>
    if (decide (s59<(v1.length:Int))) then
     (ix v1 s59).bind λv63=>
     (D6 a0.S v63).bind λv64=>
     (a3d v64.1.Fields).bind λv65=>
     (app 8 s60 v65).bind λv66=>
     some (.inl (s6 (s59+1),v66))
    else
    some (.inr s60)) (0,[])).bind λe58=>
   κ22 e58)) (λκ11=>
  (lp (S:=Int × B9) (E:=B9) (λ((s68,s69):Int × B9)=>
   if (decide (s68<(v2.2.length:Int))) then
    (ix v2.2 s68).bind λv72=>
    (ix v2.1 v72).bind λv73=>
    (a5P s69 (⟨2,v72,v73.Call⟩:N6)).bind λv74=>
    some (.inl (s6 (s68+1),v74.1))
   else
   some (.inr s69)) (0,a0.Q)).bind λe67=>
  κ11 e67)
def L9(a0:g5):Option g5:=
 jn (λ(j21:g5)=>
  some j21) (λκ20=>
  (lp (S:=Int × g5) (E:=g5 ⊕ g5) (λ((s23,s24):Int × g5)=>
   if (decide (s23<100)) then
    jn (λ(j34:g5)=>
     some (.inl (s6 (s23+1),j34))) (λκ33=>
     (a95 s24).bind λv35=>
     if ((v35.length:Int)==0) then
      some (.inr (.inl s24))
     else
     (ix v35 0).bind λv36=>
     (a7R s24 v36).bind λv37=>
     if v37 then
      (a3B s24 v36).bind λv38=>
      κ33 v38
     else
     (cut v35 0 1).bind λv39=>
     (a68 s24 v39).bind λv40=>
     κ33 v40)
   else
   some (.inr (.inr s24))) (0,a0)).bind λe22=>
  match e22 with
  | .inl w=>some w
  | .inr w=>κ20 w)
def a7a(a0:g5):Option (g5 × Int × Int):=
 (b01 a0).bind λv1=>
 jn (λ(_:Unit)=>
  (a4d a0).bind λv20=>
  (a68 a0 v20).bind λv21=>
  (L9 v21).bind λv22=>
  (a1o a0.S).bind λv23=>
  (a1o v22.S).bind λv24=>
  some (v22,0,s6 ((v23.length:Int)-(v24.length:Int)))) (λκ18=>
  if (decide ((v1.length:Int) > 0)) then
   jn (λ(j33:g5)=>
    some (j33,(v1.length:Int),0)) (λκ32=>
    (lp (S:=Int × g5) (E:=g5) (λ((s35,s36):Int × g5)=>
     if (decide (s35<(v1.length:Int))) then
      (ix v1 s35).bind λv39=>
      (a3B s36 v39).bind λv40=>
      some (.inl (s6 (s35+1),v40))
     else
     some (.inr s36)) (0,a0)).bind λe34=>
    κ32 e34)
  else
  κ18 ())
def b02(a0:g5):Option Bool:=
 some ((a0.Q.L.length:Int)==0)
def a7c(a0:List (List M0))(a1:Int):Option (List M0):=
 if ((decide (a1<0))||(decide (a1≥(a0.length:Int)))) then
  some []
 else
 (ix a0 a1).bind λv1=>
 some v1
def a7b(a0:List (List M0))(a1:N6):Option Int:=
 (a7c a0 a1.Prog).bind λv1=>
 some (s6 (1+(v1.length:Int)))
def b3c(a0:B9):Option (B9 × N6 × Int):=
 if ((a0.L.length:Int)==0) then
  some (a0,(⟨0,0,0⟩:N6),10)
 else
 (cut a0.L 1 (a0.L.length:Int)).bind λv1=>
 (ix a0.L 0).bind λv2=>
 some ((⟨v1,a0.Cap⟩:B9),v2,0)
def T7(a0:g5)(a1:Int)(a2:Int):Option (g5 × Int):=
 if ((decide (a1<0))||(decide (a1 > 5))) then
  some (a0,6)
 else
 (a3h a0 a2).bind λv1=>
 if (!v1) then
  some (a0,3)
 else
 (ix a0.Roots a1).bind λv2=>
 (a0M a0 a2).bind λv3=>
 (app 8 [] a0.Roots).bind λv4=>
 (ix v4 a1).bind λv5=>
 (C8 (⟨v3.S,(v4.set (a1).toNat a2),v3.a8,v3.T,v3.Q⟩:g5) v2).bind λv6=>
 some (v6,0)
def b52(a0:List E1)(a1:Int)(a2:Int)(a3:Int):Option ((List E1) × Int × Int):=
 if ((decide (a1<0))||(decide (a1≥(a0.length:Int)))) then
  some (a0,0,7)
 else
 (app 24 [] a0).bind λv1=>
 (ix v1 a1).bind λv2=>
 (ix a0 a1).bind λv3=>
 some ((v1.set (a1).toNat (⟨a2,(a2 != 0),a3⟩:E1)),v3.Target,0)
def a0X(a0:g5)(a1:Int):Option g5:=
 (Q9 a0.S).bind λv1=>
 (N5 v1 a1).bind λv2=>
 if (v2.2 != 0) then
  some a0
 else
 (ix a0.S.a8 v2.1).bind λv3=>
 (K9 a0.S a1 (⟨v3.Val.Serial,v3.Val.Strong,s6 (v3.Val.Weak-1),v3.Val.Prog,v3.Val.Started,v3.Val.Fields⟩:K8)).bind λv4=>
 (ix v4.1.a8 v2.1).bind λv5=>
 if ((v5.State==2)&&(decide ((s6 (v3.Val.Weak-1))<1))) then
  (a90 v4.1 a1).bind λv6=>
  some (⟨v6,a0.Roots,a0.a8,a0.T,a0.Q⟩:g5)
 else
 some (⟨v4.1,a0.Roots,a0.a8,a0.T,a0.Q⟩:g5)
def a3A(a0:g5)(a1:Int)(a2:Int)(a3:Int):Option (g5 × Int):=
 (y8 (((decide (a1<0))||(decide (a1 > 5)))==false) false (a7Q a0.Q a1)).bind λv1=>
 if (((decide (a1<0))||(decide (a1 > 5)))||v1) then
  some (a0,7)
 else
 (a3h a0 a2).bind λv2=>
 if (!v2) then
  some (a0,3)
 else
 (b52 a0.a8 a1 a2 a3).bind λv3=>
 if (a2 != 0) then
  (D6 a0.S a2).bind λv4=>
  (K9 a0.S a2 (⟨v4.1.Serial,v4.1.Strong,s6 (v4.1.Weak+1),v4.1.Prog,v4.1.Started,v4.1.Fields⟩:K8)).bind λv5=>
  (a0X (⟨v5.1,a0.Roots,v3.1,a0.T,a0.Q⟩:g5) v3.2.1).bind λv6=>
  some (v6,0)
 else
 (a0X (⟨a0.S,a0.Roots,v3.1,a0.T,a0.Q⟩:g5) v3.2.1).bind λv7=>
 some (v7,0)
def U5(a0:g5)(a1:Int):Option (Int × Int):=
 (ix a0.Roots a1).bind λv1=>
 if (v1==0) then
  some (0,2)
 else
 some (v1,0)
def a4T(a0:g5)(a1:Int):Option Int:=
 if (decide (a1<0)) then
  some 0
 else
 (ix a0.Roots a1).bind λv1=>
 some v1
def b25(a0:List Int)(a1:Int):Option (Int × Int):=
 if ((decide (a1<0))||(decide (a1≥(a0.length:Int)))) then
  some (0,5)
 else
 (ix a0 a1).bind λv1=>
 some (v1,0)
def a3e(a0:n9)(a1:Int)(a2:Int):Option (Int × Int):=
 (D6 a0 a1).bind λv1=>
 if (v1.2 != 0) then
  some (0,v1.2)
 else
 (b25 v1.1.Fields a2).bind λv2=>
 some (v2.1,v2.2)
def b7E(a0:List Int)(a1:Int)(a2:Int):Option ((List Int) × Int):=
 if ((decide (a1<0))||(decide (a1≥(a0.length:Int)))) then
  some (a0,5)
 else
 (app 8 [] a0).bind λv1=>
 (ix v1 a1).bind λv2=>
 some ((v1.set (a1).toNat a2),0)
def b51(a0:n9)(a1:Int)(a2:Int)(a3:Int):Option (n9 × Int):=
 (D6 a0 a1).bind λv1=>
 if (v1.2 != 0) then
  some (a0,v1.2)
 else
 (b7E v1.1.Fields a2 a3).bind λv2=>
 if (v2.2 != 0) then
  some (a0,v2.2)
 else
 (K9 a0 a1 (⟨v1.1.Serial,v1.1.Strong,v1.1.Weak,v1.1.Prog,v1.1.Started,v2.1⟩:K8)).bind λv3=>
 some (v3.1,v3.2)
def a4S(a0:g5)(a1:Int)(a2:Int)(a3:Int):Option (g5 × Int):=
 (a3e a0.S a1 a2).bind λv1=>
 if (v1.2 != 0) then
  some (a0,v1.2)
 else
 (a3h a0 a3).bind λv2=>
 if (!v2) then
  some (a0,3)
 else
 (a0M a0 a3).bind λv3=>
 (b51 v3.S a1 a2 a3).bind λv4=>
 (C8 (⟨v4.1,v3.Roots,v3.a8,v3.T,v3.Q⟩:g5) v1.1).bind λv5=>
 some (v5,0)
def b53(a0:List o8)(a1:Int)(a2:Int):Option ((List o8) × Int):=
 (a2v a0 a1).bind λv1=>
 if (decide (v1≥0)) then
  (a2w a0 v1 (⟨1,a1,a2⟩:o8)).bind λv2=>
  some (v2,0)
 else
 (b7F (a0.length:Int) a1).bind λv3=>
 jn (λ(_:Unit)=>
  some (a0,8)) (λκ12=>
  (lp (S:=Int × Int) (E:=((List o8) × Int) ⊕ Unit) (λ((s15,s16):Int × Int)=>
   if (decide (s16<(a0.length:Int))) then
    (ix a0 s15).bind λv19=>
    if (v19.State != 1) then
     (a2w a0 s15 (⟨1,a1,a2⟩:o8)).bind λv20=>
     some (.inr (.inl (v20,0)))
    else
    (rem (s6 (s15+1)) (a0.length:Int)).bind λv21=>
    some (.inl (v21,s6 (s16+1)))
   else
   some (.inr (.inr ()))) (v3,0)).bind λe14=>
  match e14 with
  | .inl w=>some w
  | .inr w=>κ12 w)
def b54(a0:List o8)(a1:Int)(a2:Int):Option ((List o8) × Int × Int):=
 if (a1==0) then
  some (a0,0,2)
 else
 (a92 a0 a1).bind λv1=>
 if (a2==0) then
  (a64 a0 a1).bind λv2=>
  some (v2.1,v1.1,0)
 else
 (b53 a0 a1 a2).bind λv3=>
 if (v3.2 != 0) then
  some (a0,0,v3.2)
 else
 some (v3.1,v1.1,0)
def a67(a0:g5)(a1:Int)(a2:Int):Option (g5 × Int):=
 if (a1==0) then
  some (a0,2)
 else
 (a3g a0 a1).bind λv1=>
 (y8 ((!v1)==false) false (a3h a0 a2)).bind λv2=>
 if ((!v1)||(!v2)) then
  some (a0,3)
 else
 (b54 a0.T a1 a2).bind λv3=>
 if (v3.2.2 != 0) then
  some (a0,v3.2.2)
 else
 (a0M a0 a2).bind λv4=>
 (C8 (⟨v4.S,v4.Roots,v4.a8,v3.1,v4.Q⟩:g5) v3.2.1).bind λv5=>
 some (v5,0)
def a0Z(a0:g5)(a1:M0):Option (g5 × Int × Int):=
 if ((a1.Kind==6)&&(decide (a1.B<0))) then
  (a3A a0 a1.A 0 a1.C).bind λv1=>
  some (v1.1,0,v1.2)
 else
 jn (λ(j3:Int)=>
  (U5 a0 j3).bind λv4=>
  if (v4.2 != 0) then
   some (a0,0,v4.2)
  else
  if (a1.Kind==5) then
   (a4T a0 a1.C).bind λv5=>
   (a4S a0 v4.1 a1.B v5).bind λv6=>
   some (v6.1,v5,v6.2)
  else
  if (a1.Kind==6) then
   (a3A a0 a1.A v4.1 a1.C).bind λv7=>
   some (v7.1,v4.1,v7.2)
  else
  (a4T a0 a1.B).bind λv8=>
  (a67 a0 v4.1 v8).bind λv9=>
  some (v9.1,v8,v9.2)) (λκ2=>
  if (a1.Kind==6) then
   κ2 a1.B
  else
  κ2 a1.A)
def a3C(a0:g5)(a1:Int):Option Int:=
 (D6 a0.S a1).bind λv1=>
 some v1.1.Serial
def b2a(a0:Int):Option ((List Int) × Int):=
 if ((decide (a0<0))||(decide (a0 > 4))) then
  some ([],1)
 else
 (mk 8 a0 (0:Int)).bind λv1=>
 some (v1,0)
def a62(a0:E0)(a1:Int):Option (E0 × Int × Int):=
 jn (λ(_:Unit)=>
  some (a0,0,4)) (λκ7=>
  (lp (S:=Int) (E:=(E0 × Int × Int) ⊕ Unit) (λ(s10:Int)=>
   if (decide (s10<(a0.a8.length:Int))) then
    (ix a0.a8 s10).bind λv12=>
    if (v12.State==0) then
     (a0s a0 s10 (⟨1,v12.Gen,a1⟩:J8)).bind λv13=>
     (a4R s10 v12.Gen).bind λv14=>
     some (.inr (.inl (v13,v14,0)))
    else
    some (.inl (s6 (s10+1)))
   else
   some (.inr (.inr ()))) 0).bind λe9=>
  match e9 with
  | .inl w=>some w
  | .inr w=>κ7 w)
def a2t(a0:n9)(a1:Int)(a2:Int):Option (n9 × Int × Int):=
 (b2a a1).bind λv1=>
 if (v1.2 != 0) then
  some (a0,0,v1.2)
 else
 if ((decide (a2<(-1)))||(decide (a2 > 5))) then
  some (a0,0,13)
 else
 (Q9 a0).bind λv2=>
 (a62 v2 0).bind λv3=>
 if (v3.2.2 != 0) then
  some (a0,0,v3.2.2)
 else
 (a0L a0 v3.1).bind λv4=>
 (a60 v3.2.1).bind λv5=>
 (a2u v4 v5 (⟨s6 (a0.Serial+1),0,0,a2,false,v1.1⟩:K8)).bind λv6=>
 some ((⟨v6.a8,v6.Last,s6 (a0.Serial+1)⟩:n9),v3.2.1,0)
def b00(a0:g5)(a1:Int):Option Int:=
 if ((decide (a1<0))||(decide (a1 > 5))) then
  some 0
 else
 (ix a0.Roots a1).bind λv1=>
 (a3C a0 v1).bind λv2=>
 some v2
def a91(a0:List E1)(a1:Int):Option (Int × Int):=
 if ((decide (a1<0))||(decide (a1≥(a0.length:Int)))) then
  some (0,7)
 else
 (ix a0 a1).bind λv1=>
 if ((v1.Target==0)||(!v1.Intact)) then
  some (0,9)
 else
 some (v1.Target,0)
def b2c(a0:List o8)(a1:Int):Option (Int × Int):=
 (a92 a0 a1).bind λv1=>
 some (v1.1,v1.2)
def a1X(a0:g5)(a1:M0):Option (Int × Int):=
 if (a1.Kind==2) then
  (ix a0.Roots a1.B).bind λv1=>
  some (v1,0)
 else
 if (a1.Kind==4) then
  (U5 a0 a1.B).bind λv2=>
  if (v2.2 != 0) then
   some (0,v2.2)
  else
  (a3e a0.S v2.1 a1.C).bind λv3=>
  some (v3.1,v3.2)
 else
 if (a1.Kind==7) then
  (a91 a0.a8 a1.B).bind λv4=>
  some (v4.1,v4.2)
 else
 if (a1.Kind==9) then
  (U5 a0 a1.B).bind λv5=>
  if (v5.2 != 0) then
   some (0,v5.2)
  else
  (b2c a0.T v5.1).bind λv6=>
  some (v6.1,v6.2)
 else
 some (0,0)
def A6(a0:g5)(a1:M0):Option (g5 × Int × Int):=
 (a0Y a1).bind λv1=>
 if (v1 != 0) then
  some (a0,0,v1)
 else
 (U4 a1).bind λv2=>
 if (!v2) then
  some (a0,0,14)
 else
 if (a1.Kind==10) then
  (ix a0.Roots a1.A).bind λv3=>
  (ix a0.Roots a1.B).bind λv4=>
  if (v3==v4) then
   some (a0,1,0)
  else
  some (a0,0,0)
 else
 jn (λ(j6:Bool)=>
  if j6 then
   (a0Z a0 a1).bind λv7=>
   if (v7.2.2 != 0) then
    some (a0,0,v7.2.2)
   else
   (L9 v7.1).bind λv8=>
   (a3C a0 v7.2.1).bind λv9=>
   some (v8,v9,0)
  else
  if (a1.Kind==1) then
   (a2t a0.S a1.B a1.C).bind λv10=>
   if (v10.2.2 != 0) then
    some (a0,0,v10.2.2)
   else
   (T7 (⟨v10.1,a0.Roots,a0.a8,a0.T,a0.Q⟩:g5) a1.A v10.2.1).bind λv11=>
   (L9 v11.1).bind λv12=>
   (b00 v12 a1.A).bind λv13=>
   some (v12,v13,0)
  else
  (a1X a0 a1).bind λv14=>
  if (v14.2 != 0) then
   some (a0,0,v14.2)
  else
  (T7 a0 a1.A v14.1).bind λv15=>
  (L9 v15.1).bind λv16=>
  (b00 v16 a1.A).bind λv17=>
  some (v16,v17,0)) (λκ5=>
  if (a1.Kind==5) then
   κ5 (a1.Kind==5)
  else
  if (a1.Kind==6) then
   κ5 (a1.Kind==6)
  else
  κ5 (a1.Kind==8))
def b2d(a0:g5)(a1:List M0):Option (g5 × (List Int)):=
 jn (λ((j11,j12):g5 × (List Int))=>
  some (j11,j12)) (λκ10=>
  (lp (S:=Int × g5 × (List Int)) (E:=(g5 × (List Int))) (λ((s15,s16,s17):Int × g5 × (List Int))=>
   if (decide (s15<(a1.length:Int))) then
    (ix a1 s15).bind λv20=>
    (A6 s16 v20).bind λv21=>
    (app 8 s17 [v21.2.1]).bind λv22=>
    some (.inl (s6 (s15+1),v21.1,v22))
   else
   some (.inr (s16,s17))) (0,a0,[])).bind λe14=>
  κ10 e14)
def b3d(a0:g5)(a1:List (List M0)):Option (g5 × N6 × Int):=
 (b3c a0.Q).bind λv1=>
 if (v1.2.2 != 0) then
  some (a0,(⟨0,0,0⟩:N6),v1.2.2)
 else
 jn (λ(j6:g5)=>
  (a7c a1 v1.2.1.Prog).bind λv7=>
  (b2d j6 v7).bind λv8=>
  if (v1.2.1.Kind==1) then
   (T7 v8.1 5 0).bind λv9=>
   (L9 v9.1).bind λv10=>
   some (v10,v1.2.1,0)
  else
  some (v8.1,v1.2.1,0)) (λκ5=>
  if (v1.2.1.Kind==1) then
   (T7 (⟨a0.S,a0.Roots,a0.a8,a0.T,v1.1⟩:g5) 5 v1.2.1.At).bind λv11=>
   (C8 v11.1 v1.2.1.At).bind λv12=>
   (L9 v12).bind λv13=>
   κ5 v13
  else
  κ5 (⟨a0.S,a0.Roots,a0.a8,a0.T,v1.1⟩:g5))
def a7T(a0:g5)(a1:List (List M0))(a2:Int):Option (g5 × Int × Int × Int):=
 jn (λ((j12,j13,j14):Int × Int × g5)=>
  some (j14,j13,j12,0)) (λκ11=>
  (lp (S:=Int × Int × g5) (E:=(g5 × Int × Int × Int) ⊕ (Int × Int × g5)) (λ((s17,s18,s19):Int × Int × g5)=>
   (b02 s19).bind λv22=>
   if (!v22) then
    (ix s19.Q.L 0).bind λv23=>
    (a7b a1 v23).bind λv24=>
    if (decide (v24 > s17)) then
     some (.inr (.inl (s19,s18,s17,12)))
    else
    (b3d s19 a1).bind λv25=>
    some (.inl (s6 (s17-v24),s6 (s18+1),v25.1))
   else
   some (.inr (.inr (s17,s18,s19)))) (a2,0,a0)).bind λe16=>
  match e16 with
  | .inl w=>some w
  | .inr w=>κ11 w)
def b89(a0:B2)(a1:List Int):Option (B2 × C9):=
 (a1W a1).bind λv1=>
 if (v1.2 != 0) then
  some (a0,(⟨0,v1.2⟩:C9))
 else
 if (v1.1.Kind==11) then
  (a7a a0.X).bind λv2=>
  some ((⟨v2.1,a0.Progs⟩:B2),(⟨s6 (v2.2.2-v2.2.1),0⟩:C9))
 else
 if (v1.1.Kind==12) then
  (a7T a0.X a0.Progs v1.1.A).bind λv3=>
  some ((⟨v3.1,a0.Progs⟩:B2),(⟨v3.2.1,v3.2.2.2⟩:C9))
 else
 (A6 a0.X v1.1).bind λv4=>
 some ((⟨v4.1,a0.Progs⟩:B2),(⟨v4.2.1,v4.2.2⟩:C9))
def a7U(a0:B2)(a1:List (List Int)):Option (B2 × (List C9)):=
 jn (λ((j11,j12):B2 × (List C9))=>
  some (j11,j12)) (λκ10=>
  (lp (S:=Int × B2 × (List C9)) (E:=(B2 × (List C9))) (λ((s15,s16,s17):Int × B2 × (List C9))=>
   if (decide (s15<(a1.length:Int))) then
    (ix a1 s15).bind λv20=>
    (b89 s16 v20).bind λv21=>
    (app 16 s17 [v21.2]).bind λv22=>
    some (.inl (s6 (s15+1),v21.1,v22))
   else
   some (.inr (s16,s17))) (0,a0,[])).bind λe14=>
  κ10 e14)
end
end Go.Sh
