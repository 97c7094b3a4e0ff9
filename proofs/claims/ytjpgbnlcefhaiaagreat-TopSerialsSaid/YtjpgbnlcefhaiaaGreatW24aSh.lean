/-
 Plain functions: what the functions of the program come to.
-/
import Derived.Test.YtjpgbnlcefhaiaaGreatW24aSh0
import Derived.Test.YtjpgbnlcefhaiaaGreatW24aPwD
import Derived.Test.YtjpgbnlcefhaiaaGreatW24aPwC
set_option linter.unusedVariables false
set_option linter.unusedSimpArgs false
set_option linter.unusedSectionVars false
namespace Go.Sh
set_option maxRecDepth 100000
noncomputable section
structure c9 where
 Kind:Int
 A:Int
 B:Int
 C:Int
structure l6 where
 Serial:Int
 Strong:Int
 Weak:Int
 Prog:Int
 Started:Bool
 Fields:List Int
structure b7 where
 State:Int
 Gen:Int
 Val:l6
structure c8 where
 Target:Int
 Intact:Bool
 Call:Int
structure b8 where
 State:Int
 Key:Int
 Val:Int
structure g9 where
 Kind:Int
 At:Int
 Prog:Int
structure e6 where
 part:Fv
 least:Int
 most:Int
 e:Int
structure c4 where
 a8:List b7
 Last:Int
structure a7 where
 S:c4
 Serial:Int
structure c7 where
 L:List g9
 Cap:Int
structure b6 where
 S:a7
 Roots:List Int
 a8:List c8
 T:List b8
 Q:c7
structure k7 where
 X:b6
 Progs:List (List c9)
structure k9 where
 V:Int
 E:Int
structure o5 where
 x:b6
 o:c9
structure F3 where
 r:Int
 h:Int
structure D8 where
 h:Int
 k:Int
 v:Int
structure F2 where
 t:List b8
structure m7 where
 Key:Int
 Val:Int
structure g8 where
 L:List Int
 Cap:Int
def a4A(a0:List (List c9))(a1:List (List Int))(a2:Int):Option Bool:=
 jn (λ(_:Unit)=>
  jn (λ(_:Unit)=>
   some ((decide ((a0.length:Int)≤10))&&(decide ((a1.length:Int)≤a2)))) (λκ11=>
   (lp (S:=Int) (E:=Bool ⊕ Unit) (λ(s14:Int)=>
    if ((decide (s14<(a1.length:Int)))&&(decide (s14<200))) then
     (ix a1 s14).bind λv16=>
     if (decide ((v16.length:Int) > 10)) then
      some (.inr (.inl false))
     else
     some (.inl (r7 (s14+1)))
    else
    some (.inr (.inr ()))) 0).bind λe13=>
   match e13 with
   | .inl w=>some w
   | .inr w=>κ11 w)) (λκ5=>
  (lp (S:=Int) (E:=Bool ⊕ Unit) (λ(s18:Int)=>
   if ((decide (s18<(a0.length:Int)))&&(decide (s18<10))) then
    (ix a0 s18).bind λv20=>
    if (decide ((v20.length:Int) > 10)) then
     some (.inr (.inl false))
    else
    some (.inl (r7 (s18+1)))
   else
   some (.inr (.inr ()))) 0).bind λe17=>
  match e17 with
  | .inl w=>some w
  | .inr w=>κ5 w)
def a11(a0:c9):Option Bool:=
 some ((decide (a0.Kind≥1))&&(decide (a0.Kind≤10)))
def W5:Option e6:=
 some (⟨(some 114),0,5,6⟩:e6)
def O8:Option e6:=
 some (⟨(some 117),(-1),5,13⟩:e6)
def G6(a0:List e6):Option (List e6):=
 some a0
def W6:Option e6:=
 some (⟨(some 115),0,5,6⟩:e6)
def T4:Option e6:=
 some (⟨(some 117),0,3,5⟩:e6)
def T3:Option e6:=
 some (⟨(some 115),0,3,5⟩:e6)
def L2:Option e6:=
 some (⟨(some 117),(-1),5,6⟩:e6)
def W3:Option e6:=
 some (⟨(some 114),0,5,7⟩:e6)
def L1:Option e6:=
 some (⟨(some 115),(-1),5,6⟩:e6)
def W4:Option e6:=
 some (⟨(some 115),0,5,7⟩:e6)
def a5K:Option (List (Int × (List e6))):=
 (W5).bind λv1=>
 (O8).bind λv2=>
 (G6 [v1,(⟨(some 115),0,4,1⟩:e6),v2]).bind λv3=>
 (W6).bind λv4=>
 (G6 [v1,v4]).bind λv5=>
 (G6 [v1]).bind λv6=>
 (T4).bind λv7=>
 (G6 [v1,v4,v7]).bind λv8=>
 (T3).bind λv9=>
 (L2).bind λv10=>
 (G6 [v1,v9,v10]).bind λv11=>
 (W3).bind λv12=>
 (L1).bind λv13=>
 (G6 [v12,v13,v2]).bind λv14=>
 (W4).bind λv15=>
 (G6 [v1,v15]).bind λv16=>
 (G6 [v1,v13]).bind λv17=>
 (G6 []).bind λv18=>
 (G6 [(⟨(some 114),0,200,12⟩:e6)]).bind λv19=>
 some (n9 (n9 (n9 (n9 (n9 (n9 (n9 (n9 (n9 (n9 (n9 (n9 [] 1 v3) 2 v5) 3 v6) 4 v8) 5 v11) 6 v14) 7 v16) 8 v17) 9 v5) 10 v5) 11 v18) 12 v19)
def a86(a0:c9):Option Int:=
 some a0.A
def a87(a0:c9):Option Int:=
 some a0.B
def a88(a0:c9):Option Int:=
 some a0.C
def a9S(f:Fv)(a0:c9):Option Int:=
 if f=some 114 then a86 a0 else
 if f=some 115 then a87 a0 else
 if f=some 117 then a88 a0 else
 none
def O7(a0:c9):Option Int:=
 (a5K).bind λv1=>
 if (!((z6 v1 a0.Kind).isSome)) then
  some 14
 else
 jn (λ(_:Unit)=>
  some 0) (λκ8=>
  (lp (S:=Int) (E:=Int ⊕ Unit) (λ(s11:Int)=>
   if (decide (s11<(((z6 v1 a0.Kind).getD ([]:List e6)).length:Int))) then
    (ix ((z6 v1 a0.Kind).getD ([]:List e6)) s11).bind λv13=>
    (a9S v13.part a0).bind λv14=>
    if ((decide (v14<v13.least))||(decide (v14 > v13.most))) then
     some (.inr (.inl v13.e))
    else
    some (.inl (r7 (s11+1)))
   else
   some (.inr (.inr ()))) 0).bind λe10=>
  match e10 with
  | .inl w=>some w
  | .inr w=>κ8 w)
def a12(a0:List (List c9)):Option Bool:=
 if (decide ((a0.length:Int) > 6)) then
  some false
 else
 jn (λ(_:Unit)=>
  some true) (λκ20=>
  (lp (S:=Int) (E:=Bool ⊕ Unit) (λ(s23:Int)=>
   if (decide (s23<(a0.length:Int))) then
    jn (λ(_:Unit)=>
     some (.inl (r7 (s23+1)))) (λκ32=>
     (ix a0 s23).bind λv34=>
     if (decide ((v34.length:Int) > 6)) then
      some (.inr (.inl false))
     else
     (lp (S:=Int) (E:=Bool ⊕ Unit) (λ(s36:Int)=>
      if (decide (s36<(v34.length:Int))) then
       (ix v34 s36).bind λv38=>
       (a11 v38).bind λv39=>
       (r8 ((!v39)==false) 0 (O7 v38)).bind λv40=>
       if ((!v39)||(v40 != 0)) then
        some (.inr (.inl false))
       else
       some (.inl (r7 (s36+1)))
      else
      some (.inr (.inr ()))) 0).bind λe35=>
     match e35 with
     | .inl w=>some (.inr (.inl w))
     | .inr w=>κ32 w)
   else
   some (.inr (.inr ()))) 0).bind λe22=>
  match e22 with
  | .inl w=>some w
  | .inr w=>κ20 w)
def T8(a0:Int)(a1:Int):Option c4:=
 if ((((decide (a0<0))||(decide (a0 > 24)))||(decide (a1<0)))||(decide (a1 > 9))) then
  some (⟨[],0⟩:c4)
 else
 (mk 80 a0 (⟨0,0,⟨0,0,0,0,false,[]⟩⟩:b7)).bind λv1=>
 some (⟨v1,a1⟩:c4)
def a3x(a0:Int)(a1:Int):Option a7:=
 (T8 a0 a1).bind λv1=>
 some (⟨v1,0⟩:a7)
def b8t(a0:Int):Option (List c8):=
 if ((decide (a0<0))||(decide (a0 > 6))) then
  some []
 else
 (mk 24 a0 (⟨0,false,0⟩:c8)).bind λv1=>
 jn (λ(j9:List c8)=>
  some j9) (λκ8=>
  (lp (S:=Int × (List c8)) (E:=(List c8)) (λ((s11,s12):Int × (List c8))=>
   if (decide (s11<(v1.length:Int))) then
    (ix s12 s11).bind λv15=>
    some (.inl (r7 (s11+1),(s12.set (s11).toNat (⟨v15.Target,v15.Intact,(-1)⟩:c8))))
   else
   some (.inr s12)) (0,v1)).bind λe10=>
  κ8 e10)
def a90(a0:Int):Option (List b8):=
 if ((decide (a0<1))||(decide (a0 > 8))) then
  some []
 else
 (mk 24 a0 (⟨0,0,0⟩:b8)).bind λv1=>
 some v1
def a0v(a0:Int):Option c7:=
 some (⟨[],a0⟩:c7)
def b8i:Option c7:=
 (a0v 30).bind λv1=>
 some v1
def a3H(a0:Int)(a1:Int)(a2:Int):Option b6:=
 if ((((((decide (a0<1))||(decide (a0 > 24)))||(decide (a1<0)))||(decide (a1 > 9)))||(decide (a2<1)))||(decide (a2 > 8))) then
  some (⟨⟨⟨[],0⟩,0⟩,[],[],[],⟨[],0⟩⟩:b6)
 else
 (a3x a0 a1).bind λv1=>
 (mk 8 6 (0:Int)).bind λv2=>
 (b8t 6).bind λv3=>
 (a90 a2).bind λv4=>
 (b8i).bind λv5=>
 some (⟨v1,v2,v3,v4,v5⟩:b6)
def a0S(a0:Int)(a1:Int)(a2:Int)(a3:List (List c9)):Option (k7 × Int):=
 (a12 a3).bind λv1=>
 if (!v1) then
  some ((⟨⟨⟨⟨[],0⟩,0⟩,[],[],[],⟨[],0⟩⟩,[]⟩:k7),13)
 else
 (a3H a0 a1 a2).bind λv2=>
 if ((v2.Roots.length:Int)==0) then
  some ((⟨⟨⟨⟨[],0⟩,0⟩,[],[],[],⟨[],0⟩⟩,[]⟩:k7),1)
 else
 some ((⟨v2,a3⟩:k7),0)
def a33(a0:Int)(a1:Int):Option k7:=
 (a0S a0 a1 8 []).bind λv1=>
 some v1.1
def a1P(a0:Int)(a1:Int)(a2:Int)(a3:Int):Option (List Int):=
 some [a0,a1,a2,a3]
def S9(a0:List Int):Option (c9 × Int):=
 if ((a0.length:Int) != 4) then
  some ((⟨0,0,0,0⟩:c9),14)
 else
 (ix a0 0).bind λv1=>
 (ix a0 1).bind λv2=>
 (ix a0 2).bind λv3=>
 (ix a0 3).bind λv4=>
 (O7 (⟨v1,v2,v3,v4⟩:c9)).bind λv5=>
 if (v5 != 0) then
  some ((⟨0,0,0,0⟩:c9),v5)
 else
 some ((⟨v1,v2,v3,v4⟩:c9),0)
def a5N(a0:c9):Option Ifc:=
 if (a0.Kind==11) then
  some (⟨89,[]⟩:Ifc)
 else
 if (a0.Kind==12) then
  some (⟨93,[a0.A]⟩:Ifc)
 else
 some (⟨85,[a0.Kind,a0.A,a0.B,a0.C]⟩:Ifc)
def a2r:Option (List (Int × Fv)):=
 some (n9 (n9 (n9 (n9 (n9 (n9 (n9 (n9 (n9 (n9 [] 1 (some 65)) 2 (some 66)) 3 (some 67)) 4 (some 68)) 5 (some 69)) 6 (some 70)) 7 (some 71)) 8 (some 72)) 9 (some 73)) 10 (some 74))
def b6V(a0:Int):Option ((List Int) × Int):=
 if ((decide (a0<0))||(decide (a0 > 4))) then
  some ([],1)
 else
 (mk 8 a0 (0:Int)).bind λv1=>
 some (v1,0)
def O5(a0:Int):Option Bool:=
 some ((decide (a0≥(-1)))&&(decide (a0<6)))
def L0(a0:c4):Option c4:=
 some a0
def s6(a0:List b7):Option (List b7):=
 app 80 [] a0
def A7(a0:c4)(a1:Int)(a2:b7):Option c4:=
 (s6 a0.a8).bind λv1=>
 (ix v1 a1).bind λv2=>
 some (⟨(v1.set (a1).toNat a2),a0.Last⟩:c4)
def a1c(a0:Int)(a1:Int):Option Int:=
 if ((((decide (a0<0))||(decide (a0≥24)))||(decide (a1<0)))||(decide (a1 > 9))) then
  some 0
 else
 some (r7 ((r7 (1+(r7 (a0*1))))+(r7 (a1*32))))
def G4(a0:c4)(a1:l6):Option (c4 × Int × Int):=
 jn (λ(_:Unit)=>
  some (a0,0,4)) (λκ9=>
  (L0 a0).bind λv11=>
  (lp (S:=Int) (E:=(c4 × Int × Int) ⊕ Unit) (λ(s13:Int)=>
   if (decide (s13<(v11.a8.length:Int))) then
    (ix v11.a8 s13).bind λv15=>
    if ((v15.State==0)==true) then
     (ix a0.a8 s13).bind λv16=>
     (A7 a0 s13 (⟨1,v16.Gen,a1⟩:b7)).bind λv17=>
     (a1c s13 v16.Gen).bind λv18=>
     some (.inr (.inl (v17,v18,0)))
    else
    some (.inl (r7 (s13+1)))
   else
   some (.inr (.inr ()))) 0).bind λe12=>
  match e12 with
  | .inl w=>some w
  | .inr w=>κ9 w)
def P5(a0:a7)(a1:Int)(a2:Int):Option (a7 × Int × Int):=
 (b6V a1).bind λv1=>
 if (v1.2 != 0) then
  some (a0,0,v1.2)
 else
 (O5 a2).bind λv2=>
 if (!v2) then
  some (a0,0,13)
 else
 (G4 a0.S (⟨r7 (a0.Serial+1),0,0,a2,false,v1.1⟩:l6)).bind λv3=>
 if (v3.2.2 != 0) then
  some (a0,0,v3.2.2)
 else
 some ((⟨v3.1,r7 (a0.Serial+1)⟩:a7),v3.2.1,0)
def a1v(a0:Int):Option (Int × Int × Bool):=
 if (decide (a0<1)) then
  some ((-1),(-1),false)
 else
 (rem (r7 (a0-1)) 32).bind λv1=>
 (quo .i64 v1 1).bind λv2=>
 (quo .i64 (r7 (a0-1)) 32).bind λv3=>
 if ((decide (v2≥24))||(decide (v3 > 9))) then
  some ((-1),(-1),false)
 else
 some (v2,v3,true)
def a2A(a0:Int):Option Int:=
 (a1v a0).bind λv1=>
 some v1.1
def a3F(a0:Int):Option Int:=
 (a1v a0).bind λv1=>
 some v1.2.1
def p8(a0:c4)(a1:Int):Option (Int × Int):=
 if (a1==0) then
  some ((-1),2)
 else
 (a2A a1).bind λv1=>
 if ((decide (v1<0))||(decide (v1≥(a0.a8.length:Int)))) then
  some ((-1),3)
 else
 (ix a0.a8 v1).bind λv2=>
 (a3F a1).bind λv3=>
 if ((v2.Gen != v3)||((v2.State != 1)&&(v2.State != 2))) then
  some ((-1),3)
 else
 some (v1,0)
def B4(a0:c4)(a1:Int):Option (l6 × Int):=
 (p8 a0 a1).bind λv1=>
 if (v1.2 != 0) then
  some ((⟨0,0,0,0,false,[]⟩:l6),v1.2)
 else
 (ix a0.a8 v1.1).bind λv2=>
 if (v2.State==2) then
  some ((⟨0,0,0,0,false,[]⟩:l6),3)
 else
 some (v2.Val,0)
def r9(a0:a7)(a1:Int):Option (l6 × Int):=
 (B4 a0.S a1).bind λv1=>
 some (v1.1,v1.2)
def a4j(a0:b6)(a1:Int):Option Bool:=
 (r9 a0.S a1).bind λv1=>
 some (v1.2==0)
def I3(a0:b6)(a1:Int):Option Bool:=
 (r8 ((a1==0)==false) false (a4j a0 a1)).bind λv1=>
 some ((a1==0)||v1)
def D3(a0:Int):Option Bool:=
 some (decide (a0≥12))
def a3A(a0:Int):Option (Int × Int):=
 (D3 a0).bind λv1=>
 if v1 then
  some (12,0)
 else
 some (r7 ((if 0 > a0 then 0 else a0)+1),0)
def a7R(a0:Int):Option Int:=
 (a3A a0).bind λv1=>
 some v1.1
def H7(a0:c4)(a1:Int)(a2:l6):Option (c4 × Int):=
 (p8 a0 a1).bind λv1=>
 if (v1.2 != 0) then
  some (a0,v1.2)
 else
 (ix a0.a8 v1.1).bind λv2=>
 (A7 a0 v1.1 (⟨v2.State,v2.Gen,a2⟩:b7)).bind λv3=>
 some (v3,0)
def H8(a0:a7)(a1:Int)(a2:l6):Option (a7 × Int):=
 (H7 a0.S a1 a2).bind λv1=>
 some ((⟨v1.1,a0.Serial⟩:a7),v1.2)
def Q8(a0:b6)(a1:Int):Option b6:=
 (r9 a0.S a1).bind λv1=>
 if (v1.2==0) then
  (a7R v1.1.Strong).bind λv2=>
  (H8 a0.S a1 (⟨v1.1.Serial,v2,v1.1.Weak,v1.1.Prog,v1.1.Started,v1.1.Fields⟩:l6)).bind λv3=>
  some (⟨v3.1,a0.Roots,a0.a8,a0.T,a0.Q⟩:b6)
 else
 some a0
def Y7(a0:b6)(a1:Int):Option b6:=
 (Q8 a0 a1).bind λv1=>
 some v1
def J4(a0:List Int):Option (List Int):=
 app 8 [] a0
def M1(a0:F3)(a1:b6):Option b6:=
 (J4 a1.Roots).bind λv1=>
 (ix v1 a0.r).bind λv2=>
 some (⟨a1.S,(v1.set (a0.r).toNat a0.h),a1.a8,a1.T,a1.Q⟩:b6)
def a14(a0:Int):Option (Int × Int):=
 (D3 a0).bind λv1=>
 if v1 then
  some (12,0)
 else
 if (decide (a0<1)) then
  some (0,11)
 else
 some (r7 (a0-1),0)
def b0P(a0:Int):Option (Int × Int):=
 (a14 a0).bind λv1=>
 some (v1.1,v1.2)
def a1w(a0:Int):Option Int:=
 (b0P a0).bind λv1=>
 if (v1.2 != 0) then
  some a0
 else
 some v1.1
def K3(a0:b6)(a1:Int):Option b6:=
 (r9 a0.S a1).bind λv1=>
 if (v1.2==0) then
  (a1w v1.1.Strong).bind λv2=>
  (H8 a0.S a1 (⟨v1.1.Serial,v2,v1.1.Weak,v1.1.Prog,v1.1.Started,v1.1.Fields⟩:l6)).bind λv3=>
  some (⟨v3.1,a0.Roots,a0.a8,a0.T,a0.Q⟩:b6)
 else
 some a0
def A6(a0:b6)(a1:Int):Option b6:=
 (K3 a0 a1).bind λv1=>
 some v1
def C9(a0:b6)(a1:Int)(a2:Int)(a3:F3):Option b6:=
 (Y7 a0 a2).bind λv1=>
 (M1 a3 v1).bind λv2=>
 (A6 v2 a1).bind λv3=>
 some v3
def a0c(a0:b6)(a1:Int)(a2:Int):Option (b6 × Int):=
 if ((decide (a1<0))||(decide (a1≥(a0.Roots.length:Int)))) then
  some (a0,6)
 else
 (I3 a0 a2).bind λv1=>
 if (!v1) then
  some (a0,3)
 else
 (ix a0.Roots a1).bind λv2=>
 (C9 a0 v2 a2 (⟨a1,a2⟩:F3)).bind λv3=>
 some (v3,0)
def z8(a0:o5)(a1:Int)(a2:Int):Option (b6 × Int):=
 if (a2 != 0) then
  some (a0.x,a2)
 else
 (a0c a0.x a0.o.A a1).bind λv1=>
 some (v1.1,v1.2)
def P9(a0:o5):Option (b6 × Int):=
 (P5 a0.x.S a0.o.B a0.o.C).bind λv1=>
 if (v1.2.2 != 0) then
  some (a0.x,v1.2.2)
 else
 (z8 (⟨⟨v1.1,a0.x.Roots,a0.x.a8,a0.x.T,a0.x.Q⟩,a0.o⟩:o5) v1.2.1 0).bind λv2=>
 some (v2.1,v2.2)
def I5(a0:b6)(a1:Int):Option Int:=
 if ((decide (a1<0))||(decide (a1≥(a0.Roots.length:Int)))) then
  some 0
 else
 (ix a0.Roots a1).bind λv1=>
 some v1
def F7(a0:o5):Option (b6 × Int):=
 (I5 a0.x a0.o.B).bind λv1=>
 (z8 a0 v1 0).bind λv2=>
 some (v2.1,v2.2)
def X7(a0:o5):Option (b6 × Int):=
 (z8 a0 0 0).bind λv1=>
 some (v1.1,v1.2)
def J1(a0:b6)(a1:Int):Option (Int × Int):=
 (I5 a0 a1).bind λv1=>
 if (v1==0) then
  some (0,2)
 else
 some (v1,0)
def a6u(a0:List Int)(a1:Int):Option Bool:=
 some ((decide (a1≥0))&&(decide (a1<(a0.length:Int))))
def b1y(a0:List Int)(a1:Int):Option (Int × Int):=
 (a6u a0 a1).bind λv1=>
 if (!v1) then
  some (0,5)
 else
 (ix a0 a1).bind λv2=>
 some (v2,0)
def Z3(a0:a7)(a1:Int)(a2:Int):Option (Int × Int):=
 (r9 a0 a1).bind λv1=>
 if (v1.2 != 0) then
  some (0,v1.2)
 else
 (b1y v1.1.Fields a2).bind λv2=>
 some (v2.1,v2.2)
def X8(a0:o5):Option (b6 × Int):=
 (J1 a0.x a0.o.B).bind λv1=>
 if (v1.2 != 0) then
  some (a0.x,v1.2)
 else
 (Z3 a0.x.S v1.1 a0.o.C).bind λv2=>
 (z8 a0 v2.1 v2.2).bind λv3=>
 some (v3.1,v3.2)
def b3X(a0:List Int)(a1:Int)(a2:Int):Option ((List Int) × Int):=
 (a6u a0 a1).bind λv1=>
 if (!v1) then
  some (a0,5)
 else
 (mk 8 (a0.length:Int) (0:Int)).bind λv2=>
 (cpy v2 a0).bind λv3=>
 (ix v3 a1).bind λv4=>
 some ((v3.set (a1).toNat a2),0)
def a8m(a0:a7)(a1:Int)(a2:Int)(a3:Int):Option (a7 × Int):=
 (r9 a0 a1).bind λv1=>
 if (v1.2 != 0) then
  some (a0,v1.2)
 else
 (b3X v1.1.Fields a2 a3).bind λv2=>
 if (v2.2 != 0) then
  some (a0,v2.2)
 else
 (H8 a0 a1 (⟨v1.1.Serial,v1.1.Strong,v1.1.Weak,v1.1.Prog,v1.1.Started,v2.1⟩:l6)).bind λv3=>
 some (v3.1,v3.2)
def a0r(a0:D8)(a1:b6):Option b6:=
 (a8m a1.S a0.h a0.k a0.v).bind λv1=>
 some (⟨v1.1,a1.Roots,a1.a8,a1.T,a1.Q⟩:b6)
def F4(a0:b6)(a1:Int)(a2:Int)(a3:D8):Option b6:=
 (Y7 a0 a2).bind λv1=>
 (a0r a3 v1).bind λv2=>
 (A6 v2 a1).bind λv3=>
 some v3
def a17(a0:b6)(a1:Int)(a2:Int)(a3:Int):Option (b6 × Int):=
 (Z3 a0.S a1 a2).bind λv1=>
 if (v1.2 != 0) then
  some (a0,v1.2)
 else
 (I3 a0 a3).bind λv2=>
 if (!v2) then
  some (a0,3)
 else
 (F4 a0 v1.1 a3 (⟨a1,a2,a3⟩:D8)).bind λv3=>
 some (v3,0)
def T7(a0:o5):Option (b6 × Int):=
 (J1 a0.x a0.o.A).bind λv1=>
 if (v1.2 != 0) then
  some (a0.x,v1.2)
 else
 (I5 a0.x a0.o.C).bind λv2=>
 (a17 a0.x v1.1 a0.o.B v2).bind λv3=>
 some (v3.1,v3.2)
def b2z(a0:c7)(a1:Int):Option (c7 × Int):=
 some (a0,a1)
def a30(a0:c7)(a1:Int):Option Bool:=
 jn (λ(_:Unit)=>
  some false) (λκ6=>
  (b2z a0 2).bind λv8=>
  (lp (S:=Int) (E:=Bool ⊕ Unit) (λ(s10:Int)=>
   if (decide (s10<(v8.1.L.length:Int))) then
    (ix v8.1.L s10).bind λv12=>
    if ((v12.Kind==v8.2)==true) then
     if (v12.At==a1) then
      some (.inr (.inl true))
     else
     some (.inl (r7 (s10+1)))
    else
    some (.inl (r7 (s10+1)))
   else
   some (.inr (.inr ()))) 0).bind λe9=>
  match e9 with
  | .inl w=>some w
  | .inr w=>κ6 w)
def a5w(a0:List c8)(a1:Int):Option Bool:=
 some ((decide (a1≥0))&&(decide (a1<(a0.length:Int))))
def Z4(a0:List c8):Option (List c8):=
 (mk 24 (a0.length:Int) (⟨0,false,0⟩:c8)).bind λv1=>
 (cpy v1 a0).bind λv2=>
 some v2
def b0I(a0:List c8)(a1:Int)(a2:Int)(a3:Int):Option ((List c8) × Int × Int):=
 (a5w a0 a1).bind λv1=>
 if (!v1) then
  some (a0,0,7)
 else
 (Z4 a0).bind λv2=>
 (ix v2 a1).bind λv3=>
 (ix a0 a1).bind λv4=>
 some ((v2.set (a1).toNat (⟨a2,(a2 != 0),a3⟩:c8)),v4.Target,0)
def a1e(a0:b6)(a1:Int)(a2:Int):Option b6:=
 (p8 a0.S.S a1).bind λv1=>
 if (v1.2==0) then
  (ix a0.S.S.a8 v1.1).bind λv2=>
  (H8 a0.S a1 (⟨v2.Val.Serial,v2.Val.Strong,r7 (v2.Val.Weak+a2),v2.Val.Prog,v2.Val.Started,v2.Val.Fields⟩:l6)).bind λv3=>
  some (⟨v3.1,a0.Roots,a0.a8,a0.T,a0.Q⟩:b6)
 else
 some a0
def K9(a0:c4)(a1:Int):Option (c4 × Int):=
 (p8 a0 a1).bind λv1=>
 if (v1.2 != 0) then
  some (a0,v1.2)
 else
 (ix a0.a8 v1.1).bind λv2=>
 if (v2.Gen==a0.Last) then
  (A7 a0 v1.1 (⟨3,v2.Gen,⟨0,0,0,0,false,[]⟩⟩:b7)).bind λv3=>
  some (v3,0)
 else
 (A7 a0 v1.1 (⟨0,r7 (v2.Gen+1),⟨0,0,0,0,false,[]⟩⟩:b7)).bind λv4=>
 some (v4,0)
def a2q(a0:b6)(a1:Int):Option b6:=
 (a1e a0 a1 (-1)).bind λv1=>
 (p8 v1.S.S a1).bind λv2=>
 if (v2.2 != 0) then
  some v1
 else
 (ix v1.S.S.a8 v2.1).bind λv3=>
 if ((v3.State==2)&&(v3.Val.Weak==0)) then
  (K9 v1.S.S a1).bind λv4=>
  some (⟨⟨v4.1,v1.S.Serial⟩,v1.Roots,v1.a8,v1.T,v1.Q⟩:b6)
 else
 some v1
def a0d(a0:b6)(a1:Int)(a2:Int)(a3:Int):Option (b6 × Int):=
 (r8 (((decide (a1<0))||(decide (a1≥(a0.a8.length:Int))))==false) false (a30 a0.Q a1)).bind λv1=>
 if (((decide (a1<0))||(decide (a1≥(a0.a8.length:Int))))||v1) then
  some (a0,7)
 else
 (I3 a0 a2).bind λv2=>
 if (!v2) then
  some (a0,3)
 else
 (b0I a0.a8 a1 a2 a3).bind λv3=>
 (a1e (⟨a0.S,a0.Roots,v3.1,a0.T,a0.Q⟩:b6) a2 1).bind λv4=>
 (a2q v4 v3.2.1).bind λv5=>
 some (v5,0)
def Q0(a0:o5):Option (b6 × Int):=
 if (a0.o.B==(-1)) then
  (a0d a0.x a0.o.A 0 a0.o.C).bind λv1=>
  some (v1.1,v1.2)
 else
 (J1 a0.x a0.o.B).bind λv2=>
 if (v2.2 != 0) then
  some (a0.x,v2.2)
 else
 (a0d a0.x a0.o.A v2.1 a0.o.C).bind λv3=>
 some (v3.1,v3.2)
def a5v(a0:List c8)(a1:Int):Option (Int × Int):=
 (a5w a0 a1).bind λv1=>
 if (!v1) then
  some (0,7)
 else
 (ix a0 a1).bind λv2=>
 if ((v2.Target==0)||(!v2.Intact)) then
  some (0,9)
 else
 some (v2.Target,0)
def U6(a0:o5):Option (b6 × Int):=
 (a5v a0.x.a8 a0.o.B).bind λv1=>
 (z8 a0 v1.1 v1.2).bind λv2=>
 some (v2.1,v2.2)
def a3m(a0:Int)(a1:Int):Option (Int × Int):=
 some (a0,a1)
def a0b(a0:Int)(a1:Int):Option Int:=
 if (decide (a0<1)) then
  some 0
 else
 (rem (r7 ((r7 (5*a1))+1)) a0).bind λv1=>
 if (decide (v1<0)) then
  some (r7 (v1+a0))
 else
 some v1
def V5(a0:List b8)(a1:Int):Option Int:=
 jn (λ(_:Unit)=>
  some (-1)) (λκ8=>
  (a3m (a0.length:Int) a1).bind λv10=>
  (lp (S:=Int) (E:=Int ⊕ Unit) (λ(s12:Int)=>
   if (decide (s12<v10.1)) then
    (a0b v10.1 v10.2).bind λv14=>
    (rem (r7 (v14+s12)) v10.1).bind λv15=>
    (ix a0 v15).bind λv16=>
    if (v16.State==0) then
     some (.inr (.inr ()))
    else
    if ((v16.State==1)&&(v16.Key==a1)) then
     some (.inr (.inl v15))
    else
    some (.inl (r7 (s12+1)))
   else
   some (.inr (.inr ()))) 0).bind λe11=>
  match e11 with
  | .inl w=>some w
  | .inr w=>κ8 w)
def J0(a0:List b8)(a1:Int):Option (Int × Int):=
 (V5 a0 a1).bind λv1=>
 if (decide (v1<0)) then
  some (0,9)
 else
 (ix a0 v1).bind λv2=>
 some (v2.Val,0)
def B5(a0:List b8):Option (List b8):=
 app 24 [] a0
def a1d(a0:List b8)(a1:Int)(a2:b8):Option (List b8):=
 (B5 a0).bind λv1=>
 (ix v1 a1).bind λv2=>
 some (v1.set (a1).toNat a2)
def V4(a0:List b8)(a1:Int):Option ((List b8) × Int × Int):=
 (V5 a0 a1).bind λv1=>
 if (decide (v1<0)) then
  some (a0,0,9)
 else
 (a1d a0 v1 (⟨2,0,0⟩:b8)).bind λv2=>
 (ix a0 v1).bind λv3=>
 some (v2,v3.Val,0)
def a7c(a0:List b8)(a1:Int)(a2:Int):Option ((List b8) × Int):=
 (V5 a0 a1).bind λv1=>
 if (decide (v1≥0)) then
  (a1d a0 v1 (⟨1,a1,a2⟩:b8)).bind λv2=>
  some (v2,0)
 else
 jn (λ(_:Unit)=>
  some (a0,8)) (λκ11=>
  (a3m (a0.length:Int) a1).bind λv13=>
  (lp (S:=Int) (E:=((List b8) × Int) ⊕ Unit) (λ(s15:Int)=>
   if (decide (s15<v13.1)) then
    (a0b v13.1 v13.2).bind λv17=>
    (rem (r7 (v17+s15)) v13.1).bind λv18=>
    (ix a0 v18).bind λv19=>
    if (v19.State != 1) then
     (a1d a0 v18 (⟨1,a1,a2⟩:b8)).bind λv20=>
     some (.inr (.inl (v20,0)))
    else
    some (.inl (r7 (s15+1)))
   else
   some (.inr (.inr ()))) 0).bind λe14=>
  match e14 with
  | .inl w=>some w
  | .inr w=>κ11 w)
def Q6(a0:List b8)(a1:Int)(a2:Int):Option ((List b8) × Int × Int):=
 if (a1==0) then
  some (a0,0,2)
 else
 (J0 a0 a1).bind λv1=>
 if (a2==0) then
  (V4 a0 a1).bind λv2=>
  some (v2.1,v1.1,0)
 else
 (a7c a0 a1 a2).bind λv3=>
 if (v3.2 != 0) then
  some (a0,0,v3.2)
 else
 some (v3.1,v1.1,0)
def T6(a0:F2)(a1:b6):Option b6:=
 some (⟨a1.S,a1.Roots,a1.a8,a0.t,a1.Q⟩:b6)
def G7(a0:b6)(a1:Int)(a2:Int)(a3:F2):Option b6:=
 (Y7 a0 a2).bind λv1=>
 (T6 a3 v1).bind λv2=>
 (A6 v2 a1).bind λv3=>
 some v3
def a3n(a0:b6)(a1:Int)(a2:Int):Option (b6 × Int):=
 if (a1==0) then
  some (a0,2)
 else
 (I3 a0 a1).bind λv1=>
 (r8 ((!v1)==false) false (I3 a0 a2)).bind λv2=>
 if ((!v1)||(!v2)) then
  some (a0,3)
 else
 (Q6 a0.T a1 a2).bind λv3=>
 if (v3.2.2 != 0) then
  some (a0,v3.2.2)
 else
 (G7 a0 v3.2.1 a2 (⟨v3.1⟩:F2)).bind λv4=>
 some (v4,0)
def X9(a0:o5):Option (b6 × Int):=
 (J1 a0.x a0.o.A).bind λv1=>
 if (v1.2 != 0) then
  some (a0.x,v1.2)
 else
 (I5 a0.x a0.o.B).bind λv2=>
 (a3n a0.x v1.1 v2).bind λv3=>
 some (v3.1,v3.2)
def b0R(a0:List b8)(a1:Int):Option (Int × Int):=
 (J0 a0 a1).bind λv1=>
 some (v1.1,v1.2)
def a0e(a0:o5):Option (b6 × Int):=
 (J1 a0.x a0.o.B).bind λv1=>
 if (v1.2 != 0) then
  some (a0.x,v1.2)
 else
 (b0R a0.x.T v1.1).bind λv2=>
 (z8 a0 v2.1 v2.2).bind λv3=>
 some (v3.1,v3.2)
def M2(a0:o5):Option (b6 × Int):=
 some (a0.x,0)
def b2e(f:Fv)(a0:o5):Option (b6 × Int):=
 if f=some 65 then P9 a0 else
 if f=some 66 then F7 a0 else
 if f=some 67 then X7 a0 else
 if f=some 68 then X8 a0 else
 if f=some 69 then T7 a0 else
 if f=some 70 then Q0 a0 else
 if f=some 71 then U6 a0 else
 if f=some 72 then X9 a0 else
 if f=some 73 then a0e a0 else
 if f=some 74 then M2 a0 else
 none
def a0B(a0:Int):Option Bool:=
 some (a0 != a0)
def a2R(a0:Int)(a1:Int):Option Int:=
 (a0B a0).bind λv1=>
 (a0B a1).bind λv2=>
 if v1 then
  if v2 then
   some 0
  else
  some (-1)
 else
 if v2 then
  some 1
 else
 if (decide (a0<a1)) then
  some (-1)
 else
 if (decide (a0 > a1)) then
  some 1
 else
 some 0
def a3j(a0:Int)(a1:Int)(a2:List (Int × Int)):Option Int:=
 (a2R ((z6 a2 a0).getD (0:Int)) ((z6 a2 a1).getD (0:Int))).bind λv1=>
 some v1
def B6(a0:a7):Option (List Int):=
 jn (λ((j18,j19):(List (Int × Int)) × (List Int))=>
  (b1s (λp q=>a3j p q j18) j19).bind λv21=>
  some v21) (λκ17=>
  (lp (S:=Int × (List (Int × Int)) × (List Int)) (E:=((List (Int × Int)) × (List Int))) (λ((s23,s24,s25):Int × (List (Int × Int)) × (List Int))=>
   if (decide (s23<(a0.S.a8.length:Int))) then
    jn (λ((j32,j33):(List (Int × Int)) × (List Int))=>
     some (.inl (r7 (s23+1),j32,j33))) (λκ31=>
     (ix a0.S.a8 s23).bind λv35=>
     if (v35.State==1) then
      (a1c s23 v35.Gen).bind λv36=>
      (app 8 s25 [v36]).bind λv37=>
      κ31 ((n9 s24 v36 v35.Val.Serial),v37)
     else
     κ31 (s24,s25))
   else
   some (.inr (s24,s25))) (0,[],[])).bind λe22=>
  κ17 e22)
def a1i(a0:b6):Option (List Int):=
 jn (λ(j16:List Int)=>
  some j16) (λκ15=>
  (B6 a0.S).bind λv17=>
  (lp (S:=Int × (List Int)) (E:=(List Int)) (λ((s19,s20):Int × (List Int))=>
   if (decide (s19<(v17.length:Int))) then
    jn (λ(j27:List Int)=>
     some (.inl (r7 (s19+1),j27))) (λκ26=>
     (ix v17 s19).bind λv28=>
     (r9 a0.S v28).bind λv29=>
     if (v29.1.Strong==0) then
      (app 8 s20 [v28]).bind λv30=>
      κ26 v30
     else
     κ26 s20)
   else
   some (.inr s20)) (0,[])).bind λe18=>
  κ15 e18)
def J3(a0:l6):Option Bool:=
 some ((decide (a0.Prog≥0))&&(!a0.Started))
def G3(a0:c7):Option Int:=
 some (a0.L.length:Int)
def D0(a0:List g9)(a1:Int)(a2:Int):Option (List g9):=
 (cut a0 a1 a2).bind λv1=>
 some v1
def O0(a0:c7)(a1:g9):Option (c7 × Int):=
 (G3 a0).bind λv1=>
 if (decide (v1≥a0.Cap)) then
  some (a0,4)
 else
 (D0 a0.L 0 v1).bind λv2=>
 (app 24 v2 [a1]).bind λv3=>
 some ((⟨v3,a0.Cap⟩:c7),0)
def a7J(a0:c7)(a1:g9):Option (c7 × Int):=
 (O0 a0 a1).bind λv1=>
 some (v1.1,v1.2)
def P3(a0:b6)(a1:Int):Option b6:=
 (r9 a0.S a1).bind λv1=>
 (r8 ((v1.2 != 0)==false) false (J3 v1.1)).bind λv2=>
 if ((v1.2 != 0)||(!v2)) then
  some a0
 else
 (H8 a0.S a1 (⟨v1.1.Serial,v1.1.Strong,v1.1.Weak,v1.1.Prog,true,v1.1.Fields⟩:l6)).bind λv3=>
 (a7J a0.Q (⟨1,a1,v1.1.Prog⟩:g9)).bind λv4=>
 (Y7 (⟨v3.1,a0.Roots,a0.a8,a0.T,v4.1⟩:b6) a1).bind λv5=>
 some v5
def R7(a0:b6)(a1:List Int):Option (List Int):=
 jn (λ(j18:List Int)=>
  some j18) (λκ17=>
  (lp (S:=Int × (List (Int × Bool)) × (List Int)) (E:=(List Int)) (λ((s20,s21,s22):Int × (List (Int × Bool)) × (List Int))=>
   if (decide (s20<(a1.length:Int))) then
    jn (λ((j29,j30):(List Int) × (List (Int × Bool)))=>
     some (.inl (r7 (s20+1),j30,j29))) (λκ28=>
     (ix a1 s20).bind λv32=>
     (r9 a0.S v32).bind λv33=>
     if ((v33.2==0)==true) then
      if (!((z6 s21 v32).getD (false:Bool))) then
       (app 8 s22 [v32]).bind λv34=>
       κ28 (v34,(n9 s21 v32 true))
      else
      κ28 (s22,s21)
     else
     κ28 (s22,s21))
   else
   some (.inr s22)) (0,[],[])).bind λe19=>
  κ17 e19)
def O4(a0:List Int)(a1:Int):Option Int:=
 jn (λ(_:Unit)=>
  some (-1)) (λκ5=>
  (lp (S:=Int) (E:=Int ⊕ Unit) (λ(s8:Int)=>
   if (decide (s8<(a0.length:Int))) then
    (ix a0 s8).bind λv10=>
    if (a1==v10) then
     some (.inr (.inl s8))
    else
    some (.inl (r7 (s8+1)))
   else
   some (.inr (.inr ()))) 0).bind λe7=>
  match e7 with
  | .inl w=>some w
  | .inr w=>κ5 w)
def C8(a0:List Int)(a1:Int):Option Bool:=
 (O4 a0 a1).bind λv1=>
 some (decide (v1≥0))
def a0n(a0:c8)(a1:List Int):Option Bool:=
 (r8 ((a0.Intact&&(a0.Target != 0))==true) false (C8 a1 a0.Target)).bind λv1=>
 some ((a0.Intact&&(a0.Target != 0))&&v1)
def G9(a0:List c8)(a1:List Int):Option (List Int):=
 jn (λ(j15:List Int)=>
  some j15) (λκ14=>
  (lp (S:=Int × (List Int)) (E:=(List Int)) (λ((s17,s18):Int × (List Int))=>
   if (decide (s17<(a0.length:Int))) then
    jn (λ(j25:List Int)=>
     some (.inl (r7 (s17+1),j25))) (λκ24=>
     (ix a0 s17).bind λv26=>
     (a0n v26 a1).bind λv27=>
     if v27 then
      (app 8 s18 [s17]).bind λv28=>
      κ24 v28
     else
     κ24 s18)
   else
   some (.inr s18)) (0,[])).bind λe16=>
  κ14 e16)
def a31(a0:List c8)(a1:List Int):Option ((List c8) × (List Int)):=
 (G9 a0 a1).bind λv1=>
 (Z4 a0).bind λv2=>
 jn (λ((j22,j23):(List Int) × (List c8))=>
  some (j23,j22)) (λκ21=>
  (lp (S:=Int × (List c8) × (List Int)) (E:=((List Int) × (List c8))) (λ((s26,s27,s28):Int × (List c8) × (List Int))=>
   if (decide (s26<(v1.length:Int))) then
    jn (λ((j36,j37):(List Int) × (List c8))=>
     some (.inl (r7 (s26+1),j37,j36))) (λκ35=>
     (ix v1 s26).bind λv39=>
     (ix s27 v39).bind λv40=>
     (ix (s27.set (v39).toNat (⟨v40.Target,false,v40.Call⟩:c8)) v39).bind λv41=>
     if (decide (v41.Call≥0)) then
      (app 8 s28 [v39]).bind λv42=>
      κ35 (v42,(s27.set (v39).toNat (⟨v40.Target,false,v40.Call⟩:c8)))
     else
     κ35 (s28,(s27.set (v39).toNat (⟨v40.Target,false,v40.Call⟩:c8))))
   else
   some (.inr (s28,s27))) (0,v2,[])).bind λe25=>
  κ21 e25)
def a1K(a0:b6)(a1:List Int):Option b6:=
 (a31 a0.a8 a1).bind λv1=>
 jn (λ(j11:c7)=>
  some (⟨a0.S,a0.Roots,v1.1,a0.T,j11⟩:b6)) (λκ10=>
  (lp (S:=Int × c7) (E:=c7) (λ((s13,s14):Int × c7)=>
   if (decide (s13<(v1.2.length:Int))) then
    (ix v1.2 s13).bind λv17=>
    (ix v1.1 v17).bind λv18=>
    (a7J s14 (⟨2,v17,v18.Call⟩:g9)).bind λv19=>
    some (.inl (r7 (s13+1),v19.1))
   else
   some (.inr s14)) (0,a0.Q)).bind λe12=>
  κ10 e12)
def a8r(a0:List Int):Option (List Int):=
 some a0
def a3y(a0:List Int):Option (List Int):=
 jn (λ(j10:List Int)=>
  some j10) (λκ9=>
  (a8r a0).bind λv11=>
  (lp (S:=Int × (List Int)) (E:=(List Int)) (λ((s13,s14):Int × (List Int))=>
   if (decide (s13<(v11.length:Int))) then
    (ix v11 s13).bind λv17=>
    if ((v17 != 0)==true) then
     (app 8 s14 [v17]).bind λv18=>
     some (.inl (r7 (s13+1),v18))
    else
    some (.inl (r7 (s13+1),s14))
   else
   some (.inr s14)) (0,[])).bind λe12=>
  κ9 e12)
def V2(a0:List b8)(a1:List Int):Option ((List b8) × (List Int)):=
 jn (λ((j18,j19):(List b8) × (List Int))=>
  some (j18,j19)) (λκ17=>
  (lp (S:=(List b8) × Int × (List Int)) (E:=((List b8) × (List Int))) (λ((s22,s23,s24):(List b8) × Int × (List Int))=>
   if (decide (s23<(a1.length:Int))) then
    jn (λ((j31,j32):(List b8) × (List Int))=>
     some (.inl (j31,r7 (s23+1),j32))) (λκ30=>
     (ix a1 s23).bind λv34=>
     (V4 s22 v34).bind λv35=>
     if (v35.2.2==0) then
      (app 8 s24 [v35.2.1]).bind λv36=>
      κ30 (v35.1,v36)
     else
     κ30 (s22,s24))
   else
   some (.inr (s22,s24))) (a0,0,[])).bind λe21=>
  κ17 e21)
def Q1(a0:c4)(a1:Int):Option (c4 × Int):=
 (B4 a0 a1).bind λv1=>
 if (v1.2 != 0) then
  some (a0,v1.2)
 else
 (a2A a1).bind λv2=>
 (a3F a1).bind λv3=>
 (A7 a0 v2 (⟨2,v3,v1.1⟩:b7)).bind λv4=>
 some (v4,0)
def V8(a0:b6)(a1:Int):Option b6:=
 (r9 a0.S a1).bind λv1=>
 (H8 a0.S a1 (⟨v1.1.Serial,0,v1.1.Weak,v1.1.Prog,v1.1.Started,[]⟩:l6)).bind λv2=>
 (Q1 v2.1.S a1).bind λv3=>
 if (v1.1.Weak==0) then
  (K9 v3.1 a1).bind λv4=>
  some (⟨⟨v4.1,v2.1.Serial⟩,a0.Roots,a0.a8,a0.T,a0.Q⟩:b6)
 else
 some (⟨⟨v3.1,v2.1.Serial⟩,a0.Roots,a0.a8,a0.T,a0.Q⟩:b6)
def Z0(a0:b6)(a1:List Int):Option b6:=
 (R7 a0 a1).bind λv1=>
 (a1K a0 v1).bind λv2=>
 jn (λ(j13:List Int)=>
  (V2 v2.T v1).bind λv14=>
  (app 8 j13 v14.2).bind λv15=>
  jn (λ(j24:b6)=>
   jn (λ(j33:b6)=>
    some j33) (λκ32=>
    (lp (S:=Int × b6) (E:=b6) (λ((s35,s36):Int × b6)=>
     if (decide (s35<(v15.length:Int))) then
      (ix v15 s35).bind λv39=>
      (A6 s36 v39).bind λv40=>
      some (.inl (r7 (s35+1),v40))
     else
     some (.inr s36)) (0,j24)).bind λe34=>
    κ32 e34)) (λκ23=>
   (lp (S:=Int × b6) (E:=b6) (λ((s42,s43):Int × b6)=>
    if (decide (s42<(v1.length:Int))) then
     (ix v1 s42).bind λv46=>
     (V8 s43 v46).bind λv47=>
     some (.inl (r7 (s42+1),v47))
    else
    some (.inr s43)) (0,(⟨v2.S,v2.Roots,v2.a8,v14.1,v2.Q⟩:b6))).bind λe41=>
   κ23 e41)) (λκ12=>
  (lp (S:=Int × (List Int)) (E:=(List Int)) (λ((s49,s50):Int × (List Int))=>
   if (decide (s49<(v1.length:Int))) then
    (ix v1 s49).bind λv53=>
    (r9 v2.S v53).bind λv54=>
    (a3y v54.1.Fields).bind λv55=>
    (app 8 s50 v55).bind λv56=>
    some (.inl (r7 (s49+1),v56))
   else
   some (.inr s50)) (0,[])).bind λe48=>
  κ12 e48)
def L9(a0:b6):Option b6:=
 (lp (S:=b6) (E:=b6) (λ(s2:b6)=>
  (a1i s2).bind λv4=>
  if ((v4.length:Int)==0) then
   some (.inr s2)
  else
  (ix v4 0).bind λv5=>
  (r9 s2.S v5).bind λv6=>
  (J3 v6.1).bind λv7=>
  if v7 then
   (P3 s2 v5).bind λv8=>
   some (.inl v8)
  else
  (cut v4 0 1).bind λv9=>
  (Z0 s2 v9).bind λv10=>
  some (.inl v10)) a0).bind λe1=>
 some e1
def Y8(a0:b6)(a1:Int):Option Int:=
 (r9 a0.S a1).bind λv1=>
 some v1.1.Serial
def a0Z(a0:b6)(a1:Int):Option Int:=
 (I5 a0 a1).bind λv1=>
 (Y8 a0 v1).bind λv2=>
 some v2
def R2(a0:b6)(a1:b6)(a2:c9):Option Int:=
 if (a2.Kind==5) then
  (a0Z a0 a2.C).bind λv1=>
  some v1
 else
 jn (λ(j3:Bool)=>
  if j3 then
   (a0Z a0 a2.B).bind λv4=>
   some v4
  else
  if (a2.Kind==10) then
   (I5 a0 a2.A).bind λv5=>
   (I5 a0 a2.B).bind λv6=>
   if (v5==v6) then
    some 1
   else
   some 0
  else
  (a0Z a1 a2.A).bind λv7=>
  some v7) (λκ2=>
  if (a2.Kind==6) then
   κ2 (a2.Kind==6)
  else
  κ2 (a2.Kind==8))
def p6(a0:b6)(a1:c9):Option (b6 × Int × Int):=
 (O7 a1).bind λv1=>
 if (v1 != 0) then
  some (a0,0,v1)
 else
 (a2r).bind λv2=>
 if (!((z6 v2 a1.Kind).isSome)) then
  some (a0,0,14)
 else
 (b2e ((z6 v2 a1.Kind).getD (none:Fv)) (⟨a0,a1⟩:o5)).bind λv3=>
 if (v3.2 != 0) then
  some (a0,0,v3.2)
 else
 (L9 v3.1).bind λv5=>
 (R2 v3.1 v5 a1).bind λv6=>
 some (v5,v6,0)
def a6g(a0:a7):Option a7:=
 some a0
def a5j(a0:a7)(a1:Int):Option (List Int):=
 (r9 a0 a1).bind λv1=>
 (a3y v1.1.Fields).bind λv2=>
 some v2
def b2w(a0:a7)(a1:Int):Option Int:=
 jn (λ(j31:Int)=>
  some j31) (λκ30=>
  (a6g a0).bind λv32=>
  (B6 v32).bind λv33=>
  (lp (S:=Int × Int) (E:=Int) (λ((s35,s36):Int × Int)=>
   if (decide (s35<(v33.length:Int))) then
    jn (λ(j50:Int)=>
     some (.inl (r7 (s35+1),j50))) (λκ49=>
     (ix v33 s35).bind λv51=>
     (a5j v32 v51).bind λv52=>
     (lp (S:=Int × Int) (E:=Int) (λ((s54,s55):Int × Int)=>
      if (decide (s54<(v52.length:Int))) then
       (ix v52 s54).bind λv58=>
       jn (λ(j60:Int)=>
        some (.inl (r7 (s54+1),j60))) (λκ59=>
        if (v58==a1) then
         κ59 (r7 (s55+1))
        else
        κ59 s55)
      else
      some (.inr s55)) (0,s36)).bind λe53=>
     κ49 e53)
   else
   some (.inr s36)) (0,0)).bind λe34=>
  κ30 e34)
def a08(a0:List b8):Option (List b8):=
 some a0
def a43(a0:List b8):Option (List Int):=
 jn (λ(j13:List Int)=>
  some j13) (λκ12=>
  (lp (S:=Int × (List Int)) (E:=(List Int)) (λ((s15,s16):Int × (List Int))=>
   if (decide (s15<(a0.length:Int))) then
    jn (λ(j22:List Int)=>
     some (.inl (r7 (s15+1),j22))) (λκ21=>
     (ix a0 s15).bind λv23=>
     if (v23.State==1) then
      (app 8 s16 [v23.Key]).bind λv24=>
      κ21 v24
     else
     κ21 s16)
   else
   some (.inr s16)) (0,[])).bind λe14=>
  κ12 e14)
def a2o(a0:m7)(a1:Int):Option Bool:=
 some ((a1 != 0)&&(a0.Val==a1))
def x8(a0:List b8)(a1:Int):Option (List m7):=
 jn (λ(j16:List m7)=>
  some j16) (λκ15=>
  (a43 a0).bind λv17=>
  (lp (S:=Int × (List m7)) (E:=(List m7)) (λ((s19,s20):Int × (List m7))=>
   if (decide (s19<(v17.length:Int))) then
    (ix v17 s19).bind λv23=>
    (J0 a0 v23).bind λv24=>
    jn (λ(j28:List m7)=>
     some (.inl (r7 (s19+1),j28))) (λκ27=>
     (a2o (⟨v23,v24.1⟩:m7) a1).bind λv29=>
     if v29 then
      (app 16 s20 [(⟨v23,v24.1⟩:m7)]).bind λv30=>
      κ27 v30
     else
     κ27 s20)
   else
   some (.inr s20)) (0,[])).bind λe18=>
  κ15 e18)
def a4f(a0:List b8)(a1:Int):Option Int:=
 (a08 a0).bind λv1=>
 (x8 v1 a1).bind λv2=>
 some (v2.length:Int)
def a4y(a0:a7)(a1:List b8)(a2:Int):Option Int:=
 (b2w a0 a2).bind λv1=>
 (a4f a1 a2).bind λv2=>
 some (r7 (v1+v2))
def a6t(a0:a7)(a1:List b8)(a2:Int):Option Int:=
 (r9 a0 a2).bind λv1=>
 if (v1.2 != 0) then
  some 0
 else
 (a4y a0 a1 a2).bind λv2=>
 some (r7 (v1.1.Strong-v2))
def a60(a0:Int):Option Bool:=
 (D3 a0).bind λv1=>
 some v1
def a6s(a0:Int)(a1:l6)(a2:a7)(a3:List b8):Option Bool:=
 (a6t a2 a3 a0).bind λv1=>
 (r8 ((decide (v1 > 0))==false) false (a60 a1.Strong)).bind λv2=>
 some ((decide (v1 > 0))||v2)
def a6r(a0:a7)(a1:List b8):Option (List Int):=
 jn (λ(j36:List Int)=>
  some j36) (λκ35=>
  jn (λ(j54:List Int)=>
   κ35 j54) (λκ53=>
   (B6 a0).bind λv55=>
   (lp (S:=Int × (List Int)) (E:=(List Int)) (λ((s57,s58):Int × (List Int))=>
    if (decide (s57<(v55.length:Int))) then
     jn (λ(j66:List Int)=>
      some (.inl (r7 (s57+1),j66))) (λκ65=>
      (ix v55 s57).bind λv67=>
      (r9 a0 v67).bind λv68=>
      (a6s v67 v68.1 a0 a1).bind λv69=>
      if v69 then
       (app 8 s58 [v67]).bind λv70=>
       κ65 v70
      else
      κ65 s58)
    else
    some (.inr s58)) (0,[])).bind λe56=>
   κ53 e56))
def a2s(a0:Int):Option g8:=
 some (⟨[],a0⟩:g8)
def a0i(a0:a7)(a1:Int):Option Bool:=
 (r9 a0 a1).bind λv1=>
 some (v1.2==0)
def I6(a0:g8):Option Int:=
 some (a0.L.length:Int)
def M4(a0:List Int)(a1:Int)(a2:Int):Option (List Int):=
 (cut a0 a1 a2).bind λv1=>
 some v1
def M3(a0:g8)(a1:Int):Option (g8 × Int):=
 (I6 a0).bind λv1=>
 if (decide (v1≥a0.Cap)) then
  some (a0,4)
 else
 (M4 a0.L 0 v1).bind λv2=>
 (app 8 v2 [a1]).bind λv3=>
 some ((⟨v3,a0.Cap⟩:g8),0)
def a20(a0:g8)(a1:Int):Option (g8 × (List Int)):=
 (I6 a0).bind λv1=>
 (M4 a0.L 0 (if (if v1<a1 then v1 else a1) > 0 then (if v1<a1 then v1 else a1) else 0)).bind λv2=>
 (M4 a0.L (if (if v1<a1 then v1 else a1) > 0 then (if v1<a1 then v1 else a1) else 0) v1).bind λv3=>
 some ((⟨v3,a0.Cap⟩:g8),v2)
def a0I(a0:g8):Option (g8 × Int × Int):=
 (a20 a0 1).bind λv1=>
 if ((v1.2.length:Int)==0) then
  some (a0,0,10)
 else
 (ix v1.2 0).bind λv2=>
 some (v1.1,v2,0)
def a1H(a0:a7)(a1:List Int):Option (List (Int × Bool)):=
 (B6 a0).bind λv1=>
 (a2s (v1.length:Int)).bind λv2=>
 jn (λ((j20,j21):g8 × (List (Int × Bool)))=>
  jn (λ(j68:List (Int × Bool))=>
   some j68) (λκ67=>
   (lp (S:=g8 × (List (Int × Bool))) (E:=(List (Int × Bool))) (λ((s70,s71):g8 × (List (Int × Bool)))=>
    (I6 s70).bind λv74=>
    if (decide (v74 > 0)) then
     (a0I s70).bind λv75=>
     (a5j a0 v75.2.1).bind λv76=>
     jn (λ((j94,j95):g8 × (List (Int × Bool)))=>
      some (.inl (j94,j95))) (λκ93=>
      (lp (S:=Int × g8 × (List (Int × Bool))) (E:=(g8 × (List (Int × Bool)))) (λ((s98,s99,s100):Int × g8 × (List (Int × Bool)))=>
       if (decide (s98<(v76.length:Int))) then
        jn (λ((j107,j108):g8 × (List (Int × Bool)))=>
         some (.inl (r7 (s98+1),j107,j108))) (λκ106=>
         (ix v76 s98).bind λv110=>
         (a0i a0 v110).bind λv111=>
         if (v111==true) then
          if (!((z6 s100 v110).getD (false:Bool))) then
           (M3 s99 v110).bind λv112=>
           κ106 (v112.1,(n9 s100 v110 true))
          else
          κ106 (s99,s100)
         else
         κ106 (s99,s100))
       else
       some (.inr (s99,s100))) (0,v75.1,s71)).bind λe97=>
      κ93 e97)
    else
    some (.inr s71)) (j20,j21)).bind λe69=>
   κ67 e69)) (λκ19=>
  (lp (S:=Int × g8 × (List (Int × Bool))) (E:=(g8 × (List (Int × Bool)))) (λ((s114,s115,s116):Int × g8 × (List (Int × Bool)))=>
   if (decide (s114<(a1.length:Int))) then
    jn (λ((j123,j124):g8 × (List (Int × Bool)))=>
     some (.inl (r7 (s114+1),j123,j124))) (λκ122=>
     (ix a1 s114).bind λv126=>
     (a0i a0 v126).bind λv127=>
     if (v127==true) then
      if (!((z6 s116 v126).getD (false:Bool))) then
       (M3 s115 v126).bind λv128=>
       κ122 (v128.1,(n9 s116 v126 true))
      else
      κ122 (s115,s116)
     else
     κ122 (s115,s116))
   else
   some (.inr (s115,s116))) (0,v2,[])).bind λe113=>
  κ19 e113)
def a3f(a0:Int)(a1:List (Int × Bool)):Option Bool:=
 some ((z6 a1 a0).getD (false:Bool))
def P1(a0:a7)(a1:List (Int × Bool)):Option (List Int):=
 jn (λ(j16:List Int)=>
  some j16) (λκ15=>
  (B6 a0).bind λv17=>
  (lp (S:=Int × (List Int)) (E:=(List Int)) (λ((s19,s20):Int × (List Int))=>
   if (decide (s19<(v17.length:Int))) then
    jn (λ(j27:List Int)=>
     some (.inl (r7 (s19+1),j27))) (λκ26=>
     (ix v17 s19).bind λv28=>
     (a3f v28 a1).bind λv29=>
     if v29 then
      (app 8 s20 [v28]).bind λv30=>
      κ26 v30
     else
     κ26 s20)
   else
   some (.inr s20)) (0,[])).bind λe18=>
  κ15 e18)
def a3Q(a0:a7)(a1:List Int):Option (List Int):=
 (a1H a0 a1).bind λv1=>
 (P1 a0 v1).bind λv2=>
 some v2
def a2p(a0:m7):Option Bool:=
 some true
def y4(a0:List b8):Option (List m7):=
 jn (λ(j16:List m7)=>
  some j16) (λκ15=>
  (a43 a0).bind λv17=>
  (lp (S:=Int × (List m7)) (E:=(List m7)) (λ((s19,s20):Int × (List m7))=>
   if (decide (s19<(v17.length:Int))) then
    (ix v17 s19).bind λv23=>
    (J0 a0 v23).bind λv24=>
    jn (λ(j28:List m7)=>
     some (.inl (r7 (s19+1),j28))) (λκ27=>
     (a2p (⟨v23,v24.1⟩:m7)).bind λv29=>
     if v29 then
      (app 16 s20 [(⟨v23,v24.1⟩:m7)]).bind λv30=>
      κ27 v30
     else
     κ27 s20)
   else
   some (.inr s20)) (0,[])).bind λe18=>
  κ15 e18)
def a4g(a0:List b8):Option (List m7):=
 (a08 a0).bind λv1=>
 (y4 v1).bind λv2=>
 some v2
def a3D(a0:Int)(a1:a7):Option Bool:=
 (r9 a1 a0).bind λv1=>
 some (v1.2==0)
def a9O(a0:a7)(a1:List b8)(a2:List Int):Option (List Int):=
 jn (λ(j20:List Int)=>
  some j20) (λκ19=>
  (a4g a1).bind λv21=>
  (lp (S:=Int × (List Int)) (E:=(List Int)) (λ((s23,s24):Int × (List Int))=>
   if (decide (s23<(v21.length:Int))) then
    jn (λ(j33:List Int)=>
     some (.inl (r7 (s23+1),j33))) (λκ32=>
     (ix v21 s23).bind λv34=>
     (C8 a2 v34.Key).bind λv35=>
     (r8 (v35==true) false (a3D v34.Key a0)).bind λv36=>
     (r8 ((v35&&v36)==true) false (a3D v34.Val a0)).bind λv37=>
     if ((v35&&v36)&&v37) then
      (app 8 s24 [v34.Val]).bind λv38=>
      κ32 v38
     else
     κ32 s24)
   else
   some (.inr s24)) (0,[])).bind λe22=>
  κ19 e22)
def a7V(a0:a7)(a1:List b8)(a2:List Int):Option ((List Int) × Int):=
 (a3Q a0 a2).bind λv1=>
 (lp (S:=(List Int) × Int) (E:=((List Int) × Int)) (λ((s3,s4):(List Int) × Int)=>
  (a9O a0 a1 s3).bind λv7=>
  jn (λ(_:Unit)=>
   some (.inr (s3,s4))) (λκ15=>
   (lp (S:=Int) (E:=((List Int) × Int) ⊕ Unit) (λ(s18:Int)=>
    if (decide (s18<(v7.length:Int))) then
     (ix v7 s18).bind λv20=>
     (C8 s3 v20).bind λv21=>
     if (!v21) then
      (app 8 v7 s3).bind λv22=>
      (a3Q a0 v22).bind λv23=>
      some (.inr (.inl (v23,r7 (s4+1))))
     else
     some (.inl (r7 (s18+1)))
    else
    some (.inr (.inr ()))) 0).bind λe17=>
   match e17 with
   | .inl w=>some (.inl w)
   | .inr w=>κ15 w)) (v1,0)).bind λe2=>
 some e2
def a9N(a0:a7)(a1:List b8)(a2:List Int):Option (List Int):=
 (a7V a0 a1 a2).bind λv1=>
 some v1.1
def a3g(a0:Int)(a1:List (Int × Bool)):Option Bool:=
 some (!((z6 a1 a0).getD (false:Bool)))
def P2(a0:a7)(a1:List (Int × Bool)):Option (List Int):=
 jn (λ(j16:List Int)=>
  some j16) (λκ15=>
  (B6 a0).bind λv17=>
  (lp (S:=Int × (List Int)) (E:=(List Int)) (λ((s19,s20):Int × (List Int))=>
   if (decide (s19<(v17.length:Int))) then
    jn (λ(j27:List Int)=>
     some (.inl (r7 (s19+1),j27))) (λκ26=>
     (ix v17 s19).bind λv28=>
     (a3g v28 a1).bind λv29=>
     if v29 then
      (app 8 s20 [v28]).bind λv30=>
      κ26 v30
     else
     κ26 s20)
   else
   some (.inr s20)) (0,[])).bind λe18=>
  κ15 e18)
def a6f(a0:a7)(a1:List Int):Option (List Int):=
 (a1H a0 a1).bind λv1=>
 (P2 a0 v1).bind λv2=>
 some v2
def a65(a0:a7)(a1:List b8)(a2:List Int):Option (List Int):=
 (a9N a0 a1 a2).bind λv1=>
 (a6f a0 v1).bind λv2=>
 some v2
def a0K(a0:a7)(a1:List b8):Option (List Int):=
 (a6r a0 a1).bind λv1=>
 (a65 a0 a1 v1).bind λv2=>
 some v2
def N5(a0:b6):Option (List Int):=
 (a0K a0.S a0.T).bind λv1=>
 some v1
def a2S(a0:Int)(a1:b6):Option Bool:=
 (r9 a1.S a0).bind λv1=>
 some ((decide (v1.1.Prog≥0))&&(!v1.1.Started))
def E5(a0:List Int)(a1:b6):Option (List Int):=
 jn (λ(j15:List Int)=>
  some j15) (λκ14=>
  (lp (S:=Int × (List Int)) (E:=(List Int)) (λ((s17,s18):Int × (List Int))=>
   if (decide (s17<(a0.length:Int))) then
    jn (λ(j25:List Int)=>
     some (.inl (r7 (s17+1),j25))) (λκ24=>
     (ix a0 s17).bind λv26=>
     (a2S v26 a1).bind λv27=>
     if v27 then
      (app 8 s18 [v26]).bind λv28=>
      κ24 v28
     else
     κ24 s18)
   else
   some (.inr s18)) (0,[])).bind λe16=>
  κ14 e16)
def a2n(a0:b6):Option (List Int):=
 (N5 a0).bind λv1=>
 (E5 v1 a0).bind λv2=>
 some v2
def U1(a0:b6):Option (b6 × Int × Int):=
 (a2n a0).bind λv1=>
 jn (λ(j10:b6)=>
  if (decide ((v1.length:Int) > 0)) then
   some (j10,(v1.length:Int),0)
  else
  (N5 j10).bind λv11=>
  (Z0 j10 v11).bind λv12=>
  (L9 v12).bind λv13=>
  (B6 j10.S).bind λv14=>
  (B6 v13.S).bind λv15=>
  some (v13,0,r7 ((v14.length:Int)-(v15.length:Int)))) (λκ9=>
  (lp (S:=Int × b6) (E:=b6) (λ((s17,s18):Int × b6)=>
   if (decide (s17<(v1.length:Int))) then
    (ix v1 s17).bind λv21=>
    (P3 s18 v21).bind λv22=>
    some (.inl (r7 (s17+1),v22))
   else
   some (.inr s18)) (0,a0)).bind λe16=>
  κ9 e16)
def W8(a0:c7)(a1:Int):Option (c7 × (List g9)):=
 (G3 a0).bind λv1=>
 (D0 a0.L 0 (if (if v1<a1 then v1 else a1) > 0 then (if v1<a1 then v1 else a1) else 0)).bind λv2=>
 (D0 a0.L (if (if v1<a1 then v1 else a1) > 0 then (if v1<a1 then v1 else a1) else 0) v1).bind λv3=>
 some ((⟨v3,a0.Cap⟩:c7),v2)
def a0w(a0:c7):Option (c7 × g9 × Int):=
 (W8 a0 1).bind λv1=>
 if ((v1.2.length:Int)==0) then
  some (a0,(⟨0,0,0⟩:g9),10)
 else
 (ix v1.2 0).bind λv2=>
 some (v1.1,v2,0)
def a1j(a0:c7):Option (c7 × g9 × Int):=
 (a0w a0).bind λv1=>
 some (v1.1,v1.2.1,v1.2.2)
def a2x(a0:b6):Option Bool:=
 (a1j a0.Q).bind λv1=>
 some (v1.2.2 != 0)
def a3B(a0:List (List c9))(a1:Int):Option (List c9):=
 if ((decide (a1<0))||(decide (a1≥(a0.length:Int)))) then
  some []
 else
 (ix a0 a1).bind λv1=>
 some v1
def a5L(a0:List (List c9))(a1:g9):Option Int:=
 (a3B a0 a1.Prog).bind λv1=>
 some (r7 (1+(v1.length:Int)))
def a2B(a0:b6)(a1:List c9):Option (b6 × (List Int)):=
 jn (λ((j11,j12):b6 × (List Int))=>
  some (j11,j12)) (λκ10=>
  (lp (S:=Int × b6 × (List Int)) (E:=(b6 × (List Int))) (λ((s15,s16,s17):Int × b6 × (List Int))=>
   if (decide (s15<(a1.length:Int))) then
    (ix a1 s15).bind λv20=>
    (p6 s16 v20).bind λv21=>
    (app 8 s17 [v21.2.1]).bind λv22=>
    some (.inl (r7 (s15+1),v21.1,v22))
   else
   some (.inr (s16,s17))) (0,a0,[])).bind λe14=>
  κ10 e14)
def a5M(a0:b6)(a1:List (List c9)):Option (b6 × g9 × Int):=
 (a1j a0.Q).bind λv1=>
 if (v1.2.2 != 0) then
  some (a0,(⟨0,0,0⟩:g9),v1.2.2)
 else
 jn (λ(j6:b6)=>
  (a3B a1 v1.2.1.Prog).bind λv7=>
  (a2B j6 v7).bind λv8=>
  if (v1.2.1.Kind==1) then
   (a0c v8.1 5 0).bind λv9=>
   (L9 v9.1).bind λv10=>
   some (v10,v1.2.1,0)
  else
  some (v8.1,v1.2.1,0)) (λκ5=>
  if (v1.2.1.Kind==1) then
   (a0c (⟨a0.S,a0.Roots,a0.a8,a0.T,v1.1⟩:b6) 5 v1.2.1.At).bind λv11=>
   (A6 v11.1 v1.2.1.At).bind λv12=>
   (L9 v12).bind λv13=>
   κ5 v13
  else
  κ5 (⟨a0.S,a0.Roots,a0.a8,a0.T,v1.1⟩:b6))
def a2w(a0:b6)(a1:List (List c9))(a2:Int):Option (b6 × Int × Int × Int):=
 jn (λ((j14,j15,j16):Int × Int × b6)=>
  (a2x j16).bind λv18=>
  if (!v18) then
   some (j16,j14,j15,12)
  else
  some (j16,j14,j15,0)) (λκ13=>
  (lp (S:=Int × b6 × Int × Int × b6) (E:=(Int × Int × b6)) (λ((s20,s21,s22,s23,s24):Int × b6 × Int × Int × b6)=>
   (a2x s21).bind λv27=>
   if (!v27) then
    (a1j s21.Q).bind λv28=>
    (a5L a1 v28.2.1).bind λv29=>
    if (decide (v29 > s20)) then
     some (.inr (s22,s23,s24))
    else
    (a5M s21 a1).bind λv30=>
    some (.inl (r7 (s20-v29),v30.1,r7 (s22+1),r7 (s20-v29),v30.1))
   else
   some (.inr (s22,s23,s24))) (a2,a0,0,a2,a0)).bind λe19=>
  κ13 e19)
def V1(a0:k7)(a1:List Int):Option (k7 × k9):=
 (S9 a1).bind λv1=>
 if (v1.2 != 0) then
  some (a0,(⟨0,v1.2⟩:k9))
 else
 (a5N v1.1).bind λv2=>
 if (decide (v2.t=85)) then
  (p6 a0.X (⟨(ifG v2 85 0),(ifG v2 85 1),(ifG v2 85 2),(ifG v2 85 3)⟩:c9)).bind λv3=>
  some ((⟨v3.1,a0.Progs⟩:k7),(⟨v3.2.1,v3.2.2⟩:k9))
 else
 if (decide (v2.t=89)) then
  (U1 a0.X).bind λv4=>
  some ((⟨v4.1,a0.Progs⟩:k7),(⟨r7 (v4.2.2-v4.2.1),0⟩:k9))
 else
 if (decide (v2.t=93)) then
  (a2w a0.X a0.Progs (ifG v2 93 0)).bind λv5=>
  some ((⟨v5.1,a0.Progs⟩:k7),(⟨v5.2.1,v5.2.2.2⟩:k9))
 else
 some (a0,(⟨0,0⟩:k9))
def T5(a0:k7)(a1:List (List Int)):Option (k7 × (List k9)):=
 jn (λ((j11,j12):k7 × (List k9))=>
  some (j11,j12)) (λκ10=>
  (lp (S:=Int × k7 × (List k9)) (E:=(k7 × (List k9))) (λ((s15,s16,s17):Int × k7 × (List k9))=>
   if (decide (s15<(a1.length:Int))) then
    (ix a1 s15).bind λv20=>
    (V1 s16 v20).bind λv21=>
    (app 16 s17 [v21.2]).bind λv22=>
    some (.inl (r7 (s15+1),v21.1,v22))
   else
   some (.inr (s16,s17))) (0,a0,[])).bind λe14=>
  κ10 e14)
def O3(a0:c4):Option A4:=
 jn (λ(j9:A4)=>
  some j9) (λκ8=>
  (lp (S:=Int × A4) (E:=A4) (λ((s11,s12):Int × A4)=>
   if (decide (s11<(a0.a8.length:Int))) then
    (ix a0.a8 s11).bind λv15=>
    (A4.ix s12 v15.State).bind λv16=>
    some (.inl (r7 (s11+1),(A4.st s12 v15.State (r7 (v16+1)))))
   else
   some (.inr s12)) (0,(⟨0,0,0,0⟩:A4))).bind λe10=>
  κ8 e10)
def N7(a0:k7):Option A4:=
 (O3 a0.X.S.S).bind λv1=>
 some v1
def Z6:Option Bool:=
 (a33 2 3).bind λv1=>
 (a1P 1 0 1 (-1)).bind λv2=>
 (a1P 5 0 0 0).bind λv3=>
 (a1P 3 0 0 0).bind λv4=>
 (a1P 11 0 0 0).bind λv5=>
 (a1P 1 0 0 (-1)).bind λv6=>
 (a1P 1 1 0 (-1)).bind λv7=>
 (a1P 1 2 0 (-1)).bind λv8=>
 (T5 v1 [v2,v3,v4,v5,v6,v7,v8]).bind λv9=>
 (r8 (((v9.2.length:Int)==7)==true) (⟨0,0⟩:k9) (ix v9.2 3)).bind λv10=>
 (r8 ((((v9.2.length:Int)==7)&&(v10.V==1))==true) (⟨0,0⟩:k9) (ix v9.2 4)).bind λv11=>
 (r8 (((((v9.2.length:Int)==7)&&(v10.V==1))&&(v11.V==2))==true) (⟨0,0⟩:k9) (ix v9.2 5)).bind λv12=>
 (r8 ((((((v9.2.length:Int)==7)&&(v10.V==1))&&(v11.V==2))&&(v12.V==3))==true) (⟨0,0⟩:k9) (ix v9.2 6)).bind λv13=>
 (r8 (((((((v9.2.length:Int)==7)&&(v10.V==1))&&(v11.V==2))&&(v12.V==3))&&(v13.E==4))==true) ⟨0,0,0,0⟩ (N7 v9.1)).bind λv14=>
 some (((((((v9.2.length:Int)==7)&&(v10.V==1))&&(v11.V==2))&&(v12.V==3))&&(v13.E==4))&&((v14.a==0)&&((v14.b==2)&&((v14.c==0)&&((v14.d==0)&&true)))))
def L4(a0:k7):Option (List Int):=
 jn (λ(j11:List Int)=>
  (a8l j11).bind λv12=>
  some v12) (λκ10=>
  (B6 a0.X.S).bind λv13=>
  (lp (S:=Int × (List Int)) (E:=(List Int)) (λ((s15,s16):Int × (List Int))=>
   if (decide (s15<(v13.length:Int))) then
    (ix v13 s15).bind λv19=>
    (Y8 a0.X v19).bind λv20=>
    (app 8 s16 [v20]).bind λv21=>
    some (.inl (r7 (s15+1),v21))
   else
   some (.inr s16)) (0,[])).bind λe14=>
  κ10 e14)
def a2I(a0:List Int)(a1:List Int):Option Bool:=
 if ((a0.length:Int) != (a1.length:Int)) then
  some false
 else
 jn (λ(_:Unit)=>
  some true) (λκ6=>
  (lp (S:=Int) (E:=Bool ⊕ Unit) (λ(s9:Int)=>
   if (decide (s9<(a0.length:Int))) then
    (ix a0 s9).bind λv11=>
    (ix a1 s9).bind λv12=>
    if (v11 != v12) then
     some (.inr (.inl false))
    else
    some (.inl (r7 (s9+1)))
   else
   some (.inr (.inr ()))) 0).bind λe8=>
  match e8 with
  | .inl w=>some w
  | .inr w=>κ6 w)
def a6w(a0:Int)(a1:List (List c9))(a2:List (List Int))(a3:List Int)(a4:List (List Int)):Option Bool:=
 (a4A a1 a2 40).bind λv1=>
 (r8 ((!v1)==false) false (a4A [] a4 40)).bind λv2=>
 (r8 ((((!v1)||(!v2))||(decide ((a3.length:Int) > 10)))==false) false Z6).bind λv3=>
 if ((((!v1)||(!v2))||(decide ((a3.length:Int) > 10)))||(!v3)) then
  (Z6).bind λv4=>
  some v4
 else
 (rem (r7 a0) 24).bind λv5=>
 (a0S (r7 (1+v5)) 3 4 a1).bind λv6=>
 if (v6.2 != 0) then
  some (v6.2==13)
 else
 (T5 v6.1 a2).bind λv7=>
 (V1 v7.1 a3).bind λv8=>
 (r8 (((v8.2.E==0)==false)&&(((v8.2.E==12)&&((a3.length:Int)==4))==true)) (0:Int) (ix a3 0)).bind λv9=>
 if ((v8.2.E==0)||(((v8.2.E==12)&&((a3.length:Int)==4))&&(v9==12))) then
  some true
 else
 (T5 v7.1 a4).bind λv10=>
 (T5 v8.1 a4).bind λv11=>
 (r8 (((v8.2.V != 0)||((v10.2.length:Int) != (v11.2.length:Int)))==false) ⟨0,0,0,0⟩ (N7 v10.1)).bind λv12=>
 (r8 (((v8.2.V != 0)||((v10.2.length:Int) != (v11.2.length:Int)))==false) ⟨0,0,0,0⟩ (N7 v11.1)).bind λv13=>
 (r8 ((((v8.2.V != 0)||((v10.2.length:Int) != (v11.2.length:Int)))||(!((v12.a==v13.a)&&((v12.b==v13.b)&&((v12.c==v13.c)&&((v12.d==v13.d)&&true))))))==false) [] (L4 v10.1)).bind λv14=>
 (r8 ((((v8.2.V != 0)||((v10.2.length:Int) != (v11.2.length:Int)))||(!((v12.a==v13.a)&&((v12.b==v13.b)&&((v12.c==v13.c)&&((v12.d==v13.d)&&true))))))==false) [] (L4 v11.1)).bind λv15=>
 (r8 ((((v8.2.V != 0)||((v10.2.length:Int) != (v11.2.length:Int)))||(!((v12.a==v13.a)&&((v12.b==v13.b)&&((v12.c==v13.c)&&((v12.d==v13.d)&&true))))))==false) false (a2I v14 v15)).bind λv16=>
 if ((((v8.2.V != 0)||((v10.2.length:Int) != (v11.2.length:Int)))||(!((v12.a==v13.a)&&((v12.b==v13.b)&&((v12.c==v13.c)&&((v12.d==v13.d)&&true))))))||(!v16)) then
  some false
 else
 jn (λ(_:Unit)=>
  (L4 v7.1).bind λv24=>
  (L4 v8.1).bind λv25=>
  (a2I v24 v25).bind λv26=>
  (r8 (v26==true) ⟨0,0,0,0⟩ (N7 v7.1)).bind λv27=>
  (r8 (v26==true) ⟨0,0,0,0⟩ (N7 v8.1)).bind λv28=>
  some (v26&&((v27.a==v28.a)&&((v27.b==v28.b)&&((v27.c==v28.c)&&((v27.d==v28.d)&&true)))))) (λκ22=>
  (lp (S:=Int) (E:=Bool ⊕ Unit) (λ(s30:Int)=>
   if (decide (s30<(v10.2.length:Int))) then
    (ix v10.2 s30).bind λv32=>
    (ix v11.2 s30).bind λv33=>
    if (!((v32.V==v33.V)&&((v32.E==v33.E)&&true))) then
     some (.inr (.inl false))
    else
    some (.inl (r7 (s30+1)))
   else
   some (.inr (.inr ()))) 0).bind λe29=>
  match e29 with
  | .inl w=>some w
  | .inr w=>κ22 w)
def a4S(a0:Int)(a1:Int)(a2:List (List Int)):Option Bool:=
 (a4A [] a2 60).bind λv1=>
 (r8 ((!v1)==false) false Z6).bind λv2=>
 if ((!v1)||(!v2)) then
  (Z6).bind λv3=>
  some v3
 else
 (rem (r7 a0) 24).bind λv4=>
 (rem (r7 a1) 10).bind λv5=>
 (a33 (r7 (1+v4)) v5).bind λv6=>
 jn (λ(_:Unit)=>
  some true) (λκ55=>
  (lp (S:=Int × Int × k7) (E:=Bool ⊕ Unit) (λ((s58,s59,s60):Int × Int × k7)=>
   if (decide (s59<(a2.length:Int))) then
    jn (λ((j83,j84):Int × k7)=>
     some (.inl (j83,r7 (s59+1),j84))) (λκ82=>
     (ix a2 s59).bind λv86=>
     (V1 s60 v86).bind λv87=>
     jn (λ(j90:Int)=>
      (L4 v87.1).bind λv91=>
      jn (λ(_:Unit)=>
       κ82 (j90,v87.1)) (λκ97=>
       (lp (S:=Int) (E:=Bool ⊕ Unit) (λ(s100:Int)=>
        if ((decide (s100<(v91.length:Int)))&&(decide (s100<30))) then
         (ix v91 s100).bind λv102=>
         (r8 ((((decide (v102<1))||(decide (v102 > j90)))==false)&&((decide (s100 > 0))==true)) (0:Int) (ix v91 (r7 (s100-1)))).bind λv103=>
         if (((decide (v102<1))||(decide (v102 > j90)))||((decide (s100 > 0))&&(decide (v102≤v103)))) then
          some (.inr (.inl false))
         else
         some (.inl (r7 (s100+1)))
        else
        some (.inr (.inr ()))) 0).bind λe99=>
       match e99 with
       | .inl w=>some (.inr (.inl w))
       | .inr w=>κ97 w)) (λκ89=>
      (r8 (((v87.2.E==0)&&((v86.length:Int)==4))==true) (0:Int) (ix v86 0)).bind λv104=>
      if (((v87.2.E==0)&&((v86.length:Int)==4))&&(v104==1)) then
       if (v87.2.V != (r7 (s58+1))) then
        some (.inr (.inl false))
       else
       κ89 (r7 (s58+1))
      else
      κ89 s58))
   else
   some (.inr (.inr ()))) (0,0,v6)).bind λe57=>
  match e57 with
  | .inl w=>some w
  | .inr w=>κ55 w)
def a9w(a0:Int)(a1:List (List Int))(a2:Int)(a3:Int):Option Bool:=
 (a4A [] a1 60).bind λv1=>
 (r8 ((!v1)==false) false Z6).bind λv2=>
 if ((!v1)||(!v2)) then
  (Z6).bind λv3=>
  some v3
 else
 (rem (r7 a0) 24).bind λv4=>
 (a33 (r7 (1+v4)) 9).bind λv5=>
 (T5 v5 a1).bind λv6=>
 (rem (r7 a2) 6).bind λv7=>
 (rem (r7 a3) 6).bind λv8=>
 (a1P 2 v7 v7 0).bind λv9=>
 (V1 v6.1 v9).bind λv10=>
 (a1P 2 v8 v8 0).bind λv11=>
 (V1 v6.1 v11).bind λv12=>
 (a1P 10 v7 v8 0).bind λv13=>
 (V1 v6.1 v13).bind λv14=>
 some ((v14.2.E==0)&&((v14.2.V==1)==(v10.2.V==v12.2.V)))
structure M6 where
 Kind:Int
 A:Int
 B:Int
 C:Int
structure L7 where
 Serial:Int
 Strong:Int
 Weak:Int
 Prog:Int
 Started:Bool
 Fields:List Int
structure F9 where
 State:Int
 Gen:Int
 Val:L7
structure E4 where
 Target:Int
 Intact:Bool
 Call:Int
structure o8 where
 State:Int
 Key:Int
 Val:Int
structure O2 where
 Kind:Int
 At:Int
 Prog:Int
structure K8 where
 State:Int
 Gen:Int
 Val:Int
structure E3 where
 a8:List K8
 Last:Int
structure o0 where
 a8:List F9
 Last:Int
 Serial:Int
structure C1 where
 L:List O2
 Cap:Int
structure g6 where
 S:o0
 Roots:List Int
 a8:List E4
 T:List o8
 Q:C1
structure C3 where
 X:g6
 Progs:List (List M6)
structure a3M where
 Key:Int
 Val:Int
structure H6 where
 V:Int
 E:Int
def V6(a0:M6):Option Bool:=
 some ((decide (a0.Kind≥1))&&(decide (a0.Kind≤10)))
def a03(a0:Int)(a1:Int)(a2:Int)(a3:Int):Option Int:=
 if ((decide (a0<a1))||(decide (a0 > a2))) then
  some a3
 else
 some 0
def a0h(a0:Int)(a1:Int)(a2:Int):Option Int:=
 if (a0 != 0) then
  some a0
 else
 if (a1 != 0) then
  some a1
 else
 some a2
def a1g(a0:M6):Option Int:=
 (a03 a0.A 0 5 6).bind λv1=>
 (a03 a0.B 0 5 6).bind λv2=>
 if (a0.Kind==1) then
  (a03 a0.B 0 4 1).bind λv3=>
  (a03 a0.C (-1) 5 13).bind λv4=>
  (a0h v1 v3 v4).bind λv5=>
  some v5
 else
 jn (λ(j7:Bool)=>
  if j7 then
   (a0h v1 v2 0).bind λv8=>
   some v8
  else
  if (a0.Kind==3) then
   some v1
  else
  if (a0.Kind==4) then
   (a03 a0.C 0 3 5).bind λv9=>
   (a0h v1 v2 v9).bind λv10=>
   some v10
  else
  if (a0.Kind==5) then
   (a03 a0.B 0 3 5).bind λv11=>
   (a03 a0.C (-1) 5 6).bind λv12=>
   (a0h v1 v11 v12).bind λv13=>
   some v13
  else
  if (a0.Kind==6) then
   (a03 a0.A 0 5 7).bind λv14=>
   (a03 a0.B (-1) 5 6).bind λv15=>
   (a03 a0.C (-1) 5 13).bind λv16=>
   (a0h v14 v15 v16).bind λv17=>
   some v17
  else
  if (a0.Kind==7) then
   (a03 a0.B 0 5 7).bind λv18=>
   (a0h v1 v18 0).bind λv19=>
   some v19
  else
  if (a0.Kind==8) then
   (a03 a0.B (-1) 5 6).bind λv20=>
   (a0h v1 v20 0).bind λv21=>
   some v21
  else
  if (a0.Kind==11) then
   some 0
  else
  if (a0.Kind==12) then
   (a03 a0.A 0 200 12).bind λv22=>
   some v22
  else
  some 14) (λκ6=>
  if (a0.Kind==2) then
   κ6 (a0.Kind==2)
  else
  if (a0.Kind==9) then
   κ6 (a0.Kind==9)
  else
  κ6 (a0.Kind==10))
def a8c(a0:List (List M6)):Option Bool:=
 if (decide ((a0.length:Int) > 6)) then
  some false
 else
 jn (λ(_:Unit)=>
  some true) (λκ20=>
  (lp (S:=Int) (E:=Bool ⊕ Unit) (λ(s23:Int)=>
   if (decide (s23<(a0.length:Int))) then
    jn (λ(_:Unit)=>
     some (.inl (r7 (s23+1)))) (λκ32=>
     (ix a0 s23).bind λv34=>
     if (decide ((v34.length:Int) > 6)) then
      some (.inr (.inl false))
     else
     (lp (S:=Int) (E:=Bool ⊕ Unit) (λ(s36:Int)=>
      if (decide (s36<(v34.length:Int))) then
       (ix v34 s36).bind λv38=>
       (V6 v38).bind λv39=>
       (r8 ((!v39)==false) 0 (a1g v38)).bind λv40=>
       if ((!v39)||(v40 != 0)) then
        some (.inr (.inl false))
       else
       some (.inl (r7 (s36+1)))
      else
      some (.inr (.inr ()))) 0).bind λe35=>
     match e35 with
     | .inl w=>some (.inr (.inl w))
     | .inr w=>κ32 w)
   else
   some (.inr (.inr ()))) 0).bind λe22=>
  match e22 with
  | .inl w=>some w
  | .inr w=>κ20 w)
def c0N(a0:Int)(a1:Int):Option E3:=
 if ((((decide (a0<0))||(decide (a0 > 24)))||(decide (a1<0)))||(decide (a1 > 9))) then
  some (⟨[],0⟩:E3)
 else
 (mk 24 a0 (⟨0,0,0⟩:K8)).bind λv1=>
 some (⟨v1,a1⟩:E3)
def b6n(a0:Int)(a1:Int):Option o0:=
 (c0N a0 a1).bind λv1=>
 (mk 80 (v1.a8.length:Int) (⟨0,0,⟨0,0,0,0,false,[]⟩⟩:F9)).bind λv2=>
 some (⟨v2,v1.Last,0⟩:o0)
def c6D(a0:Int):Option (List E4):=
 jn (λ(j8:List E4)=>
  some j8) (λκ7=>
  (lp (S:=Int × (List E4)) (E:=(List E4)) (λ((s10,s11):Int × (List E4))=>
   if ((decide (s10<a0))&&(decide (a0≤6))) then
    (app 24 s11 [(⟨0,false,(-1)⟩:E4)]).bind λv14=>
    some (.inl (r7 (s10+1),v14))
   else
   some (.inr s11)) (0,[])).bind λe9=>
  κ7 e9)
def c0O(a0:Int):Option (List o8):=
 if ((decide (a0<1))||(decide (a0 > 8))) then
  some []
 else
 (mk 24 a0 (⟨0,0,0⟩:o8)).bind λv1=>
 some v1
def c6E:Option C1:=
 some (⟨[],30⟩:C1)
def b0m(a0:Int)(a1:Int)(a2:Int):Option g6:=
 if ((((((decide (a0<1))||(decide (a0 > 24)))||(decide (a1<0)))||(decide (a1 > 9)))||(decide (a2<1)))||(decide (a2 > 8))) then
  some (⟨⟨[],0,0⟩,[],[],[],⟨[],0⟩⟩:g6)
 else
 (b6n a0 a1).bind λv1=>
 (mk 8 6 (0:Int)).bind λv2=>
 (c6D 6).bind λv3=>
 (c0O a2).bind λv4=>
 (c6E).bind λv5=>
 some (⟨v1,v2,v3,v4,v5⟩:g6)
def b6s(a0:Int)(a1:Int)(a2:Int)(a3:List (List M6)):Option (C3 × Int):=
 (a8c a3).bind λv1=>
 if (!v1) then
  some ((⟨⟨⟨[],0,0⟩,[],[],[],⟨[],0⟩⟩,[]⟩:C3),13)
 else
 (b0m a0 a1 a2).bind λv2=>
 if ((v2.Roots.length:Int)==0) then
  some ((⟨⟨⟨[],0,0⟩,[],[],[],⟨[],0⟩⟩,[]⟩:C3),1)
 else
 some ((⟨v2,a3⟩:C3),0)
def R6(a0:o0):Option E3:=
 jn (λ(j9:List K8)=>
  some (⟨j9,a0.Last⟩:E3)) (λκ8=>
  (lp (S:=Int × (List K8)) (E:=(List K8)) (λ((s11,s12):Int × (List K8))=>
   if (decide (s11<(a0.a8.length:Int))) then
    (ix a0.a8 s11).bind λv15=>
    (app 24 s12 [(⟨v15.State,v15.Gen,s11⟩:K8)]).bind λv16=>
    some (.inl (r7 (s11+1),v16))
   else
   some (.inr s12)) (0,[])).bind λe10=>
  κ8 e10)
def a2L(a0:List o8)(a1:Int):Option Int:=
 jn (λ(_:Unit)=>
  some (-1)) (λκ5=>
  (lp (S:=Int) (E:=Int ⊕ Unit) (λ(s8:Int)=>
   if (decide (s8<(a0.length:Int))) then
    (ix a0 s8).bind λv10=>
    if ((v10.State==1)&&(v10.Key==a1)) then
     some (.inr (.inl s8))
    else
    some (.inl (r7 (s8+1)))
   else
   some (.inr (.inr ()))) 0).bind λe7=>
  match e7 with
  | .inl w=>some w
  | .inr w=>κ5 w)
def b72(a0:Int)(a1:Int):Option Int:=
 if (decide (a0<1)) then
  some 0
 else
 (rem (r7 ((r7 (5*a1))+1)) a0).bind λv1=>
 if (decide (v1<0)) then
  some (r7 (v1+a0))
 else
 some v1
def a5g(a0:Int)(a1:Int):Option Int:=
 if ((((decide (a0<0))||(decide (a0 > 23)))||(decide (a1<0)))||(decide (a1 > 9))) then
  some 0
 else
 some (r7 ((r7 (1+a0))+(r7 (32*a1))))
def a73(a0:Int):Option Bool:=
 if ((decide (a0<1))||(decide (a0 > 400))) then
  some false
 else
 (rem (r7 (a0-1)) 32).bind λv1=>
 (quo .i64 (r7 (a0-1)) 32).bind λv2=>
 (a5g v1 v2).bind λv3=>
 some (v3==a0)
def a7k(a0:Int):Option Int:=
 (a73 a0).bind λv1=>
 if (!v1) then
  some (-1)
 else
 (rem (r7 (a0-1)) 32).bind λv2=>
 some v2
def b6l(a0:Int):Option Int:=
 (a73 a0).bind λv1=>
 if (!v1) then
  some (-1)
 else
 (quo .i64 (r7 (a0-1)) 32).bind λv2=>
 some v2
def O1(a0:E3)(a1:Int):Option (Int × Int):=
 if (a1==0) then
  some ((-1),2)
 else
 (a7k a1).bind λv1=>
 if ((decide (v1<0))||(decide (v1≥(a0.a8.length:Int)))) then
  some ((-1),3)
 else
 (ix a0.a8 v1).bind λv2=>
 (b6l a1).bind λv3=>
 if ((v2.Gen != v3)||((v2.State != 1)&&(v2.State != 2))) then
  some ((-1),3)
 else
 some (v1,0)
def b2p(a0:E3)(a1:Int):Option (Int × Int):=
 (O1 a0 a1).bind λv1=>
 if (v1.2 != 0) then
  some (0,v1.2)
 else
 (ix a0.a8 v1.1).bind λv2=>
 if (v2.State==2) then
  some (0,3)
 else
 some (v2.Val,0)
def D9(a0:o0)(a1:Int):Option (L7 × Int):=
 (R6 a0).bind λv1=>
 (b2p v1 a1).bind λv2=>
 if (v2.2 != 0) then
  some ((⟨0,0,0,0,false,[]⟩:L7),v2.2)
 else
 (ix a0.a8 v2.1).bind λv3=>
 some (v3.Val,0)
def a3t(a0:g6)(a1:Int):Option Bool:=
 (D9 a0.S a1).bind λv1=>
 some (v1.2==0)
def a3u(a0:g6)(a1:Int):Option Bool:=
 (r8 ((a1==0)==false) false (a3t a0 a1)).bind λv1=>
 some ((a1==0)||v1)
def a9o(a0:o0)(a1:List Int):Option (List Int):=
 (app 8 [] a1).bind λv1=>
 jn (λ(j36:List Int)=>
  some j36) (λκ35=>
  (lp (S:=Int × (List Int)) (E:=(List Int)) (λ((s38,s39):Int × (List Int))=>
   if (decide (s38<(s39.length:Int))) then
    jn (λ(j56:List Int)=>
     some (.inl (r7 (s38+1),j56))) (λκ55=>
     (lp (S:=Int × (List Int)) (E:=(List Int)) (λ((s58,s59):Int × (List Int))=>
      if (decide (s58 > 0)) then
       (R6 a0).bind λv62=>
       (ix s59 (r7 (s58-1))).bind λv63=>
       (O1 v62 v63).bind λv64=>
       (ix s59 s58).bind λv65=>
       (O1 v62 v65).bind λv66=>
       (r8 (((decide (v64.1<0))||(decide (v66.1<0)))==false) (⟨0,0,⟨0,0,0,0,false,[]⟩⟩:F9) (ix a0.a8 v64.1)).bind λv67=>
       (r8 (((decide (v64.1<0))||(decide (v66.1<0)))==false) (⟨0,0,⟨0,0,0,0,false,[]⟩⟩:F9) (ix a0.a8 v66.1)).bind λv68=>
       if (((decide (v64.1<0))||(decide (v66.1<0)))||(decide (v67.Val.Serial≤v68.Val.Serial))) then
        some (.inr s59)
       else
       (ix (s59.set (s58).toNat v63) (r7 (s58-1))).bind λv69=>
       some (.inl (r7 (s58-1),((s59.set (s58).toNat v63).set (r7 (s58-1)).toNat v65)))
      else
      some (.inr s59)) (s38,s39)).bind λe57=>
     κ55 e57)
   else
   some (.inr s39)) (1,v1)).bind λe37=>
  κ35 e37)
def a1G(a0:o0):Option (List Int):=
 jn (λ(j15:List Int)=>
  (a9o a0 j15).bind λv16=>
  some v16) (λκ14=>
  (lp (S:=Int × (List Int)) (E:=(List Int)) (λ((s18,s19):Int × (List Int))=>
   if (decide (s18<(a0.a8.length:Int))) then
    jn (λ(j26:List Int)=>
     some (.inl (r7 (s18+1),j26))) (λκ25=>
     (ix a0.a8 s18).bind λv27=>
     if (v27.State==1) then
      (a5g s18 v27.Gen).bind λv28=>
      (app 8 s19 [v28]).bind λv29=>
      κ25 v29
     else
     κ25 s19)
   else
   some (.inr s19)) (0,[])).bind λe17=>
  κ14 e17)
def b3v(a0:List o8):Option (List Int):=
 jn (λ(j13:List Int)=>
  some j13) (λκ12=>
  (lp (S:=Int × (List Int)) (E:=(List Int)) (λ((s15,s16):Int × (List Int))=>
   if (decide (s15<(a0.length:Int))) then
    jn (λ(j22:List Int)=>
     some (.inl (r7 (s15+1),j22))) (λκ21=>
     (ix a0 s15).bind λv23=>
     if (v23.State==1) then
      (app 8 s16 [v23.Key]).bind λv24=>
      κ21 v24
     else
     κ21 s16)
   else
   some (.inr s16)) (0,[])).bind λe14=>
  κ12 e14)
def b0k(a0:List o8)(a1:Int):Option (Int × Int):=
 (a2L a0 a1).bind λv1=>
 if (decide (v1<0)) then
  some (0,9)
 else
 (ix a0 v1).bind λv2=>
 some (v2.Val,0)
def a78(a0:List o8):Option (List a3M):=
 (b3v a0).bind λv1=>
 jn (λ(j11:List a3M)=>
  some j11) (λκ10=>
  (lp (S:=Int × (List a3M)) (E:=(List a3M)) (λ((s13,s14):Int × (List a3M))=>
   if (decide (s13<(v1.length:Int))) then
    (ix v1 s13).bind λv17=>
    (b0k a0 v17).bind λv18=>
    (app 16 s14 [(⟨v17,v18.1⟩:a3M)]).bind λv19=>
    some (.inl (r7 (s13+1),v19))
   else
   some (.inr s14)) (0,[])).bind λe12=>
  κ10 e12)
def a8a(a0:C1)(a1:Int):Option Bool:=
 jn (λ(_:Unit)=>
  some false) (λκ5=>
  (lp (S:=Int) (E:=Bool ⊕ Unit) (λ(s8:Int)=>
   if (decide (s8<(a0.L.length:Int))) then
    (ix a0.L s8).bind λv10=>
    if ((v10.Kind==2)&&(v10.At==a1)) then
     some (.inr (.inl true))
    else
    some (.inl (r7 (s8+1)))
   else
   some (.inr (.inr ()))) 0).bind λe7=>
  match e7 with
  | .inl w=>some w
  | .inr w=>κ5 w)
def a2c(a0:Int):Option Bool:=
 some (decide (a0≥12))
def b1g(a0:o0)(a1:Int):Option Bool:=
 (D9 a0 a1).bind λv1=>
 (a2c v1.1.Strong).bind λv2=>
 some v2
def a3q(a0:List Int):Option (List Int):=
 jn (λ(j13:List Int)=>
  some j13) (λκ12=>
  (lp (S:=Int × (List Int)) (E:=(List Int)) (λ((s15,s16):Int × (List Int))=>
   if (decide (s15<(a0.length:Int))) then
    jn (λ(j22:List Int)=>
     some (.inl (r7 (s15+1),j22))) (λκ21=>
     (ix a0 s15).bind λv23=>
     if (v23 != 0) then
      (app 8 s16 [v23]).bind λv24=>
      κ21 v24
     else
     κ21 s16)
   else
   some (.inr s16)) (0,[])).bind λe14=>
  κ12 e14)
def b2s(a0:o0)(a1:Int):Option (List Int):=
 (D9 a0 a1).bind λv1=>
 if (v1.2 != 0) then
  some []
 else
 (a3q v1.1.Fields).bind λv2=>
 some v2
def a3s(a0:List Int)(a1:Int):Option Int:=
 jn (λ(j11:Int)=>
  some j11) (λκ10=>
  (lp (S:=Int × Int) (E:=Int) (λ((s13,s14):Int × Int)=>
   if (decide (s14<(a0.length:Int))) then
    jn (λ(j19:Int)=>
     some (.inl (j19,r7 (s14+1)))) (λκ18=>
     (ix a0 s14).bind λv20=>
     if ((v20==a1)&&(a1 != 0)) then
      κ18 (r7 (s13+1))
     else
     κ18 s13)
   else
   some (.inr s13)) (0,0)).bind λe12=>
  κ10 e12)
def b9x(a0:o0)(a1:Int):Option Int:=
 (a1G a0).bind λv1=>
 jn (λ(j11:Int)=>
  some j11) (λκ10=>
  (lp (S:=Int × Int) (E:=Int) (λ((s13,s14):Int × Int)=>
   if (decide (s14<(v1.length:Int))) then
    (ix v1 s14).bind λv17=>
    (b2s a0 v17).bind λv18=>
    (a3s v18 a1).bind λv19=>
    some (.inl (r7 (s13+v19),r7 (s14+1)))
   else
   some (.inr s13)) (0,0)).bind λe12=>
  κ10 e12)
def b1e(a0:List o8)(a1:Int):Option Int:=
 (a78 a0).bind λv1=>
 jn (λ(j12:Int)=>
  some j12) (λκ11=>
  (lp (S:=Int × Int) (E:=Int) (λ((s14,s15):Int × Int)=>
   if (decide (s15<(v1.length:Int))) then
    jn (λ(j20:Int)=>
     some (.inl (j20,r7 (s15+1)))) (λκ19=>
     (ix v1 s15).bind λv21=>
     if ((v21.Val==a1)&&(a1 != 0)) then
      κ19 (r7 (s14+1))
     else
     κ19 s14)
   else
   some (.inr s14)) (0,0)).bind λe13=>
  κ11 e13)
def b1f(a0:o0)(a1:List o8)(a2:Int):Option Int:=
 (b9x a0 a2).bind λv1=>
 (b1e a1 a2).bind λv2=>
 some (r7 (v1+v2))
def b3z(a0:o0)(a1:List o8)(a2:Int):Option Int:=
 (D9 a0 a2).bind λv1=>
 if (v1.2 != 0) then
  some 0
 else
 (b1f a0 a1 a2).bind λv2=>
 some (r7 (v1.1.Strong-v2))
def b0n(a0:g6):Option (List Int):=
 (a1G a0.S).bind λv1=>
 jn (λ(j16:List Int)=>
  some j16) (λκ15=>
  (lp (S:=Int × (List Int)) (E:=(List Int)) (λ((s18,s19):Int × (List Int))=>
   if (decide (s18<(v1.length:Int))) then
    jn (λ(j26:List Int)=>
     some (.inl (r7 (s18+1),j26))) (λκ25=>
     (ix v1 s18).bind λv27=>
     (D9 a0.S v27).bind λv28=>
     if (v28.1.Strong==0) then
      (app 8 s19 [v27]).bind λv29=>
      κ25 v29
     else
     κ25 s19)
   else
   some (.inr s19)) (0,[])).bind λe17=>
  κ15 e17)
def a2d(a0:List Int):Option (M6 × Int):=
 if ((a0.length:Int) != 4) then
  some ((⟨0,0,0,0⟩:M6),14)
 else
 (ix a0 0).bind λv1=>
 (ix a0 1).bind λv2=>
 (ix a0 2).bind λv3=>
 (ix a0 3).bind λv4=>
 (a1g (⟨v1,v2,v3,v4⟩:M6)).bind λv5=>
 if (v5 != 0) then
  some ((⟨0,0,0,0⟩:M6),v5)
 else
 some ((⟨v1,v2,v3,v4⟩:M6),0)
def b3y(a0:o0)(a1:List o8):Option (List Int):=
 (a1G a0).bind λv1=>
 jn (λ(j18:List Int)=>
  some j18) (λκ17=>
  (lp (S:=Int × (List Int)) (E:=(List Int)) (λ((s20,s21):Int × (List Int))=>
   if (decide (s20<(v1.length:Int))) then
    jn (λ(j29:List Int)=>
     some (.inl (r7 (s20+1),j29))) (λκ28=>
     (ix v1 s20).bind λv30=>
     (b3z a0 a1 v30).bind λv31=>
     (r8 ((decide (v31 > 0))==false) false (b1g a0 v30)).bind λv32=>
     if ((decide (v31 > 0))||v32) then
      (app 8 s21 [v30]).bind λv33=>
      κ28 v33
     else
     κ28 s21)
   else
   some (.inr s21)) (0,[])).bind λe19=>
  κ17 e19)
def a74(a0:List Int)(a1:Int):Option Bool:=
 (a3s a0 a1).bind λv1=>
 some (decide (v1 > 0))
def a75(a0:List Int)(a1:List Int)(a2:Bool):Option (List Int):=
 jn (λ(j15:List Int)=>
  some j15) (λκ14=>
  (lp (S:=Int × (List Int)) (E:=(List Int)) (λ((s17,s18):Int × (List Int))=>
   if (decide (s17<(a0.length:Int))) then
    jn (λ(j25:List Int)=>
     some (.inl (r7 (s17+1),j25))) (λκ24=>
     (ix a0 s17).bind λv26=>
     (a74 a1 v26).bind λv27=>
     if (v27==a2) then
      (app 8 s18 [v26]).bind λv28=>
      κ24 v28
     else
     κ24 s18)
   else
   some (.inr s18)) (0,[])).bind λe16=>
  κ14 e16)
def a7n(a0:o0)(a1:List Int):Option (List Int):=
 (a1G a0).bind λv1=>
 (a75 v1 a1 true).bind λv2=>
 jn (λ(j51:List Int)=>
  some j51) (λκ50=>
  (lp (S:=(List Int) × Int) (E:=(List Int)) (λ((s53,s54):(List Int) × Int)=>
   if (decide (s54<(v1.length:Int))) then
    jn (λ(j78:List Int)=>
     some (.inl (j78,r7 (s54+1)))) (λκ77=>
     (app 8 [] s53).bind λv79=>
     jn (λ(j89:List Int)=>
      (a75 v1 j89 true).bind λv90=>
      κ77 v90) (λκ88=>
      (lp (S:=Int × (List Int)) (E:=(List Int)) (λ((s92,s93):Int × (List Int))=>
       if (decide (s92<(s53.length:Int))) then
        (ix s53 s92).bind λv96=>
        (b2s a0 v96).bind λv97=>
        (app 8 s93 v97).bind λv98=>
        some (.inl (r7 (s92+1),v98))
       else
       some (.inr s93)) (0,v79)).bind λe91=>
      κ88 e91))
   else
   some (.inr s53)) (v2,0)).bind λe52=>
  κ50 e52)
def a79(a0:o0)(a1:Int):Option Bool:=
 (D9 a0 a1).bind λv1=>
 some (v1.2==0)
def b0l(a0:o0)(a1:List o8)(a2:List Int):Option (List Int):=
 (a78 a1).bind λv1=>
 jn (λ(j20:List Int)=>
  some j20) (λκ19=>
  (lp (S:=Int × (List Int)) (E:=(List Int)) (λ((s22,s23):Int × (List Int))=>
   if (decide (s22<(v1.length:Int))) then
    jn (λ(j32:List Int)=>
     some (.inl (r7 (s22+1),j32))) (λκ31=>
     (ix v1 s22).bind λv33=>
     (a79 a0 v33.Key).bind λv34=>
     (r8 (v34==true) false (a74 a2 v33.Key)).bind λv35=>
     (r8 ((v34&&v35)==true) false (a79 a0 v33.Val)).bind λv36=>
     if ((v34&&v35)&&v36) then
      (app 8 s23 [v33.Val]).bind λv37=>
      κ31 v37
     else
     κ31 s23)
   else
   some (.inr s23)) (0,[])).bind λe21=>
  κ19 e21)
def a9p(a0:o0)(a1:List o8)(a2:List Int):Option ((List Int) × Int):=
 (a7n a0 a2).bind λv1=>
 jn (λ(j13:List Int)=>
  some (j13,30)) (λκ12=>
  (lp (S:=(List Int) × Int) (E:=((List Int) × Int) ⊕ (List Int)) (λ((s15,s16):(List Int) × Int)=>
   if (decide (s16<30)) then
    (app 8 [] s15).bind λv19=>
    (b0l a0 a1 s15).bind λv20=>
    (app 8 v19 v20).bind λv21=>
    (a7n a0 v21).bind λv22=>
    (a2I v22 s15).bind λv23=>
    if v23 then
     some (.inr (.inl (s15,s16)))
    else
    some (.inl (v22,r7 (s16+1)))
   else
   some (.inr (.inr s15))) (v1,0)).bind λe14=>
  match e14 with
  | .inl w=>some w
  | .inr w=>κ12 w)
def b3w(a0:o0)(a1:List o8)(a2:List Int):Option (List Int):=
 (a9p a0 a1 a2).bind λv1=>
 some v1.1
def b3x(a0:o0)(a1:List o8)(a2:List Int):Option (List Int):=
 (b3w a0 a1 a2).bind λv1=>
 (a1G a0).bind λv2=>
 jn (λ(j17:List Int)=>
  some j17) (λκ16=>
  (lp (S:=Int × (List Int)) (E:=(List Int)) (λ((s19,s20):Int × (List Int))=>
   if (decide (s19<(v2.length:Int))) then
    jn (λ(j27:List Int)=>
     some (.inl (r7 (s19+1),j27))) (λκ26=>
     (ix v2 s19).bind λv28=>
     (a74 v1 v28).bind λv29=>
     if (!v29) then
      (app 8 s20 [v28]).bind λv30=>
      κ26 v30
     else
     κ26 s20)
   else
   some (.inr s20)) (0,[])).bind λe18=>
  κ16 e18)
def a7p(a0:o0)(a1:List o8):Option (List Int):=
 (b3y a0 a1).bind λv1=>
 (b3x a0 a1 v1).bind λv2=>
 some v2
def a4u(a0:g6):Option (List Int):=
 (a7p a0.S a0.T).bind λv1=>
 some v1
def a8b(a0:g6)(a1:Int):Option Bool:=
 (D9 a0.S a1).bind λv1=>
 (a3t a0 a1).bind λv2=>
 some ((v2&&(decide (v1.1.Prog≥0)))&&(!v1.1.Started))
def b1i(a0:g6):Option (List Int):=
 (a4u a0).bind λv1=>
 jn (λ(j16:List Int)=>
  some j16) (λκ15=>
  (lp (S:=Int × (List Int)) (E:=(List Int)) (λ((s18,s19):Int × (List Int))=>
   if (decide (s18<(v1.length:Int))) then
    jn (λ(j26:List Int)=>
     some (.inl (r7 (s18+1),j26))) (λκ25=>
     (ix v1 s18).bind λv27=>
     (a8b a0 v27).bind λv28=>
     if v28 then
      (app 8 s19 [v27]).bind λv29=>
      κ25 v29
     else
     κ25 s19)
   else
   some (.inr s19)) (0,[])).bind λe17=>
  κ15 e17)
def a2K(a0:o0)(a1:Int)(a2:L7):Option o0:=
 (app 80 [] a0.a8).bind λv1=>
 (ix v1 a1).bind λv2=>
 some (⟨(v1.set (a1).toNat (⟨v2.State,v2.Gen,a2⟩:F9)),a0.Last,a0.Serial⟩:o0)
def L8(a0:o0)(a1:Int)(a2:L7):Option (o0 × Int):=
 (R6 a0).bind λv1=>
 (O1 v1 a1).bind λv2=>
 if (v2.2 != 0) then
  some (a0,v2.2)
 else
 (a2K a0 v2.1 a2).bind λv3=>
 some (v3,0)
def a6d(a0:C1)(a1:O2):Option (C1 × Int):=
 if (decide ((a0.L.length:Int)≥a0.Cap)) then
  some (a0,4)
 else
 (app 24 [] a0.L).bind λv1=>
 (app 24 v1 [a1]).bind λv2=>
 some ((⟨v2,a0.Cap⟩:C1),0)
def b2q(a0:Int):Option Int:=
 (a2c a0).bind λv1=>
 if v1 then
  some 12
 else
 if (decide (a0<0)) then
  some 1
 else
 some (r7 (a0+1))
def a6e(a0:g6)(a1:Int)(a2:Int):Option g6:=
 (D9 a0.S a1).bind λv1=>
 if (v1.2 != 0) then
  some a0
 else
 (L8 a0.S a1 (⟨v1.1.Serial,a2,v1.1.Weak,v1.1.Prog,v1.1.Started,v1.1.Fields⟩:L7)).bind λv2=>
 some (⟨v2.1,a0.Roots,a0.a8,a0.T,a0.Q⟩:g6)
def a02(a0:g6)(a1:Int):Option g6:=
 (D9 a0.S a1).bind λv1=>
 (b2q v1.1.Strong).bind λv2=>
 (a6e a0 a1 v2).bind λv3=>
 some v3
def a3O(a0:g6)(a1:Int):Option g6:=
 (a8b a0 a1).bind λv1=>
 if (!v1) then
  some a0
 else
 (D9 a0.S a1).bind λv2=>
 (L8 a0.S a1 (⟨v2.1.Serial,v2.1.Strong,v2.1.Weak,v2.1.Prog,true,v2.1.Fields⟩:L7)).bind λv3=>
 (a6d a0.Q (⟨1,a1,v2.1.Prog⟩:O2)).bind λv4=>
 (a02 (⟨v3.1,a0.Roots,a0.a8,a0.T,v4.1⟩:g6) a1).bind λv5=>
 some v5
def b0o(a0:g6)(a1:List Int):Option (List Int):=
 jn (λ(j17:List Int)=>
  some j17) (λκ16=>
  (lp (S:=Int × (List Int)) (E:=(List Int)) (λ((s19,s20):Int × (List Int))=>
   if (decide (s19<(a1.length:Int))) then
    jn (λ(j28:List Int)=>
     some (.inl (r7 (s19+1),j28))) (λκ27=>
     (ix a1 s19).bind λv29=>
     (a3t a0 v29).bind λv30=>
     (r8 (v30==true) false (a74 s20 v29)).bind λv31=>
     if (v30&&(!v31)) then
      (app 8 s20 [v29]).bind λv32=>
      κ27 v32
     else
     κ27 s20)
   else
   some (.inr s20)) (0,[])).bind λe18=>
  κ16 e18)
def b1d(a0:List E4)(a1:List Int):Option ((List E4) × (List Int)):=
 jn (λ((j18,j19):(List Int) × (List E4))=>
  some (j19,j18)) (λκ17=>
  (lp (S:=Int × (List E4) × (List Int)) (E:=((List Int) × (List E4))) (λ((s22,s23,s24):Int × (List E4) × (List Int))=>
   if (decide (s22<(a0.length:Int))) then
    (ix a0 s22).bind λv27=>
    jn (λ((j31,j32):Bool × (List Int))=>
     (app 24 s23 [(⟨v27.Target,j31,v27.Call⟩:E4)]).bind λv34=>
     some (.inl (r7 (s22+1),v34,j32))) (λκ30=>
     (r8 (v27.Intact==true) 0 (a3s a1 v27.Target)).bind λv35=>
     if (v27.Intact&&(decide (v35 > 0))) then
      if (decide (v27.Call≥0)) then
       (app 8 s24 [s22]).bind λv36=>
       κ30 (false,v36)
      else
      κ30 (false,s24)
     else
     κ30 (v27.Intact,s24))
   else
   some (.inr (s24,s23))) (0,[],[])).bind λe21=>
  κ17 e21)
def a2M(a0:List o8)(a1:Int)(a2:o8):Option (List o8):=
 (app 24 [] a0).bind λv1=>
 (ix v1 a1).bind λv2=>
 some (v1.set (a1).toNat a2)
def a7o(a0:List o8)(a1:Int):Option ((List o8) × Int × Int):=
 (a2L a0 a1).bind λv1=>
 if (decide (v1<0)) then
  some (a0,0,9)
 else
 (a2M a0 v1 (⟨2,0,0⟩:o8)).bind λv2=>
 (ix a0 v1).bind λv3=>
 some (v2,v3.Val,0)
def a4t(a0:List o8)(a1:List Int):Option ((List o8) × (List Int)):=
 jn (λ((j18,j19):(List o8) × (List Int))=>
  some (j18,j19)) (λκ17=>
  (lp (S:=(List o8) × Int × (List Int)) (E:=((List o8) × (List Int))) (λ((s22,s23,s24):(List o8) × Int × (List Int))=>
   if (decide (s23<(a1.length:Int))) then
    jn (λ((j31,j32):(List o8) × (List Int))=>
     some (.inl (j31,r7 (s23+1),j32))) (λκ30=>
     (ix a1 s23).bind λv34=>
     (a7o s22 v34).bind λv35=>
     if (v35.2.2==0) then
      (app 8 s24 [v35.2.1]).bind λv36=>
      κ30 (v35.1,v36)
     else
     κ30 (s22,s24))
   else
   some (.inr (s22,s24))) (a0,0,[])).bind λe21=>
  κ17 e21)
def a0J(a0:E3)(a1:Int)(a2:K8):Option E3:=
 (app 24 [] a0.a8).bind λv1=>
 (ix v1 a1).bind λv2=>
 some (⟨(v1.set (a1).toNat a2),a0.Last⟩:E3)
def b70(a0:E3)(a1:Int):Option (E3 × Int):=
 (b2p a0 a1).bind λv1=>
 if (v1.2 != 0) then
  some (a0,v1.2)
 else
 (O1 a0 a1).bind λv2=>
 (ix a0.a8 v2.1).bind λv3=>
 (a0J a0 v2.1 (⟨2,v3.Gen,v3.Val⟩:K8)).bind λv4=>
 some (v4,0)
def a01(a0:o0)(a1:E3):Option o0:=
 jn (λ(j10:List F9)=>
  some (⟨j10,a0.Last,a0.Serial⟩:o0)) (λκ9=>
  (lp (S:=Int × (List F9)) (E:=(List F9)) (λ((s12,s13):Int × (List F9))=>
   if (decide (s12<(a0.a8.length:Int))) then
    (ix a1.a8 s12).bind λv16=>
    (ix a0.a8 s12).bind λv17=>
    (app 80 s13 [(⟨v16.State,v16.Gen,v17.Val⟩:F9)]).bind λv18=>
    some (.inl (r7 (s12+1),v18))
   else
   some (.inr s13)) (0,[])).bind λe11=>
  κ9 e11)
def b3u(a0:o0)(a1:Int):Option o0:=
 (R6 a0).bind λv1=>
 (b70 v1 a1).bind λv2=>
 (a01 a0 v2.1).bind λv3=>
 some v3
def b7Z(a0:E3)(a1:Int):Option (E3 × Int):=
 (O1 a0 a1).bind λv1=>
 if (v1.2 != 0) then
  some (a0,v1.2)
 else
 (ix a0.a8 v1.1).bind λv2=>
 if (decide (v2.Gen≥a0.Last)) then
  (a0J a0 v1.1 (⟨3,v2.Gen,0⟩:K8)).bind λv3=>
  some (v3,0)
 else
 (a0J a0 v1.1 (⟨0,r7 (v2.Gen+1),0⟩:K8)).bind λv4=>
 some (v4,0)
def b0i(a0:o0)(a1:Int):Option o0:=
 (R6 a0).bind λv1=>
 (b7Z v1 a1).bind λv2=>
 if (v2.2 != 0) then
  some a0
 else
 (a01 a0 v2.1).bind λv3=>
 (a7k a1).bind λv4=>
 (a2K v3 v4 (⟨0,0,0,0,false,[]⟩:L7)).bind λv5=>
 some v5
def a7s(a0:g6)(a1:Int):Option g6:=
 (D9 a0.S a1).bind λv1=>
 (L8 a0.S a1 (⟨v1.1.Serial,0,v1.1.Weak,v1.1.Prog,v1.1.Started,[]⟩:L7)).bind λv2=>
 (b3u v2.1 a1).bind λv3=>
 if (v1.1.Weak==0) then
  (b0i v3 a1).bind λv4=>
  some (⟨v4,a0.Roots,a0.a8,a0.T,a0.Q⟩:g6)
 else
 some (⟨v3,a0.Roots,a0.a8,a0.T,a0.Q⟩:g6)
def b6m(a0:Int):Option (Int × Int):=
 (a2c a0).bind λv1=>
 if v1 then
  some (12,0)
 else
 if (decide (a0<1)) then
  some (0,11)
 else
 some (r7 (a0-1),0)
def D1(a0:g6)(a1:Int):Option g6:=
 (D9 a0.S a1).bind λv1=>
 (b6m v1.1.Strong).bind λv2=>
 if (v2.2 != 0) then
  some a0
 else
 (a6e a0 a1 v2.1).bind λv3=>
 some v3
def a7r(a0:g6)(a1:List Int):Option g6:=
 (b0o a0 a1).bind λv1=>
 (b1d a0.a8 v1).bind λv2=>
 jn (λ(j12:C1)=>
  jn (λ(j23:List Int)=>
   (a4t a0.T v1).bind λv24=>
   (app 8 j23 v24.2).bind λv25=>
   jn (λ(j34:g6)=>
    jn (λ(j43:g6)=>
     some j43) (λκ42=>
     (lp (S:=Int × g6) (E:=g6) (λ((s45,s46):Int × g6)=>
      if (decide (s45<(v25.length:Int))) then
       (ix v25 s45).bind λv49=>
       (D1 s46 v49).bind λv50=>
       some (.inl (r7 (s45+1),v50))
      else
      some (.inr s46)) (0,j34)).bind λe44=>
     κ42 e44)) (λκ33=>
    (lp (S:=Int × g6) (E:=g6) (λ((s52,s53):Int × g6)=>
     if (decide (s52<(v1.length:Int))) then
      (ix v1 s52).bind λv56=>
      (a7s s53 v56).bind λv57=>
      some (.inl (r7 (s52+1),v57))
     else
     some (.inr s53)) (0,(⟨a0.S,a0.Roots,v2.1,v24.1,j12⟩:g6))).bind λe51=>
    κ33 e51)) (λκ22=>
   (lp (S:=Int × (List Int)) (E:=(List Int)) (λ((s59,s60):Int × (List Int))=>
    if (decide (s59<(v1.length:Int))) then
     (ix v1 s59).bind λv63=>
     (D9 a0.S v63).bind λv64=>
     (a3q v64.1.Fields).bind λv65=>
     (app 8 s60 v65).bind λv66=>
     some (.inl (r7 (s59+1),v66))
    else
    some (.inr s60)) (0,[])).bind λe58=>
   κ22 e58)) (λκ11=>
  (lp (S:=Int × C1) (E:=C1) (λ((s68,s69):Int × C1)=>
   if (decide (s68<(v2.2.length:Int))) then
    (ix v2.2 s68).bind λv72=>
    (ix v2.1 v72).bind λv73=>
    (a6d s69 (⟨2,v72,v73.Call⟩:O2)).bind λv74=>
    some (.inl (r7 (s68+1),v74.1))
   else
   some (.inr s69)) (0,a0.Q)).bind λe67=>
  κ11 e67)
def M5(a0:g6):Option g6:=
 jn (λ(j21:g6)=>
  some j21) (λκ20=>
  (lp (S:=Int × g6) (E:=g6 ⊕ g6) (λ((s23,s24):Int × g6)=>
   if (decide (s23<100)) then
    jn (λ(j34:g6)=>
     some (.inl (r7 (s23+1),j34))) (λκ33=>
     (b0n s24).bind λv35=>
     if ((v35.length:Int)==0) then
      some (.inr (.inl s24))
     else
     (ix v35 0).bind λv36=>
     (a8b s24 v36).bind λv37=>
     if v37 then
      (a3O s24 v36).bind λv38=>
      κ33 v38
     else
     (cut v35 0 1).bind λv39=>
     (a7r s24 v39).bind λv40=>
     κ33 v40)
   else
   some (.inr (.inr s24))) (0,a0)).bind λe22=>
  match e22 with
  | .inl w=>some w
  | .inr w=>κ20 w)
def a7t(a0:g6):Option (g6 × Int × Int):=
 (b1i a0).bind λv1=>
 jn (λ(_:Unit)=>
  (a4u a0).bind λv20=>
  (a7r a0 v20).bind λv21=>
  (M5 v21).bind λv22=>
  (a1G a0.S).bind λv23=>
  (a1G v22.S).bind λv24=>
  some (v22,0,r7 ((v23.length:Int)-(v24.length:Int)))) (λκ18=>
  if (decide ((v1.length:Int) > 0)) then
   jn (λ(j33:g6)=>
    some (j33,(v1.length:Int),0)) (λκ32=>
    (lp (S:=Int × g6) (E:=g6) (λ((s35,s36):Int × g6)=>
     if (decide (s35<(v1.length:Int))) then
      (ix v1 s35).bind λv39=>
      (a3O s36 v39).bind λv40=>
      some (.inl (r7 (s35+1),v40))
     else
     some (.inr s36)) (0,a0)).bind λe34=>
    κ32 e34)
  else
  κ18 ())
def b1j(a0:g6):Option Bool:=
 some ((a0.Q.L.length:Int)==0)
def a7v(a0:List (List M6))(a1:Int):Option (List M6):=
 if ((decide (a1<0))||(decide (a1≥(a0.length:Int)))) then
  some []
 else
 (ix a0 a1).bind λv1=>
 some v1
def a7u(a0:List (List M6))(a1:O2):Option Int:=
 (a7v a0 a1.Prog).bind λv1=>
 some (r7 (1+(v1.length:Int)))
def b3A(a0:C1):Option (C1 × O2 × Int):=
 if ((a0.L.length:Int)==0) then
  some (a0,(⟨0,0,0⟩:O2),10)
 else
 (cut a0.L 1 (a0.L.length:Int)).bind λv1=>
 (ix a0.L 0).bind λv2=>
 some ((⟨v1,a0.Cap⟩:C1),v2,0)
def U7(a0:g6)(a1:Int)(a2:Int):Option (g6 × Int):=
 if ((decide (a1<0))||(decide (a1 > 5))) then
  some (a0,6)
 else
 (a3u a0 a2).bind λv1=>
 if (!v1) then
  some (a0,3)
 else
 (ix a0.Roots a1).bind λv2=>
 (a02 a0 a2).bind λv3=>
 (app 8 [] a0.Roots).bind λv4=>
 (ix v4 a1).bind λv5=>
 (D1 (⟨v3.S,(v4.set (a1).toNat a2),v3.a8,v3.T,v3.Q⟩:g6) v2).bind λv6=>
 some (v6,0)
def b6p(a0:List E4)(a1:Int)(a2:Int)(a3:Int):Option ((List E4) × Int × Int):=
 if ((decide (a1<0))||(decide (a1≥(a0.length:Int)))) then
  some (a0,0,7)
 else
 (app 24 [] a0).bind λv1=>
 (ix v1 a1).bind λv2=>
 (ix a0 a1).bind λv3=>
 some ((v1.set (a1).toNat (⟨a2,(a2 != 0),a3⟩:E4)),v3.Target,0)
def a1f(a0:g6)(a1:Int):Option g6:=
 (R6 a0.S).bind λv1=>
 (O1 v1 a1).bind λv2=>
 if (v2.2 != 0) then
  some a0
 else
 (ix a0.S.a8 v2.1).bind λv3=>
 (L8 a0.S a1 (⟨v3.Val.Serial,v3.Val.Strong,r7 (v3.Val.Weak-1),v3.Val.Prog,v3.Val.Started,v3.Val.Fields⟩:L7)).bind λv4=>
 (ix v4.1.a8 v2.1).bind λv5=>
 if ((v5.State==2)&&(decide ((r7 (v3.Val.Weak-1))<1))) then
  (b0i v4.1 a1).bind λv6=>
  some (⟨v6,a0.Roots,a0.a8,a0.T,a0.Q⟩:g6)
 else
 some (⟨v4.1,a0.Roots,a0.a8,a0.T,a0.Q⟩:g6)
def a3N(a0:g6)(a1:Int)(a2:Int)(a3:Int):Option (g6 × Int):=
 (r8 (((decide (a1<0))||(decide (a1 > 5)))==false) false (a8a a0.Q a1)).bind λv1=>
 if (((decide (a1<0))||(decide (a1 > 5)))||v1) then
  some (a0,7)
 else
 (a3u a0 a2).bind λv2=>
 if (!v2) then
  some (a0,3)
 else
 (b6p a0.a8 a1 a2 a3).bind λv3=>
 if (a2 != 0) then
  (D9 a0.S a2).bind λv4=>
  (L8 a0.S a2 (⟨v4.1.Serial,v4.1.Strong,r7 (v4.1.Weak+1),v4.1.Prog,v4.1.Started,v4.1.Fields⟩:L7)).bind λv5=>
  (a1f (⟨v5.1,a0.Roots,v3.1,a0.T,a0.Q⟩:g6) v3.2.1).bind λv6=>
  some (v6,0)
 else
 (a1f (⟨a0.S,a0.Roots,v3.1,a0.T,a0.Q⟩:g6) v3.2.1).bind λv7=>
 some (v7,0)
def V7(a0:g6)(a1:Int):Option (Int × Int):=
 (ix a0.Roots a1).bind λv1=>
 if (v1==0) then
  some (0,2)
 else
 some (v1,0)
def a5i(a0:g6)(a1:Int):Option Int:=
 if (decide (a1<0)) then
  some 0
 else
 (ix a0.Roots a1).bind λv1=>
 some v1
def b3t(a0:List Int)(a1:Int):Option (Int × Int):=
 if ((decide (a1<0))||(decide (a1≥(a0.length:Int)))) then
  some (0,5)
 else
 (ix a0 a1).bind λv1=>
 some (v1,0)
def a3r(a0:o0)(a1:Int)(a2:Int):Option (Int × Int):=
 (D9 a0 a1).bind λv1=>
 if (v1.2 != 0) then
  some (0,v1.2)
 else
 (b3t v1.1.Fields a2).bind λv2=>
 some (v2.1,v2.2)
def b71(a0:List Int)(a1:Int)(a2:Int):Option ((List Int) × Int):=
 if ((decide (a1<0))||(decide (a1≥(a0.length:Int)))) then
  some (a0,5)
 else
 (app 8 [] a0).bind λv1=>
 (ix v1 a1).bind λv2=>
 some ((v1.set (a1).toNat a2),0)
def b6o(a0:o0)(a1:Int)(a2:Int)(a3:Int):Option (o0 × Int):=
 (D9 a0 a1).bind λv1=>
 if (v1.2 != 0) then
  some (a0,v1.2)
 else
 (b71 v1.1.Fields a2 a3).bind λv2=>
 if (v2.2 != 0) then
  some (a0,v2.2)
 else
 (L8 a0 a1 (⟨v1.1.Serial,v1.1.Strong,v1.1.Weak,v1.1.Prog,v1.1.Started,v2.1⟩:L7)).bind λv3=>
 some (v3.1,v3.2)
def a5h(a0:g6)(a1:Int)(a2:Int)(a3:Int):Option (g6 × Int):=
 (a3r a0.S a1 a2).bind λv1=>
 if (v1.2 != 0) then
  some (a0,v1.2)
 else
 (a3u a0 a3).bind λv2=>
 if (!v2) then
  some (a0,3)
 else
 (a02 a0 a3).bind λv3=>
 (b6o v3.S a1 a2 a3).bind λv4=>
 (D1 (⟨v4.1,v3.Roots,v3.a8,v3.T,v3.Q⟩:g6) v1.1).bind λv5=>
 some (v5,0)
def b6q(a0:List o8)(a1:Int)(a2:Int):Option ((List o8) × Int):=
 (a2L a0 a1).bind λv1=>
 if (decide (v1≥0)) then
  (a2M a0 v1 (⟨1,a1,a2⟩:o8)).bind λv2=>
  some (v2,0)
 else
 (b72 (a0.length:Int) a1).bind λv3=>
 jn (λ(_:Unit)=>
  some (a0,8)) (λκ12=>
  (lp (S:=Int × Int) (E:=((List o8) × Int) ⊕ Unit) (λ((s15,s16):Int × Int)=>
   if (decide (s16<(a0.length:Int))) then
    (ix a0 s15).bind λv19=>
    if (v19.State != 1) then
     (a2M a0 s15 (⟨1,a1,a2⟩:o8)).bind λv20=>
     some (.inr (.inl (v20,0)))
    else
    (rem (r7 (s15+1)) (a0.length:Int)).bind λv21=>
    some (.inl (v21,r7 (s16+1)))
   else
   some (.inr (.inr ()))) (v3,0)).bind λe14=>
  match e14 with
  | .inl w=>some w
  | .inr w=>κ12 w)
def b6r(a0:List o8)(a1:Int)(a2:Int):Option ((List o8) × Int × Int):=
 if (a1==0) then
  some (a0,0,2)
 else
 (b0k a0 a1).bind λv1=>
 if (a2==0) then
  (a7o a0 a1).bind λv2=>
  some (v2.1,v1.1,0)
 else
 (b6q a0 a1 a2).bind λv3=>
 if (v3.2 != 0) then
  some (a0,0,v3.2)
 else
 some (v3.1,v1.1,0)
def a7q(a0:g6)(a1:Int)(a2:Int):Option (g6 × Int):=
 if (a1==0) then
  some (a0,2)
 else
 (a3t a0 a1).bind λv1=>
 (r8 ((!v1)==false) false (a3u a0 a2)).bind λv2=>
 if ((!v1)||(!v2)) then
  some (a0,3)
 else
 (b6r a0.T a1 a2).bind λv3=>
 if (v3.2.2 != 0) then
  some (a0,v3.2.2)
 else
 (a02 a0 a2).bind λv4=>
 (D1 (⟨v4.S,v4.Roots,v4.a8,v3.1,v4.Q⟩:g6) v3.2.1).bind λv5=>
 some (v5,0)
def a1h(a0:g6)(a1:M6):Option (g6 × Int × Int):=
 if ((a1.Kind==6)&&(decide (a1.B<0))) then
  (a3N a0 a1.A 0 a1.C).bind λv1=>
  some (v1.1,0,v1.2)
 else
 jn (λ(j3:Int)=>
  (V7 a0 j3).bind λv4=>
  if (v4.2 != 0) then
   some (a0,0,v4.2)
  else
  if (a1.Kind==5) then
   (a5i a0 a1.C).bind λv5=>
   (a5h a0 v4.1 a1.B v5).bind λv6=>
   some (v6.1,v5,v6.2)
  else
  if (a1.Kind==6) then
   (a3N a0 a1.A v4.1 a1.C).bind λv7=>
   some (v7.1,v4.1,v7.2)
  else
  (a5i a0 a1.B).bind λv8=>
  (a7q a0 v4.1 v8).bind λv9=>
  some (v9.1,v8,v9.2)) (λκ2=>
  if (a1.Kind==6) then
   κ2 a1.B
  else
  κ2 a1.A)
def a3P(a0:g6)(a1:Int):Option Int:=
 (D9 a0.S a1).bind λv1=>
 some v1.1.Serial
def b2r(a0:Int):Option ((List Int) × Int):=
 if ((decide (a0<0))||(decide (a0 > 4))) then
  some ([],1)
 else
 (mk 8 a0 (0:Int)).bind λv1=>
 some (v1,0)
def a7m(a0:E3)(a1:Int):Option (E3 × Int × Int):=
 jn (λ(_:Unit)=>
  some (a0,0,4)) (λκ7=>
  (lp (S:=Int) (E:=(E3 × Int × Int) ⊕ Unit) (λ(s10:Int)=>
   if (decide (s10<(a0.a8.length:Int))) then
    (ix a0.a8 s10).bind λv12=>
    if (v12.State==0) then
     (a0J a0 s10 (⟨1,v12.Gen,a1⟩:K8)).bind λv13=>
     (a5g s10 v12.Gen).bind λv14=>
     some (.inr (.inl (v13,v14,0)))
    else
    some (.inl (r7 (s10+1)))
   else
   some (.inr (.inr ()))) 0).bind λe9=>
  match e9 with
  | .inl w=>some w
  | .inr w=>κ7 w)
def a2J(a0:o0)(a1:Int)(a2:Int):Option (o0 × Int × Int):=
 (b2r a1).bind λv1=>
 if (v1.2 != 0) then
  some (a0,0,v1.2)
 else
 if ((decide (a2<(-1)))||(decide (a2 > 5))) then
  some (a0,0,13)
 else
 (R6 a0).bind λv2=>
 (a7m v2 0).bind λv3=>
 if (v3.2.2 != 0) then
  some (a0,0,v3.2.2)
 else
 (a01 a0 v3.1).bind λv4=>
 (a7k v3.2.1).bind λv5=>
 (a2K v4 v5 (⟨r7 (a0.Serial+1),0,0,a2,false,v1.1⟩:L7)).bind λv6=>
 some ((⟨v6.a8,v6.Last,r7 (a0.Serial+1)⟩:o0),v3.2.1,0)
def b1h(a0:g6)(a1:Int):Option Int:=
 if ((decide (a1<0))||(decide (a1 > 5))) then
  some 0
 else
 (ix a0.Roots a1).bind λv1=>
 (a3P a0 v1).bind λv2=>
 some v2
def b0j(a0:List E4)(a1:Int):Option (Int × Int):=
 if ((decide (a1<0))||(decide (a1≥(a0.length:Int)))) then
  some (0,7)
 else
 (ix a0 a1).bind λv1=>
 if ((v1.Target==0)||(!v1.Intact)) then
  some (0,9)
 else
 some (v1.Target,0)
def b2t(a0:List o8)(a1:Int):Option (Int × Int):=
 (b0k a0 a1).bind λv1=>
 some (v1.1,v1.2)
def a2e(a0:g6)(a1:M6):Option (Int × Int):=
 if (a1.Kind==2) then
  (ix a0.Roots a1.B).bind λv1=>
  some (v1,0)
 else
 if (a1.Kind==4) then
  (V7 a0 a1.B).bind λv2=>
  if (v2.2 != 0) then
   some (0,v2.2)
  else
  (a3r a0.S v2.1 a1.C).bind λv3=>
  some (v3.1,v3.2)
 else
 if (a1.Kind==7) then
  (b0j a0.a8 a1.B).bind λv4=>
  some (v4.1,v4.2)
 else
 if (a1.Kind==9) then
  (V7 a0 a1.B).bind λv5=>
  if (v5.2 != 0) then
   some (0,v5.2)
  else
  (b2t a0.T v5.1).bind λv6=>
  some (v6.1,v6.2)
 else
 some (0,0)
def A8(a0:g6)(a1:M6):Option (g6 × Int × Int):=
 (a1g a1).bind λv1=>
 if (v1 != 0) then
  some (a0,0,v1)
 else
 (V6 a1).bind λv2=>
 if (!v2) then
  some (a0,0,14)
 else
 if (a1.Kind==10) then
  (ix a0.Roots a1.A).bind λv3=>
  (ix a0.Roots a1.B).bind λv4=>
  if (v3==v4) then
   some (a0,1,0)
  else
  some (a0,0,0)
 else
 jn (λ(j6:Bool)=>
  if j6 then
   (a1h a0 a1).bind λv7=>
   if (v7.2.2 != 0) then
    some (a0,0,v7.2.2)
   else
   (M5 v7.1).bind λv8=>
   (a3P a0 v7.2.1).bind λv9=>
   some (v8,v9,0)
  else
  if (a1.Kind==1) then
   (a2J a0.S a1.B a1.C).bind λv10=>
   if (v10.2.2 != 0) then
    some (a0,0,v10.2.2)
   else
   (U7 (⟨v10.1,a0.Roots,a0.a8,a0.T,a0.Q⟩:g6) a1.A v10.2.1).bind λv11=>
   (M5 v11.1).bind λv12=>
   (b1h v12 a1.A).bind λv13=>
   some (v12,v13,0)
  else
  (a2e a0 a1).bind λv14=>
  if (v14.2 != 0) then
   some (a0,0,v14.2)
  else
  (U7 a0 a1.A v14.1).bind λv15=>
  (M5 v15.1).bind λv16=>
  (b1h v16 a1.A).bind λv17=>
  some (v16,v17,0)) (λκ5=>
  if (a1.Kind==5) then
   κ5 (a1.Kind==5)
  else
  if (a1.Kind==6) then
   κ5 (a1.Kind==6)
  else
  κ5 (a1.Kind==8))
def b2u(a0:g6)(a1:List M6):Option (g6 × (List Int)):=
 jn (λ((j11,j12):g6 × (List Int))=>
  some (j11,j12)) (λκ10=>
  (lp (S:=Int × g6 × (List Int)) (E:=(g6 × (List Int))) (λ((s15,s16,s17):Int × g6 × (List Int))=>
   if (decide (s15<(a1.length:Int))) then
    (ix a1 s15).bind λv20=>
    (A8 s16 v20).bind λv21=>
    (app 8 s17 [v21.2.1]).bind λv22=>
    some (.inl (r7 (s15+1),v21.1,v22))
   else
   some (.inr (s16,s17))) (0,a0,[])).bind λe14=>
  κ10 e14)
def b3B(a0:g6)(a1:List (List M6)):Option (g6 × O2 × Int):=
 (b3A a0.Q).bind λv1=>
 if (v1.2.2 != 0) then
  some (a0,(⟨0,0,0⟩:O2),v1.2.2)
 else
 jn (λ(j6:g6)=>
  (a7v a1 v1.2.1.Prog).bind λv7=>
  (b2u j6 v7).bind λv8=>
  if (v1.2.1.Kind==1) then
   (U7 v8.1 5 0).bind λv9=>
   (M5 v9.1).bind λv10=>
   some (v10,v1.2.1,0)
  else
  some (v8.1,v1.2.1,0)) (λκ5=>
  if (v1.2.1.Kind==1) then
   (U7 (⟨a0.S,a0.Roots,a0.a8,a0.T,v1.1⟩:g6) 5 v1.2.1.At).bind λv11=>
   (D1 v11.1 v1.2.1.At).bind λv12=>
   (M5 v12).bind λv13=>
   κ5 v13
  else
  κ5 (⟨a0.S,a0.Roots,a0.a8,a0.T,v1.1⟩:g6))
def a8d(a0:g6)(a1:List (List M6))(a2:Int):Option (g6 × Int × Int × Int):=
 jn (λ((j12,j13,j14):Int × Int × g6)=>
  some (j14,j13,j12,0)) (λκ11=>
  (lp (S:=Int × Int × g6) (E:=(g6 × Int × Int × Int) ⊕ (Int × Int × g6)) (λ((s17,s18,s19):Int × Int × g6)=>
   (b1j s19).bind λv22=>
   if (!v22) then
    (ix s19.Q.L 0).bind λv23=>
    (a7u a1 v23).bind λv24=>
    if (decide (v24 > s17)) then
     some (.inr (.inl (s19,s18,s17,12)))
    else
    (b3B s19 a1).bind λv25=>
    some (.inl (r7 (s17-v24),r7 (s18+1),v25.1))
   else
   some (.inr (.inr (s17,s18,s19)))) (a2,0,a0)).bind λe16=>
  match e16 with
  | .inl w=>some w
  | .inr w=>κ11 w)
def b9y(a0:C3)(a1:List Int):Option (C3 × H6):=
 (a2d a1).bind λv1=>
 if (v1.2 != 0) then
  some (a0,(⟨0,v1.2⟩:H6))
 else
 if (v1.1.Kind==11) then
  (a7t a0.X).bind λv2=>
  some ((⟨v2.1,a0.Progs⟩:C3),(⟨r7 (v2.2.2-v2.2.1),0⟩:H6))
 else
 if (v1.1.Kind==12) then
  (a8d a0.X a0.Progs v1.1.A).bind λv3=>
  some ((⟨v3.1,a0.Progs⟩:C3),(⟨v3.2.1,v3.2.2.2⟩:H6))
 else
 (A8 a0.X v1.1).bind λv4=>
 some ((⟨v4.1,a0.Progs⟩:C3),(⟨v4.2.1,v4.2.2⟩:H6))
def b2v(a0:C3)(a1:List (List Int)):Option (C3 × (List H6)):=
 jn (λ((j11,j12):C3 × (List H6))=>
  some (j11,j12)) (λκ10=>
  (lp (S:=Int × C3 × (List H6)) (E:=(C3 × (List H6))) (λ((s15,s16,s17):Int × C3 × (List H6))=>
   if (decide (s15<(a1.length:Int))) then
    (ix a1 s15).bind λv20=>
    (b9y s16 v20).bind λv21=>
    (app 16 s17 [v21.2]).bind λv22=>
    some (.inl (r7 (s15+1),v21.1,v22))
   else
   some (.inr (s16,s17))) (0,a0,[])).bind λe14=>
  κ10 e14)
end
end Go.Sh
