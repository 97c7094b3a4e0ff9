/-
 Plain functions: what the functions of the program come to.
-/
import Derived.Test.YtfihndcobnkiaaaGreatM18cSh0
import Derived.Test.YtfihndcobnkiaaaGreatM18cPwD
set_option linter.unusedVariables false
set_option linter.unusedSimpArgs false
set_option linter.unusedSectionVars false
namespace Go.Sh
set_option maxRecDepth 100000
noncomputable section
structure code_Op where
 Kind:Int
 A:Int
 B:Int
 C:Int
structure l4 where
 Serial:Int
 Strong:Int
 Weak:Int
 Prog:Int
 Started:Bool
 Fields:List Int
structure b8 where
 State:Int
 Gen:Int
 Val:l4
structure c9 where
 Target:Int
 Intact:Bool
 Call:Int
structure c5 where
 State:Int
 Key:Int
 Val:Int
structure j2 where
 Kind:Int
 At:Int
 Prog:Int
instance:BEq j2:=⟨λa b=>((a.Kind==b.Kind)&&((a.At==b.At)&&((a.Prog==b.Prog)&&true)))⟩
theorem j2.beq_eq(a b:j2)(h:(a==b)=true):a=b:=by
 have h:((a.Kind==b.Kind)&&((a.At==b.At)&&((a.Prog==b.Prog)&&true)))=true:=h
 simp only[Bool.and_eq_true,beq_iff_eq,and_true] at h
 obtain⟨h0,h1,h2⟩:=h
 cases a;cases b;simp_all
structure g6 where
 a7:List b8
 Last:Int
structure a8 where
 S:g6
 Serial:Int
structure g9 where
 L:List j2
 Cap:Int
structure b9 where
 S:a8
 Roots:List Int
 a7:List c9
 T:List c5
 Q:g9
structure j1 where
 part:Fv
 least:Int
 most:Int
 e:Int
structure o8 where
 x:b9
 o:code_Op
structure F8 where
 r:Int
 h:Int
structure E5 where
 h:Int
 k:Int
 v:Int
structure F7 where
 t:List c5
structure A8 where
 kept:Fv
structure l7 where
 Key:Int
 Val:Int
structure A0 where
 Serial:Int
 Strong:Int
 Weak:Int
 Prog:Int
 Started:Bool
 Fields:List Int
structure l6 where
 State:Int
 Gen:Int
 Val:A0
structure k8 where
 Target:Int
 Intact:Bool
 Call:Int
structure j4 where
 State:Int
 Key:Int
 Val:Int
structure p6 where
 Kind:Int
 At:Int
 Prog:Int
structure r7 where
 State:Int
 Gen:Int
 Val:Int
structure s6 where
 a7:List r7
 Last:Int
structure k9 where
 a7:List l6
 Last:Int
 Serial:Int
structure r9 where
 L:List p6
 Cap:Int
structure g5 where
 S:k9
 Roots:List Int
 a7:List k8
 T:List j4
 Q:r9
structure C0 where
 Kind:Int
 A:Int
 B:Int
 C:Int
structure W2 where
 Key:Int
 Val:Int
def R3(a0:Int)(a1:Int):Option g6:=
 if ((((decide (a0<0))||(decide (a0 > 24)))||(decide (a1<0)))||(decide (a1 > 9))) then
  some (⟨[],0⟩:g6)
 else
 (mk 80 a0 (⟨0,0,⟨0,0,0,0,false,[]⟩⟩:b8)).bind λv1=>
 some (⟨v1,a1⟩:g6)
def a2O(a0:Int)(a1:Int):Option a8:=
 (R3 a0 a1).bind λv1=>
 some (⟨v1,0⟩:a8)
def b7A(a0:Int):Option (List c9):=
 if ((decide (a0<0))||(decide (a0 > 6))) then
  some []
 else
 (mk 24 a0 (⟨0,false,0⟩:c9)).bind λv1=>
 jn (λ(j9:List c9)=>
  some j9) (λκ8=>
  (lp (S:=Int × (List c9)) (E:=(List c9)) (λ((s11,s12):Int × (List c9))=>
   if (decide (s11<(v1.length:Int))) then
    (ix s12 s11).bind λv15=>
    some (.inl (w7 (s11+1),(s12.set (s11).toNat (⟨v15.Target,v15.Intact,(-1)⟩:c9))))
   else
   some (.inr s12)) (0,v1)).bind λe10=>
  κ8 e10)
def a80(a0:Int):Option (List c5):=
 if ((decide (a0<1))||(decide (a0 > 8))) then
  some []
 else
 (mk 24 a0 (⟨0,0,0⟩:c5)).bind λv1=>
 some v1
def Z4(a0:Int):Option g9:=
 some (⟨[],a0⟩:g9)
def a9R:Option g9:=
 (Z4 30).bind λv1=>
 some v1
def a1Y(a0:Int)(a1:Int)(a2:Int):Option b9:=
 if ((((((decide (a0<1))||(decide (a0 > 24)))||(decide (a1<0)))||(decide (a1 > 9)))||(decide (a2<1)))||(decide (a2 > 8))) then
  some (⟨⟨⟨[],0⟩,0⟩,[],[],[],⟨[],0⟩⟩:b9)
 else
 (a2O a0 a1).bind λv1=>
 (mk 8 6 (0:Int)).bind λv2=>
 (b7A 6).bind λv3=>
 (a80 a2).bind λv4=>
 (a9R).bind λv5=>
 some (⟨v1,v2,v3,v4,v5⟩:b9)
def U1:Option j1:=
 some (⟨(some 178),0,5,6⟩:j1)
def N2:Option j1:=
 some (⟨(some 181),(-1),5,13⟩:j1)
def G8(a0:List j1):Option (List j1):=
 some a0
def U2:Option j1:=
 some (⟨(some 179),0,5,6⟩:j1)
def Q5:Option j1:=
 some (⟨(some 181),0,3,5⟩:j1)
def Q4:Option j1:=
 some (⟨(some 179),0,3,5⟩:j1)
def L2:Option j1:=
 some (⟨(some 181),(-1),5,6⟩:j1)
def T9:Option j1:=
 some (⟨(some 178),0,5,7⟩:j1)
def L1:Option j1:=
 some (⟨(some 179),(-1),5,6⟩:j1)
def U0:Option j1:=
 some (⟨(some 179),0,5,7⟩:j1)
def a41:Option (List (Int × (List j1))):=
 (U1).bind λv1=>
 (N2).bind λv2=>
 (G8 [v1,(⟨(some 179),0,4,1⟩:j1),v2]).bind λv3=>
 (U2).bind λv4=>
 (G8 [v1,v4]).bind λv5=>
 (G8 [v1]).bind λv6=>
 (Q5).bind λv7=>
 (G8 [v1,v4,v7]).bind λv8=>
 (Q4).bind λv9=>
 (L2).bind λv10=>
 (G8 [v1,v9,v10]).bind λv11=>
 (T9).bind λv12=>
 (L1).bind λv13=>
 (G8 [v12,v13,v2]).bind λv14=>
 (U0).bind λv15=>
 (G8 [v1,v15]).bind λv16=>
 (G8 [v1,v13]).bind λv17=>
 (G8 []).bind λv18=>
 (G8 [(⟨(some 178),0,200,12⟩:j1)]).bind λv19=>
 some (o0 (o0 (o0 (o0 (o0 (o0 (o0 (o0 (o0 (o0 (o0 (o0 [] 1 v3) 2 v5) 3 v6) 4 v8) 5 v11) 6 v14) 7 v16) 8 v17) 9 v5) 10 v5) 11 v18) 12 v19)
def a8d(a0:code_Op):Option Int:=
 some a0.A
def a8e(a0:code_Op):Option Int:=
 some a0.B
def a8f(a0:code_Op):Option Int:=
 some a0.C
def a8V(f:Fv)(a0:code_Op):Option Int:=
 if f=some 178 then a8d a0 else
 if f=some 179 then a8e a0 else
 if f=some 181 then a8f a0 else
 none
def a2T(a0:code_Op):Option Int:=
 (a41).bind λv1=>
 if (!((z7 v1 a0.Kind).isSome)) then
  some 14
 else
 jn (λ(_:Unit)=>
  some 0) (λκ8=>
  (lp (S:=Int) (E:=Int ⊕ Unit) (λ(s11:Int)=>
   if (decide (s11<(((z7 v1 a0.Kind).getD ([]:List j1)).length:Int))) then
    (ix ((z7 v1 a0.Kind).getD ([]:List j1)) s11).bind λv13=>
    (a8V v13.part a0).bind λv14=>
    if ((decide (v14<v13.least))||(decide (v14 > v13.most))) then
     some (.inr (.inl v13.e))
    else
    some (.inl (w7 (s11+1)))
   else
   some (.inr (.inr ()))) 0).bind λe10=>
  match e10 with
  | .inl w=>some w
  | .inr w=>κ8 w)
def a1R:Option (List (Int × Fv)):=
 some (o0 (o0 (o0 (o0 (o0 (o0 (o0 (o0 (o0 (o0 [] 1 (some 96)) 2 (some 97)) 3 (some 98)) 4 (some 99)) 5 (some 100)) 6 (some 101)) 7 (some 102)) 8 (some 103)) 9 (some 104)) 10 (some 105))
def b52(a0:Int):Option ((List Int) × Int):=
 if ((decide (a0<0))||(decide (a0 > 4))) then
  some ([],1)
 else
 (mk 8 a0 (0:Int)).bind λv1=>
 some (v1,0)
def G5(a0:Int):Option Bool:=
 some ((decide (a0≥(-1)))&&(decide (a0<6)))
def K7(a0:g6):Option g6:=
 some a0
def u6(a0:List b8):Option (List b8):=
 app 80 [] a0
def B1(a0:g6)(a1:Int)(a2:b8):Option g6:=
 (u6 a0.a7).bind λv1=>
 (ix v1 a1).bind λv2=>
 some (⟨(v1.set (a1).toNat a2),a0.Last⟩:g6)
def V4(a0:Int)(a1:Int):Option Int:=
 if ((((decide (a0<0))||(decide (a0≥24)))||(decide (a1<0)))||(decide (a1 > 9))) then
  some 0
 else
 some (w7 ((w7 (1+(w7 (a0*1))))+(w7 (a1*32))))
def G6(a0:g6)(a1:l4):Option (g6 × Int × Int):=
 jn (λ(_:Unit)=>
  some (a0,0,4)) (λκ9=>
  (K7 a0).bind λv11=>
  (lp (S:=Int) (E:=(g6 × Int × Int) ⊕ Unit) (λ(s13:Int)=>
   if (decide (s13<(v11.a7.length:Int))) then
    (ix v11.a7 s13).bind λv15=>
    if ((v15.State==0)==true) then
     (ix a0.a7 s13).bind λv16=>
     (B1 a0 s13 (⟨1,v16.Gen,a1⟩:b8)).bind λv17=>
     (V4 s13 v16.Gen).bind λv18=>
     some (.inr (.inl (v17,v18,0)))
    else
    some (.inl (w7 (s13+1)))
   else
   some (.inr (.inr ()))) 0).bind λe12=>
  match e12 with
  | .inl w=>some w
  | .inr w=>κ9 w)
def N5(a0:a8)(a1:Int)(a2:Int):Option (a8 × Int × Int):=
 (b52 a1).bind λv1=>
 if (v1.2 != 0) then
  some (a0,0,v1.2)
 else
 (G5 a2).bind λv2=>
 if (!v2) then
  some (a0,0,13)
 else
 (G6 a0.S (⟨w7 (a0.Serial+1),0,0,a2,false,v1.1⟩:l4)).bind λv3=>
 if (v3.2.2 != 0) then
  some (a0,0,v3.2.2)
 else
 some ((⟨v3.1,w7 (a0.Serial+1)⟩:a8),v3.2.1,0)
def a0P(a0:Int):Option (Int × Int × Bool):=
 if (decide (a0<1)) then
  some ((-1),(-1),false)
 else
 (rem (w7 (a0-1)) 32).bind λv1=>
 (quo .i64 v1 1).bind λv2=>
 (quo .i64 (w7 (a0-1)) 32).bind λv3=>
 if ((decide (v2≥24))||(decide (v3 > 9))) then
  some ((-1),(-1),false)
 else
 some (v2,v3,true)
def a1X(a0:Int):Option Int:=
 (a0P a0).bind λv1=>
 some v1.1
def a2X(a0:Int):Option Int:=
 (a0P a0).bind λv1=>
 some v1.2.1
def p8(a0:g6)(a1:Int):Option (Int × Int):=
 if (a1==0) then
  some ((-1),2)
 else
 (a1X a1).bind λv1=>
 if ((decide (v1<0))||(decide (v1≥(a0.a7.length:Int)))) then
  some ((-1),3)
 else
 (ix a0.a7 v1).bind λv2=>
 (a2X a1).bind λv3=>
 if ((v2.Gen != v3)||((v2.State != 1)&&(v2.State != 2))) then
  some ((-1),3)
 else
 some (v1,0)
def C1(a0:g6)(a1:Int):Option (l4 × Int):=
 (p8 a0 a1).bind λv1=>
 if (v1.2 != 0) then
  some ((⟨0,0,0,0,false,[]⟩:l4),v1.2)
 else
 (ix a0.a7 v1.1).bind λv2=>
 if (v2.State==2) then
  some ((⟨0,0,0,0,false,[]⟩:l4),3)
 else
 some (v2.Val,0)
def u5(a0:a8)(a1:Int):Option (l4 × Int):=
 (C1 a0.S a1).bind λv1=>
 some (v1.1,v1.2)
def V7(a0:b9)(a1:Int):Option Bool:=
 (u5 a0.S a1).bind λv1=>
 some (v1.2==0)
def F4(a0:b9)(a1:Int):Option Bool:=
 (p7 ((a1==0)==false) false (V7 a0 a1)).bind λv1=>
 some ((a1==0)||v1)
def E3(a0:Int):Option Bool:=
 some (decide (a0≥12))
def a2U(a0:Int):Option (Int × Int):=
 (E3 a0).bind λv1=>
 if v1 then
  some (12,0)
 else
 some (w7 ((if 0 > a0 then 0 else a0)+1),0)
def a61(a0:Int):Option Int:=
 (a2U a0).bind λv1=>
 some v1.1
def H9(a0:g6)(a1:Int)(a2:l4):Option (g6 × Int):=
 (p8 a0 a1).bind λv1=>
 if (v1.2 != 0) then
  some (a0,v1.2)
 else
 (ix a0.a7 v1.1).bind λv2=>
 (B1 a0 v1.1 (⟨v2.State,v2.Gen,a2⟩:b8)).bind λv3=>
 some (v3,0)
def I0(a0:a8)(a1:Int)(a2:l4):Option (a8 × Int):=
 (H9 a0.S a1 a2).bind λv1=>
 some ((⟨v1.1,a0.Serial⟩:a8),v1.2)
def O8(a0:b9)(a1:Int):Option b9:=
 (u5 a0.S a1).bind λv1=>
 if (v1.2==0) then
  (a61 v1.1.Strong).bind λv2=>
  (I0 a0.S a1 (⟨v1.1.Serial,v2,v1.1.Weak,v1.1.Prog,v1.1.Started,v1.1.Fields⟩:l4)).bind λv3=>
  some (⟨v3.1,a0.Roots,a0.a7,a0.T,a0.Q⟩:b9)
 else
 some a0
def V5(a0:b9)(a1:Int):Option b9:=
 (O8 a0 a1).bind λv1=>
 some v1
def F0(a0:List Int):Option (List Int):=
 app 8 [] a0
def Q8(a0:F8)(a1:b9):Option b9:=
 (F0 a1.Roots).bind λv1=>
 (ix v1 a0.r).bind λv2=>
 some (⟨a1.S,(v1.set (a0.r).toNat a0.h),a1.a7,a1.T,a1.Q⟩:b9)
def a1m(a0:Int):Option (Int × Int):=
 (E3 a0).bind λv1=>
 if v1 then
  some (12,0)
 else
 if (decide (a0<1)) then
  some (0,11)
 else
 some (w7 (a0-1),0)
def b0a(a0:Int):Option (Int × Int):=
 (a1m a0).bind λv1=>
 some (v1.1,v1.2)
def a0Q(a0:Int):Option Int:=
 (b0a a0).bind λv1=>
 if (v1.2 != 0) then
  some a0
 else
 some v1.1
def J8(a0:b9)(a1:Int):Option b9:=
 (u5 a0.S a1).bind λv1=>
 if (v1.2==0) then
  (a0Q v1.1.Strong).bind λv2=>
  (I0 a0.S a1 (⟨v1.1.Serial,v2,v1.1.Weak,v1.1.Prog,v1.1.Started,v1.1.Fields⟩:l4)).bind λv3=>
  some (⟨v3.1,a0.Roots,a0.a7,a0.T,a0.Q⟩:b9)
 else
 some a0
def D7(a0:b9)(a1:Int):Option b9:=
 (J8 a0 a1).bind λv1=>
 some v1
def H2(a0:b9)(a1:Int)(a2:Int)(a3:F8):Option b9:=
 (V5 a0 a2).bind λv1=>
 (Q8 a3 v1).bind λv2=>
 (D7 v2 a1).bind λv3=>
 some v3
def a7b(a0:b9)(a1:Int)(a2:Int):Option (b9 × Int):=
 if ((decide (a1<0))||(decide (a1≥(a0.Roots.length:Int)))) then
  some (a0,6)
 else
 (F4 a0 a2).bind λv1=>
 if (!v1) then
  some (a0,3)
 else
 (ix a0.Roots a1).bind λv2=>
 (H2 a0 v2 a2 (⟨a1,a2⟩:F8)).bind λv3=>
 some (v3,0)
def z8(a0:o8)(a1:Int)(a2:Int):Option (b9 × Int):=
 if (a2 != 0) then
  some (a0.x,a2)
 else
 (a7b a0.x a0.o.A a1).bind λv1=>
 some (v1.1,v1.2)
def N8(a0:o8):Option (b9 × Int):=
 (N5 a0.x.S a0.o.B a0.o.C).bind λv1=>
 if (v1.2.2 != 0) then
  some (a0.x,v1.2.2)
 else
 (z8 (⟨⟨v1.1,a0.x.Roots,a0.x.a7,a0.x.T,a0.x.Q⟩,a0.o⟩:o8) v1.2.1 0).bind λv2=>
 some (v2.1,v2.2)
def I3(a0:b9)(a1:Int):Option Int:=
 if ((decide (a1<0))||(decide (a1≥(a0.Roots.length:Int)))) then
  some 0
 else
 (ix a0.Roots a1).bind λv1=>
 some v1
def G0(a0:o8):Option (b9 × Int):=
 (I3 a0.x a0.o.B).bind λv1=>
 (z8 a0 v1 0).bind λv2=>
 some (v2.1,v2.2)
def U6(a0:o8):Option (b9 × Int):=
 (z8 a0 0 0).bind λv1=>
 some (v1.1,v1.2)
def I7(a0:b9)(a1:Int):Option (Int × Int):=
 (I3 a0 a1).bind λv1=>
 if (v1==0) then
  some (0,2)
 else
 some (v1,0)
def a5K(a0:List Int)(a1:Int):Option Bool:=
 some ((decide (a1≥0))&&(decide (a1<(a0.length:Int))))
def b0W(a0:List Int)(a1:Int):Option (Int × Int):=
 (a5K a0 a1).bind λv1=>
 if (!v1) then
  some (0,5)
 else
 (ix a0 a1).bind λv2=>
 some (v2,0)
def X0(a0:a8)(a1:Int)(a2:Int):Option (Int × Int):=
 (u5 a0 a1).bind λv1=>
 if (v1.2 != 0) then
  some (0,v1.2)
 else
 (b0W v1.1.Fields a2).bind λv2=>
 some (v2.1,v2.2)
def U7(a0:o8):Option (b9 × Int):=
 (I7 a0.x a0.o.B).bind λv1=>
 if (v1.2 != 0) then
  some (a0.x,v1.2)
 else
 (X0 a0.x.S v1.1 a0.o.C).bind λv2=>
 (z8 a0 v2.1 v2.2).bind λv3=>
 some (v3.1,v3.2)
def b3y(a0:List Int)(a1:Int)(a2:Int):Option ((List Int) × Int):=
 (a5K a0 a1).bind λv1=>
 if (!v1) then
  some (a0,5)
 else
 (mk 8 (a0.length:Int) (0:Int)).bind λv2=>
 (cpy v2 a0).bind λv3=>
 (ix v3 a1).bind λv4=>
 some ((v3.set (a1).toNat a2),0)
def a7r(a0:a8)(a1:Int)(a2:Int)(a3:Int):Option (a8 × Int):=
 (u5 a0 a1).bind λv1=>
 if (v1.2 != 0) then
  some (a0,v1.2)
 else
 (b3y v1.1.Fields a2 a3).bind λv2=>
 if (v2.2 != 0) then
  some (a0,v2.2)
 else
 (I0 a0 a1 (⟨v1.1.Serial,v1.1.Strong,v1.1.Weak,v1.1.Prog,v1.1.Started,v2.1⟩:l4)).bind λv3=>
 some (v3.1,v3.2)
def Z3(a0:E5)(a1:b9):Option b9:=
 (a7r a1.S a0.h a0.k a0.v).bind λv1=>
 some (⟨v1.1,a1.Roots,a1.a7,a1.T,a1.Q⟩:b9)
def F9(a0:b9)(a1:Int)(a2:Int)(a3:E5):Option b9:=
 (V5 a0 a2).bind λv1=>
 (Z3 a3 v1).bind λv2=>
 (D7 v2 a1).bind λv3=>
 some v3
def a1o(a0:b9)(a1:Int)(a2:Int)(a3:Int):Option (b9 × Int):=
 (X0 a0.S a1 a2).bind λv1=>
 if (v1.2 != 0) then
  some (a0,v1.2)
 else
 (F4 a0 a3).bind λv2=>
 if (!v2) then
  some (a0,3)
 else
 (F9 a0 v1.1 a3 (⟨a1,a2,a3⟩:E5)).bind λv3=>
 some (v3,0)
def Q9(a0:o8):Option (b9 × Int):=
 (I7 a0.x a0.o.A).bind λv1=>
 if (v1.2 != 0) then
  some (a0.x,v1.2)
 else
 (I3 a0.x a0.o.C).bind λv2=>
 (a1o a0.x v1.1 a0.o.B v2).bind λv3=>
 some (v3.1,v3.2)
def a7s(a0:g9)(a1:Int):Option (g9 × Int):=
 some (a0,a1)
def a3p(a0:g9)(a1:Int):Option Bool:=
 jn (λ(_:Unit)=>
  some false) (λκ6=>
  (a7s a0 2).bind λv8=>
  (lp (S:=Int) (E:=Bool ⊕ Unit) (λ(s10:Int)=>
   if (decide (s10<(v8.1.L.length:Int))) then
    (ix v8.1.L s10).bind λv12=>
    if ((v12.Kind==v8.2)==true) then
     if (v12.At==a1) then
      some (.inr (.inl true))
     else
     some (.inl (w7 (s10+1)))
    else
    some (.inl (w7 (s10+1)))
   else
   some (.inr (.inr ()))) 0).bind λe9=>
  match e9 with
  | .inl w=>some w
  | .inr w=>κ6 w)
def a4T(a0:List c9)(a1:Int):Option Bool:=
 some ((decide (a1≥0))&&(decide (a1<(a0.length:Int))))
def X5(a0:List c9):Option (List c9):=
 (mk 24 (a0.length:Int) (⟨0,false,0⟩:c9)).bind λv1=>
 (cpy v1 a0).bind λv2=>
 some v2
def a92(a0:List c9)(a1:Int)(a2:Int)(a3:Int):Option ((List c9) × Int × Int):=
 (a4T a0 a1).bind λv1=>
 if (!v1) then
  some (a0,0,7)
 else
 (X5 a0).bind λv2=>
 (ix v2 a1).bind λv3=>
 (ix a0 a1).bind λv4=>
 some ((v2.set (a1).toNat (⟨a2,(a2 != 0),a3⟩:c9)),v4.Target,0)
def a0z(a0:b9)(a1:Int)(a2:Int):Option b9:=
 (p8 a0.S.S a1).bind λv1=>
 if (v1.2==0) then
  (ix a0.S.S.a7 v1.1).bind λv2=>
  (I0 a0.S a1 (⟨v2.Val.Serial,v2.Val.Strong,w7 (v2.Val.Weak+a2),v2.Val.Prog,v2.Val.Started,v2.Val.Fields⟩:l4)).bind λv3=>
  some (⟨v3.1,a0.Roots,a0.a7,a0.T,a0.Q⟩:b9)
 else
 some a0
def K6(a0:g6)(a1:Int):Option (g6 × Int):=
 (p8 a0 a1).bind λv1=>
 if (v1.2 != 0) then
  some (a0,v1.2)
 else
 (ix a0.a7 v1.1).bind λv2=>
 if (v2.Gen==a0.Last) then
  (B1 a0 v1.1 (⟨3,v2.Gen,⟨0,0,0,0,false,[]⟩⟩:b8)).bind λv3=>
  some (v3,0)
 else
 (B1 a0 v1.1 (⟨0,w7 (v2.Gen+1),⟨0,0,0,0,false,[]⟩⟩:b8)).bind λv4=>
 some (v4,0)
def a1N(a0:b9)(a1:Int):Option b9:=
 (a0z a0 a1 (-1)).bind λv1=>
 (p8 v1.S.S a1).bind λv2=>
 if (v2.2 != 0) then
  some v1
 else
 (ix v1.S.S.a7 v2.1).bind λv3=>
 if ((v3.State==2)&&(v3.Val.Weak==0)) then
  (K6 v1.S.S a1).bind λv4=>
  some (⟨⟨v4.1,v1.S.Serial⟩,v1.Roots,v1.a7,v1.T,v1.Q⟩:b9)
 else
 some v1
def Y0(a0:b9)(a1:Int)(a2:Int)(a3:Int):Option (b9 × Int):=
 (p7 (((decide (a1<0))||(decide (a1≥(a0.a7.length:Int))))==false) false (a3p a0.Q a1)).bind λv1=>
 if (((decide (a1<0))||(decide (a1≥(a0.a7.length:Int))))||v1) then
  some (a0,7)
 else
 (F4 a0 a2).bind λv2=>
 if (!v2) then
  some (a0,3)
 else
 (a92 a0.a7 a1 a2 a3).bind λv3=>
 (a0z (⟨a0.S,a0.Roots,v3.1,a0.T,a0.Q⟩:b9) a2 1).bind λv4=>
 (a1N v4 v3.2.1).bind λv5=>
 some (v5,0)
def N9(a0:o8):Option (b9 × Int):=
 if (a0.o.B==(-1)) then
  (Y0 a0.x a0.o.A 0 a0.o.C).bind λv1=>
  some (v1.1,v1.2)
 else
 (I7 a0.x a0.o.B).bind λv2=>
 if (v2.2 != 0) then
  some (a0.x,v2.2)
 else
 (Y0 a0.x a0.o.A v2.1 a0.o.C).bind λv3=>
 some (v3.1,v3.2)
def a4S(a0:List c9)(a1:Int):Option (Int × Int):=
 (a4T a0 a1).bind λv1=>
 if (!v1) then
  some (0,7)
 else
 (ix a0 a1).bind λv2=>
 if ((v2.Target==0)||(!v2.Intact)) then
  some (0,9)
 else
 some (v2.Target,0)
def R9(a0:o8):Option (b9 × Int):=
 (a4S a0.x.a7 a0.o.B).bind λv1=>
 (z8 a0 v1.1 v1.2).bind λv2=>
 some (v2.1,v2.2)
def a2J(a0:Int)(a1:Int):Option (Int × Int):=
 some (a0,a1)
def X9(a0:Int)(a1:Int):Option Int:=
 if (decide (a0<1)) then
  some 0
 else
 (rem (w7 ((w7 (5*a1))+1)) a0).bind λv1=>
 if (decide (v1<0)) then
  some (w7 (v1+a0))
 else
 some v1
def J3(a0:List c5)(a1:Int):Option Int:=
 jn (λ(_:Unit)=>
  some (-1)) (λκ8=>
  (a2J (a0.length:Int) a1).bind λv10=>
  (lp (S:=Int) (E:=Int ⊕ Unit) (λ(s12:Int)=>
   if (decide (s12<v10.1)) then
    (X9 v10.1 v10.2).bind λv14=>
    (rem (w7 (v14+s12)) v10.1).bind λv15=>
    (ix a0 v15).bind λv16=>
    if (v16.State==0) then
     some (.inr (.inr ()))
    else
    if ((v16.State==1)&&(v16.Key==a1)) then
     some (.inr (.inl v15))
    else
    some (.inl (w7 (s12+1)))
   else
   some (.inr (.inr ()))) 0).bind λe11=>
  match e11 with
  | .inl w=>some w
  | .inr w=>κ8 w)
def I6(a0:List c5)(a1:Int):Option (Int × Int):=
 (J3 a0 a1).bind λv1=>
 if (decide (v1<0)) then
  some (0,9)
 else
 (ix a0 v1).bind λv2=>
 some (v2.Val,0)
def C2(a0:List c5):Option (List c5):=
 app 24 [] a0
def a0y(a0:List c5)(a1:Int)(a2:c5):Option (List c5):=
 (C2 a0).bind λv1=>
 (ix v1 a1).bind λv2=>
 some (v1.set (a1).toNat a2)
def T2(a0:List c5)(a1:Int):Option ((List c5) × Int × Int):=
 (J3 a0 a1).bind λv1=>
 if (decide (v1<0)) then
  some (a0,0,9)
 else
 (a0y a0 v1 (⟨2,0,0⟩:c5)).bind λv2=>
 (ix a0 v1).bind λv3=>
 some (v2,v3.Val,0)
def a6n(a0:List c5)(a1:Int)(a2:Int):Option ((List c5) × Int):=
 (J3 a0 a1).bind λv1=>
 if (decide (v1≥0)) then
  (a0y a0 v1 (⟨1,a1,a2⟩:c5)).bind λv2=>
  some (v2,0)
 else
 jn (λ(_:Unit)=>
  some (a0,8)) (λκ11=>
  (a2J (a0.length:Int) a1).bind λv13=>
  (lp (S:=Int) (E:=((List c5) × Int) ⊕ Unit) (λ(s15:Int)=>
   if (decide (s15<v13.1)) then
    (X9 v13.1 v13.2).bind λv17=>
    (rem (w7 (v17+s15)) v13.1).bind λv18=>
    (ix a0 v18).bind λv19=>
    if (v19.State != 1) then
     (a0y a0 v18 (⟨1,a1,a2⟩:c5)).bind λv20=>
     some (.inr (.inl (v20,0)))
    else
    some (.inl (w7 (s15+1)))
   else
   some (.inr (.inr ()))) 0).bind λe14=>
  match e14 with
  | .inl w=>some w
  | .inr w=>κ11 w)
def T0(a0:List c5)(a1:Int)(a2:Int):Option ((List c5) × Int × Int):=
 if (a1==0) then
  some (a0,0,2)
 else
 (I6 a0 a1).bind λv1=>
 if (a2==0) then
  (T2 a0 a1).bind λv2=>
  some (v2.1,v1.1,0)
 else
 (a6n a0 a1 a2).bind λv3=>
 if (v3.2 != 0) then
  some (a0,0,v3.2)
 else
 some (v3.1,v1.1,0)
def Q7(a0:F7)(a1:b9):Option b9:=
 some (⟨a1.S,a1.Roots,a1.a7,a0.t,a1.Q⟩:b9)
def H0(a0:b9)(a1:Int)(a2:Int)(a3:F7):Option b9:=
 (V5 a0 a2).bind λv1=>
 (Q7 a3 v1).bind λv2=>
 (D7 v2 a1).bind λv3=>
 some v3
def a2K(a0:b9)(a1:Int)(a2:Int):Option (b9 × Int):=
 if (a1==0) then
  some (a0,2)
 else
 (F4 a0 a1).bind λv1=>
 (p7 ((!v1)==false) false (F4 a0 a2)).bind λv2=>
 if ((!v1)||(!v2)) then
  some (a0,3)
 else
 (T0 a0.T a1 a2).bind λv3=>
 if (v3.2.2 != 0) then
  some (a0,v3.2.2)
 else
 (H0 a0 v3.2.1 a2 (⟨v3.1⟩:F7)).bind λv4=>
 some (v4,0)
def U8(a0:o8):Option (b9 × Int):=
 (I7 a0.x a0.o.A).bind λv1=>
 if (v1.2 != 0) then
  some (a0.x,v1.2)
 else
 (I3 a0.x a0.o.B).bind λv2=>
 (a2K a0.x v1.1 v2).bind λv3=>
 some (v3.1,v3.2)
def b0c(a0:List c5)(a1:Int):Option (Int × Int):=
 (I6 a0 a1).bind λv1=>
 some (v1.1,v1.2)
def Y2(a0:o8):Option (b9 × Int):=
 (I7 a0.x a0.o.B).bind λv1=>
 if (v1.2 != 0) then
  some (a0.x,v1.2)
 else
 (b0c a0.x.T v1.1).bind λv2=>
 (z8 a0 v2.1 v2.2).bind λv3=>
 some (v3.1,v3.2)
def M1(a0:o8):Option (b9 × Int):=
 some (a0.x,0)
def b1H(f:Fv)(a0:o8):Option (b9 × Int):=
 if f=some 96 then N8 a0 else
 if f=some 97 then G0 a0 else
 if f=some 98 then U6 a0 else
 if f=some 99 then U7 a0 else
 if f=some 100 then Q9 a0 else
 if f=some 101 then N9 a0 else
 if f=some 102 then R9 a0 else
 if f=some 103 then U8 a0 else
 if f=some 104 then Y2 a0 else
 if f=some 105 then M1 a0 else
 none
def Z9(a0:Int):Option Bool:=
 some (a0 != a0)
def a2h(a0:Int)(a1:Int):Option Int:=
 (Z9 a0).bind λv1=>
 (Z9 a1).bind λv2=>
 if v1 then
  if v2 then
   some 0
  else
  some (-1)
 else
 if v2 then
  some 1
 else
 if (decide (a0<a1)) then
  some (-1)
 else
 if (decide (a0 > a1)) then
  some 1
 else
 some 0
def a2G(a0:Int)(a1:Int)(a2:List (Int × Int)):Option Int:=
 (a2h ((z7 a2 a0).getD (0:Int)) ((z7 a2 a1).getD (0:Int))).bind λv1=>
 some v1
def E2(a0:a8):Option (List Int):=
 jn (λ((j18,j19):(List (Int × Int)) × (List Int))=>
  (b0T (λp q=>a2G p q j18) j19).bind λv21=>
  some v21) (λκ17=>
  (lp (S:=Int × (List (Int × Int)) × (List Int)) (E:=((List (Int × Int)) × (List Int))) (λ((s23,s24,s25):Int × (List (Int × Int)) × (List Int))=>
   if (decide (s23<(a0.S.a7.length:Int))) then
    jn (λ((j32,j33):(List (Int × Int)) × (List Int))=>
     some (.inl (w7 (s23+1),j32,j33))) (λκ31=>
     (ix a0.S.a7 s23).bind λv35=>
     if (v35.State==1) then
      (V4 s23 v35.Gen).bind λv36=>
      (app 8 s25 [v36]).bind λv37=>
      κ31 ((o0 s24 v36 v35.Val.Serial),v37)
     else
     κ31 (s24,s25))
   else
   some (.inr (s24,s25))) (0,[],[])).bind λe22=>
  κ17 e22)
def a0F(a0:b9):Option (List Int):=
 jn (λ(j16:List Int)=>
  some j16) (λκ15=>
  (E2 a0.S).bind λv17=>
  (lp (S:=Int × (List Int)) (E:=(List Int)) (λ((s19,s20):Int × (List Int))=>
   if (decide (s19<(v17.length:Int))) then
    jn (λ(j27:List Int)=>
     some (.inl (w7 (s19+1),j27))) (λκ26=>
     (ix v17 s19).bind λv28=>
     (u5 a0.S v28).bind λv29=>
     if (v29.1.Strong==0) then
      (app 8 s20 [v28]).bind λv30=>
      κ26 v30
     else
     κ26 s20)
   else
   some (.inr s20)) (0,[])).bind λe18=>
  κ15 e18)
def I8(a0:l4):Option Bool:=
 some ((decide (a0.Prog≥0))&&(!a0.Started))
def O0(a0:g9):Option Int:=
 some (a0.L.length:Int)
def M6(a0:List j2)(a1:Int)(a2:Int):Option (List j2):=
 (cut a0 a1 a2).bind λv1=>
 some v1
def M5(a0:g9)(a1:j2):Option (g9 × Int):=
 (O0 a0).bind λv1=>
 if (decide (v1≥a0.Cap)) then
  some (a0,4)
 else
 (M6 a0.L 0 v1).bind λv2=>
 (app 24 v2 [a1]).bind λv3=>
 some ((⟨v3,a0.Cap⟩:g9),0)
def a6Y(a0:g9)(a1:j2):Option (g9 × Int):=
 (M5 a0 a1).bind λv1=>
 some (v1.1,v1.2)
def T6(a0:b9)(a1:Int):Option b9:=
 (u5 a0.S a1).bind λv1=>
 (p7 ((v1.2 != 0)==false) false (I8 v1.1)).bind λv2=>
 if ((v1.2 != 0)||(!v2)) then
  some a0
 else
 (I0 a0.S a1 (⟨v1.1.Serial,v1.1.Strong,v1.1.Weak,v1.1.Prog,true,v1.1.Fields⟩:l4)).bind λv3=>
 (a6Y a0.Q (⟨1,a1,v1.1.Prog⟩:j2)).bind λv4=>
 (V5 (⟨v3.1,a0.Roots,a0.a7,a0.T,v4.1⟩:b9) a1).bind λv5=>
 some v5
def P3(a0:b9)(a1:List Int):Option (List Int):=
 jn (λ(j18:List Int)=>
  some j18) (λκ17=>
  (lp (S:=Int × (List (Int × Bool)) × (List Int)) (E:=(List Int)) (λ((s20,s21,s22):Int × (List (Int × Bool)) × (List Int))=>
   if (decide (s20<(a1.length:Int))) then
    jn (λ((j29,j30):(List Int) × (List (Int × Bool)))=>
     some (.inl (w7 (s20+1),j30,j29))) (λκ28=>
     (ix a1 s20).bind λv32=>
     (u5 a0.S v32).bind λv33=>
     if ((v33.2==0)==true) then
      if (!((z7 s21 v32).getD (false:Bool))) then
       (app 8 s22 [v32]).bind λv34=>
       κ28 (v34,(o0 s21 v32 true))
      else
      κ28 (s22,s21)
     else
     κ28 (s22,s21))
   else
   some (.inr s22)) (0,[],[])).bind λe19=>
  κ17 e19)
def M8(a0:List Int)(a1:Int):Option Int:=
 jn (λ(_:Unit)=>
  some (-1)) (λκ5=>
  (lp (S:=Int) (E:=Int ⊕ Unit) (λ(s8:Int)=>
   if (decide (s8<(a0.length:Int))) then
    (ix a0 s8).bind λv10=>
    if (a1==v10) then
     some (.inr (.inl s8))
    else
    some (.inl (w7 (s8+1)))
   else
   some (.inr (.inr ()))) 0).bind λe7=>
  match e7 with
  | .inl w=>some w
  | .inr w=>κ5 w)
def J6(a0:List Int)(a1:Int):Option Bool:=
 (M8 a0 a1).bind λv1=>
 some (decide (v1≥0))
def Y7(a0:c9)(a1:List Int):Option Bool:=
 (p7 ((a0.Intact&&(a0.Target != 0))==true) false (J6 a1 a0.Target)).bind λv1=>
 some ((a0.Intact&&(a0.Target != 0))&&v1)
def H4(a0:List c9)(a1:List Int):Option (List Int):=
 jn (λ(j15:List Int)=>
  some j15) (λκ14=>
  (lp (S:=Int × (List Int)) (E:=(List Int)) (λ((s17,s18):Int × (List Int))=>
   if (decide (s17<(a0.length:Int))) then
    jn (λ(j25:List Int)=>
     some (.inl (w7 (s17+1),j25))) (λκ24=>
     (ix a0 s17).bind λv26=>
     (Y7 v26 a1).bind λv27=>
     if v27 then
      (app 8 s18 [s17]).bind λv28=>
      κ24 v28
     else
     κ24 s18)
   else
   some (.inr s18)) (0,[])).bind λe16=>
  κ14 e16)
def a3r(a0:List c9)(a1:List Int):Option ((List c9) × (List Int)):=
 (H4 a0 a1).bind λv1=>
 (X5 a0).bind λv2=>
 jn (λ((j22,j23):(List Int) × (List c9))=>
  some (j23,j22)) (λκ21=>
  (lp (S:=Int × (List c9) × (List Int)) (E:=((List Int) × (List c9))) (λ((s26,s27,s28):Int × (List c9) × (List Int))=>
   if (decide (s26<(v1.length:Int))) then
    jn (λ((j36,j37):(List Int) × (List c9))=>
     some (.inl (w7 (s26+1),j37,j36))) (λκ35=>
     (ix v1 s26).bind λv39=>
     (ix s27 v39).bind λv40=>
     (ix (s27.set (v39).toNat (⟨v40.Target,false,v40.Call⟩:c9)) v39).bind λv41=>
     if (decide (v41.Call≥0)) then
      (app 8 s28 [v39]).bind λv42=>
      κ35 (v42,(s27.set (v39).toNat (⟨v40.Target,false,v40.Call⟩:c9)))
     else
     κ35 (s28,(s27.set (v39).toNat (⟨v40.Target,false,v40.Call⟩:c9))))
   else
   some (.inr (s28,s27))) (0,v2,[])).bind λe25=>
  κ21 e25)
def a08(a0:b9)(a1:List Int):Option b9:=
 (a3r a0.a7 a1).bind λv1=>
 jn (λ(j11:g9)=>
  some (⟨a0.S,a0.Roots,v1.1,a0.T,j11⟩:b9)) (λκ10=>
  (lp (S:=Int × g9) (E:=g9) (λ((s13,s14):Int × g9)=>
   if (decide (s13<(v1.2.length:Int))) then
    (ix v1.2 s13).bind λv17=>
    (ix v1.1 v17).bind λv18=>
    (a6Y s14 (⟨2,v17,v18.Call⟩:j2)).bind λv19=>
    some (.inl (w7 (s13+1),v19.1))
   else
   some (.inr s14)) (0,a0.Q)).bind λe12=>
  κ10 e12)
def a2Q(a0:List Int):Option (List Int):=
 some a0
def a2P(a0:List Int):Option (List Int):=
 jn (λ(j10:List Int)=>
  some j10) (λκ9=>
  (a2Q a0).bind λv11=>
  (lp (S:=Int × (List Int)) (E:=(List Int)) (λ((s13,s14):Int × (List Int))=>
   if (decide (s13<(v11.length:Int))) then
    (ix v11 s13).bind λv17=>
    if ((v17 != 0)==true) then
     (app 8 s14 [v17]).bind λv18=>
     some (.inl (w7 (s13+1),v18))
    else
    some (.inl (w7 (s13+1),s14))
   else
   some (.inr s14)) (0,[])).bind λe12=>
  κ9 e12)
def T1(a0:List c5)(a1:List Int):Option ((List c5) × (List Int)):=
 jn (λ((j18,j19):(List c5) × (List Int))=>
  some (j18,j19)) (λκ17=>
  (lp (S:=(List c5) × Int × (List Int)) (E:=((List c5) × (List Int))) (λ((s22,s23,s24):(List c5) × Int × (List Int))=>
   if (decide (s23<(a1.length:Int))) then
    jn (λ((j31,j32):(List c5) × (List Int))=>
     some (.inl (j31,w7 (s23+1),j32))) (λκ30=>
     (ix a1 s23).bind λv34=>
     (T2 s22 v34).bind λv35=>
     if (v35.2.2==0) then
      (app 8 s24 [v35.2.1]).bind λv36=>
      κ30 (v35.1,v36)
     else
     κ30 (s22,s24))
   else
   some (.inr (s22,s24))) (a0,0,[])).bind λe21=>
  κ17 e21)
def O1(a0:g6)(a1:Int):Option (g6 × Int):=
 (C1 a0 a1).bind λv1=>
 if (v1.2 != 0) then
  some (a0,v1.2)
 else
 (a1X a1).bind λv2=>
 (a2X a1).bind λv3=>
 (B1 a0 v2 (⟨2,v3,v1.1⟩:b8)).bind λv4=>
 some (v4,0)
def T7(a0:b9)(a1:Int):Option b9:=
 (u5 a0.S a1).bind λv1=>
 (I0 a0.S a1 (⟨v1.1.Serial,0,v1.1.Weak,v1.1.Prog,v1.1.Started,[]⟩:l4)).bind λv2=>
 (O1 v2.1.S a1).bind λv3=>
 if (v1.1.Weak==0) then
  (K6 v3.1 a1).bind λv4=>
  some (⟨⟨v4.1,v2.1.Serial⟩,a0.Roots,a0.a7,a0.T,a0.Q⟩:b9)
 else
 some (⟨⟨v3.1,v2.1.Serial⟩,a0.Roots,a0.a7,a0.T,a0.Q⟩:b9)
def a0E(a0:b9)(a1:List Int):Option b9:=
 (P3 a0 a1).bind λv1=>
 (a08 a0 v1).bind λv2=>
 jn (λ(j13:List Int)=>
  (T1 v2.T v1).bind λv14=>
  (app 8 j13 v14.2).bind λv15=>
  jn (λ(j24:b9)=>
   jn (λ(j33:b9)=>
    some j33) (λκ32=>
    (lp (S:=Int × b9) (E:=b9) (λ((s35,s36):Int × b9)=>
     if (decide (s35<(v15.length:Int))) then
      (ix v15 s35).bind λv39=>
      (D7 s36 v39).bind λv40=>
      some (.inl (w7 (s35+1),v40))
     else
     some (.inr s36)) (0,j24)).bind λe34=>
    κ32 e34)) (λκ23=>
   (lp (S:=Int × b9) (E:=b9) (λ((s42,s43):Int × b9)=>
    if (decide (s42<(v1.length:Int))) then
     (ix v1 s42).bind λv46=>
     (T7 s43 v46).bind λv47=>
     some (.inl (w7 (s42+1),v47))
    else
    some (.inr s43)) (0,(⟨v2.S,v2.Roots,v2.a7,v14.1,v2.Q⟩:b9))).bind λe41=>
   κ23 e41)) (λκ12=>
  (lp (S:=Int × (List Int)) (E:=(List Int)) (λ((s49,s50):Int × (List Int))=>
   if (decide (s49<(v1.length:Int))) then
    (ix v1 s49).bind λv53=>
    (u5 v2.S v53).bind λv54=>
    (a2P v54.1.Fields).bind λv55=>
    (app 8 s50 v55).bind λv56=>
    some (.inl (w7 (s49+1),v56))
   else
   some (.inr s50)) (0,[])).bind λe48=>
  κ12 e48)
def a0g(a0:b9):Option b9:=
 (lp (S:=b9) (E:=b9) (λ(s2:b9)=>
  (a0F s2).bind λv4=>
  if ((v4.length:Int)==0) then
   some (.inr s2)
  else
  (ix v4 0).bind λv5=>
  (u5 s2.S v5).bind λv6=>
  (I8 v6.1).bind λv7=>
  if v7 then
   (T6 s2 v5).bind λv8=>
   some (.inl v8)
  else
  (cut v4 0 1).bind λv9=>
  (a0E s2 v9).bind λv10=>
  some (.inl v10)) a0).bind λe1=>
 some e1
def a0Y(a0:b9)(a1:Int):Option Int:=
 (u5 a0.S a1).bind λv1=>
 some v1.1.Serial
def V9(a0:b9)(a1:Int):Option Int:=
 (I3 a0 a1).bind λv1=>
 (a0Y a0 v1).bind λv2=>
 some v2
def O9(a0:b9)(a1:b9)(a2:code_Op):Option Int:=
 if (a2.Kind==5) then
  (V9 a0 a2.C).bind λv1=>
  some v1
 else
 jn (λ(j3:Bool)=>
  if j3 then
   (V9 a0 a2.B).bind λv4=>
   some v4
  else
  if (a2.Kind==10) then
   (I3 a0 a2.A).bind λv5=>
   (I3 a0 a2.B).bind λv6=>
   if (v5==v6) then
    some 1
   else
   some 0
  else
  (V9 a1 a2.A).bind λv7=>
  some v7) (λκ2=>
  if (a2.Kind==6) then
   κ2 (a2.Kind==6)
  else
  κ2 (a2.Kind==8))
def p9(a0:b9)(a1:code_Op):Option (b9 × Int × Int):=
 (a2T a1).bind λv1=>
 if (v1 != 0) then
  some (a0,0,v1)
 else
 (a1R).bind λv2=>
 if (!((z7 v2 a1.Kind).isSome)) then
  some (a0,0,14)
 else
 (b1H ((z7 v2 a1.Kind).getD (none:Fv)) (⟨a0,a1⟩:o8)).bind λv3=>
 if (v3.2 != 0) then
  some (a0,0,v3.2)
 else
 (a0g v3.1).bind λv5=>
 (O9 v3.1 v5 a1).bind λv6=>
 some (v5,v6,0)
def a0A(a0:b9)(a1:List code_Op):Option (b9 × (List Int)):=
 jn (λ((j11,j12):b9 × (List Int))=>
  some (j11,j12)) (λκ10=>
  (lp (S:=Int × b9 × (List Int)) (E:=(b9 × (List Int))) (λ((s15,s16,s17):Int × b9 × (List Int))=>
   if (decide (s15<(a1.length:Int))) then
    (ix a1 s15).bind λv20=>
    (p9 s16 v20).bind λv21=>
    (app 8 s17 [v21.2.1]).bind λv22=>
    some (.inl (w7 (s15+1),v21.1,v22))
   else
   some (.inr (s16,s17))) (0,a0,[])).bind λe14=>
  κ10 e14)
def a3V:Option (List A8):=
 some [(⟨(some 292)⟩:A8),(⟨(some 293)⟩:A8),(⟨(some 294)⟩:A8),(⟨(some 295)⟩:A8)]
def S9(a0:a8)(a1:b8):Option Bool:=
 some ((decide (a1.State≥0))&&(decide (a1.State≤3)))
def J0(a0:a8)(a1:b8):Option Bool:=
 some ((decide (a1.Gen≥0))&&(decide (a1.Gen≤a0.S.Last)))
def G4(a0:b8):Option Bool:=
 some ((a0.State==1)||(a0.State==2))
def P4(a0:a8)(a1:b8):Option Bool:=
 (G4 a1).bind λv1=>
 (p7 (((!v1)==false)&&(((((decide (a1.Val.Serial≥1))&&(decide (a1.Val.Serial≤a0.Serial)))&&(decide (a1.Val.Strong≥0)))&&(decide (a1.Val.Weak≥0)))==true)) false (G5 a1.Val.Prog)).bind λv2=>
 some ((!v1)||((((((decide (a1.Val.Serial≥1))&&(decide (a1.Val.Serial≤a0.Serial)))&&(decide (a1.Val.Strong≥0)))&&(decide (a1.Val.Weak≥0)))&&v2)&&(decide ((a1.Val.Fields.length:Int)≤4))))
def K8(a0:a8)(a1:b8):Option Bool:=
 (G4 a1).bind λv1=>
 some (v1||((((a1.Val.Serial==0)&&((a1.Val.Strong==0)&&((a1.Val.Weak==0)&&((a1.Val.Prog==0)&&true))))&&(!a1.Val.Started))&&((a1.Val.Fields.length:Int)==0)))
def b1I(f:Fv)(a0:a8)(a1:b8):Option Bool:=
 if f=some 292 then S9 a0 a1 else
 if f=some 293 then J0 a0 a1 else
 if f=some 294 then P4 a0 a1 else
 if f=some 295 then K8 a0 a1 else
 none
def O2(a0:a8):Option Bool:=
 jn (λ(_:Unit)=>
  some true) (λκ12=>
  (lp (S:=Int × (List (Int × Bool))) (E:=Bool ⊕ Unit) (λ((s15,s16):Int × (List (Int × Bool)))=>
   if (decide (s15<(a0.S.a7.length:Int))) then
    jn (λ(j22:List (Int × Bool))=>
     some (.inl (w7 (s15+1),j22))) (λκ21=>
     (ix a0.S.a7 s15).bind λv23=>
     (G4 v23).bind λv24=>
     if (!v24) then
      κ21 s16
     else
     if ((z7 s16 v23.Val.Serial).getD (false:Bool)) then
      some (.inr (.inl false))
     else
     κ21 (o0 s16 v23.Val.Serial true))
   else
   some (.inr (.inr ()))) (0,[])).bind λe14=>
  match e14 with
  | .inl w=>some w
  | .inr w=>κ12 w)
def a2c(a0:a8):Option Bool:=
 if ((((decide ((a0.S.a7.length:Int) > 24))||(decide (a0.S.Last<0)))||(decide (a0.S.Last > 9)))||(decide (a0.Serial<0))) then
  some false
 else
 jn (λ(_:Unit)=>
  (O2 a0).bind λv24=>
  some v24) (λκ22=>
  (lp (S:=Int) (E:=Bool ⊕ Unit) (λ(s26:Int)=>
   if (decide (s26<(a0.S.a7.length:Int))) then
    jn (λ(_:Unit)=>
     some (.inl (w7 (s26+1)))) (λκ36=>
     (ix a0.S.a7 s26).bind λv38=>
     (a3V).bind λv39=>
     (lp (S:=Int) (E:=Bool ⊕ Unit) (λ(s41:Int)=>
      if (decide (s41<(v39.length:Int))) then
       (ix v39 s41).bind λv43=>
       (b1I v43.kept a0 v38).bind λv44=>
       if (!v44) then
        some (.inr (.inl false))
       else
       some (.inl (w7 (s41+1)))
      else
      some (.inr (.inr ()))) 0).bind λe40=>
     match e40 with
     | .inl w=>some (.inr (.inl w))
     | .inr w=>κ36 w)
   else
   some (.inr (.inr ()))) 0).bind λe25=>
  match e25 with
  | .inl w=>some w
  | .inr w=>κ22 w)
def a5b(a0:List c5):Option Bool:=
 if ((decide ((a0.length:Int)<1))||(decide ((a0.length:Int) > 8))) then
  some false
 else
 jn (λ(_:Unit)=>
  some true) (λκ6=>
  (lp (S:=Int) (E:=Bool ⊕ Unit) (λ(s9:Int)=>
   if (decide (s9<(a0.length:Int))) then
    (ix a0 s9).bind λv11=>
    (p7 (((!(((v11.State==0)&&((v11.Key==0)&&((v11.Val==0)&&true)))||((v11.State==2)&&((v11.Key==0)&&((v11.Val==0)&&true)))))==true)&&((v11.State != 1)==false)) 0 (J3 a0 v11.Key)).bind λv12=>
    if ((!(((v11.State==0)&&((v11.Key==0)&&((v11.Val==0)&&true)))||((v11.State==2)&&((v11.Key==0)&&((v11.Val==0)&&true)))))&&((v11.State != 1)||(v12 != s9))) then
     some (.inr (.inl false))
    else
    some (.inl (w7 (s9+1)))
   else
   some (.inr (.inr ()))) 0).bind λe8=>
  match e8 with
  | .inl w=>some w
  | .inr w=>κ6 w)
def a0U(a0:b9):Option Bool:=
 (a9R).bind λv1=>
 (a2c a0.S).bind λv2=>
 (p7 (v2==true) false (a5b a0.T)).bind λv3=>
 some (((((v2&&v3)&&((a0.Roots.length:Int)==6))&&((a0.a7.length:Int)==6))&&(a0.Q.Cap==v1.Cap))&&(decide ((a0.Q.L.length:Int)≤v1.Cap)))
def a1p(a0:Int)(a1:b9):Option Bool:=
 (F4 a1 a0).bind λv1=>
 some v1
def D8(a0:List Int)(a1:b9):Option Bool:=
 jn (λ(_:Unit)=>
  some true) (λκ6=>
  (lp (S:=Int) (E:=Bool ⊕ Unit) (λ(s9:Int)=>
   if (decide (s9<(a0.length:Int))) then
    (ix a0 s9).bind λv11=>
    (a1p v11 a1).bind λv12=>
    if (!v12) then
     some (.inr (.inl false))
    else
    some (.inl (w7 (s9+1)))
   else
   some (.inr (.inr ()))) 0).bind λe8=>
  match e8 with
  | .inl w=>some w
  | .inr w=>κ6 w)
def V8(a0:b9):Option Bool:=
 (F0 a0.Roots).bind λv1=>
 jn (λ(j12:List Int)=>
  (D8 j12 a0).bind λv13=>
  some v13) (λκ11=>
  (E2 a0.S).bind λv14=>
  (lp (S:=Int × (List Int)) (E:=(List Int)) (λ((s16,s17):Int × (List Int))=>
   if (decide (s16<(v14.length:Int))) then
    (ix v14 s16).bind λv20=>
    (u5 a0.S v20).bind λv21=>
    (app 8 s17 v21.1.Fields).bind λv22=>
    some (.inl (w7 (s16+1),v22))
   else
   some (.inr s17)) (0,v1)).bind λe15=>
  κ11 e15)
def a0w(a0:List c5):Option (List c5):=
 some a0
def a4p(a0:List c5):Option (List Int):=
 jn (λ(j13:List Int)=>
  some j13) (λκ12=>
  (lp (S:=Int × (List Int)) (E:=(List Int)) (λ((s15,s16):Int × (List Int))=>
   if (decide (s15<(a0.length:Int))) then
    jn (λ(j22:List Int)=>
     some (.inl (w7 (s15+1),j22))) (λκ21=>
     (ix a0 s15).bind λv23=>
     if (v23.State==1) then
      (app 8 s16 [v23.Key]).bind λv24=>
      κ21 v24
     else
     κ21 s16)
   else
   some (.inr s16)) (0,[])).bind λe14=>
  κ12 e14)
def a1I(a0:l7):Option Bool:=
 some true
def y7(a0:List c5):Option (List l7):=
 jn (λ(j16:List l7)=>
  some j16) (λκ15=>
  (a4p a0).bind λv17=>
  (lp (S:=Int × (List l7)) (E:=(List l7)) (λ((s19,s20):Int × (List l7))=>
   if (decide (s19<(v17.length:Int))) then
    (ix v17 s19).bind λv23=>
    (I6 a0 v23).bind λv24=>
    jn (λ(j28:List l7)=>
     some (.inl (w7 (s19+1),j28))) (λκ27=>
     (a1I (⟨v23,v24.1⟩:l7)).bind λv29=>
     if v29 then
      (app 16 s20 [(⟨v23,v24.1⟩:l7)]).bind λv30=>
      κ27 v30
     else
     κ27 s20)
   else
   some (.inr s20)) (0,[])).bind λe18=>
  κ15 e18)
def a3C(a0:List c5):Option (List l7):=
 (a0w a0).bind λv1=>
 (y7 v1).bind λv2=>
 some v2
def a1q(a0:l7)(a1:b9):Option Bool:=
 (V7 a1 a0.Key).bind λv1=>
 (p7 (v1==true) false (V7 a1 a0.Val)).bind λv2=>
 some (v1&&v2)
def B0(a0:List l7)(a1:b9):Option Bool:=
 jn (λ(_:Unit)=>
  some true) (λκ6=>
  (lp (S:=Int) (E:=Bool ⊕ Unit) (λ(s9:Int)=>
   if (decide (s9<(a0.length:Int))) then
    (ix a0 s9).bind λv11=>
    (a1q v11 a1).bind λv12=>
    if (!v12) then
     some (.inr (.inl false))
    else
    some (.inl (w7 (s9+1)))
   else
   some (.inr (.inr ()))) 0).bind λe8=>
  match e8 with
  | .inl w=>some w
  | .inr w=>κ6 w)
def a0T(a0:b9):Option Bool:=
 (a3C a0.T).bind λv1=>
 (B0 v1 a0).bind λv2=>
 some v2
def a0V(a0:b9)(a1:j2):Option Bool:=
 if (a1.Kind==1) then
  (u5 a0.S a1.At).bind λv1=>
  some ((v1.2==0)&&v1.1.Started)
 else
 if (a1.Kind==2) then
  (p7 (((decide (a1.At≥0))&&(decide (a1.At<(a0.a7.length:Int))))==true) (⟨0,false,0⟩:c9) (ix a0.a7 a1.At)).bind λv2=>
  some (((decide (a1.At≥0))&&(decide (a1.At<(a0.a7.length:Int))))&&(!v2.Intact))
 else
 some false
def a1M(a0:b9):Option Bool:=
 jn (λ((j18,j19):Bool × (List (j2 × Bool)))=>
  some j18) (λκ17=>
  jn (λ(j29:List (j2 × Bool))=>
   κ17 (true,j29)) (λκ28=>
   (lp (S:=Int × (List (j2 × Bool))) (E:=(Bool × (List (j2 × Bool))) ⊕ (List (j2 × Bool))) (λ((s31,s32):Int × (List (j2 × Bool)))=>
    if (decide (s31<(a0.Q.L.length:Int))) then
     (ix a0.Q.L s31).bind λv35=>
     (p7 ((((!((z7 s32 (⟨v35.Kind,v35.At,0⟩:j2)).getD (false:Bool)))&&(decide (v35.Prog≥0)))&&(decide (v35.Prog<6)))==true) false (a0V a0 v35)).bind λv36=>
     if (!((((!((z7 s32 (⟨v35.Kind,v35.At,0⟩:j2)).getD (false:Bool)))&&(decide (v35.Prog≥0)))&&(decide (v35.Prog<6)))&&v36)) then
      some (.inr (.inl (false,(o0 s32 (⟨v35.Kind,v35.At,0⟩:j2) true))))
     else
     some (.inl (w7 (s31+1),(o0 s32 (⟨v35.Kind,v35.At,0⟩:j2) true)))
    else
    some (.inr (.inr s32))) (0,[])).bind λe30=>
   match e30 with
   | .inl w=>κ17 w
   | .inr w=>κ28 w))
def a2i(a0:c9)(a1:b9):Option Bool:=
 if ((decide (a0.Call<(-1)))||(decide (a0.Call≥6))) then
  some false
 else
 if a0.Intact then
  (V7 a1 a0.Target).bind λv1=>
  some v1
 else
 (p8 a1.S.S a0.Target).bind λv2=>
 some ((a0.Target==0)||(v2.2==0))
def B7(a0:List c9)(a1:b9):Option Bool:=
 jn (λ(_:Unit)=>
  some true) (λκ6=>
  (lp (S:=Int) (E:=Bool ⊕ Unit) (λ(s9:Int)=>
   if (decide (s9<(a0.length:Int))) then
    (ix a0 s9).bind λv11=>
    (a2i v11 a1).bind λv12=>
    if (!v12) then
     some (.inr (.inl false))
    else
    some (.inl (w7 (s9+1)))
   else
   some (.inr (.inr ()))) 0).bind λe8=>
  match e8 with
  | .inl w=>some w
  | .inr w=>κ6 w)
def a1K(a0:b9):Option Bool:=
 (B7 a0.a7 a0).bind λv1=>
 some v1
def a1V(a0:c9)(a1:Int):Option Bool:=
 some ((a1 != 0)&&(a0.Target==a1))
def M3(a0:List c9)(a1:Int):Option (List Int):=
 jn (λ(j15:List Int)=>
  some j15) (λκ14=>
  (lp (S:=Int × (List Int)) (E:=(List Int)) (λ((s17,s18):Int × (List Int))=>
   if (decide (s17<(a0.length:Int))) then
    jn (λ(j25:List Int)=>
     some (.inl (w7 (s17+1),j25))) (λκ24=>
     (ix a0 s17).bind λv26=>
     (a1V v26 a1).bind λv27=>
     if v27 then
      (app 8 s18 [s17]).bind λv28=>
      κ24 v28
     else
     κ24 s18)
   else
   some (.inr s18)) (0,[])).bind λe16=>
  κ14 e16)
def a2e(a0:List c9)(a1:Int):Option Int:=
 (M3 a0 a1).bind λv1=>
 some (v1.length:Int)
def a1L(a0:b9):Option Bool:=
 jn (λ(_:Unit)=>
  some true) (λκ12=>
  (lp (S:=Int) (E:=Bool ⊕ Unit) (λ(s15:Int)=>
   if (decide (s15<(a0.S.S.a7.length:Int))) then
    jn (λ(_:Unit)=>
     some (.inl (w7 (s15+1)))) (λκ20=>
     (ix a0.S.S.a7 s15).bind λv22=>
     if ((v22.State != 1)&&(v22.State != 2)) then
      κ20 ()
     else
     (V4 s15 v22.Gen).bind λv23=>
     (a2e a0.a7 v23).bind λv24=>
     if (v22.Val.Weak != v24) then
      some (.inr (.inl false))
     else
     if ((v22.State==2)&&(((decide (v22.Val.Weak<1))||(decide ((v22.Val.Fields.length:Int) > 0)))||(v22.Val.Strong != 0))) then
      some (.inr (.inl false))
     else
     κ20 ())
   else
   some (.inr (.inr ()))) 0).bind λe14=>
  match e14 with
  | .inl w=>some w
  | .inr w=>κ12 w)
def X8(f:Fv)(a0:b9):Option Bool:=
 if f=some 88 then V8 a0 else
 if f=some 89 then a0T a0 else
 if f=some 90 then a1M a0 else
 if f=some 91 then a1K a0 else
 if f=some 92 then a1L a0 else
 none
def a4N(a0:g9):Option (List Int):=
 jn (λ(j10:List Int)=>
  some j10) (λκ9=>
  (a7s a0 1).bind λv11=>
  (lp (S:=Int × (List Int)) (E:=(List Int)) (λ((s13,s14):Int × (List Int))=>
   if (decide (s13<(v11.1.L.length:Int))) then
    (ix v11.1.L s13).bind λv17=>
    if ((v17.Kind==v11.2)==true) then
     (app 8 s14 [v17.At]).bind λv18=>
     some (.inl (w7 (s13+1),v18))
    else
    some (.inl (w7 (s13+1),s14))
   else
   some (.inr s14)) (0,[])).bind λe12=>
  κ9 e12)
def a5e(a0:b9):Option (List Int):=
 jn (λ(j13:List Int)=>
  (a4N a0.Q).bind λv14=>
  (app 8 j13 v14).bind λv15=>
  some v15) (λκ12=>
  (lp (S:=Int × (List Int)) (E:=(List Int)) (λ((s17,s18):Int × (List Int))=>
   if (decide (s17<(a0.Roots.length:Int))) then
    jn (λ(j24:List Int)=>
     some (.inl (w7 (s17+1),j24))) (λκ23=>
     (ix a0.Roots s17).bind λv25=>
     if (v25 != 0) then
      (app 8 s18 [v25]).bind λv26=>
      κ23 v26
     else
     κ23 s18)
   else
   some (.inr s18)) (0,[])).bind λe16=>
  κ12 e16)
def a6h(a0:Int):Option Bool:=
 (E3 a0).bind λv1=>
 some v1
def a5u(a0:a8):Option a8:=
 some a0
def a9C(a0:a8)(a1:Int):Option (List Int):=
 (u5 a0 a1).bind λv1=>
 (a2P v1.1.Fields).bind λv2=>
 some v2
def b1Y(a0:a8)(a1:Int):Option Int:=
 jn (λ(j31:Int)=>
  some j31) (λκ30=>
  (a5u a0).bind λv32=>
  (E2 v32).bind λv33=>
  (lp (S:=Int × Int) (E:=Int) (λ((s35,s36):Int × Int)=>
   if (decide (s35<(v33.length:Int))) then
    jn (λ(j50:Int)=>
     some (.inl (w7 (s35+1),j50))) (λκ49=>
     (ix v33 s35).bind λv51=>
     (a9C v32 v51).bind λv52=>
     (lp (S:=Int × Int) (E:=Int) (λ((s54,s55):Int × Int)=>
      if (decide (s54<(v52.length:Int))) then
       (ix v52 s54).bind λv58=>
       jn (λ(j60:Int)=>
        some (.inl (w7 (s54+1),j60))) (λκ59=>
        if (v58==a1) then
         κ59 (w7 (s55+1))
        else
        κ59 s55)
      else
      some (.inr s55)) (0,s36)).bind λe53=>
     κ49 e53)
   else
   some (.inr s36)) (0,0)).bind λe34=>
  κ30 e34)
def a1H(a0:l7)(a1:Int):Option Bool:=
 some ((a1 != 0)&&(a0.Val==a1))
def y6(a0:List c5)(a1:Int):Option (List l7):=
 jn (λ(j16:List l7)=>
  some j16) (λκ15=>
  (a4p a0).bind λv17=>
  (lp (S:=Int × (List l7)) (E:=(List l7)) (λ((s19,s20):Int × (List l7))=>
   if (decide (s19<(v17.length:Int))) then
    (ix v17 s19).bind λv23=>
    (I6 a0 v23).bind λv24=>
    jn (λ(j28:List l7)=>
     some (.inl (w7 (s19+1),j28))) (λκ27=>
     (a1H (⟨v23,v24.1⟩:l7) a1).bind λv29=>
     if v29 then
      (app 16 s20 [(⟨v23,v24.1⟩:l7)]).bind λv30=>
      κ27 v30
     else
     κ27 s20)
   else
   some (.inr s20)) (0,[])).bind λe18=>
  κ15 e18)
def a3B(a0:List c5)(a1:Int):Option Int:=
 (a0w a0).bind λv1=>
 (y6 v1 a1).bind λv2=>
 some (v2.length:Int)
def a3X(a0:a8)(a1:List c5)(a2:Int):Option Int:=
 (b1Y a0 a2).bind λv1=>
 (a3B a1 a2).bind λv2=>
 some (w7 (v1+v2))
def a5J(a0:a8)(a1:List c5)(a2:Int):Option Int:=
 (u5 a0 a2).bind λv1=>
 if (v1.2 != 0) then
  some 0
 else
 (a3X a0 a1 a2).bind λv2=>
 some (w7 (v1.1.Strong-v2))
def a7v(a0:List Int)(a1:Int):Option Int:=
 jn (λ(j11:Int)=>
  some j11) (λκ10=>
  (a2Q a0).bind λv12=>
  (lp (S:=Int × Int) (E:=Int) (λ((s14,s15):Int × Int)=>
   if (decide (s14<(v12.length:Int))) then
    (ix v12 s14).bind λv18=>
    if ((v18 != 0)==true) then
     jn (λ(j20:Int)=>
      if ((v18 != 0)&&false) then
       some (.inr j20)
      else
      some (.inl (w7 (s14+1),j20))) (λκ19=>
      if (v18==a1) then
       κ19 (w7 (s15+1))
      else
      κ19 s15)
    else
    some (.inl (w7 (s14+1),s15))
   else
   some (.inr s15)) (0,0)).bind λe13=>
  κ10 e13)
def a5t(a0:List Int)(a1:Int):Option Int:=
 (a7v a0 a1).bind λv1=>
 some v1
def a2H(a0:Int)(a1:l4)(a2:a8)(a3:List c5)(a4:List Int):Option Bool:=
 (a6h a1.Strong).bind λv1=>
 (p7 ((!v1)==true) 0 (a5J a2 a3 a0)).bind λv2=>
 (p7 ((!v1)==true) 0 (a5t a4 a0)).bind λv3=>
 some ((!v1)&&(v2 != v3))
def a5I(a0:a8)(a1:List c5)(a2:List Int):Option Bool:=
 jn (λ(j36:List Int)=>
  some ((j36.length:Int)==0)) (λκ35=>
  jn (λ(j54:List Int)=>
   κ35 j54) (λκ53=>
   (E2 a0).bind λv55=>
   (lp (S:=Int × (List Int)) (E:=(List Int)) (λ((s57,s58):Int × (List Int))=>
    if (decide (s57<(v55.length:Int))) then
     jn (λ(j66:List Int)=>
      some (.inl (w7 (s57+1),j66))) (λκ65=>
      (ix v55 s57).bind λv67=>
      (u5 a0 v67).bind λv68=>
      (a2H v67 v68.1 a0 a1 a2).bind λv69=>
      if v69 then
       (app 8 s58 [v67]).bind λv70=>
       κ65 v70
      else
      κ65 s58)
    else
    some (.inr s58)) (0,[])).bind λe56=>
   κ53 e56))
def a5f(a0:b9):Option Bool:=
 (a0U a0).bind λv1=>
 if (!v1) then
  some false
 else
 jn (λ(_:Unit)=>
  (a5e a0).bind λv10=>
  (a5I a0.S a0.T v10).bind λv11=>
  some v11) (λκ8=>
  (lp (S:=Int) (E:=Bool ⊕ Unit) (λ(s13:Int)=>
   if (decide (s13<([(some 88),(some 89),(some 90),(some 91),(some 92)].length:Int))) then
    (ix [(some 88),(some 89),(some 90),(some 91),(some 92)] s13).bind λv15=>
    (X8 v15 a0).bind λv16=>
    if (!v16) then
     some (.inr (.inl false))
    else
    some (.inl (w7 (s13+1)))
   else
   some (.inr (.inr ()))) 0).bind λe12=>
  match e12 with
  | .inl w=>some w
  | .inr w=>κ8 w)
def a4R:Option Bool:=
 (a1Y 3 5 8).bind λv1=>
 (a0A v1 [(⟨1,0,1,(-1)⟩:code_Op),(⟨2,1,0,0⟩:code_Op),(⟨6,2,1,0⟩:code_Op),(⟨10,0,1,0⟩:code_Op),(⟨3,0,0,0⟩:code_Op),(⟨7,3,2,0⟩:code_Op),(⟨3,1,0,0⟩:code_Op),(⟨3,3,0,0⟩:code_Op)]).bind λv2=>
 (p9 v2.1 (⟨7,3,2,0⟩:code_Op)).bind λv3=>
 (p9 v2.1 (⟨4,0,0,0⟩:code_Op)).bind λv4=>
 (p9 v2.1 (⟨11,0,0,0⟩:code_Op)).bind λv5=>
 (p7 (((v2.2.length:Int)==8)==true) (0:Int) (ix v2.2 0)).bind λv6=>
 (p7 ((((v2.2.length:Int)==8)&&(v6==1))==true) (0:Int) (ix v2.2 1)).bind λv7=>
 (p7 (((((v2.2.length:Int)==8)&&(v6==1))&&(v7==1))==true) (0:Int) (ix v2.2 2)).bind λv8=>
 (p7 ((((((v2.2.length:Int)==8)&&(v6==1))&&(v7==1))&&(v8==1))==true) (0:Int) (ix v2.2 3)).bind λv9=>
 (p7 (((((((v2.2.length:Int)==8)&&(v6==1))&&(v7==1))&&(v8==1))&&(v9==1))==true) (0:Int) (ix v2.2 4)).bind λv10=>
 (p7 ((((((((v2.2.length:Int)==8)&&(v6==1))&&(v7==1))&&(v8==1))&&(v9==1))&&(v10==0))==true) (0:Int) (ix v2.2 5)).bind λv11=>
 (p7 (((((((((v2.2.length:Int)==8)&&(v6==1))&&(v7==1))&&(v8==1))&&(v9==1))&&(v10==0))&&(v11==1))==true) (0:Int) (ix v2.2 7)).bind λv12=>
 (p7 (((((((((((((((v2.2.length:Int)==8)&&(v6==1))&&(v7==1))&&(v8==1))&&(v9==1))&&(v10==0))&&(v11==1))&&(v12==0))&&(v3.2.1==0))&&(v3.2.2==9))&&(v4.2.2==2))&&(v5.2.2==14))&&((v2.1.Q.L.length:Int)==1))==true) [] (E2 v2.1.S)).bind λv13=>
 (p7 ((((((((((((((((v2.2.length:Int)==8)&&(v6==1))&&(v7==1))&&(v8==1))&&(v9==1))&&(v10==0))&&(v11==1))&&(v12==0))&&(v3.2.1==0))&&(v3.2.2==9))&&(v4.2.2==2))&&(v5.2.2==14))&&((v2.1.Q.L.length:Int)==1))&&((v13.length:Int)==0))==true) 0 (V9 v2.1 0)).bind λv14=>
 (p7 (((((((((((((((((v2.2.length:Int)==8)&&(v6==1))&&(v7==1))&&(v8==1))&&(v9==1))&&(v10==0))&&(v11==1))&&(v12==0))&&(v3.2.1==0))&&(v3.2.2==9))&&(v4.2.2==2))&&(v5.2.2==14))&&((v2.1.Q.L.length:Int)==1))&&((v13.length:Int)==0))&&(v14==0))==true) false (a5f v2.1)).bind λv15=>
 some (((((((((((((((((v2.2.length:Int)==8)&&(v6==1))&&(v7==1))&&(v8==1))&&(v9==1))&&(v10==0))&&(v11==1))&&(v12==0))&&(v3.2.1==0))&&(v3.2.2==9))&&(v4.2.2==2))&&(v5.2.2==14))&&((v2.1.Q.L.length:Int)==1))&&((v13.length:Int)==0))&&(v14==0))&&v15)
def b5q(a0:Int)(a1:Int):Option s6:=
 if ((((decide (a0<0))||(decide (a0 > 24)))||(decide (a1<0)))||(decide (a1 > 9))) then
  some (⟨[],0⟩:s6)
 else
 (mk 24 a0 (⟨0,0,0⟩:r7)).bind λv1=>
 some (⟨v1,a1⟩:s6)
def b1R(a0:Int)(a1:Int):Option k9:=
 (b5q a0 a1).bind λv1=>
 (mk 80 (v1.a7.length:Int) (⟨0,0,⟨0,0,0,0,false,[]⟩⟩:l6)).bind λv2=>
 some (⟨v2,v1.Last,0⟩:k9)
def b9F(a0:Int):Option (List k8):=
 jn (λ(j8:List k8)=>
  some j8) (λκ7=>
  (lp (S:=Int × (List k8)) (E:=(List k8)) (λ((s10,s11):Int × (List k8))=>
   if ((decide (s10<a0))&&(decide (a0≤6))) then
    (app 24 s11 [(⟨0,false,(-1)⟩:k8)]).bind λv14=>
    some (.inl (w7 (s10+1),v14))
   else
   some (.inr s11)) (0,[])).bind λe9=>
  κ7 e9)
def b5v(a0:Int):Option (List j4):=
 if ((decide (a0<1))||(decide (a0 > 8))) then
  some []
 else
 (mk 24 a0 (⟨0,0,0⟩:j4)).bind λv1=>
 some v1
def b5w:Option r9:=
 some (⟨[],30⟩:r9)
def b1X(a0:Int)(a1:Int)(a2:Int):Option g5:=
 if ((((((decide (a0<1))||(decide (a0 > 24)))||(decide (a1<0)))||(decide (a1 > 9)))||(decide (a2<1)))||(decide (a2 > 8))) then
  some (⟨⟨[],0,0⟩,[],[],[],⟨[],0⟩⟩:g5)
 else
 (b1R a0 a1).bind λv1=>
 (mk 8 6 (0:Int)).bind λv2=>
 (b9F 6).bind λv3=>
 (b5v a2).bind λv4=>
 (b5w).bind λv5=>
 some (⟨v1,v2,v3,v4,v5⟩:g5)
def b54(a0:code_Op):Option C0:=
 some (⟨a0.Kind,a0.A,a0.B,a0.C⟩:C0)
def b16(a0:List code_Op):Option (List C0):=
 jn (λ(j10:List C0)=>
  some j10) (λκ9=>
  (lp (S:=Int × (List C0)) (E:=(List C0)) (λ((s12,s13):Int × (List C0))=>
   if (decide (s12<(a0.length:Int))) then
    (ix a0 s12).bind λv16=>
    (b54 v16).bind λv17=>
    (app 32 s13 [v17]).bind λv18=>
    some (.inl (w7 (s12+1),v18))
   else
   some (.inr s13)) (0,[])).bind λe11=>
  κ9 e11)
def Z5(a0:Int)(a1:Int)(a2:Int)(a3:Int):Option Int:=
 if ((decide (a0<a1))||(decide (a0 > a2))) then
  some a3
 else
 some 0
def T5(a0:Int)(a1:Int)(a2:Int):Option Int:=
 if (a0 != 0) then
  some a0
 else
 if (a1 != 0) then
  some a1
 else
 some a2
def a7m(a0:C0):Option Int:=
 (Z5 a0.A 0 5 6).bind λv1=>
 (Z5 a0.B 0 5 6).bind λv2=>
 if (a0.Kind==1) then
  (Z5 a0.B 0 4 1).bind λv3=>
  (Z5 a0.C (-1) 5 13).bind λv4=>
  (T5 v1 v3 v4).bind λv5=>
  some v5
 else
 jn (λ(j7:Bool)=>
  if j7 then
   (T5 v1 v2 0).bind λv8=>
   some v8
  else
  if (a0.Kind==3) then
   some v1
  else
  if (a0.Kind==4) then
   (Z5 a0.C 0 3 5).bind λv9=>
   (T5 v1 v2 v9).bind λv10=>
   some v10
  else
  if (a0.Kind==5) then
   (Z5 a0.B 0 3 5).bind λv11=>
   (Z5 a0.C (-1) 5 6).bind λv12=>
   (T5 v1 v11 v12).bind λv13=>
   some v13
  else
  if (a0.Kind==6) then
   (Z5 a0.A 0 5 7).bind λv14=>
   (Z5 a0.B (-1) 5 6).bind λv15=>
   (Z5 a0.C (-1) 5 13).bind λv16=>
   (T5 v14 v15 v16).bind λv17=>
   some v17
  else
  if (a0.Kind==7) then
   (Z5 a0.B 0 5 7).bind λv18=>
   (T5 v1 v18 0).bind λv19=>
   some v19
  else
  if (a0.Kind==8) then
   (Z5 a0.B (-1) 5 6).bind λv20=>
   (T5 v1 v20 0).bind λv21=>
   some v21
  else
  if (a0.Kind==11) then
   some 0
  else
  if (a0.Kind==12) then
   (Z5 a0.A 0 200 12).bind λv22=>
   some v22
  else
  some 14) (λκ6=>
  if (a0.Kind==2) then
   κ6 (a0.Kind==2)
  else
  if (a0.Kind==9) then
   κ6 (a0.Kind==9)
  else
  κ6 (a0.Kind==10))
def a0C(a0:C0):Option Bool:=
 some ((decide (a0.Kind≥1))&&(decide (a0.Kind≤10)))
def a1y(a0:r9)(a1:Int):Option Bool:=
 jn (λ(_:Unit)=>
  some false) (λκ5=>
  (lp (S:=Int) (E:=Bool ⊕ Unit) (λ(s8:Int)=>
   if (decide (s8<(a0.L.length:Int))) then
    (ix a0.L s8).bind λv10=>
    if ((v10.Kind==2)&&(v10.At==a1)) then
     some (.inr (.inl true))
    else
    some (.inl (w7 (s8+1)))
   else
   some (.inr (.inr ()))) 0).bind λe7=>
  match e7 with
  | .inl w=>some w
  | .inr w=>κ5 w)
def J4(a0:k9):Option s6:=
 jn (λ(j9:List r7)=>
  some (⟨j9,a0.Last⟩:s6)) (λκ8=>
  (lp (S:=Int × (List r7)) (E:=(List r7)) (λ((s11,s12):Int × (List r7))=>
   if (decide (s11<(a0.a7.length:Int))) then
    (ix a0.a7 s11).bind λv15=>
    (app 24 s12 [(⟨v15.State,v15.Gen,s11⟩:r7)]).bind λv16=>
    some (.inl (w7 (s11+1),v16))
   else
   some (.inr s12)) (0,[])).bind λe10=>
  κ8 e10)
def a13(a0:Int)(a1:Int):Option Int:=
 if ((((decide (a0<0))||(decide (a0 > 23)))||(decide (a1<0)))||(decide (a1 > 9))) then
  some 0
 else
 some (w7 ((w7 (1+a0))+(w7 (32*a1))))
def a4C(a0:Int):Option Bool:=
 if ((decide (a0<1))||(decide (a0 > 400))) then
  some false
 else
 (rem (w7 (a0-1)) 32).bind λv1=>
 (quo .i64 (w7 (a0-1)) 32).bind λv2=>
 (a13 v1 v2).bind λv3=>
 some (v3==a0)
def a4B(a0:Int):Option Int:=
 (a4C a0).bind λv1=>
 if (!v1) then
  some (-1)
 else
 (rem (w7 (a0-1)) 32).bind λv2=>
 some v2
def b1P(a0:Int):Option Int:=
 (a4C a0).bind λv1=>
 if (!v1) then
  some (-1)
 else
 (quo .i64 (w7 (a0-1)) 32).bind λv2=>
 some v2
def K5(a0:s6)(a1:Int):Option (Int × Int):=
 if (a1==0) then
  some ((-1),2)
 else
 (a4B a1).bind λv1=>
 if ((decide (v1<0))||(decide (v1≥(a0.a7.length:Int)))) then
  some ((-1),3)
 else
 (ix a0.a7 v1).bind λv2=>
 (b1P a1).bind λv3=>
 if ((v2.Gen != v3)||((v2.State != 1)&&(v2.State != 2))) then
  some ((-1),3)
 else
 some (v1,0)
def a9m(a0:s6)(a1:Int):Option (Int × Int):=
 (K5 a0 a1).bind λv1=>
 if (v1.2 != 0) then
  some (0,v1.2)
 else
 (ix a0.a7 v1.1).bind λv2=>
 if (v2.State==2) then
  some (0,3)
 else
 some (v2.Val,0)
def D9(a0:k9)(a1:Int):Option (A0 × Int):=
 (J4 a0).bind λv1=>
 (a9m v1 a1).bind λv2=>
 if (v2.2 != 0) then
  some ((⟨0,0,0,0,false,[]⟩:A0),v2.2)
 else
 (ix a0.a7 v2.1).bind λv3=>
 some (v3.Val,0)
def T3(a0:g5)(a1:Int):Option Bool:=
 (D9 a0.S a1).bind λv1=>
 some (v1.2==0)
def T4(a0:g5)(a1:Int):Option Bool:=
 (p7 ((a1==0)==false) false (T3 a0 a1)).bind λv1=>
 some ((a1==0)||v1)
def b1U(a0:List k8)(a1:Int)(a2:Int)(a3:Int):Option ((List k8) × Int × Int):=
 if ((decide (a1<0))||(decide (a1≥(a0.length:Int)))) then
  some (a0,0,7)
 else
 (app 24 [] a0).bind λv1=>
 (ix v1 a1).bind λv2=>
 (ix a0 a1).bind λv3=>
 some ((v1.set (a1).toNat (⟨a2,(a2 != 0),a3⟩:k8)),v3.Target,0)
def a0c(a0:k9)(a1:Int)(a2:A0):Option k9:=
 (app 80 [] a0.a7).bind λv1=>
 (ix v1 a1).bind λv2=>
 some (⟨(v1.set (a1).toNat (⟨v2.State,v2.Gen,a2⟩:l6)),a0.Last,a0.Serial⟩:k9)
def J5(a0:k9)(a1:Int)(a2:A0):Option (k9 × Int):=
 (J4 a0).bind λv1=>
 (K5 v1 a1).bind λv2=>
 if (v2.2 != 0) then
  some (a0,v2.2)
 else
 (a0c a0 v2.1 a2).bind λv3=>
 some (v3,0)
def S0(a0:s6)(a1:Int)(a2:r7):Option s6:=
 (app 24 [] a0.a7).bind λv1=>
 (ix v1 a1).bind λv2=>
 some (⟨(v1.set (a1).toNat a2),a0.Last⟩:s6)
def b2X(a0:s6)(a1:Int):Option (s6 × Int):=
 (K5 a0 a1).bind λv1=>
 if (v1.2 != 0) then
  some (a0,v1.2)
 else
 (ix a0.a7 v1.1).bind λv2=>
 if (decide (v2.Gen≥a0.Last)) then
  (S0 a0 v1.1 (⟨3,v2.Gen,0⟩:r7)).bind λv3=>
  some (v3,0)
 else
 (S0 a0 v1.1 (⟨0,w7 (v2.Gen+1),0⟩:r7)).bind λv4=>
 some (v4,0)
def W1(a0:k9)(a1:s6):Option k9:=
 jn (λ(j10:List l6)=>
  some (⟨j10,a0.Last,a0.Serial⟩:k9)) (λκ9=>
  (lp (S:=Int × (List l6)) (E:=(List l6)) (λ((s12,s13):Int × (List l6))=>
   if (decide (s12<(a0.a7.length:Int))) then
    (ix a1.a7 s12).bind λv16=>
    (ix a0.a7 s12).bind λv17=>
    (app 80 s13 [(⟨v16.State,v16.Gen,v17.Val⟩:l6)]).bind λv18=>
    some (.inl (w7 (s12+1),v18))
   else
   some (.inr s13)) (0,[])).bind λe11=>
  κ9 e11)
def a6C(a0:k9)(a1:Int):Option k9:=
 (J4 a0).bind λv1=>
 (b2X v1 a1).bind λv2=>
 if (v2.2 != 0) then
  some a0
 else
 (W1 a0 v2.1).bind λv3=>
 (a4B a1).bind λv4=>
 (a0c v3 v4 (⟨0,0,0,0,false,[]⟩:A0)).bind λv5=>
 some v5
def W4(a0:g5)(a1:Int):Option g5:=
 (J4 a0.S).bind λv1=>
 (K5 v1 a1).bind λv2=>
 if (v2.2 != 0) then
  some a0
 else
 (ix a0.S.a7 v2.1).bind λv3=>
 (J5 a0.S a1 (⟨v3.Val.Serial,v3.Val.Strong,w7 (v3.Val.Weak-1),v3.Val.Prog,v3.Val.Started,v3.Val.Fields⟩:A0)).bind λv4=>
 (ix v4.1.a7 v2.1).bind λv5=>
 if ((v5.State==2)&&(decide ((w7 (v3.Val.Weak-1))<1))) then
  (a6C v4.1 a1).bind λv6=>
  some (⟨v6,a0.Roots,a0.a7,a0.T,a0.Q⟩:g5)
 else
 some (⟨v4.1,a0.Roots,a0.a7,a0.T,a0.Q⟩:g5)
def a06(a0:g5)(a1:Int)(a2:Int)(a3:Int):Option (g5 × Int):=
 (p7 (((decide (a1<0))||(decide (a1 > 5)))==false) false (a1y a0.Q a1)).bind λv1=>
 if (((decide (a1<0))||(decide (a1 > 5)))||v1) then
  some (a0,7)
 else
 (T4 a0 a2).bind λv2=>
 if (!v2) then
  some (a0,3)
 else
 (b1U a0.a7 a1 a2 a3).bind λv3=>
 if (a2 != 0) then
  (D9 a0.S a2).bind λv4=>
  (J5 a0.S a2 (⟨v4.1.Serial,v4.1.Strong,w7 (v4.1.Weak+1),v4.1.Prog,v4.1.Started,v4.1.Fields⟩:A0)).bind λv5=>
  (W4 (⟨v5.1,a0.Roots,v3.1,a0.T,a0.Q⟩:g5) v3.2.1).bind λv6=>
  some (v6,0)
 else
 (W4 (⟨a0.S,a0.Roots,v3.1,a0.T,a0.Q⟩:g5) v3.2.1).bind λv7=>
 some (v7,0)
def P1(a0:g5)(a1:Int):Option (Int × Int):=
 (ix a0.Roots a1).bind λv1=>
 if (v1==0) then
  some (0,2)
 else
 some (v1,0)
def a3i(a0:g5)(a1:Int):Option Int:=
 if (decide (a1<0)) then
  some 0
 else
 (ix a0.Roots a1).bind λv1=>
 some v1
def b0w(a0:List Int)(a1:Int):Option (Int × Int):=
 if ((decide (a1<0))||(decide (a1≥(a0.length:Int)))) then
  some (0,5)
 else
 (ix a0 a1).bind λv1=>
 some (v1,0)
def a1w(a0:k9)(a1:Int)(a2:Int):Option (Int × Int):=
 (D9 a0 a1).bind λv1=>
 if (v1.2 != 0) then
  some (0,v1.2)
 else
 (b0w v1.1.Fields a2).bind λv2=>
 some (v2.1,v2.2)
def Y4(a0:Int):Option Bool:=
 some (decide (a0≥12))
def a9n(a0:Int):Option Int:=
 (Y4 a0).bind λv1=>
 if v1 then
  some 12
 else
 if (decide (a0<0)) then
  some 1
 else
 some (w7 (a0+1))
def a3f(a0:g5)(a1:Int)(a2:Int):Option g5:=
 (D9 a0.S a1).bind λv1=>
 if (v1.2 != 0) then
  some a0
 else
 (J5 a0.S a1 (⟨v1.1.Serial,a2,v1.1.Weak,v1.1.Prog,v1.1.Started,v1.1.Fields⟩:A0)).bind λv2=>
 some (⟨v2.1,a0.Roots,a0.a7,a0.T,a0.Q⟩:g5)
def W3(a0:g5)(a1:Int):Option g5:=
 (D9 a0.S a1).bind λv1=>
 (a9n v1.1.Strong).bind λv2=>
 (a3f a0 a1 v2).bind λv3=>
 some v3
def b20(a0:List Int)(a1:Int)(a2:Int):Option ((List Int) × Int):=
 if ((decide (a1<0))||(decide (a1≥(a0.length:Int)))) then
  some (a0,5)
 else
 (app 8 [] a0).bind λv1=>
 (ix v1 a1).bind λv2=>
 some ((v1.set (a1).toNat a2),0)
def b1S(a0:k9)(a1:Int)(a2:Int)(a3:Int):Option (k9 × Int):=
 (D9 a0 a1).bind λv1=>
 if (v1.2 != 0) then
  some (a0,v1.2)
 else
 (b20 v1.1.Fields a2 a3).bind λv2=>
 if (v2.2 != 0) then
  some (a0,v2.2)
 else
 (J5 a0 a1 (⟨v1.1.Serial,v1.1.Strong,v1.1.Weak,v1.1.Prog,v1.1.Started,v2.1⟩:A0)).bind λv3=>
 some (v3.1,v3.2)
def b1Q(a0:Int):Option (Int × Int):=
 (Y4 a0).bind λv1=>
 if v1 then
  some (12,0)
 else
 if (decide (a0<1)) then
  some (0,11)
 else
 some (w7 (a0-1),0)
def E8(a0:g5)(a1:Int):Option g5:=
 (D9 a0.S a1).bind λv1=>
 (b1Q v1.1.Strong).bind λv2=>
 if (v2.2 != 0) then
  some a0
 else
 (a3f a0 a1 v2.1).bind λv3=>
 some v3
def a2M(a0:g5)(a1:Int)(a2:Int)(a3:Int):Option (g5 × Int):=
 (a1w a0.S a1 a2).bind λv1=>
 if (v1.2 != 0) then
  some (a0,v1.2)
 else
 (T4 a0 a3).bind λv2=>
 if (!v2) then
  some (a0,3)
 else
 (W3 a0 a3).bind λv3=>
 (b1S v3.S a1 a2 a3).bind λv4=>
 (E8 (⟨v4.1,v3.Roots,v3.a7,v3.T,v3.Q⟩:g5) v1.1).bind λv5=>
 some (v5,0)
def a0d(a0:List j4)(a1:Int):Option Int:=
 jn (λ(_:Unit)=>
  some (-1)) (λκ5=>
  (lp (S:=Int) (E:=Int ⊕ Unit) (λ(s8:Int)=>
   if (decide (s8<(a0.length:Int))) then
    (ix a0 s8).bind λv10=>
    if ((v10.State==1)&&(v10.Key==a1)) then
     some (.inr (.inl s8))
    else
    some (.inl (w7 (s8+1)))
   else
   some (.inr (.inr ()))) 0).bind λe7=>
  match e7 with
  | .inl w=>some w
  | .inr w=>κ5 w)
def a7j(a0:List j4)(a1:Int):Option (Int × Int):=
 (a0d a0 a1).bind λv1=>
 if (decide (v1<0)) then
  some (0,9)
 else
 (ix a0 v1).bind λv2=>
 some (v2.Val,0)
def a0e(a0:List j4)(a1:Int)(a2:j4):Option (List j4):=
 (app 24 [] a0).bind λv1=>
 (ix v1 a1).bind λv2=>
 some (v1.set (a1).toNat a2)
def a4F(a0:List j4)(a1:Int):Option ((List j4) × Int × Int):=
 (a0d a0 a1).bind λv1=>
 if (decide (v1<0)) then
  some (a0,0,9)
 else
 (a0e a0 v1 (⟨2,0,0⟩:j4)).bind λv2=>
 (ix a0 v1).bind λv3=>
 some (v2,v3.Val,0)
def a9v(a0:Int)(a1:Int):Option Int:=
 if (decide (a0<1)) then
  some 0
 else
 (rem (w7 ((w7 (5*a1))+1)) a0).bind λv1=>
 if (decide (v1<0)) then
  some (w7 (v1+a0))
 else
 some v1
def b1V(a0:List j4)(a1:Int)(a2:Int):Option ((List j4) × Int):=
 (a0d a0 a1).bind λv1=>
 if (decide (v1≥0)) then
  (a0e a0 v1 (⟨1,a1,a2⟩:j4)).bind λv2=>
  some (v2,0)
 else
 (a9v (a0.length:Int) a1).bind λv3=>
 jn (λ(_:Unit)=>
  some (a0,8)) (λκ12=>
  (lp (S:=Int × Int) (E:=((List j4) × Int) ⊕ Unit) (λ((s15,s16):Int × Int)=>
   if (decide (s16<(a0.length:Int))) then
    (ix a0 s15).bind λv19=>
    if (v19.State != 1) then
     (a0e a0 s15 (⟨1,a1,a2⟩:j4)).bind λv20=>
     some (.inr (.inl (v20,0)))
    else
    (rem (w7 (s15+1)) (a0.length:Int)).bind λv21=>
    some (.inl (v21,w7 (s16+1)))
   else
   some (.inr (.inr ()))) (v3,0)).bind λe14=>
  match e14 with
  | .inl w=>some w
  | .inr w=>κ12 w)
def b1W(a0:List j4)(a1:Int)(a2:Int):Option ((List j4) × Int × Int):=
 if (a1==0) then
  some (a0,0,2)
 else
 (a7j a0 a1).bind λv1=>
 if (a2==0) then
  (a4F a0 a1).bind λv2=>
  some (v2.1,v1.1,0)
 else
 (b1V a0 a1 a2).bind λv3=>
 if (v3.2 != 0) then
  some (a0,0,v3.2)
 else
 some (v3.1,v1.1,0)
def a4G(a0:g5)(a1:Int)(a2:Int):Option (g5 × Int):=
 if (a1==0) then
  some (a0,2)
 else
 (T3 a0 a1).bind λv1=>
 (p7 ((!v1)==false) false (T4 a0 a2)).bind λv2=>
 if ((!v1)||(!v2)) then
  some (a0,3)
 else
 (b1W a0.T a1 a2).bind λv3=>
 if (v3.2.2 != 0) then
  some (a0,v3.2.2)
 else
 (W3 a0 a2).bind λv4=>
 (E8 (⟨v4.S,v4.Roots,v4.a7,v3.1,v4.Q⟩:g5) v3.2.1).bind λv5=>
 some (v5,0)
def Y5(a0:g5)(a1:C0):Option (g5 × Int × Int):=
 if ((a1.Kind==6)&&(decide (a1.B<0))) then
  (a06 a0 a1.A 0 a1.C).bind λv1=>
  some (v1.1,0,v1.2)
 else
 jn (λ(j3:Int)=>
  (P1 a0 j3).bind λv4=>
  if (v4.2 != 0) then
   some (a0,0,v4.2)
  else
  if (a1.Kind==5) then
   (a3i a0 a1.C).bind λv5=>
   (a2M a0 v4.1 a1.B v5).bind λv6=>
   some (v6.1,v5,v6.2)
  else
  if (a1.Kind==6) then
   (a06 a0 a1.A v4.1 a1.C).bind λv7=>
   some (v7.1,v4.1,v7.2)
  else
  (a3i a0 a1.B).bind λv8=>
  (a4G a0 v4.1 v8).bind λv9=>
  some (v9.1,v8,v9.2)) (λκ2=>
  if (a1.Kind==6) then
   κ2 a1.B
  else
  κ2 a1.A)
def a3e(a0:k9)(a1:List Int):Option (List Int):=
 (app 8 [] a1).bind λv1=>
 jn (λ(j36:List Int)=>
  some j36) (λκ35=>
  (lp (S:=Int × (List Int)) (E:=(List Int)) (λ((s38,s39):Int × (List Int))=>
   if (decide (s38<(s39.length:Int))) then
    jn (λ(j56:List Int)=>
     some (.inl (w7 (s38+1),j56))) (λκ55=>
     (lp (S:=Int × (List Int)) (E:=(List Int)) (λ((s58,s59):Int × (List Int))=>
      if (decide (s58 > 0)) then
       (J4 a0).bind λv62=>
       (ix s59 (w7 (s58-1))).bind λv63=>
       (K5 v62 v63).bind λv64=>
       (ix s59 s58).bind λv65=>
       (K5 v62 v65).bind λv66=>
       (p7 (((decide (v64.1<0))||(decide (v66.1<0)))==false) (⟨0,0,⟨0,0,0,0,false,[]⟩⟩:l6) (ix a0.a7 v64.1)).bind λv67=>
       (p7 (((decide (v64.1<0))||(decide (v66.1<0)))==false) (⟨0,0,⟨0,0,0,0,false,[]⟩⟩:l6) (ix a0.a7 v66.1)).bind λv68=>
       if (((decide (v64.1<0))||(decide (v66.1<0)))||(decide (v67.Val.Serial≤v68.Val.Serial))) then
        some (.inr s59)
       else
       (ix (s59.set (s58).toNat v63) (w7 (s58-1))).bind λv69=>
       some (.inl (w7 (s58-1),((s59.set (s58).toNat v63).set (w7 (s58-1)).toNat v65)))
      else
      some (.inr s59)) (s38,s39)).bind λe57=>
     κ55 e57)
   else
   some (.inr s39)) (1,v1)).bind λe37=>
  κ35 e37)
def a15(a0:k9):Option (List Int):=
 jn (λ(j15:List Int)=>
  (a3e a0 j15).bind λv16=>
  some v16) (λκ14=>
  (lp (S:=Int × (List Int)) (E:=(List Int)) (λ((s18,s19):Int × (List Int))=>
   if (decide (s18<(a0.a7.length:Int))) then
    jn (λ(j26:List Int)=>
     some (.inl (w7 (s18+1),j26))) (λκ25=>
     (ix a0.a7 s18).bind λv27=>
     if (v27.State==1) then
      (a13 s18 v27.Gen).bind λv28=>
      (app 8 s19 [v28]).bind λv29=>
      κ25 v29
     else
     κ25 s19)
   else
   some (.inr s19)) (0,[])).bind λe17=>
  κ14 e17)
def a3h(a0:g5):Option (List Int):=
 (a15 a0.S).bind λv1=>
 jn (λ(j16:List Int)=>
  some j16) (λκ15=>
  (lp (S:=Int × (List Int)) (E:=(List Int)) (λ((s18,s19):Int × (List Int))=>
   if (decide (s18<(v1.length:Int))) then
    jn (λ(j26:List Int)=>
     some (.inl (w7 (s18+1),j26))) (λκ25=>
     (ix v1 s18).bind λv27=>
     (D9 a0.S v27).bind λv28=>
     if (v28.1.Strong==0) then
      (app 8 s19 [v27]).bind λv29=>
      κ25 v29
     else
     κ25 s19)
   else
   some (.inr s19)) (0,[])).bind λe17=>
  κ15 e17)
def a7l(a0:g5)(a1:Int):Option Bool:=
 (D9 a0.S a1).bind λv1=>
 (T3 a0 a1).bind λv2=>
 some ((v2&&(decide (v1.1.Prog≥0)))&&(!v1.1.Started))
def a3R(a0:r9)(a1:p6):Option (r9 × Int):=
 if (decide ((a0.L.length:Int)≥a0.Cap)) then
  some (a0,4)
 else
 (app 24 [] a0.L).bind λv1=>
 (app 24 v1 [a1]).bind λv2=>
 some ((⟨v2,a0.Cap⟩:r9),0)
def a3g(a0:g5)(a1:Int):Option g5:=
 (a7l a0 a1).bind λv1=>
 if (!v1) then
  some a0
 else
 (D9 a0.S a1).bind λv2=>
 (J5 a0.S a1 (⟨v2.1.Serial,v2.1.Strong,v2.1.Weak,v2.1.Prog,true,v2.1.Fields⟩:A0)).bind λv3=>
 (a3R a0.Q (⟨1,a1,v2.1.Prog⟩:p6)).bind λv4=>
 (W3 (⟨v3.1,a0.Roots,a0.a7,a0.T,v4.1⟩:g5) a1).bind λv5=>
 some v5
def a0B(a0:List Int)(a1:Int):Option Int:=
 jn (λ(j11:Int)=>
  some j11) (λκ10=>
  (lp (S:=Int × Int) (E:=Int) (λ((s13,s14):Int × Int)=>
   if (decide (s14<(a0.length:Int))) then
    jn (λ(j19:Int)=>
     some (.inl (j19,w7 (s14+1)))) (λκ18=>
     (ix a0 s14).bind λv20=>
     if ((v20==a1)&&(a1 != 0)) then
      κ18 (w7 (s13+1))
     else
     κ18 s13)
   else
   some (.inr s13)) (0,0)).bind λe12=>
  κ10 e12)
def b1T(a0:List Int)(a1:Int):Option Bool:=
 (a0B a0 a1).bind λv1=>
 some (decide (v1 > 0))
def a6J(a0:g5)(a1:List Int):Option (List Int):=
 jn (λ(j17:List Int)=>
  some j17) (λκ16=>
  (lp (S:=Int × (List Int)) (E:=(List Int)) (λ((s19,s20):Int × (List Int))=>
   if (decide (s19<(a1.length:Int))) then
    jn (λ(j28:List Int)=>
     some (.inl (w7 (s19+1),j28))) (λκ27=>
     (ix a1 s19).bind λv29=>
     (T3 a0 v29).bind λv30=>
     (p7 (v30==true) false (b1T s20 v29)).bind λv31=>
     if (v30&&(!v31)) then
      (app 8 s20 [v29]).bind λv32=>
      κ27 v32
     else
     κ27 s20)
   else
   some (.inr s20)) (0,[])).bind λe18=>
  κ16 e18)
def a7i(a0:List k8)(a1:List Int):Option ((List k8) × (List Int)):=
 jn (λ((j18,j19):(List Int) × (List k8))=>
  some (j19,j18)) (λκ17=>
  (lp (S:=Int × (List k8) × (List Int)) (E:=((List Int) × (List k8))) (λ((s22,s23,s24):Int × (List k8) × (List Int))=>
   if (decide (s22<(a0.length:Int))) then
    (ix a0 s22).bind λv27=>
    jn (λ((j31,j32):Bool × (List Int))=>
     (app 24 s23 [(⟨v27.Target,j31,v27.Call⟩:k8)]).bind λv34=>
     some (.inl (w7 (s22+1),v34,j32))) (λκ30=>
     (p7 (v27.Intact==true) 0 (a0B a1 v27.Target)).bind λv35=>
     if (v27.Intact&&(decide (v35 > 0))) then
      if (decide (v27.Call≥0)) then
       (app 8 s24 [s22]).bind λv36=>
       κ30 (false,v36)
      else
      κ30 (false,s24)
     else
     κ30 (v27.Intact,s24))
   else
   some (.inr (s24,s23))) (0,[],[])).bind λe21=>
  κ17 e21)
def a1v(a0:List Int):Option (List Int):=
 jn (λ(j13:List Int)=>
  some j13) (λκ12=>
  (lp (S:=Int × (List Int)) (E:=(List Int)) (λ((s15,s16):Int × (List Int))=>
   if (decide (s15<(a0.length:Int))) then
    jn (λ(j22:List Int)=>
     some (.inl (w7 (s15+1),j22))) (λκ21=>
     (ix a0 s15).bind λv23=>
     if (v23 != 0) then
      (app 8 s16 [v23]).bind λv24=>
      κ21 v24
     else
     κ21 s16)
   else
   some (.inr s16)) (0,[])).bind λe14=>
  κ12 e14)
def a16(a0:List j4)(a1:List Int):Option ((List j4) × (List Int)):=
 jn (λ((j18,j19):(List j4) × (List Int))=>
  some (j18,j19)) (λκ17=>
  (lp (S:=(List j4) × Int × (List Int)) (E:=((List j4) × (List Int))) (λ((s22,s23,s24):(List j4) × Int × (List Int))=>
   if (decide (s23<(a1.length:Int))) then
    jn (λ((j31,j32):(List j4) × (List Int))=>
     some (.inl (j31,w7 (s23+1),j32))) (λκ30=>
     (ix a1 s23).bind λv34=>
     (a4F s22 v34).bind λv35=>
     if (v35.2.2==0) then
      (app 8 s24 [v35.2.1]).bind λv36=>
      κ30 (v35.1,v36)
     else
     κ30 (s22,s24))
   else
   some (.inr (s22,s24))) (a0,0,[])).bind λe21=>
  κ17 e21)
def b2Z(a0:s6)(a1:Int):Option (s6 × Int):=
 (a9m a0 a1).bind λv1=>
 if (v1.2 != 0) then
  some (a0,v1.2)
 else
 (K5 a0 a1).bind λv2=>
 (ix a0.a7 v2.1).bind λv3=>
 (S0 a0 v2.1 (⟨2,v3.Gen,v3.Val⟩:r7)).bind λv4=>
 some (v4,0)
def a9r(a0:k9)(a1:Int):Option k9:=
 (J4 a0).bind λv1=>
 (b2Z v1 a1).bind λv2=>
 (W1 a0 v2.1).bind λv3=>
 some v3
def a4H(a0:g5)(a1:Int):Option g5:=
 (D9 a0.S a1).bind λv1=>
 (J5 a0.S a1 (⟨v1.1.Serial,0,v1.1.Weak,v1.1.Prog,v1.1.Started,[]⟩:A0)).bind λv2=>
 (a9r v2.1 a1).bind λv3=>
 if (v1.1.Weak==0) then
  (a6C v3 a1).bind λv4=>
  some (⟨v4,a0.Roots,a0.a7,a0.T,a0.Q⟩:g5)
 else
 some (⟨v3,a0.Roots,a0.a7,a0.T,a0.Q⟩:g5)
def a6I(a0:g5)(a1:List Int):Option g5:=
 (a6J a0 a1).bind λv1=>
 (a7i a0.a7 v1).bind λv2=>
 jn (λ(j12:r9)=>
  jn (λ(j23:List Int)=>
   (a16 a0.T v1).bind λv24=>
   (app 8 j23 v24.2).bind λv25=>
   jn (λ(j34:g5)=>
    jn (λ(j43:g5)=>
     some j43) (λκ42=>
     (lp (S:=Int × g5) (E:=g5) (λ((s45,s46):Int × g5)=>
      if (decide (s45<(v25.length:Int))) then
       (ix v25 s45).bind λv49=>
       (E8 s46 v49).bind λv50=>
       some (.inl (w7 (s45+1),v50))
      else
      some (.inr s46)) (0,j34)).bind λe44=>
     κ42 e44)) (λκ33=>
    (lp (S:=Int × g5) (E:=g5) (λ((s52,s53):Int × g5)=>
     if (decide (s52<(v1.length:Int))) then
      (ix v1 s52).bind λv56=>
      (a4H s53 v56).bind λv57=>
      some (.inl (w7 (s52+1),v57))
     else
     some (.inr s53)) (0,(⟨a0.S,a0.Roots,v2.1,v24.1,j12⟩:g5))).bind λe51=>
    κ33 e51)) (λκ22=>
   (lp (S:=Int × (List Int)) (E:=(List Int)) (λ((s59,s60):Int × (List Int))=>
    if (decide (s59<(v1.length:Int))) then
     (ix v1 s59).bind λv63=>
     (D9 a0.S v63).bind λv64=>
     (a1v v64.1.Fields).bind λv65=>
     (app 8 s60 v65).bind λv66=>
     some (.inl (w7 (s59+1),v66))
    else
    some (.inr s60)) (0,[])).bind λe58=>
   κ22 e58)) (λκ11=>
  (lp (S:=Int × r9) (E:=r9) (λ((s68,s69):Int × r9)=>
   if (decide (s68<(v2.2.length:Int))) then
    (ix v2.2 s68).bind λv72=>
    (ix v2.1 v72).bind λv73=>
    (a3R s69 (⟨2,v72,v73.Call⟩:p6)).bind λv74=>
    some (.inl (w7 (s68+1),v74.1))
   else
   some (.inr s69)) (0,a0.Q)).bind λe67=>
  κ11 e67)
def R1(a0:g5):Option g5:=
 jn (λ(j21:g5)=>
  some j21) (λκ20=>
  (lp (S:=Int × g5) (E:=g5 ⊕ g5) (λ((s23,s24):Int × g5)=>
   if (decide (s23<100)) then
    jn (λ(j34:g5)=>
     some (.inl (w7 (s23+1),j34))) (λκ33=>
     (a3h s24).bind λv35=>
     if ((v35.length:Int)==0) then
      some (.inr (.inl s24))
     else
     (ix v35 0).bind λv36=>
     (a7l s24 v36).bind λv37=>
     if v37 then
      (a3g s24 v36).bind λv38=>
      κ33 v38
     else
     (cut v35 0 1).bind λv39=>
     (a6I s24 v39).bind λv40=>
     κ33 v40)
   else
   some (.inr (.inr s24))) (0,a0)).bind λe22=>
  match e22 with
  | .inl w=>some w
  | .inr w=>κ20 w)
def a1z(a0:g5)(a1:Int):Option Int:=
 (D9 a0.S a1).bind λv1=>
 some v1.1.Serial
def a9p(a0:Int):Option ((List Int) × Int):=
 if ((decide (a0<0))||(decide (a0 > 4))) then
  some ([],1)
 else
 (mk 8 a0 (0:Int)).bind λv1=>
 some (v1,0)
def a4D(a0:s6)(a1:Int):Option (s6 × Int × Int):=
 jn (λ(_:Unit)=>
  some (a0,0,4)) (λκ7=>
  (lp (S:=Int) (E:=(s6 × Int × Int) ⊕ Unit) (λ(s10:Int)=>
   if (decide (s10<(a0.a7.length:Int))) then
    (ix a0.a7 s10).bind λv12=>
    if (v12.State==0) then
     (S0 a0 s10 (⟨1,v12.Gen,a1⟩:r7)).bind λv13=>
     (a13 s10 v12.Gen).bind λv14=>
     some (.inr (.inl (v13,v14,0)))
    else
    some (.inl (w7 (s10+1)))
   else
   some (.inr (.inr ()))) 0).bind λe9=>
  match e9 with
  | .inl w=>some w
  | .inr w=>κ7 w)
def a04(a0:k9)(a1:Int)(a2:Int):Option (k9 × Int × Int):=
 (a9p a1).bind λv1=>
 if (v1.2 != 0) then
  some (a0,0,v1.2)
 else
 if ((decide (a2<(-1)))||(decide (a2 > 5))) then
  some (a0,0,13)
 else
 (J4 a0).bind λv2=>
 (a4D v2 0).bind λv3=>
 if (v3.2.2 != 0) then
  some (a0,0,v3.2.2)
 else
 (W1 a0 v3.1).bind λv4=>
 (a4B v3.2.1).bind λv5=>
 (a0c v4 v5 (⟨w7 (a0.Serial+1),0,0,a2,false,v1.1⟩:A0)).bind λv6=>
 some ((⟨v6.a7,v6.Last,w7 (a0.Serial+1)⟩:k9),v3.2.1,0)
def a17(a0:g5)(a1:Int)(a2:Int):Option (g5 × Int):=
 if ((decide (a1<0))||(decide (a1 > 5))) then
  some (a0,6)
 else
 (T4 a0 a2).bind λv1=>
 if (!v1) then
  some (a0,3)
 else
 (ix a0.Roots a1).bind λv2=>
 (W3 a0 a2).bind λv3=>
 (app 8 [] a0.Roots).bind λv4=>
 (ix v4 a1).bind λv5=>
 (E8 (⟨v3.S,(v4.set (a1).toNat a2),v3.a7,v3.T,v3.Q⟩:g5) v2).bind λv6=>
 some (v6,0)
def a8r(a0:g5)(a1:Int):Option Int:=
 if ((decide (a1<0))||(decide (a1 > 5))) then
  some 0
 else
 (ix a0.Roots a1).bind λv1=>
 (a1z a0 v1).bind λv2=>
 some v2
def a6E(a0:List k8)(a1:Int):Option (Int × Int):=
 if ((decide (a1<0))||(decide (a1≥(a0.length:Int)))) then
  some (0,7)
 else
 (ix a0 a1).bind λv1=>
 if ((v1.Target==0)||(!v1.Intact)) then
  some (0,9)
 else
 some (v1.Target,0)
def a9x(a0:List j4)(a1:Int):Option (Int × Int):=
 (a7j a0 a1).bind λv1=>
 some (v1.1,v1.2)
def a0D(a0:g5)(a1:C0):Option (Int × Int):=
 if (a1.Kind==2) then
  (ix a0.Roots a1.B).bind λv1=>
  some (v1,0)
 else
 if (a1.Kind==4) then
  (P1 a0 a1.B).bind λv2=>
  if (v2.2 != 0) then
   some (0,v2.2)
  else
  (a1w a0.S v2.1 a1.C).bind λv3=>
  some (v3.1,v3.2)
 else
 if (a1.Kind==7) then
  (a6E a0.a7 a1.B).bind λv4=>
  some (v4.1,v4.2)
 else
 if (a1.Kind==9) then
  (P1 a0 a1.B).bind λv5=>
  if (v5.2 != 0) then
   some (0,v5.2)
  else
  (a9x a0.T v5.1).bind λv6=>
  some (v6.1,v6.2)
 else
 some (0,0)
def A6(a0:g5)(a1:C0):Option (g5 × Int × Int):=
 (a7m a1).bind λv1=>
 if (v1 != 0) then
  some (a0,0,v1)
 else
 (a0C a1).bind λv2=>
 if (!v2) then
  some (a0,0,14)
 else
 if (a1.Kind==10) then
  (ix a0.Roots a1.A).bind λv3=>
  (ix a0.Roots a1.B).bind λv4=>
  if (v3==v4) then
   some (a0,1,0)
  else
  some (a0,0,0)
 else
 jn (λ(j6:Bool)=>
  if j6 then
   (Y5 a0 a1).bind λv7=>
   if (v7.2.2 != 0) then
    some (a0,0,v7.2.2)
   else
   (R1 v7.1).bind λv8=>
   (a1z a0 v7.2.1).bind λv9=>
   some (v8,v9,0)
  else
  if (a1.Kind==1) then
   (a04 a0.S a1.B a1.C).bind λv10=>
   if (v10.2.2 != 0) then
    some (a0,0,v10.2.2)
   else
   (a17 (⟨v10.1,a0.Roots,a0.a7,a0.T,a0.Q⟩:g5) a1.A v10.2.1).bind λv11=>
   (R1 v11.1).bind λv12=>
   (a8r v12 a1.A).bind λv13=>
   some (v12,v13,0)
  else
  (a0D a0 a1).bind λv14=>
  if (v14.2 != 0) then
   some (a0,0,v14.2)
  else
  (a17 a0 a1.A v14.1).bind λv15=>
  (R1 v15.1).bind λv16=>
  (a8r v16 a1.A).bind λv17=>
  some (v16,v17,0)) (λκ5=>
  if (a1.Kind==5) then
   κ5 (a1.Kind==5)
  else
  if (a1.Kind==6) then
   κ5 (a1.Kind==6)
  else
  κ5 (a1.Kind==8))
def a9B(a0:g5)(a1:List C0):Option (g5 × (List Int)):=
 jn (λ((j11,j12):g5 × (List Int))=>
  some (j11,j12)) (λκ10=>
  (lp (S:=Int × g5 × (List Int)) (E:=(g5 × (List Int))) (λ((s15,s16,s17):Int × g5 × (List Int))=>
   if (decide (s15<(a1.length:Int))) then
    (ix a1 s15).bind λv20=>
    (A6 s16 v20).bind λv21=>
    (app 8 s17 [v21.2.1]).bind λv22=>
    some (.inl (w7 (s15+1),v21.1,v22))
   else
   some (.inr (s16,s17))) (0,a0,[])).bind λe14=>
  κ10 e14)
def a7z(a0:a8):Option Bool:=
 jn (λ(_:Unit)=>
  some (decide ((a0.S.a7.length:Int)≤30))) (λκ5=>
  (lp (S:=Int) (E:=Bool ⊕ Unit) (λ(s8:Int)=>
   if ((decide (s8<(a0.S.a7.length:Int)))&&(decide (s8<30))) then
    (ix a0.S.a7 s8).bind λv10=>
    if (decide ((v10.Val.Fields.length:Int) > 10)) then
     some (.inr (.inl false))
    else
    some (.inl (w7 (s8+1)))
   else
   some (.inr (.inr ()))) 0).bind λe7=>
  match e7 with
  | .inl w=>some w
  | .inr w=>κ5 w)
def a90(a0:b9):Option Bool:=
 (a7z a0.S).bind λv1=>
 some ((((v1&&(decide ((a0.Roots.length:Int)≤20)))&&(decide ((a0.a7.length:Int)≤20)))&&(decide ((a0.T.length:Int)≤20)))&&(decide ((a0.Q.L.length:Int)≤60)))
def b15(a0:l4):Option A0:=
 some (⟨a0.Serial,a0.Strong,a0.Weak,a0.Prog,a0.Started,a0.Fields⟩:A0)
def b14(a0:a8):Option k9:=
 jn (λ(j10:List l6)=>
  some (⟨j10,a0.S.Last,a0.Serial⟩:k9)) (λκ9=>
  (lp (S:=Int × (List l6)) (E:=(List l6)) (λ((s12,s13):Int × (List l6))=>
   if (decide (s12<(a0.S.a7.length:Int))) then
    (ix a0.S.a7 s12).bind λv16=>
    (b15 v16.Val).bind λv17=>
    (app 80 s13 [(⟨v16.State,v16.Gen,v17⟩:l6)]).bind λv18=>
    some (.inl (w7 (s12+1),v18))
   else
   some (.inr s13)) (0,[])).bind λe11=>
  κ9 e11)
def a7y(a0:List c9):Option (List k8):=
 jn (λ(j9:List k8)=>
  some j9) (λκ8=>
  (lp (S:=Int × (List k8)) (E:=(List k8)) (λ((s11,s12):Int × (List k8))=>
   if (decide (s11<(a0.length:Int))) then
    (ix a0 s11).bind λv15=>
    (app 24 s12 [(⟨v15.Target,v15.Intact,v15.Call⟩:k8)]).bind λv16=>
    some (.inl (w7 (s11+1),v16))
   else
   some (.inr s12)) (0,[])).bind λe10=>
  κ8 e10)
def b17(a0:List c5):Option (List j4):=
 jn (λ(j9:List j4)=>
  some j9) (λκ8=>
  (lp (S:=Int × (List j4)) (E:=(List j4)) (λ((s11,s12):Int × (List j4))=>
   if (decide (s11<(a0.length:Int))) then
    (ix a0 s11).bind λv15=>
    (app 24 s12 [(⟨v15.State,v15.Key,v15.Val⟩:j4)]).bind λv16=>
    some (.inl (w7 (s11+1),v16))
   else
   some (.inr s12)) (0,[])).bind λe10=>
  κ8 e10)
def a7A(a0:g9):Option r9:=
 jn (λ(j9:List p6)=>
  some (⟨j9,a0.Cap⟩:r9)) (λκ8=>
  (lp (S:=Int × (List p6)) (E:=(List p6)) (λ((s11,s12):Int × (List p6))=>
   if (decide (s11<(a0.L.length:Int))) then
    (ix a0.L s11).bind λv15=>
    (app 24 s12 [(⟨v15.Kind,v15.At,v15.Prog⟩:p6)]).bind λv16=>
    some (.inl (w7 (s11+1),v16))
   else
   some (.inr s12)) (0,[])).bind λe10=>
  κ8 e10)
def a4Q(a0:b9):Option g5:=
 (b14 a0.S).bind λv1=>
 (a7y a0.a7).bind λv2=>
 (b17 a0.T).bind λv3=>
 (a7A a0.Q).bind λv4=>
 some (⟨v1,a0.Roots,v2,v3,v4⟩:g5)
def a14(a0:List Int)(a1:List Int):Option Bool:=
 if ((a0.length:Int) != (a1.length:Int)) then
  some false
 else
 jn (λ(_:Unit)=>
  some true) (λκ6=>
  (lp (S:=Int) (E:=Bool ⊕ Unit) (λ(s9:Int)=>
   if (decide (s9<(a0.length:Int))) then
    (ix a0 s9).bind λv11=>
    (ix a1 s9).bind λv12=>
    if (v11 != v12) then
     some (.inr (.inl false))
    else
    some (.inl (w7 (s9+1)))
   else
   some (.inr (.inr ()))) 0).bind λe8=>
  match e8 with
  | .inl w=>some w
  | .inr w=>κ6 w)
def a4E(a0:A0)(a1:A0):Option Bool:=
 (p7 ((((((a0.Serial==a1.Serial)&&(a0.Strong==a1.Strong))&&(a0.Weak==a1.Weak))&&(a0.Prog==a1.Prog))&&(a0.Started==a1.Started))==true) false (a14 a0.Fields a1.Fields)).bind λv1=>
 some ((((((a0.Serial==a1.Serial)&&(a0.Strong==a1.Strong))&&(a0.Weak==a1.Weak))&&(a0.Prog==a1.Prog))&&(a0.Started==a1.Started))&&v1)
def a9s(a0:k9)(a1:k9):Option Bool:=
 if (((a0.Last != a1.Last)||(a0.Serial != a1.Serial))||((a0.a7.length:Int) != (a1.a7.length:Int))) then
  some false
 else
 jn (λ(_:Unit)=>
  some true) (λκ7=>
  (lp (S:=Int) (E:=Bool ⊕ Unit) (λ(s10:Int)=>
   if (decide (s10<(a0.a7.length:Int))) then
    (ix a0.a7 s10).bind λv12=>
    (ix a1.a7 s10).bind λv13=>
    (p7 (((v12.State != v13.State)||(v12.Gen != v13.Gen))==false) false (a4E v12.Val v13.Val)).bind λv14=>
    if (((v12.State != v13.State)||(v12.Gen != v13.Gen))||(!v14)) then
     some (.inr (.inl false))
    else
    some (.inl (w7 (s10+1)))
   else
   some (.inr (.inr ()))) 0).bind λe9=>
  match e9 with
  | .inl w=>some w
  | .inr w=>κ7 w)
def a9u(a0:List k8)(a1:List k8):Option Bool:=
 if ((a0.length:Int) != (a1.length:Int)) then
  some false
 else
 jn (λ(_:Unit)=>
  some true) (λκ6=>
  (lp (S:=Int) (E:=Bool ⊕ Unit) (λ(s9:Int)=>
   if (decide (s9<(a0.length:Int))) then
    (ix a0 s9).bind λv11=>
    (ix a1 s9).bind λv12=>
    if (!((v11.Target==v12.Target)&&((v11.Intact==v12.Intact)&&((v11.Call==v12.Call)&&true)))) then
     some (.inr (.inl false))
    else
    some (.inl (w7 (s9+1)))
   else
   some (.inr (.inr ()))) 0).bind λe8=>
  match e8 with
  | .inl w=>some w
  | .inr w=>κ6 w)
def a9w(a0:List j4)(a1:List j4):Option Bool:=
 if ((a0.length:Int) != (a1.length:Int)) then
  some false
 else
 jn (λ(_:Unit)=>
  some true) (λκ6=>
  (lp (S:=Int) (E:=Bool ⊕ Unit) (λ(s9:Int)=>
   if (decide (s9<(a0.length:Int))) then
    (ix a0 s9).bind λv11=>
    (ix a1 s9).bind λv12=>
    if (!((v11.State==v12.State)&&((v11.Key==v12.Key)&&((v11.Val==v12.Val)&&true)))) then
     some (.inr (.inl false))
    else
    some (.inl (w7 (s9+1)))
   else
   some (.inr (.inr ()))) 0).bind λe8=>
  match e8 with
  | .inl w=>some w
  | .inr w=>κ6 w)
def a9z(a0:r9)(a1:r9):Option Bool:=
 if ((a0.Cap != a1.Cap)||((a0.L.length:Int) != (a1.L.length:Int))) then
  some false
 else
 jn (λ(_:Unit)=>
  some true) (λκ6=>
  (lp (S:=Int) (E:=Bool ⊕ Unit) (λ(s9:Int)=>
   if (decide (s9<(a0.L.length:Int))) then
    (ix a0.L s9).bind λv11=>
    (ix a1.L s9).bind λv12=>
    if (!((v11.Kind==v12.Kind)&&((v11.At==v12.At)&&((v11.Prog==v12.Prog)&&true)))) then
     some (.inr (.inl false))
    else
    some (.inl (w7 (s9+1)))
   else
   some (.inr (.inr ()))) 0).bind λe8=>
  match e8 with
  | .inl w=>some w
  | .inr w=>κ6 w)
def a9A(a0:g5)(a1:g5):Option Bool:=
 (a9s a0.S a1.S).bind λv1=>
 (p7 (v1==true) false (a14 a0.Roots a1.Roots)).bind λv2=>
 (p7 ((v1&&v2)==true) false (a9u a0.a7 a1.a7)).bind λv3=>
 (p7 (((v1&&v2)&&v3)==true) false (a9w a0.T a1.T)).bind λv4=>
 (p7 ((((v1&&v2)&&v3)&&v4)==true) false (a9z a0.Q a1.Q)).bind λv5=>
 some ((((v1&&v2)&&v3)&&v4)&&v5)
def a2p(a0:Int)(a1:Int)(a2:Int)(a3:List code_Op):Option Bool:=
 (a1Y a0 a1 a2).bind λv1=>
 (p7 (((decide ((a3.length:Int) > 60))||((v1.Roots.length:Int)==0))==false) false a4R).bind λv2=>
 if (((decide ((a3.length:Int) > 60))||((v1.Roots.length:Int)==0))||(!v2)) then
  (a4R).bind λv3=>
  some v3
 else
 (a0A v1 a3).bind λv4=>
 (b1X a0 a1 a2).bind λv5=>
 (b16 a3).bind λv6=>
 (a9B v5 v6).bind λv7=>
 (a90 v4.1).bind λv8=>
 (p7 (v8==true) ⟨⟨[],0,0⟩,[],[],[],⟨[],0⟩⟩ (a4Q v4.1)).bind λv9=>
 (p7 (v8==true) false (a9A v9 v7.1)).bind λv10=>
 (p7 ((v8&&v10)==true) false (a14 v4.2 v7.2)).bind λv11=>
 some ((v8&&v10)&&v11)
def b0v(a0:s6):Option Bool:=
 if (((decide ((a0.a7.length:Int) > 24))||(decide (a0.Last<0)))||(decide (a0.Last > 9))) then
  some false
 else
 jn (λ(_:Unit)=>
  some true) (λκ5=>
  (lp (S:=Int) (E:=Bool ⊕ Unit) (λ(s8:Int)=>
   if (decide (s8<(a0.a7.length:Int))) then
    (ix a0.a7 s8).bind λv10=>
    if ((((decide (v10.State<0))||(decide (v10.State > 3)))||(decide (v10.Gen<0)))||(decide (v10.Gen > a0.Last))) then
     some (.inr (.inl false))
    else
    some (.inl (w7 (s8+1)))
   else
   some (.inr (.inr ()))) 0).bind λe7=>
  match e7 with
  | .inl w=>some w
  | .inr w=>κ5 w)
def a7h(a0:l6):Option Bool:=
 some ((a0.State==1)||(a0.State==2))
def b0x(a0:k9):Option Bool:=
 (J4 a0).bind λv1=>
 (b0v v1).bind λv2=>
 if ((!v2)||(decide (a0.Serial<0))) then
  some false
 else
 jn (λ(_:Unit)=>
  some true) (λκ22=>
  (lp (S:=Int) (E:=Bool ⊕ Unit) (λ(s25:Int)=>
   if (decide (s25<(a0.a7.length:Int))) then
    jn (λ(_:Unit)=>
     some (.inl (w7 (s25+1)))) (λκ34=>
     (ix a0.a7 s25).bind λv36=>
     (a7h v36).bind λv37=>
     if (!v37) then
      if ((((((v36.Val.Serial != 0)||(v36.Val.Strong != 0))||(v36.Val.Weak != 0))||(v36.Val.Prog != 0))||v36.Val.Started)||((v36.Val.Fields.length:Int) != 0)) then
       some (.inr (.inl false))
      else
      κ34 ()
     else
     if (((((((decide (v36.Val.Serial<1))||(decide (v36.Val.Serial > a0.Serial)))||(decide (v36.Val.Strong<0)))||(decide (v36.Val.Weak<0)))||(decide (v36.Val.Prog<(-1))))||(decide (v36.Val.Prog > 5)))||(decide ((v36.Val.Fields.length:Int) > 4))) then
      some (.inr (.inl false))
     else
     (lp (S:=Int) (E:=Bool ⊕ Unit) (λ(s39:Int)=>
      if (decide (s39<s25)) then
       (ix a0.a7 s39).bind λv41=>
       (a7h v41).bind λv42=>
       if (v42&&(v41.Val.Serial==v36.Val.Serial)) then
        some (.inr (.inl false))
       else
       some (.inl (w7 (s39+1)))
      else
      some (.inr (.inr ()))) 0).bind λe38=>
     match e38 with
     | .inl w=>some (.inr (.inl w))
     | .inr w=>κ34 w)
   else
   some (.inr (.inr ()))) 0).bind λe24=>
  match e24 with
  | .inl w=>some w
  | .inr w=>κ22 w)
def b0y(a0:List j4):Option Bool:=
 if ((decide ((a0.length:Int)<1))||(decide ((a0.length:Int) > 8))) then
  some false
 else
 jn (λ(_:Unit)=>
  some true) (λκ22=>
  (lp (S:=Int) (E:=Bool ⊕ Unit) (λ(s25:Int)=>
   if (decide (s25<(a0.length:Int))) then
    jn (λ(_:Unit)=>
     some (.inl (w7 (s25+1)))) (λκ35=>
     (ix a0 s25).bind λv37=>
     if (((decide (v37.State<0))||(decide (v37.State > 2)))||((v37.State != 1)&&((v37.Key != 0)||(v37.Val != 0)))) then
      some (.inr (.inl false))
     else
     if (v37.State != 1) then
      κ35 ()
     else
     (a0d a0 v37.Key).bind λv38=>
     if (v38 != s25) then
      some (.inr (.inl false))
     else
     (a9v (a0.length:Int) v37.Key).bind λv39=>
     (lp (S:=Int) (E:=Bool ⊕ Unit) (λ(s41:Int)=>
      if (s41 != s25) then
       (ix a0 s41).bind λv43=>
       if (v43.State==0) then
        some (.inr (.inl false))
       else
       (rem (w7 (s41+1)) (a0.length:Int)).bind λv44=>
       some (.inl v44)
      else
      some (.inr (.inr ()))) v39).bind λe40=>
     match e40 with
     | .inl w=>some (.inr (.inl w))
     | .inr w=>κ35 w)
   else
   some (.inr (.inr ()))) 0).bind λe24=>
  match e24 with
  | .inl w=>some w
  | .inr w=>κ22 w)
def b0G(a0:g5):Option Bool:=
 jn (λ(_:Unit)=>
  some ((a0.Q.Cap==30)&&(decide ((a0.Q.L.length:Int)≤30)))) (λκ30=>
  (lp (S:=Int) (E:=Bool ⊕ Unit) (λ(s33:Int)=>
   if (decide (s33<(a0.Q.L.length:Int))) then
    jn (λ(_:Unit)=>
     some (.inl (w7 (s33+1)))) (λκ47=>
     (ix a0.Q.L s33).bind λv49=>
     if ((((v49.Kind != 1)&&(v49.Kind != 2))||(decide (v49.Prog<0)))||(decide (v49.Prog > 5))) then
      some (.inr (.inl false))
     else
     jn (λ(_:Unit)=>
      (D9 a0.S v49.At).bind λv56=>
      if (((v49.Kind==1)&&((v56.2 != 0)||(!v56.1.Started)))||((v49.Kind==2)&&((decide (v49.At<0))||(decide (v49.At > 5))))) then
       some (.inr (.inl false))
      else
      κ47 ()) (λκ54=>
      (lp (S:=Int) (E:=Bool ⊕ Unit) (λ(s58:Int)=>
       if (decide (s58<s33)) then
        (ix a0.Q.L s58).bind λv60=>
        if ((v60.Kind==v49.Kind)&&(v60.At==v49.At)) then
         some (.inr (.inl false))
        else
        some (.inl (w7 (s58+1)))
       else
       some (.inr (.inr ()))) 0).bind λe57=>
      match e57 with
      | .inl w=>some (.inr (.inl w))
      | .inr w=>κ54 w))
   else
   some (.inr (.inr ()))) 0).bind λe32=>
  match e32 with
  | .inl w=>some w
  | .inr w=>κ30 w)
def b22(a0:List j4):Option (List Int):=
 jn (λ(j13:List Int)=>
  some j13) (λκ12=>
  (lp (S:=Int × (List Int)) (E:=(List Int)) (λ((s15,s16):Int × (List Int))=>
   if (decide (s15<(a0.length:Int))) then
    jn (λ(j22:List Int)=>
     some (.inl (w7 (s15+1),j22))) (λκ21=>
     (ix a0 s15).bind λv23=>
     if (v23.State==1) then
      (app 8 s16 [v23.Key]).bind λv24=>
      κ21 v24
     else
     κ21 s16)
   else
   some (.inr s16)) (0,[])).bind λe14=>
  κ12 e14)
def a7k(a0:List j4):Option (List W2):=
 (b22 a0).bind λv1=>
 jn (λ(j11:List W2)=>
  some j11) (λκ10=>
  (lp (S:=Int × (List W2)) (E:=(List W2)) (λ((s13,s14):Int × (List W2))=>
   if (decide (s13<(v1.length:Int))) then
    (ix v1 s13).bind λv17=>
    (a7j a0 v17).bind λv18=>
    (app 16 s14 [(⟨v17,v18.1⟩:W2)]).bind λv19=>
    some (.inl (w7 (s13+1),v19))
   else
   some (.inr s14)) (0,[])).bind λe12=>
  κ10 e12)
def b0F(a0:g5):Option Bool:=
 jn (λ(_:Unit)=>
  (a15 a0.S).bind λv8=>
  jn (λ(_:Unit)=>
   (a7k a0.T).bind λv30=>
   jn (λ(_:Unit)=>
    some true) (λκ37=>
    (lp (S:=Int) (E:=Bool ⊕ Unit) (λ(s40:Int)=>
     if (decide (s40<(v30.length:Int))) then
      (ix v30 s40).bind λv42=>
      (T3 a0 v42.Key).bind λv43=>
      (p7 ((!v43)==false) false (T3 a0 v42.Val)).bind λv44=>
      if ((!v43)||(!v44)) then
       some (.inr (.inl false))
      else
      some (.inl (w7 (s40+1)))
     else
     some (.inr (.inr ()))) 0).bind λe39=>
    match e39 with
    | .inl w=>some w
    | .inr w=>κ37 w)) (λκ28=>
   (lp (S:=Int) (E:=Bool ⊕ Unit) (λ(s46:Int)=>
    if (decide (s46<(v8.length:Int))) then
     jn (λ(_:Unit)=>
      some (.inl (w7 (s46+1)))) (λκ55=>
      (ix v8 s46).bind λv57=>
      (D9 a0.S v57).bind λv58=>
      (lp (S:=Int) (E:=Bool ⊕ Unit) (λ(s60:Int)=>
       if (decide (s60<(v58.1.Fields.length:Int))) then
        (ix v58.1.Fields s60).bind λv62=>
        (T4 a0 v62).bind λv63=>
        if (!v63) then
         some (.inr (.inl false))
        else
        some (.inl (w7 (s60+1)))
       else
       some (.inr (.inr ()))) 0).bind λe59=>
      match e59 with
      | .inl w=>some (.inr (.inl w))
      | .inr w=>κ55 w)
    else
    some (.inr (.inr ()))) 0).bind λe45=>
   match e45 with
   | .inl w=>some w
   | .inr w=>κ28 w)) (λκ6=>
  (lp (S:=Int) (E:=Bool ⊕ Unit) (λ(s65:Int)=>
   if (decide (s65<(a0.Roots.length:Int))) then
    (ix a0.Roots s65).bind λv67=>
    (T4 a0 v67).bind λv68=>
    if (!v68) then
     some (.inr (.inl false))
    else
    some (.inl (w7 (s65+1)))
   else
   some (.inr (.inr ()))) 0).bind λe64=>
  match e64 with
  | .inl w=>some w
  | .inr w=>κ6 w)
def b0E(a0:g5):Option Bool:=
 jn (λ(_:Unit)=>
  some true) (λκ9=>
  (lp (S:=Int) (E:=Bool ⊕ Unit) (λ(s12:Int)=>
   if (decide (s12<(a0.a7.length:Int))) then
    (ix a0.a7 s12).bind λv14=>
    (J4 a0.S).bind λv15=>
    (K5 v15 v14.Target).bind λv16=>
    (p7 ((((((decide (v14.Call<(-1)))||(decide (v14.Call > 5)))||((v14.Target==0)&&v14.Intact))||((v14.Target != 0)&&(v16.2 != 0)))==false)&&(v14.Intact==true)) false (T3 a0 v14.Target)).bind λv17=>
    (p7 (((((((decide (v14.Call<(-1)))||(decide (v14.Call > 5)))||((v14.Target==0)&&v14.Intact))||((v14.Target != 0)&&(v16.2 != 0)))==false)&&(v14.Intact==true))&&((!v17)==false)) false (a1y a0.Q s12)).bind λv18=>
    if (((((decide (v14.Call<(-1)))||(decide (v14.Call > 5)))||((v14.Target==0)&&v14.Intact))||((v14.Target != 0)&&(v16.2 != 0)))||(v14.Intact&&((!v17)||v18))) then
     some (.inr (.inl false))
    else
    some (.inl (w7 (s12+1)))
   else
   some (.inr (.inr ()))) 0).bind λe11=>
  match e11 with
  | .inl w=>some w
  | .inr w=>κ9 w)
def b2Y(a0:Int)(a1:Int):Option Int:=
 (a13 a0 a1).bind λv1=>
 some v1
def a8q(a0:List k8)(a1:Int):Option Int:=
 jn (λ(j11:Int)=>
  some j11) (λκ10=>
  (lp (S:=Int × Int) (E:=Int) (λ((s13,s14):Int × Int)=>
   if (decide (s14<(a0.length:Int))) then
    jn (λ(j19:Int)=>
     some (.inl (j19,w7 (s14+1)))) (λκ18=>
     (ix a0 s14).bind λv20=>
     if ((v20.Target==a1)&&(a1 != 0)) then
      κ18 (w7 (s13+1))
     else
     κ18 s13)
   else
   some (.inr s13)) (0,0)).bind λe12=>
  κ10 e12)
def b0H(a0:g5):Option Bool:=
 jn (λ(_:Unit)=>
  some true) (λκ12=>
  (lp (S:=Int) (E:=Bool ⊕ Unit) (λ(s15:Int)=>
   if (decide (s15<(a0.S.a7.length:Int))) then
    jn (λ(_:Unit)=>
     some (.inl (w7 (s15+1)))) (λκ20=>
     (ix a0.S.a7 s15).bind λv22=>
     if ((v22.State != 1)&&(v22.State != 2)) then
      κ20 ()
     else
     (b2Y s15 v22.Gen).bind λv23=>
     (a8q a0.a7 v23).bind λv24=>
     if ((v22.Val.Weak != v24)||((v22.State==2)&&(((decide (v22.Val.Weak<1))||(decide ((v22.Val.Fields.length:Int) > 0)))||(v22.Val.Strong != 0)))) then
      some (.inr (.inl false))
     else
     κ20 ())
   else
   some (.inr (.inr ()))) 0).bind λe14=>
  match e14 with
  | .inl w=>some w
  | .inr w=>κ12 w)
def a9y(a0:r9):Option (List Int):=
 jn (λ(j13:List Int)=>
  some j13) (λκ12=>
  (lp (S:=Int × (List Int)) (E:=(List Int)) (λ((s15,s16):Int × (List Int))=>
   if (decide (s15<(a0.L.length:Int))) then
    jn (λ(j22:List Int)=>
     some (.inl (w7 (s15+1),j22))) (λκ21=>
     (ix a0.L s15).bind λv23=>
     if (v23.Kind==1) then
      (app 8 s16 [v23.At]).bind λv24=>
      κ21 v24
     else
     κ21 s16)
   else
   some (.inr s16)) (0,[])).bind λe14=>
  κ12 e14)
def b0C(a0:g5):Option (List Int):=
 jn (λ(j13:List Int)=>
  (a9y a0.Q).bind λv14=>
  (app 8 j13 v14).bind λv15=>
  some v15) (λκ12=>
  (lp (S:=Int × (List Int)) (E:=(List Int)) (λ((s17,s18):Int × (List Int))=>
   if (decide (s17<(a0.Roots.length:Int))) then
    jn (λ(j24:List Int)=>
     some (.inl (w7 (s17+1),j24))) (λκ23=>
     (ix a0.Roots s17).bind λv25=>
     if (v25 != 0) then
      (app 8 s18 [v25]).bind λv26=>
      κ23 v26
     else
     κ23 s18)
   else
   some (.inr s18)) (0,[])).bind λe16=>
  κ12 e16)
def b0B(a0:k9)(a1:Int):Option Bool:=
 (D9 a0 a1).bind λv1=>
 (Y4 v1.1.Strong).bind λv2=>
 some v2
def b5t(a0:k9)(a1:Int):Option (List Int):=
 (D9 a0 a1).bind λv1=>
 if (v1.2 != 0) then
  some []
 else
 (a1v v1.1.Fields).bind λv2=>
 some v2
def b8w(a0:k9)(a1:Int):Option Int:=
 (a15 a0).bind λv1=>
 jn (λ(j11:Int)=>
  some j11) (λκ10=>
  (lp (S:=Int × Int) (E:=Int) (λ((s13,s14):Int × Int)=>
   if (decide (s14<(v1.length:Int))) then
    (ix v1 s14).bind λv17=>
    (b5t a0 v17).bind λv18=>
    (a0B v18 a1).bind λv19=>
    some (.inl (w7 (s13+v19),w7 (s14+1)))
   else
   some (.inr s13)) (0,0)).bind λe12=>
  κ10 e12)
def b0z(a0:List j4)(a1:Int):Option Int:=
 (a7k a0).bind λv1=>
 jn (λ(j12:Int)=>
  some j12) (λκ11=>
  (lp (S:=Int × Int) (E:=Int) (λ((s14,s15):Int × Int)=>
   if (decide (s15<(v1.length:Int))) then
    jn (λ(j20:Int)=>
     some (.inl (j20,w7 (s15+1)))) (λκ19=>
     (ix v1 s15).bind λv21=>
     if ((v21.Val==a1)&&(a1 != 0)) then
      κ19 (w7 (s14+1))
     else
     κ19 s14)
   else
   some (.inr s14)) (0,0)).bind λe13=>
  κ11 e13)
def b0A(a0:k9)(a1:List j4)(a2:Int):Option Int:=
 (b8w a0 a2).bind λv1=>
 (b0z a1 a2).bind λv2=>
 some (w7 (v1+v2))
def b25(a0:k9)(a1:List j4)(a2:Int):Option Int:=
 (D9 a0 a2).bind λv1=>
 if (v1.2 != 0) then
  some 0
 else
 (b0A a0 a1 a2).bind λv2=>
 some (w7 (v1.1.Strong-v2))
def b24(a0:k9)(a1:List j4)(a2:List Int):Option Bool:=
 (a15 a0).bind λv1=>
 jn (λ(_:Unit)=>
  some true) (λκ9=>
  (lp (S:=Int) (E:=Bool ⊕ Unit) (λ(s12:Int)=>
   if (decide (s12<(v1.length:Int))) then
    (ix v1 s12).bind λv14=>
    (b0B a0 v14).bind λv15=>
    (p7 ((!v15)==true) 0 (b25 a0 a1 v14)).bind λv16=>
    (p7 ((!v15)==true) 0 (a0B a2 v14)).bind λv17=>
    if ((!v15)&&(v16 != v17)) then
     some (.inr (.inl false))
    else
    some (.inl (w7 (s12+1)))
   else
   some (.inr (.inr ()))) 0).bind λe11=>
  match e11 with
  | .inl w=>some w
  | .inr w=>κ9 w)
def b0D(a0:g5):Option Bool:=
 (b0x a0.S).bind λv1=>
 (p7 ((!v1)==false) false (b0y a0.T)).bind λv2=>
 if ((((!v1)||(!v2))||((a0.Roots.length:Int) != 6))||((a0.a7.length:Int) != 6)) then
  some false
 else
 (b0G a0).bind λv3=>
 (p7 (v3==true) false (b0F a0)).bind λv4=>
 (p7 ((v3&&v4)==true) false (b0E a0)).bind λv5=>
 (p7 (((v3&&v4)&&v5)==true) false (b0H a0)).bind λv6=>
 (p7 ((((v3&&v4)&&v5)&&v6)==true) [] (b0C a0)).bind λv7=>
 (p7 ((((v3&&v4)&&v5)&&v6)==true) false (b24 a0.S a0.T v7)).bind λv8=>
 some ((((v3&&v4)&&v5)&&v6)&&v8)
def c5C(a0:g5):Option Bool:=
 (a3h a0).bind λv1=>
 some ((v1.length:Int)==0)
end
end Go.Sh
