/-
 Plain functions: what the functions of the program come to.
-/
import Derived.Test.YtlkcpapbolbjnaaGreatO19rSh0
import Derived.Test.YtlkcpapbolbjnaaGreatO19rPwD
set_option linter.unusedVariables false
set_option linter.unusedSimpArgs false
set_option linter.unusedSectionVars false
namespace Go.Sh
set_option maxRecDepth 100000
noncomputable section
structure k9 where
 Serial:Int
 Strong:Int
 Weak:Int
 Prog:Int
 Started:Bool
 Fields:List Int
structure b7 where
 State:Int
 Gen:Int
 Val:k9
structure c4 where
 Target:Int
 Intact:Bool
 Call:Int
structure b8 where
 State:Int
 Key:Int
 Val:Int
structure g7 where
 Kind:Int
 At:Int
 Prog:Int
instance:BEq g7:=⟨λa b=>((a.Kind==b.Kind)&&((a.At==b.At)&&((a.Prog==b.Prog)&&true)))⟩
theorem g7.beq_eq(a b:g7)(h:(a==b)=true):a=b:=by
 have h:((a.Kind==b.Kind)&&((a.At==b.At)&&((a.Prog==b.Prog)&&true)))=true:=h
 simp only[Bool.and_eq_true,beq_iff_eq,and_true] at h
 obtain⟨h0,h1,h2⟩:=h
 cases a;cases b;simp_all
structure c7 where
 a8:List b7
 Last:Int
structure a7 where
 S:c7
 Serial:Int
structure c9 where
 L:List g7
 Cap:Int
structure b6 where
 S:a7
 Roots:List Int
 a8:List c4
 T:List b8
 Q:c9
structure k8 where
 Kind:Int
 A:Int
 B:Int
 C:Int
structure e6 where
 part:Fv
 least:Int
 most:Int
 e:Int
structure n7 where
 x:b6
 o:k8
structure F5 where
 r:Int
 h:Int
structure D7 where
 h:Int
 k:Int
 v:Int
structure F4 where
 t:List b8
structure l5 where
 Key:Int
 Val:Int
structure g9 where
 L:List Int
 Cap:Int
structure z6 where
 kept:Fv
structure D9 where
 Serial:Int
 Strong:Int
 Weak:Int
 Prog:Int
 Started:Bool
 Fields:List Int
structure B9 where
 State:Int
 Gen:Int
 Val:D9
structure m8 where
 a8:List B9
 Last:Int
 Serial:Int
structure E2 where
 Target:Int
 Intact:Bool
 Call:Int
structure n9 where
 State:Int
 Key:Int
 Val:Int
structure E3 where
 Kind:Int
 At:Int
 Prog:Int
structure z8 where
 L:List E3
 Cap:Int
structure g5 where
 S:m8
 Roots:List Int
 a8:List E2
 T:List n9
 Q:z8
structure E1 where
 State:Int
 Gen:Int
 Val:Int
structure D1 where
 a8:List E1
 Last:Int
structure X4 where
 Key:Int
 Val:Int
structure X5 where
 Kind:Int
 A:Int
 B:Int
 C:Int
def a0I(a0:Int)(a1:Int):Option c7:=
 if ((((decide (a0<0))||(decide (a0 > 24)))||(decide (a1<0)))||(decide (a1 > 9))) then
  some (⟨[],0⟩:c7)
 else
 (mk 80 a0 (⟨0,0,⟨0,0,0,0,false,[]⟩⟩:b7)).bind λv1=>
 some (⟨v1,a1⟩:c7)
def a7Q(a0:Int)(a1:Int):Option a7:=
 (a0I a0 a1).bind λv1=>
 some (⟨v1,0⟩:a7)
def b7C(a0:Int):Option (List c4):=
 if ((decide (a0<0))||(decide (a0 > 6))) then
  some []
 else
 (mk 24 a0 (⟨0,false,0⟩:c4)).bind λv1=>
 jn (λ(j9:List c4)=>
  some j9) (λκ8=>
  (lp (S:=Int × (List c4)) (E:=(List c4)) (λ((s11,s12):Int × (List c4))=>
   if (decide (s11<(v1.length:Int))) then
    (ix s12 s11).bind λv15=>
    some (.inl (p6 (s11+1),(s12.set (s11).toNat (⟨v15.Target,v15.Intact,(-1)⟩:c4))))
   else
   some (.inr s12)) (0,v1)).bind λe10=>
  κ8 e10)
def a9x(a0:Int):Option (List b8):=
 if ((decide (a0<1))||(decide (a0 > 8))) then
  some []
 else
 (mk 24 a0 (⟨0,0,0⟩:b8)).bind λv1=>
 some v1
def a0d(a0:Int):Option c9:=
 some (⟨[],a0⟩:c9)
def b0c:Option c9:=
 (a0d 30).bind λv1=>
 some v1
def a4K(a0:Int)(a1:Int)(a2:Int):Option b6:=
 if ((((((decide (a0<1))||(decide (a0 > 24)))||(decide (a1<0)))||(decide (a1 > 9)))||(decide (a2<1)))||(decide (a2 > 8))) then
  some (⟨⟨⟨[],0⟩,0⟩,[],[],[],⟨[],0⟩⟩:b6)
 else
 (a7Q a0 a1).bind λv1=>
 (mk 8 6 (0:Int)).bind λv2=>
 (b7C 6).bind λv3=>
 (a9x a2).bind λv4=>
 (b0c).bind λv5=>
 some (⟨v1,v2,v3,v4,v5⟩:b6)
def U4:Option e6:=
 some (⟨(some 307),0,5,6⟩:e6)
def M8:Option e6:=
 some (⟨(some 310),(-1),5,13⟩:e6)
def G2(a0:List e6):Option (List e6):=
 some a0
def U5:Option e6:=
 some (⟨(some 308),0,5,6⟩:e6)
def Q7:Option e6:=
 some (⟨(some 310),0,3,5⟩:e6)
def Q6:Option e6:=
 some (⟨(some 308),0,3,5⟩:e6)
def K0:Option e6:=
 some (⟨(some 310),(-1),5,6⟩:e6)
def U2:Option e6:=
 some (⟨(some 307),0,5,7⟩:e6)
def J9:Option e6:=
 some (⟨(some 308),(-1),5,6⟩:e6)
def U3:Option e6:=
 some (⟨(some 308),0,5,7⟩:e6)
def a5p:Option (List (Int × (List e6))):=
 (U4).bind λv1=>
 (M8).bind λv2=>
 (G2 [v1,(⟨(some 308),0,4,1⟩:e6),v2]).bind λv3=>
 (U5).bind λv4=>
 (G2 [v1,v4]).bind λv5=>
 (G2 [v1]).bind λv6=>
 (Q7).bind λv7=>
 (G2 [v1,v4,v7]).bind λv8=>
 (Q6).bind λv9=>
 (K0).bind λv10=>
 (G2 [v1,v9,v10]).bind λv11=>
 (U2).bind λv12=>
 (J9).bind λv13=>
 (G2 [v12,v13,v2]).bind λv14=>
 (U3).bind λv15=>
 (G2 [v1,v15]).bind λv16=>
 (G2 [v1,v13]).bind λv17=>
 (G2 []).bind λv18=>
 (G2 [(⟨(some 307),0,200,12⟩:e6)]).bind λv19=>
 some (m9 (m9 (m9 (m9 (m9 (m9 (m9 (m9 (m9 (m9 (m9 (m9 [] 1 v3) 2 v5) 3 v6) 4 v8) 5 v11) 6 v14) 7 v16) 8 v17) 9 v5) 10 v5) 11 v18) 12 v19)
def a8H(a0:k8):Option Int:=
 some a0.A
def a8I(a0:k8):Option Int:=
 some a0.B
def a8J(a0:k8):Option Int:=
 some a0.C
def a9p(f:Fv)(a0:k8):Option Int:=
 if f=some 307 then a8H a0 else
 if f=some 308 then a8I a0 else
 if f=some 310 then a8J a0 else
 none
def a3k(a0:k8):Option Int:=
 (a5p).bind λv1=>
 if (!((r8 v1 a0.Kind).isSome)) then
  some 14
 else
 jn (λ(_:Unit)=>
  some 0) (λκ8=>
  (lp (S:=Int) (E:=Int ⊕ Unit) (λ(s11:Int)=>
   if (decide (s11<(((r8 v1 a0.Kind).getD ([]:List e6)).length:Int))) then
    (ix ((r8 v1 a0.Kind).getD ([]:List e6)) s11).bind λv13=>
    (a9p v13.part a0).bind λv14=>
    if ((decide (v14<v13.least))||(decide (v14 > v13.most))) then
     some (.inr (.inl v13.e))
    else
    some (.inl (p6 (s11+1)))
   else
   some (.inr (.inr ()))) 0).bind λe10=>
  match e10 with
  | .inl w=>some w
  | .inr w=>κ8 w)
def a17:Option (List (Int × Fv)):=
 some (m9 (m9 (m9 (m9 (m9 (m9 (m9 (m9 (m9 (m9 [] 1 (some 242)) 2 (some 243)) 3 (some 244)) 4 (some 245)) 5 (some 246)) 6 (some 247)) 7 (some 248)) 8 (some 249)) 9 (some 250)) 10 (some 251))
def b6f(a0:Int):Option ((List Int) × Int):=
 if ((decide (a0<0))||(decide (a0 > 4))) then
  some ([],1)
 else
 (mk 8 a0 (0:Int)).bind λv1=>
 some (v1,0)
def G0(a0:Int):Option Bool:=
 some ((decide (a0≥(-1)))&&(decide (a0<6)))
def J5(a0:c7):Option c7:=
 some a0
def p9(a0:List b7):Option (List b7):=
 app 80 [] a0
def A1(a0:c7)(a1:Int)(a2:b7):Option c7:=
 (p9 a0.a8).bind λv1=>
 (ix v1 a1).bind λv2=>
 some (⟨(v1.set (a1).toNat a2),a0.Last⟩:c7)
def W2(a0:Int)(a1:Int):Option Int:=
 if ((((decide (a0<0))||(decide (a0≥24)))||(decide (a1<0)))||(decide (a1 > 9))) then
  some 0
 else
 some (p6 ((p6 (1+(p6 (a0*1))))+(p6 (a1*32))))
def G1(a0:c7)(a1:k9):Option (c7 × Int × Int):=
 jn (λ(_:Unit)=>
  some (a0,0,4)) (λκ9=>
  (J5 a0).bind λv11=>
  (lp (S:=Int) (E:=(c7 × Int × Int) ⊕ Unit) (λ(s13:Int)=>
   if (decide (s13<(v11.a8.length:Int))) then
    (ix v11.a8 s13).bind λv15=>
    if ((v15.State==0)==true) then
     (ix a0.a8 s13).bind λv16=>
     (A1 a0 s13 (⟨1,v16.Gen,a1⟩:b7)).bind λv17=>
     (W2 s13 v16.Gen).bind λv18=>
     some (.inr (.inl (v17,v18,0)))
    else
    some (.inl (p6 (s13+1)))
   else
   some (.inr (.inr ()))) 0).bind λe12=>
  match e12 with
  | .inl w=>some w
  | .inr w=>κ9 w)
def N9(a0:a7)(a1:Int)(a2:Int):Option (a7 × Int × Int):=
 (b6f a1).bind λv1=>
 if (v1.2 != 0) then
  some (a0,0,v1.2)
 else
 (G0 a2).bind λv2=>
 if (!v2) then
  some (a0,0,13)
 else
 (G1 a0.S (⟨p6 (a0.Serial+1),0,0,a2,false,v1.1⟩:k9)).bind λv3=>
 if (v3.2.2 != 0) then
  some (a0,0,v3.2.2)
 else
 some ((⟨v3.1,p6 (a0.Serial+1)⟩:a7),v3.2.1,0)
def a0Z(a0:Int):Option (Int × Int × Bool):=
 if (decide (a0<1)) then
  some ((-1),(-1),false)
 else
 (rem (p6 (a0-1)) 32).bind λv1=>
 (quo .i64 v1 1).bind λv2=>
 (quo .i64 (p6 (a0-1)) 32).bind λv3=>
 if ((decide (v2≥24))||(decide (v3 > 9))) then
  some ((-1),(-1),false)
 else
 some (v2,v3,true)
def a2g(a0:Int):Option Int:=
 (a0Z a0).bind λv1=>
 some v1.1
def a3n(a0:Int):Option Int:=
 (a0Z a0).bind λv1=>
 some v1.2.1
def o7(a0:c7)(a1:Int):Option (Int × Int):=
 if (a1==0) then
  some ((-1),2)
 else
 (a2g a1).bind λv1=>
 if ((decide (v1<0))||(decide (v1≥(a0.a8.length:Int)))) then
  some ((-1),3)
 else
 (ix a0.a8 v1).bind λv2=>
 (a3n a1).bind λv3=>
 if ((v2.Gen != v3)||((v2.State != 1)&&(v2.State != 2))) then
  some ((-1),3)
 else
 some (v1,0)
def A9(a0:c7)(a1:Int):Option (k9 × Int):=
 (o7 a0 a1).bind λv1=>
 if (v1.2 != 0) then
  some ((⟨0,0,0,0,false,[]⟩:k9),v1.2)
 else
 (ix a0.a8 v1.1).bind λv2=>
 if (v2.State==2) then
  some ((⟨0,0,0,0,false,[]⟩:k9),3)
 else
 some (v2.Val,0)
def o9(a0:a7)(a1:Int):Option (k9 × Int):=
 (A9 a0.S a1).bind λv1=>
 some (v1.1,v1.2)
def W5(a0:b6)(a1:Int):Option Bool:=
 (o9 a0.S a1).bind λv1=>
 some (v1.2==0)
def F1(a0:b6)(a1:Int):Option Bool:=
 (p8 ((a1==0)==false) false (W5 a0 a1)).bind λv1=>
 some ((a1==0)||v1)
def B7(a0:Int):Option Bool:=
 some (decide (a0≥12))
def a3l(a0:Int):Option (Int × Int):=
 (B7 a0).bind λv1=>
 if v1 then
  some (12,0)
 else
 some (p6 ((if 0 > a0 then 0 else a0)+1),0)
def a7s(a0:Int):Option Int:=
 (a3l a0).bind λv1=>
 some v1.1
def H3(a0:c7)(a1:Int)(a2:k9):Option (c7 × Int):=
 (o7 a0 a1).bind λv1=>
 if (v1.2 != 0) then
  some (a0,v1.2)
 else
 (ix a0.a8 v1.1).bind λv2=>
 (A1 a0 v1.1 (⟨v2.State,v2.Gen,a2⟩:b7)).bind λv3=>
 some (v3,0)
def H4(a0:a7)(a1:Int)(a2:k9):Option (a7 × Int):=
 (H3 a0.S a1 a2).bind λv1=>
 some ((⟨v1.1,a0.Serial⟩:a7),v1.2)
def P2(a0:b6)(a1:Int):Option b6:=
 (o9 a0.S a1).bind λv1=>
 if (v1.2==0) then
  (a7s v1.1.Strong).bind λv2=>
  (H4 a0.S a1 (⟨v1.1.Serial,v2,v1.1.Weak,v1.1.Prog,v1.1.Started,v1.1.Fields⟩:k9)).bind λv3=>
  some (⟨v3.1,a0.Roots,a0.a8,a0.T,a0.Q⟩:b6)
 else
 some a0
def W3(a0:b6)(a1:Int):Option b6:=
 (P2 a0 a1).bind λv1=>
 some v1
def E6(a0:List Int):Option (List Int):=
 app 8 [] a0
def R2(a0:F5)(a1:b6):Option b6:=
 (E6 a1.Roots).bind λv1=>
 (ix v1 a0.r).bind λv2=>
 some (⟨a1.S,(v1.set (a0.r).toNat a0.h),a1.a8,a1.T,a1.Q⟩:b6)
def a1C(a0:Int):Option (Int × Int):=
 (B7 a0).bind λv1=>
 if v1 then
  some (12,0)
 else
 if (decide (a0<1)) then
  some (0,11)
 else
 some (p6 (a0-1),0)
def b0r(a0:Int):Option (Int × Int):=
 (a1C a0).bind λv1=>
 some (v1.1,v1.2)
def a00(a0:Int):Option Int:=
 (b0r a0).bind λv1=>
 if (v1.2 != 0) then
  some a0
 else
 some v1.1
def J0(a0:b6)(a1:Int):Option b6:=
 (o9 a0.S a1).bind λv1=>
 if (v1.2==0) then
  (a00 v1.1.Strong).bind λv2=>
  (H4 a0.S a1 (⟨v1.1.Serial,v2,v1.1.Weak,v1.1.Prog,v1.1.Started,v1.1.Fields⟩:k9)).bind λv3=>
  some (⟨v3.1,a0.Roots,a0.a8,a0.T,a0.Q⟩:b6)
 else
 some a0
def C5(a0:b6)(a1:Int):Option b6:=
 (J0 a0 a1).bind λv1=>
 some v1
def G6(a0:b6)(a1:Int)(a2:Int)(a3:F5):Option b6:=
 (W3 a0 a2).bind λv1=>
 (R2 a3 v1).bind λv2=>
 (C5 v2 a1).bind λv3=>
 some v3
def a7A(a0:b6)(a1:Int)(a2:Int):Option (b6 × Int):=
 if ((decide (a1<0))||(decide (a1≥(a0.Roots.length:Int)))) then
  some (a0,6)
 else
 (F1 a0 a2).bind λv1=>
 if (!v1) then
  some (a0,3)
 else
 (ix a0.Roots a1).bind λv2=>
 (G6 a0 v2 a2 (⟨a1,a2⟩:F5)).bind λv3=>
 some (v3,0)
def y7(a0:n7)(a1:Int)(a2:Int):Option (b6 × Int):=
 if (a2 != 0) then
  some (a0.x,a2)
 else
 (a7A a0.x a0.o.A a1).bind λv1=>
 some (v1.1,v1.2)
def O2(a0:n7):Option (b6 × Int):=
 (N9 a0.x.S a0.o.B a0.o.C).bind λv1=>
 if (v1.2.2 != 0) then
  some (a0.x,v1.2.2)
 else
 (y7 (⟨⟨v1.1,a0.x.Roots,a0.x.a8,a0.x.T,a0.x.Q⟩,a0.o⟩:n7) v1.2.1 0).bind λv2=>
 some (v2.1,v2.2)
def H7(a0:b6)(a1:Int):Option Int:=
 if ((decide (a1<0))||(decide (a1≥(a0.Roots.length:Int)))) then
  some 0
 else
 (ix a0.Roots a1).bind λv1=>
 some v1
def F7(a0:n7):Option (b6 × Int):=
 (H7 a0.x a0.o.B).bind λv1=>
 (y7 a0 v1 0).bind λv2=>
 some (v2.1,v2.2)
def V3(a0:n7):Option (b6 × Int):=
 (y7 a0 0 0).bind λv1=>
 some (v1.1,v1.2)
def I3(a0:b6)(a1:Int):Option (Int × Int):=
 (H7 a0 a1).bind λv1=>
 if (v1==0) then
  some (0,2)
 else
 some (v1,0)
def a6b(a0:List Int)(a1:Int):Option Bool:=
 some ((decide (a1≥0))&&(decide (a1<(a0.length:Int))))
def b07(a0:List Int)(a1:Int):Option (Int × Int):=
 (a6b a0 a1).bind λv1=>
 if (!v1) then
  some (0,5)
 else
 (ix a0 a1).bind λv2=>
 some (v2,0)
def Y2(a0:a7)(a1:Int)(a2:Int):Option (Int × Int):=
 (o9 a0 a1).bind λv1=>
 if (v1.2 != 0) then
  some (0,v1.2)
 else
 (b07 v1.1.Fields a2).bind λv2=>
 some (v2.1,v2.2)
def V4(a0:n7):Option (b6 × Int):=
 (I3 a0.x a0.o.B).bind λv1=>
 if (v1.2 != 0) then
  some (a0.x,v1.2)
 else
 (Y2 a0.x.S v1.1 a0.o.C).bind λv2=>
 (y7 a0 v2.1 v2.2).bind λv3=>
 some (v3.1,v3.2)
def b3v(a0:List Int)(a1:Int)(a2:Int):Option ((List Int) × Int):=
 (a6b a0 a1).bind λv1=>
 if (!v1) then
  some (a0,5)
 else
 (mk 8 (a0.length:Int) (0:Int)).bind λv2=>
 (cpy v2 a0).bind λv3=>
 (ix v3 a1).bind λv4=>
 some ((v3.set (a1).toNat a2),0)
def a7R(a0:a7)(a1:Int)(a2:Int)(a3:Int):Option (a7 × Int):=
 (o9 a0 a1).bind λv1=>
 if (v1.2 != 0) then
  some (a0,v1.2)
 else
 (b3v v1.1.Fields a2 a3).bind λv2=>
 if (v2.2 != 0) then
  some (a0,v2.2)
 else
 (H4 a0 a1 (⟨v1.1.Serial,v1.1.Strong,v1.1.Weak,v1.1.Prog,v1.1.Started,v2.1⟩:k9)).bind λv3=>
 some (v3.1,v3.2)
def a0b(a0:D7)(a1:b6):Option b6:=
 (a7R a1.S a0.h a0.k a0.v).bind λv1=>
 some (⟨v1.1,a1.Roots,a1.a8,a1.T,a1.Q⟩:b6)
def F6(a0:b6)(a1:Int)(a2:Int)(a3:D7):Option b6:=
 (W3 a0 a2).bind λv1=>
 (a0b a3 v1).bind λv2=>
 (C5 v2 a1).bind λv3=>
 some v3
def a1I(a0:b6)(a1:Int)(a2:Int)(a3:Int):Option (b6 × Int):=
 (Y2 a0.S a1 a2).bind λv1=>
 if (v1.2 != 0) then
  some (a0,v1.2)
 else
 (F1 a0 a3).bind λv2=>
 if (!v2) then
  some (a0,3)
 else
 (F6 a0 v1.1 a3 (⟨a1,a2,a3⟩:D7)).bind λv3=>
 some (v3,0)
def R3(a0:n7):Option (b6 × Int):=
 (I3 a0.x a0.o.A).bind λv1=>
 if (v1.2 != 0) then
  some (a0.x,v1.2)
 else
 (H7 a0.x a0.o.C).bind λv2=>
 (a1I a0.x v1.1 a0.o.B v2).bind λv3=>
 some (v3.1,v3.2)
def a7S(a0:c9)(a1:Int):Option (c9 × Int):=
 some (a0,a1)
def a3I(a0:c9)(a1:Int):Option Bool:=
 jn (λ(_:Unit)=>
  some false) (λκ6=>
  (a7S a0 2).bind λv8=>
  (lp (S:=Int) (E:=Bool ⊕ Unit) (λ(s10:Int)=>
   if (decide (s10<(v8.1.L.length:Int))) then
    (ix v8.1.L s10).bind λv12=>
    if ((v12.Kind==v8.2)==true) then
     if (v12.At==a1) then
      some (.inr (.inl true))
     else
     some (.inl (p6 (s10+1)))
    else
    some (.inl (p6 (s10+1)))
   else
   some (.inr (.inr ()))) 0).bind λe9=>
  match e9 with
  | .inl w=>some w
  | .inr w=>κ6 w)
def a5g(a0:List c4)(a1:Int):Option Bool:=
 some ((decide (a1≥0))&&(decide (a1<(a0.length:Int))))
def Y4(a0:List c4):Option (List c4):=
 (mk 24 (a0.length:Int) (⟨0,false,0⟩:c4)).bind λv1=>
 (cpy v1 a0).bind λv2=>
 some v2
def b0k(a0:List c4)(a1:Int)(a2:Int)(a3:Int):Option ((List c4) × Int × Int):=
 (a5g a0 a1).bind λv1=>
 if (!v1) then
  some (a0,0,7)
 else
 (Y4 a0).bind λv2=>
 (ix v2 a1).bind λv3=>
 (ix a0 a1).bind λv4=>
 some ((v2.set (a1).toNat (⟨a2,(a2 != 0),a3⟩:c4)),v4.Target,0)
def a0N(a0:b6)(a1:Int)(a2:Int):Option b6:=
 (o7 a0.S.S a1).bind λv1=>
 if (v1.2==0) then
  (ix a0.S.S.a8 v1.1).bind λv2=>
  (H4 a0.S a1 (⟨v2.Val.Serial,v2.Val.Strong,p6 (v2.Val.Weak+a2),v2.Val.Prog,v2.Val.Started,v2.Val.Fields⟩:k9)).bind λv3=>
  some (⟨v3.1,a0.Roots,a0.a8,a0.T,a0.Q⟩:b6)
 else
 some a0
def J4(a0:c7)(a1:Int):Option (c7 × Int):=
 (o7 a0 a1).bind λv1=>
 if (v1.2 != 0) then
  some (a0,v1.2)
 else
 (ix a0.a8 v1.1).bind λv2=>
 if (v2.Gen==a0.Last) then
  (A1 a0 v1.1 (⟨3,v2.Gen,⟨0,0,0,0,false,[]⟩⟩:b7)).bind λv3=>
  some (v3,0)
 else
 (A1 a0 v1.1 (⟨0,p6 (v2.Gen+1),⟨0,0,0,0,false,[]⟩⟩:b7)).bind λv4=>
 some (v4,0)
def a15(a0:b6)(a1:Int):Option b6:=
 (a0N a0 a1 (-1)).bind λv1=>
 (o7 v1.S.S a1).bind λv2=>
 if (v2.2 != 0) then
  some v1
 else
 (ix v1.S.S.a8 v2.1).bind λv3=>
 if ((v3.State==2)&&(v3.Val.Weak==0)) then
  (J4 v1.S.S a1).bind λv4=>
  some (⟨⟨v4.1,v1.S.Serial⟩,v1.Roots,v1.a8,v1.T,v1.Q⟩:b6)
 else
 some v1
def Z0(a0:b6)(a1:Int)(a2:Int)(a3:Int):Option (b6 × Int):=
 (p8 (((decide (a1<0))||(decide (a1≥(a0.a8.length:Int))))==false) false (a3I a0.Q a1)).bind λv1=>
 if (((decide (a1<0))||(decide (a1≥(a0.a8.length:Int))))||v1) then
  some (a0,7)
 else
 (F1 a0 a2).bind λv2=>
 if (!v2) then
  some (a0,3)
 else
 (b0k a0.a8 a1 a2 a3).bind λv3=>
 (a0N (⟨a0.S,a0.Roots,v3.1,a0.T,a0.Q⟩:b6) a2 1).bind λv4=>
 (a15 v4 v3.2.1).bind λv5=>
 some (v5,0)
def O3(a0:n7):Option (b6 × Int):=
 if (a0.o.B==(-1)) then
  (Z0 a0.x a0.o.A 0 a0.o.C).bind λv1=>
  some (v1.1,v1.2)
 else
 (I3 a0.x a0.o.B).bind λv2=>
 if (v2.2 != 0) then
  some (a0.x,v2.2)
 else
 (Z0 a0.x a0.o.A v2.1 a0.o.C).bind λv3=>
 some (v3.1,v3.2)
def a5f(a0:List c4)(a1:Int):Option (Int × Int):=
 (a5g a0 a1).bind λv1=>
 if (!v1) then
  some (0,7)
 else
 (ix a0 a1).bind λv2=>
 if ((v2.Target==0)||(!v2.Intact)) then
  some (0,9)
 else
 some (v2.Target,0)
def T0(a0:n7):Option (b6 × Int):=
 (a5f a0.x.a8 a0.o.B).bind λv1=>
 (y7 a0 v1.1 v1.2).bind λv2=>
 some (v2.1,v2.2)
def a3b(a0:Int)(a1:Int):Option (Int × Int):=
 some (a0,a1)
def Y9(a0:Int)(a1:Int):Option Int:=
 if (decide (a0<1)) then
  some 0
 else
 (rem (p6 ((p6 (5*a1))+1)) a0).bind λv1=>
 if (decide (v1<0)) then
  some (p6 (v1+a0))
 else
 some v1
def I8(a0:List b8)(a1:Int):Option Int:=
 jn (λ(_:Unit)=>
  some (-1)) (λκ8=>
  (a3b (a0.length:Int) a1).bind λv10=>
  (lp (S:=Int) (E:=Int ⊕ Unit) (λ(s12:Int)=>
   if (decide (s12<v10.1)) then
    (Y9 v10.1 v10.2).bind λv14=>
    (rem (p6 (v14+s12)) v10.1).bind λv15=>
    (ix a0 v15).bind λv16=>
    if (v16.State==0) then
     some (.inr (.inr ()))
    else
    if ((v16.State==1)&&(v16.Key==a1)) then
     some (.inr (.inl v15))
    else
    some (.inl (p6 (s12+1)))
   else
   some (.inr (.inr ()))) 0).bind λe11=>
  match e11 with
  | .inl w=>some w
  | .inr w=>κ8 w)
def I0(a0:List b8)(a1:Int):Option (Int × Int):=
 (I8 a0 a1).bind λv1=>
 if (decide (v1<0)) then
  some (0,9)
 else
 (ix a0 v1).bind λv2=>
 some (v2.Val,0)
def B0(a0:List b8):Option (List b8):=
 app 24 [] a0
def a0M(a0:List b8)(a1:Int)(a2:b8):Option (List b8):=
 (B0 a0).bind λv1=>
 (ix v1 a1).bind λv2=>
 some (v1.set (a1).toNat a2)
def T6(a0:List b8)(a1:Int):Option ((List b8) × Int × Int):=
 (I8 a0 a1).bind λv1=>
 if (decide (v1<0)) then
  some (a0,0,9)
 else
 (a0M a0 v1 (⟨2,0,0⟩:b8)).bind λv2=>
 (ix a0 v1).bind λv3=>
 some (v2,v3.Val,0)
def a6N(a0:List b8)(a1:Int)(a2:Int):Option ((List b8) × Int):=
 (I8 a0 a1).bind λv1=>
 if (decide (v1≥0)) then
  (a0M a0 v1 (⟨1,a1,a2⟩:b8)).bind λv2=>
  some (v2,0)
 else
 jn (λ(_:Unit)=>
  some (a0,8)) (λκ11=>
  (a3b (a0.length:Int) a1).bind λv13=>
  (lp (S:=Int) (E:=((List b8) × Int) ⊕ Unit) (λ(s15:Int)=>
   if (decide (s15<v13.1)) then
    (Y9 v13.1 v13.2).bind λv17=>
    (rem (p6 (v17+s15)) v13.1).bind λv18=>
    (ix a0 v18).bind λv19=>
    if (v19.State != 1) then
     (a0M a0 v18 (⟨1,a1,a2⟩:b8)).bind λv20=>
     some (.inr (.inl (v20,0)))
    else
    some (.inl (p6 (s15+1)))
   else
   some (.inr (.inr ()))) 0).bind λe14=>
  match e14 with
  | .inl w=>some w
  | .inr w=>κ11 w)
def T3(a0:List b8)(a1:Int)(a2:Int):Option ((List b8) × Int × Int):=
 if (a1==0) then
  some (a0,0,2)
 else
 (I0 a0 a1).bind λv1=>
 if (a2==0) then
  (T6 a0 a1).bind λv2=>
  some (v2.1,v1.1,0)
 else
 (a6N a0 a1 a2).bind λv3=>
 if (v3.2 != 0) then
  some (a0,0,v3.2)
 else
 some (v3.1,v1.1,0)
def R1(a0:F4)(a1:b6):Option b6:=
 some (⟨a1.S,a1.Roots,a1.a8,a0.t,a1.Q⟩:b6)
def G5(a0:b6)(a1:Int)(a2:Int)(a3:F4):Option b6:=
 (W3 a0 a2).bind λv1=>
 (R1 a3 v1).bind λv2=>
 (C5 v2 a1).bind λv3=>
 some v3
def a3c(a0:b6)(a1:Int)(a2:Int):Option (b6 × Int):=
 if (a1==0) then
  some (a0,2)
 else
 (F1 a0 a1).bind λv1=>
 (p8 ((!v1)==false) false (F1 a0 a2)).bind λv2=>
 if ((!v1)||(!v2)) then
  some (a0,3)
 else
 (T3 a0.T a1 a2).bind λv3=>
 if (v3.2.2 != 0) then
  some (a0,v3.2.2)
 else
 (G5 a0 v3.2.1 a2 (⟨v3.1⟩:F4)).bind λv4=>
 some (v4,0)
def V5(a0:n7):Option (b6 × Int):=
 (I3 a0.x a0.o.A).bind λv1=>
 if (v1.2 != 0) then
  some (a0.x,v1.2)
 else
 (H7 a0.x a0.o.B).bind λv2=>
 (a3c a0.x v1.1 v2).bind λv3=>
 some (v3.1,v3.2)
def b0t(a0:List b8)(a1:Int):Option (Int × Int):=
 (I0 a0 a1).bind λv1=>
 some (v1.1,v1.2)
def Z1(a0:n7):Option (b6 × Int):=
 (I3 a0.x a0.o.B).bind λv1=>
 if (v1.2 != 0) then
  some (a0.x,v1.2)
 else
 (b0t a0.x.T v1.1).bind λv2=>
 (y7 a0 v2.1 v2.2).bind λv3=>
 some (v3.1,v3.2)
def L2(a0:n7):Option (b6 × Int):=
 some (a0.x,0)
def b1R(f:Fv)(a0:n7):Option (b6 × Int):=
 if f=some 242 then O2 a0 else
 if f=some 243 then F7 a0 else
 if f=some 244 then V3 a0 else
 if f=some 245 then V4 a0 else
 if f=some 246 then R3 a0 else
 if f=some 247 then O3 a0 else
 if f=some 248 then T0 a0 else
 if f=some 249 then V5 a0 else
 if f=some 250 then Z1 a0 else
 if f=some 251 then L2 a0 else
 none
def a0i(a0:Int):Option Bool:=
 some (a0 != a0)
def a2z(a0:Int)(a1:Int):Option Int:=
 (a0i a0).bind λv1=>
 (a0i a1).bind λv2=>
 if v1 then
  if v2 then
   some 0
  else
  some (-1)
 else
 if v2 then
  some 1
 else
 if (decide (a0<a1)) then
  some (-1)
 else
 if (decide (a0 > a1)) then
  some 1
 else
 some 0
def a21(a0:Int)(a1:Int)(a2:List (Int × Int)):Option Int:=
 (a2z ((r8 a2 a0).getD (0:Int)) ((r8 a2 a1).getD (0:Int))).bind λv1=>
 some v1
def y4(a0:a7):Option (List Int):=
 jn (λ((j18,j19):(List (Int × Int)) × (List Int))=>
  (b02 (λp q=>a21 p q j18) j19).bind λv21=>
  some v21) (λκ17=>
  (lp (S:=Int × (List (Int × Int)) × (List Int)) (E:=((List (Int × Int)) × (List Int))) (λ((s23,s24,s25):Int × (List (Int × Int)) × (List Int))=>
   if (decide (s23<(a0.S.a8.length:Int))) then
    jn (λ((j32,j33):(List (Int × Int)) × (List Int))=>
     some (.inl (p6 (s23+1),j32,j33))) (λκ31=>
     (ix a0.S.a8 s23).bind λv35=>
     if (v35.State==1) then
      (W2 s23 v35.Gen).bind λv36=>
      (app 8 s25 [v36]).bind λv37=>
      κ31 ((m9 s24 v36 v35.Val.Serial),v37)
     else
     κ31 (s24,s25))
   else
   some (.inr (s24,s25))) (0,[],[])).bind λe22=>
  κ17 e22)
def a0S(a0:b6):Option (List Int):=
 jn (λ(j16:List Int)=>
  some j16) (λκ15=>
  (y4 a0.S).bind λv17=>
  (lp (S:=Int × (List Int)) (E:=(List Int)) (λ((s19,s20):Int × (List Int))=>
   if (decide (s19<(v17.length:Int))) then
    jn (λ(j27:List Int)=>
     some (.inl (p6 (s19+1),j27))) (λκ26=>
     (ix v17 s19).bind λv28=>
     (o9 a0.S v28).bind λv29=>
     if (v29.1.Strong==0) then
      (app 8 s20 [v28]).bind λv30=>
      κ26 v30
     else
     κ26 s20)
   else
   some (.inr s20)) (0,[])).bind λe18=>
  κ15 e18)
def I4(a0:k9):Option Bool:=
 some ((decide (a0.Prog≥0))&&(!a0.Started))
def O4(a0:c9):Option Int:=
 some (a0.L.length:Int)
def M4(a0:List g7)(a1:Int)(a2:Int):Option (List g7):=
 (cut a0 a1 a2).bind λv1=>
 some v1
def M3(a0:c9)(a1:g7):Option (c9 × Int):=
 (O4 a0).bind λv1=>
 if (decide (v1≥a0.Cap)) then
  some (a0,4)
 else
 (M4 a0.L 0 v1).bind λv2=>
 (app 24 v2 [a1]).bind λv3=>
 some ((⟨v3,a0.Cap⟩:c9),0)
def a7o(a0:c9)(a1:g7):Option (c9 × Int):=
 (M3 a0 a1).bind λv1=>
 some (v1.1,v1.2)
def N8(a0:b6)(a1:Int):Option b6:=
 (o9 a0.S a1).bind λv1=>
 (p8 ((v1.2 != 0)==false) false (I4 v1.1)).bind λv2=>
 if ((v1.2 != 0)||(!v2)) then
  some a0
 else
 (H4 a0.S a1 (⟨v1.1.Serial,v1.1.Strong,v1.1.Weak,v1.1.Prog,true,v1.1.Fields⟩:k9)).bind λv3=>
 (a7o a0.Q (⟨1,a1,v1.1.Prog⟩:g7)).bind λv4=>
 (W3 (⟨v3.1,a0.Roots,a0.a8,a0.T,v4.1⟩:b6) a1).bind λv5=>
 some v5
def P7(a0:b6)(a1:List Int):Option (List Int):=
 jn (λ(j18:List Int)=>
  some j18) (λκ17=>
  (lp (S:=Int × (List (Int × Bool)) × (List Int)) (E:=(List Int)) (λ((s20,s21,s22):Int × (List (Int × Bool)) × (List Int))=>
   if (decide (s20<(a1.length:Int))) then
    jn (λ((j29,j30):(List Int) × (List (Int × Bool)))=>
     some (.inl (p6 (s20+1),j30,j29))) (λκ28=>
     (ix a1 s20).bind λv32=>
     (o9 a0.S v32).bind λv33=>
     if ((v33.2==0)==true) then
      if (!((r8 s21 v32).getD (false:Bool))) then
       (app 8 s22 [v32]).bind λv34=>
       κ28 (v34,(m9 s21 v32 true))
      else
      κ28 (s22,s21)
     else
     κ28 (s22,s21))
   else
   some (.inr s22)) (0,[],[])).bind λe19=>
  κ17 e19)
def M6(a0:List Int)(a1:Int):Option Int:=
 jn (λ(_:Unit)=>
  some (-1)) (λκ5=>
  (lp (S:=Int) (E:=Int ⊕ Unit) (λ(s8:Int)=>
   if (decide (s8<(a0.length:Int))) then
    (ix a0 s8).bind λv10=>
    if (a1==v10) then
     some (.inr (.inl s8))
    else
    some (.inl (p6 (s8+1)))
   else
   some (.inr (.inr ()))) 0).bind λe7=>
  match e7 with
  | .inl w=>some w
  | .inr w=>κ5 w)
def C1(a0:List Int)(a1:Int):Option Bool:=
 (M6 a0 a1).bind λv1=>
 some (decide (v1≥0))
def Z7(a0:c4)(a1:List Int):Option Bool:=
 (p8 ((a0.Intact&&(a0.Target != 0))==true) false (C1 a1 a0.Target)).bind λv1=>
 some ((a0.Intact&&(a0.Target != 0))&&v1)
def G8(a0:List c4)(a1:List Int):Option (List Int):=
 jn (λ(j15:List Int)=>
  some j15) (λκ14=>
  (lp (S:=Int × (List Int)) (E:=(List Int)) (λ((s17,s18):Int × (List Int))=>
   if (decide (s17<(a0.length:Int))) then
    jn (λ(j25:List Int)=>
     some (.inl (p6 (s17+1),j25))) (λκ24=>
     (ix a0 s17).bind λv26=>
     (Z7 v26 a1).bind λv27=>
     if v27 then
      (app 8 s18 [s17]).bind λv28=>
      κ24 v28
     else
     κ24 s18)
   else
   some (.inr s18)) (0,[])).bind λe16=>
  κ14 e16)
def a3L(a0:List c4)(a1:List Int):Option ((List c4) × (List Int)):=
 (G8 a0 a1).bind λv1=>
 (Y4 a0).bind λv2=>
 jn (λ((j22,j23):(List Int) × (List c4))=>
  some (j23,j22)) (λκ21=>
  (lp (S:=Int × (List c4) × (List Int)) (E:=((List Int) × (List c4))) (λ((s26,s27,s28):Int × (List c4) × (List Int))=>
   if (decide (s26<(v1.length:Int))) then
    jn (λ((j36,j37):(List Int) × (List c4))=>
     some (.inl (p6 (s26+1),j37,j36))) (λκ35=>
     (ix v1 s26).bind λv39=>
     (ix s27 v39).bind λv40=>
     (ix (s27.set (v39).toNat (⟨v40.Target,false,v40.Call⟩:c4)) v39).bind λv41=>
     if (decide (v41.Call≥0)) then
      (app 8 s28 [v39]).bind λv42=>
      κ35 (v42,(s27.set (v39).toNat (⟨v40.Target,false,v40.Call⟩:c4)))
     else
     κ35 (s28,(s27.set (v39).toNat (⟨v40.Target,false,v40.Call⟩:c4))))
   else
   some (.inr (s28,s27))) (0,v2,[])).bind λe25=>
  κ21 e25)
def a1l(a0:b6)(a1:List Int):Option b6:=
 (a3L a0.a8 a1).bind λv1=>
 jn (λ(j11:c9)=>
  some (⟨a0.S,a0.Roots,v1.1,a0.T,j11⟩:b6)) (λκ10=>
  (lp (S:=Int × c9) (E:=c9) (λ((s13,s14):Int × c9)=>
   if (decide (s13<(v1.2.length:Int))) then
    (ix v1.2 s13).bind λv17=>
    (ix v1.1 v17).bind λv18=>
    (a7o s14 (⟨2,v17,v18.Call⟩:g7)).bind λv19=>
    some (.inl (p6 (s13+1),v19.1))
   else
   some (.inr s14)) (0,a0.Q)).bind λe12=>
  κ10 e12)
def a3i(a0:List Int):Option (List Int):=
 some a0
def a3h(a0:List Int):Option (List Int):=
 jn (λ(j10:List Int)=>
  some j10) (λκ9=>
  (a3i a0).bind λv11=>
  (lp (S:=Int × (List Int)) (E:=(List Int)) (λ((s13,s14):Int × (List Int))=>
   if (decide (s13<(v11.length:Int))) then
    (ix v11 s13).bind λv17=>
    if ((v17 != 0)==true) then
     (app 8 s14 [v17]).bind λv18=>
     some (.inl (p6 (s13+1),v18))
    else
    some (.inl (p6 (s13+1),s14))
   else
   some (.inr s14)) (0,[])).bind λe12=>
  κ9 e12)
def T4(a0:List b8)(a1:List Int):Option ((List b8) × (List Int)):=
 jn (λ((j18,j19):(List b8) × (List Int))=>
  some (j18,j19)) (λκ17=>
  (lp (S:=(List b8) × Int × (List Int)) (E:=((List b8) × (List Int))) (λ((s22,s23,s24):(List b8) × Int × (List Int))=>
   if (decide (s23<(a1.length:Int))) then
    jn (λ((j31,j32):(List b8) × (List Int))=>
     some (.inl (j31,p6 (s23+1),j32))) (λκ30=>
     (ix a1 s23).bind λv34=>
     (T6 s22 v34).bind λv35=>
     if (v35.2.2==0) then
      (app 8 s24 [v35.2.1]).bind λv36=>
      κ30 (v35.1,v36)
     else
     κ30 (s22,s24))
   else
   some (.inr (s22,s24))) (a0,0,[])).bind λe21=>
  κ17 e21)
def O6(a0:c7)(a1:Int):Option (c7 × Int):=
 (A9 a0 a1).bind λv1=>
 if (v1.2 != 0) then
  some (a0,v1.2)
 else
 (a2g a1).bind λv2=>
 (a3n a1).bind λv3=>
 (A1 a0 v2 (⟨2,v3,v1.1⟩:b7)).bind λv4=>
 some (v4,0)
def T9(a0:b6)(a1:Int):Option b6:=
 (o9 a0.S a1).bind λv1=>
 (H4 a0.S a1 (⟨v1.1.Serial,0,v1.1.Weak,v1.1.Prog,v1.1.Started,[]⟩:k9)).bind λv2=>
 (O6 v2.1.S a1).bind λv3=>
 if (v1.1.Weak==0) then
  (J4 v3.1 a1).bind λv4=>
  some (⟨⟨v4.1,v2.1.Serial⟩,a0.Roots,a0.a8,a0.T,a0.Q⟩:b6)
 else
 some (⟨⟨v3.1,v2.1.Serial⟩,a0.Roots,a0.a8,a0.T,a0.Q⟩:b6)
def X8(a0:b6)(a1:List Int):Option b6:=
 (P7 a0 a1).bind λv1=>
 (a1l a0 v1).bind λv2=>
 jn (λ(j13:List Int)=>
  (T4 v2.T v1).bind λv14=>
  (app 8 j13 v14.2).bind λv15=>
  jn (λ(j24:b6)=>
   jn (λ(j33:b6)=>
    some j33) (λκ32=>
    (lp (S:=Int × b6) (E:=b6) (λ((s35,s36):Int × b6)=>
     if (decide (s35<(v15.length:Int))) then
      (ix v15 s35).bind λv39=>
      (C5 s36 v39).bind λv40=>
      some (.inl (p6 (s35+1),v40))
     else
     some (.inr s36)) (0,j24)).bind λe34=>
    κ32 e34)) (λκ23=>
   (lp (S:=Int × b6) (E:=b6) (λ((s42,s43):Int × b6)=>
    if (decide (s42<(v1.length:Int))) then
     (ix v1 s42).bind λv46=>
     (T9 s43 v46).bind λv47=>
     some (.inl (p6 (s42+1),v47))
    else
    some (.inr s43)) (0,(⟨v2.S,v2.Roots,v2.a8,v14.1,v2.Q⟩:b6))).bind λe41=>
   κ23 e41)) (λκ12=>
  (lp (S:=Int × (List Int)) (E:=(List Int)) (λ((s49,s50):Int × (List Int))=>
   if (decide (s49<(v1.length:Int))) then
    (ix v1 s49).bind λv53=>
    (o9 v2.S v53).bind λv54=>
    (a3h v54.1.Fields).bind λv55=>
    (app 8 s50 v55).bind λv56=>
    some (.inl (p6 (s49+1),v56))
   else
   some (.inr s50)) (0,[])).bind λe48=>
  κ12 e48)
def T8(a0:b6):Option b6:=
 (lp (S:=b6) (E:=b6) (λ(s2:b6)=>
  (a0S s2).bind λv4=>
  if ((v4.length:Int)==0) then
   some (.inr s2)
  else
  (ix v4 0).bind λv5=>
  (o9 s2.S v5).bind λv6=>
  (I4 v6.1).bind λv7=>
  if v7 then
   (N8 s2 v5).bind λv8=>
   some (.inl v8)
  else
  (cut v4 0 1).bind λv9=>
  (X8 s2 v9).bind λv10=>
  some (.inl v10)) a0).bind λe1=>
 some e1
def a07(a0:b6)(a1:Int):Option Int:=
 (o9 a0.S a1).bind λv1=>
 some v1.1.Serial
def a0C(a0:b6)(a1:Int):Option Int:=
 (H7 a0 a1).bind λv1=>
 (a07 a0 v1).bind λv2=>
 some v2
def P3(a0:b6)(a1:b6)(a2:k8):Option Int:=
 if (a2.Kind==5) then
  (a0C a0 a2.C).bind λv1=>
  some v1
 else
 jn (λ(j3:Bool)=>
  if j3 then
   (a0C a0 a2.B).bind λv4=>
   some v4
  else
  if (a2.Kind==10) then
   (H7 a0 a2.A).bind λv5=>
   (H7 a0 a2.B).bind λv6=>
   if (v5==v6) then
    some 1
   else
   some 0
  else
  (a0C a1 a2.A).bind λv7=>
  some v7) (λκ2=>
  if (a2.Kind==6) then
   κ2 (a2.Kind==6)
  else
  κ2 (a2.Kind==8))
def p7(a0:b6)(a1:k8):Option (b6 × Int × Int):=
 (a3k a1).bind λv1=>
 if (v1 != 0) then
  some (a0,0,v1)
 else
 (a17).bind λv2=>
 if (!((r8 v2 a1.Kind).isSome)) then
  some (a0,0,14)
 else
 (b1R ((r8 v2 a1.Kind).getD (none:Fv)) (⟨a0,a1⟩:n7)).bind λv3=>
 if (v3.2 != 0) then
  some (a0,0,v3.2)
 else
 (T8 v3.1).bind λv5=>
 (P3 v3.1 v5 a1).bind λv6=>
 some (v5,v6,0)
def G3(a0:b6)(a1:List k8):Option (b6 × (List Int)):=
 jn (λ((j11,j12):b6 × (List Int))=>
  some (j11,j12)) (λκ10=>
  (lp (S:=Int × b6 × (List Int)) (E:=(b6 × (List Int))) (λ((s15,s16,s17):Int × b6 × (List Int))=>
   if (decide (s15<(a1.length:Int))) then
    (ix a1 s15).bind λv20=>
    (p7 s16 v20).bind λv21=>
    (app 8 s17 [v21.2.1]).bind λv22=>
    some (.inl (p6 (s15+1),v21.1,v22))
   else
   some (.inr (s16,s17))) (0,a0,[])).bind λe14=>
  κ10 e14)
def a5S(a0:a7):Option a7:=
 some a0
def a40(a0:a7)(a1:Int):Option (List Int):=
 (o9 a0 a1).bind λv1=>
 (a3h v1.1.Fields).bind λv2=>
 some v2
def b16(a0:a7)(a1:Int):Option Int:=
 jn (λ(j31:Int)=>
  some j31) (λκ30=>
  (a5S a0).bind λv32=>
  (y4 v32).bind λv33=>
  (lp (S:=Int × Int) (E:=Int) (λ((s35,s36):Int × Int)=>
   if (decide (s35<(v33.length:Int))) then
    jn (λ(j50:Int)=>
     some (.inl (p6 (s35+1),j50))) (λκ49=>
     (ix v33 s35).bind λv51=>
     (a40 v32 v51).bind λv52=>
     (lp (S:=Int × Int) (E:=Int) (λ((s54,s55):Int × Int)=>
      if (decide (s54<(v52.length:Int))) then
       (ix v52 s54).bind λv58=>
       jn (λ(j60:Int)=>
        some (.inl (p6 (s54+1),j60))) (λκ59=>
        if (v58==a1) then
         κ59 (p6 (s55+1))
        else
        κ59 s55)
      else
      some (.inr s55)) (0,s36)).bind λe53=>
     κ49 e53)
   else
   some (.inr s36)) (0,0)).bind λe34=>
  κ30 e34)
def a0K(a0:List b8):Option (List b8):=
 some a0
def a4H(a0:List b8):Option (List Int):=
 jn (λ(j13:List Int)=>
  some j13) (λκ12=>
  (lp (S:=Int × (List Int)) (E:=(List Int)) (λ((s15,s16):Int × (List Int))=>
   if (decide (s15<(a0.length:Int))) then
    jn (λ(j22:List Int)=>
     some (.inl (p6 (s15+1),j22))) (λκ21=>
     (ix a0 s15).bind λv23=>
     if (v23.State==1) then
      (app 8 s16 [v23.Key]).bind λv24=>
      κ21 v24
     else
     κ21 s16)
   else
   some (.inr s16)) (0,[])).bind λe14=>
  κ12 e14)
def a1Z(a0:l5)(a1:Int):Option Bool:=
 some ((a1 != 0)&&(a0.Val==a1))
def w9(a0:List b8)(a1:Int):Option (List l5):=
 jn (λ(j16:List l5)=>
  some j16) (λκ15=>
  (a4H a0).bind λv17=>
  (lp (S:=Int × (List l5)) (E:=(List l5)) (λ((s19,s20):Int × (List l5))=>
   if (decide (s19<(v17.length:Int))) then
    (ix v17 s19).bind λv23=>
    (I0 a0 v23).bind λv24=>
    jn (λ(j28:List l5)=>
     some (.inl (p6 (s19+1),j28))) (λκ27=>
     (a1Z (⟨v23,v24.1⟩:l5) a1).bind λv29=>
     if v29 then
      (app 16 s20 [(⟨v23,v24.1⟩:l5)]).bind λv30=>
      κ27 v30
     else
     κ27 s20)
   else
   some (.inr s20)) (0,[])).bind λe18=>
  κ15 e18)
def a3W(a0:List b8)(a1:Int):Option Int:=
 (a0K a0).bind λv1=>
 (w9 v1 a1).bind λv2=>
 some (v2.length:Int)
def a4l(a0:a7)(a1:List b8)(a2:Int):Option Int:=
 (b16 a0 a2).bind λv1=>
 (a3W a1 a2).bind λv2=>
 some (p6 (v1+v2))
def a3J(a0:a7)(a1:List b8)(a2:Int):Option Int:=
 (o9 a0 a2).bind λv1=>
 if (v1.2 != 0) then
  some 0
 else
 (a4l a0 a1 a2).bind λv2=>
 some (p6 (v1.1.Strong-v2))
def a2c(a0:Int):Option Bool:=
 (B7 a0).bind λv1=>
 some v1
def a6a(a0:Int)(a1:k9)(a2:a7)(a3:List b8):Option Bool:=
 (a3J a2 a3 a0).bind λv1=>
 (p8 ((decide (v1 > 0))==false) false (a2c a1.Strong)).bind λv2=>
 some ((decide (v1 > 0))||v2)
def a59(a0:a7)(a1:List b8):Option (List Int):=
 jn (λ(j36:List Int)=>
  some j36) (λκ35=>
  jn (λ(j54:List Int)=>
   κ35 j54) (λκ53=>
   (y4 a0).bind λv55=>
   (lp (S:=Int × (List Int)) (E:=(List Int)) (λ((s57,s58):Int × (List Int))=>
    if (decide (s57<(v55.length:Int))) then
     jn (λ(j66:List Int)=>
      some (.inl (p6 (s57+1),j66))) (λκ65=>
      (ix v55 s57).bind λv67=>
      (o9 a0 v67).bind λv68=>
      (a6a v67 v68.1 a0 a1).bind λv69=>
      if v69 then
       (app 8 s58 [v67]).bind λv70=>
       κ65 v70
      else
      κ65 s58)
    else
    some (.inr s58)) (0,[])).bind λe56=>
   κ53 e56))
def a19(a0:Int):Option g9:=
 some (⟨[],a0⟩:g9)
def Z5(a0:a7)(a1:Int):Option Bool:=
 (o9 a0 a1).bind λv1=>
 some (v1.2==0)
def H8(a0:g9):Option Int:=
 some (a0.L.length:Int)
def L4(a0:List Int)(a1:Int)(a2:Int):Option (List Int):=
 (cut a0 a1 a2).bind λv1=>
 some v1
def L3(a0:g9)(a1:Int):Option (g9 × Int):=
 (H8 a0).bind λv1=>
 if (decide (v1≥a0.Cap)) then
  some (a0,4)
 else
 (L4 a0.L 0 v1).bind λv2=>
 (app 8 v2 [a1]).bind λv3=>
 some ((⟨v3,a0.Cap⟩:g9),0)
def a2I(a0:g9)(a1:Int):Option (g9 × (List Int)):=
 (H8 a0).bind λv1=>
 (L4 a0.L 0 (if (if v1<a1 then v1 else a1) > 0 then (if v1<a1 then v1 else a1) else 0)).bind λv2=>
 (L4 a0.L (if (if v1<a1 then v1 else a1) > 0 then (if v1<a1 then v1 else a1) else 0) v1).bind λv3=>
 some ((⟨v3,a0.Cap⟩:g9),v2)
def a0n(a0:g9):Option (g9 × Int × Int):=
 (a2I a0 1).bind λv1=>
 if ((v1.2.length:Int)==0) then
  some (a0,0,10)
 else
 (ix v1.2 0).bind λv2=>
 some (v1.1,v2,0)
def a1g(a0:a7)(a1:List Int):Option (List (Int × Bool)):=
 (y4 a0).bind λv1=>
 (a19 (v1.length:Int)).bind λv2=>
 jn (λ((j20,j21):g9 × (List (Int × Bool)))=>
  jn (λ(j68:List (Int × Bool))=>
   some j68) (λκ67=>
   (lp (S:=g9 × (List (Int × Bool))) (E:=(List (Int × Bool))) (λ((s70,s71):g9 × (List (Int × Bool)))=>
    (H8 s70).bind λv74=>
    if (decide (v74 > 0)) then
     (a0n s70).bind λv75=>
     (a40 a0 v75.2.1).bind λv76=>
     jn (λ((j94,j95):g9 × (List (Int × Bool)))=>
      some (.inl (j94,j95))) (λκ93=>
      (lp (S:=Int × g9 × (List (Int × Bool))) (E:=(g9 × (List (Int × Bool)))) (λ((s98,s99,s100):Int × g9 × (List (Int × Bool)))=>
       if (decide (s98<(v76.length:Int))) then
        jn (λ((j107,j108):g9 × (List (Int × Bool)))=>
         some (.inl (p6 (s98+1),j107,j108))) (λκ106=>
         (ix v76 s98).bind λv110=>
         (Z5 a0 v110).bind λv111=>
         if (v111==true) then
          if (!((r8 s100 v110).getD (false:Bool))) then
           (L3 s99 v110).bind λv112=>
           κ106 (v112.1,(m9 s100 v110 true))
          else
          κ106 (s99,s100)
         else
         κ106 (s99,s100))
       else
       some (.inr (s99,s100))) (0,v75.1,s71)).bind λe97=>
      κ93 e97)
    else
    some (.inr s71)) (j20,j21)).bind λe69=>
   κ67 e69)) (λκ19=>
  (lp (S:=Int × g9 × (List (Int × Bool))) (E:=(g9 × (List (Int × Bool)))) (λ((a47,s115,s116):Int × g9 × (List (Int × Bool)))=>
   if (decide (a47<(a1.length:Int))) then
    jn (λ((j123,j124):g9 × (List (Int × Bool)))=>
     some (.inl (p6 (a47+1),j123,j124))) (λκ122=>
     (ix a1 a47).bind λv126=>
     (Z5 a0 v126).bind λv127=>
     if (v127==true) then
      if (!((r8 s116 v126).getD (false:Bool))) then
       (L3 s115 v126).bind λv128=>
       κ122 (v128.1,(m9 s116 v126 true))
      else
      κ122 (s115,s116)
     else
     κ122 (s115,s116))
   else
   some (.inr (s115,s116))) (0,v2,[])).bind λe113=>
  κ19 e113)
def a2X(a0:Int)(a1:List (Int × Bool)):Option Bool:=
 some ((r8 a1 a0).getD (false:Bool))
def N5(a0:a7)(a1:List (Int × Bool)):Option (List Int):=
 jn (λ(j16:List Int)=>
  some j16) (λκ15=>
  (y4 a0).bind λv17=>
  (lp (S:=Int × (List Int)) (E:=(List Int)) (λ((s19,s20):Int × (List Int))=>
   if (decide (s19<(v17.length:Int))) then
    jn (λ(j27:List Int)=>
     some (.inl (p6 (s19+1),j27))) (λκ26=>
     (ix v17 s19).bind λv28=>
     (a2X v28 a1).bind λv29=>
     if v29 then
      (app 8 s20 [v28]).bind λv30=>
      κ26 v30
     else
     κ26 s20)
   else
   some (.inr s20)) (0,[])).bind λe18=>
  κ15 e18)
def a3D(a0:a7)(a1:List Int):Option (List Int):=
 (a1g a0 a1).bind λv1=>
 (N5 a0 v1).bind λv2=>
 some v2
def a10(a0:l5):Option Bool:=
 some true
def x4(a0:List b8):Option (List l5):=
 jn (λ(j16:List l5)=>
  some j16) (λκ15=>
  (a4H a0).bind λv17=>
  (lp (S:=Int × (List l5)) (E:=(List l5)) (λ((s19,s20):Int × (List l5))=>
   if (decide (s19<(v17.length:Int))) then
    (ix v17 s19).bind λv23=>
    (I0 a0 v23).bind λv24=>
    jn (λ(j28:List l5)=>
     some (.inl (p6 (s19+1),j28))) (λκ27=>
     (a10 (⟨v23,v24.1⟩:l5)).bind λv29=>
     if v29 then
      (app 16 s20 [(⟨v23,v24.1⟩:l5)]).bind λv30=>
      κ27 v30
     else
     κ27 s20)
   else
   some (.inr s20)) (0,[])).bind λe18=>
  κ15 e18)
def a2e(a0:List b8):Option (List l5):=
 (a0K a0).bind λv1=>
 (x4 v1).bind λv2=>
 some v2
def a3m(a0:Int)(a1:a7):Option Bool:=
 (o9 a1 a0).bind λv1=>
 some (v1.2==0)
def a9m(a0:a7)(a1:List b8)(a2:List Int):Option (List Int):=
 jn (λ(j20:List Int)=>
  some j20) (λκ19=>
  (a2e a1).bind λv21=>
  (lp (S:=Int × (List Int)) (E:=(List Int)) (λ((s23,s24):Int × (List Int))=>
   if (decide (s23<(v21.length:Int))) then
    jn (λ(j33:List Int)=>
     some (.inl (p6 (s23+1),j33))) (λκ32=>
     (ix v21 s23).bind λv34=>
     (C1 a2 v34.Key).bind λv35=>
     (p8 (v35==true) false (a3m v34.Key a0)).bind λv36=>
     (p8 ((v35&&v36)==true) false (a3m v34.Val a0)).bind λv37=>
     if ((v35&&v36)&&v37) then
      (app 8 s24 [v34.Val]).bind λv38=>
      κ32 v38
     else
     κ32 s24)
   else
   some (.inr s24)) (0,[])).bind λe22=>
  κ19 e22)
def a7x(a0:a7)(a1:List b8)(a2:List Int):Option ((List Int) × Int):=
 (a3D a0 a2).bind λv1=>
 (lp (S:=(List Int) × Int) (E:=((List Int) × Int)) (λ((s3,s4):(List Int) × Int)=>
  (a9m a0 a1 s3).bind λv7=>
  jn (λ(_:Unit)=>
   some (.inr (s3,s4))) (λκ15=>
   (lp (S:=Int) (E:=((List Int) × Int) ⊕ Unit) (λ(s18:Int)=>
    if (decide (s18<(v7.length:Int))) then
     (ix v7 s18).bind λv20=>
     (C1 s3 v20).bind λv21=>
     if (!v21) then
      (app 8 v7 s3).bind λv22=>
      (a3D a0 v22).bind λv23=>
      some (.inr (.inl (v23,p6 (s4+1))))
     else
     some (.inl (p6 (s18+1)))
    else
    some (.inr (.inr ()))) 0).bind λe17=>
   match e17 with
   | .inl w=>some (.inl w)
   | .inr w=>κ15 w)) (v1,0)).bind λe2=>
 some e2
def a9l(a0:a7)(a1:List b8)(a2:List Int):Option (List Int):=
 (a7x a0 a1 a2).bind λv1=>
 some v1.1
def a2Y(a0:Int)(a1:List (Int × Bool)):Option Bool:=
 some (!((r8 a1 a0).getD (false:Bool)))
def N6(a0:a7)(a1:List (Int × Bool)):Option (List Int):=
 jn (λ(j16:List Int)=>
  some j16) (λκ15=>
  (y4 a0).bind λv17=>
  (lp (S:=Int × (List Int)) (E:=(List Int)) (λ((s19,s20):Int × (List Int))=>
   if (decide (s19<(v17.length:Int))) then
    jn (λ(j27:List Int)=>
     some (.inl (p6 (s19+1),j27))) (λκ26=>
     (ix v17 s19).bind λv28=>
     (a2Y v28 a1).bind λv29=>
     if v29 then
      (app 8 s20 [v28]).bind λv30=>
      κ26 v30
     else
     κ26 s20)
   else
   some (.inr s20)) (0,[])).bind λe18=>
  κ15 e18)
def a5Q(a0:a7)(a1:List Int):Option (List Int):=
 (a1g a0 a1).bind λv1=>
 (N6 a0 v1).bind λv2=>
 some v2
def a6I(a0:a7)(a1:List b8)(a2:List Int):Option (List Int):=
 (a9l a0 a1 a2).bind λv1=>
 (a5Q a0 v1).bind λv2=>
 some v2
def a0r(a0:a7)(a1:List b8):Option (List Int):=
 (a59 a0 a1).bind λv1=>
 (a6I a0 a1 v1).bind λv2=>
 some v2
def D6(a0:b6):Option (List Int):=
 (a0r a0.S a0.T).bind λv1=>
 some v1
def a2A(a0:Int)(a1:b6):Option Bool:=
 (o9 a1.S a0).bind λv1=>
 some ((decide (v1.1.Prog≥0))&&(!v1.1.Started))
def E7(a0:List Int)(a1:b6):Option (List Int):=
 jn (λ(j15:List Int)=>
  some j15) (λκ14=>
  (lp (S:=Int × (List Int)) (E:=(List Int)) (λ((s17,s18):Int × (List Int))=>
   if (decide (s17<(a0.length:Int))) then
    jn (λ(j25:List Int)=>
     some (.inl (p6 (s17+1),j25))) (λκ24=>
     (ix a0 s17).bind λv26=>
     (a2A v26 a1).bind λv27=>
     if v27 then
      (app 8 s18 [v26]).bind λv28=>
      κ24 v28
     else
     κ24 s18)
   else
   some (.inr s18)) (0,[])).bind λe16=>
  κ14 e16)
def T2(a0:b6):Option (List Int):=
 (D6 a0).bind λv1=>
 (E7 v1 a0).bind λv2=>
 some v2
def D5(a0:b6):Option (b6 × Int × Int):=
 (T2 a0).bind λv1=>
 jn (λ(j10:b6)=>
  if (decide ((v1.length:Int) > 0)) then
   some (j10,(v1.length:Int),0)
  else
  (D6 j10).bind λv11=>
  (X8 j10 v11).bind λv12=>
  (T8 v12).bind λv13=>
  (y4 j10.S).bind λv14=>
  (y4 v13.S).bind λv15=>
  some (v13,0,p6 ((v14.length:Int)-(v15.length:Int)))) (λκ9=>
  (lp (S:=Int × b6) (E:=b6) (λ((s17,s18):Int × b6)=>
   if (decide (s17<(v1.length:Int))) then
    (ix v1 s17).bind λv21=>
    (N8 s18 v21).bind λv22=>
    some (.inl (p6 (s17+1),v22))
   else
   some (.inr s18)) (0,a0)).bind λe16=>
  κ9 e16)
def K4(a0:b6):Option Bool:=
 (D6 a0).bind λv1=>
 some ((v1.length:Int)==0)
def a7q(a0:Int):Option b6:=
 (a4K 4 5 8).bind λv1=>
 (G3 v1 [(⟨1,0,1,a0⟩:k8),(⟨1,1,1,(-1)⟩:k8),(⟨5,0,0,1⟩:k8),(⟨5,1,0,0⟩:k8),(⟨6,0,0,1⟩:k8),(⟨3,0,0,0⟩:k8),(⟨3,1,0,0⟩:k8)]).bind λv2=>
 some v2.1
def a4j:Option (List z6):=
 some [(⟨(some 338)⟩:z6),(⟨(some 339)⟩:z6),(⟨(some 340)⟩:z6),(⟨(some 341)⟩:z6)]
def T1(a0:a7)(a1:b7):Option Bool:=
 some ((decide (a1.State≥0))&&(decide (a1.State≤3)))
def I6(a0:a7)(a1:b7):Option Bool:=
 some ((decide (a1.Gen≥0))&&(decide (a1.Gen≤a0.S.Last)))
def F9(a0:b7):Option Bool:=
 some ((a0.State==1)||(a0.State==2))
def P8(a0:a7)(a1:b7):Option Bool:=
 (F9 a1).bind λv1=>
 (p8 (((!v1)==false)&&(((((decide (a1.Val.Serial≥1))&&(decide (a1.Val.Serial≤a0.Serial)))&&(decide (a1.Val.Strong≥0)))&&(decide (a1.Val.Weak≥0)))==true)) false (G0 a1.Val.Prog)).bind λv2=>
 some ((!v1)||((((((decide (a1.Val.Serial≥1))&&(decide (a1.Val.Serial≤a0.Serial)))&&(decide (a1.Val.Strong≥0)))&&(decide (a1.Val.Weak≥0)))&&v2)&&(decide ((a1.Val.Fields.length:Int)≤4))))
def J6(a0:a7)(a1:b7):Option Bool:=
 (F9 a1).bind λv1=>
 some (v1||((((a1.Val.Serial==0)&&((a1.Val.Strong==0)&&((a1.Val.Weak==0)&&((a1.Val.Prog==0)&&true))))&&(!a1.Val.Started))&&((a1.Val.Fields.length:Int)==0)))
def b1S(f:Fv)(a0:a7)(a1:b7):Option Bool:=
 if f=some 338 then T1 a0 a1 else
 if f=some 339 then I6 a0 a1 else
 if f=some 340 then P8 a0 a1 else
 if f=some 341 then J6 a0 a1 else
 none
def O7(a0:a7):Option Bool:=
 jn (λ(_:Unit)=>
  some true) (λκ12=>
  (lp (S:=Int × (List (Int × Bool))) (E:=Bool ⊕ Unit) (λ((s15,s16):Int × (List (Int × Bool)))=>
   if (decide (s15<(a0.S.a8.length:Int))) then
    jn (λ(j22:List (Int × Bool))=>
     some (.inl (p6 (s15+1),j22))) (λκ21=>
     (ix a0.S.a8 s15).bind λv23=>
     (F9 v23).bind λv24=>
     if (!v24) then
      κ21 s16
     else
     if ((r8 s16 v23.Val.Serial).getD (false:Bool)) then
      some (.inr (.inl false))
     else
     κ21 (m9 s16 v23.Val.Serial true))
   else
   some (.inr (.inr ()))) (0,[])).bind λe14=>
  match e14 with
  | .inl w=>some w
  | .inr w=>κ12 w)
def a2t(a0:a7):Option Bool:=
 if ((((decide ((a0.S.a8.length:Int) > 24))||(decide (a0.S.Last<0)))||(decide (a0.S.Last > 9)))||(decide (a0.Serial<0))) then
  some false
 else
 jn (λ(_:Unit)=>
  (O7 a0).bind λv24=>
  some v24) (λκ22=>
  (lp (S:=Int) (E:=Bool ⊕ Unit) (λ(s26:Int)=>
   if (decide (s26<(a0.S.a8.length:Int))) then
    jn (λ(_:Unit)=>
     some (.inl (p6 (s26+1)))) (λκ36=>
     (ix a0.S.a8 s26).bind λv38=>
     (a4j).bind λv39=>
     (lp (S:=Int) (E:=Bool ⊕ Unit) (λ(s41:Int)=>
      if (decide (s41<(v39.length:Int))) then
       (ix v39 s41).bind λv43=>
       (b1S v43.kept a0 v38).bind λv44=>
       if (!v44) then
        some (.inr (.inl false))
       else
       some (.inl (p6 (s41+1)))
      else
      some (.inr (.inr ()))) 0).bind λe40=>
     match e40 with
     | .inl w=>some (.inr (.inl w))
     | .inr w=>κ36 w)
   else
   some (.inr (.inr ()))) 0).bind λe25=>
  match e25 with
  | .inl w=>some w
  | .inr w=>κ22 w)
def a5v(a0:List b8):Option Bool:=
 if ((decide ((a0.length:Int)<1))||(decide ((a0.length:Int) > 8))) then
  some false
 else
 jn (λ(_:Unit)=>
  some true) (λκ6=>
  (lp (S:=Int) (E:=Bool ⊕ Unit) (λ(s9:Int)=>
   if (decide (s9<(a0.length:Int))) then
    (ix a0 s9).bind λv11=>
    (p8 (((!(((v11.State==0)&&((v11.Key==0)&&((v11.Val==0)&&true)))||((v11.State==2)&&((v11.Key==0)&&((v11.Val==0)&&true)))))==true)&&((v11.State != 1)==false)) 0 (I8 a0 v11.Key)).bind λv12=>
    if ((!(((v11.State==0)&&((v11.Key==0)&&((v11.Val==0)&&true)))||((v11.State==2)&&((v11.Key==0)&&((v11.Val==0)&&true)))))&&((v11.State != 1)||(v12 != s9))) then
     some (.inr (.inl false))
    else
    some (.inl (p6 (s9+1)))
   else
   some (.inr (.inr ()))) 0).bind λe8=>
  match e8 with
  | .inl w=>some w
  | .inr w=>κ6 w)
def a04(a0:b6):Option Bool:=
 (b0c).bind λv1=>
 (a2t a0.S).bind λv2=>
 (p8 (v2==true) false (a5v a0.T)).bind λv3=>
 some (((((v2&&v3)&&((a0.Roots.length:Int)==6))&&((a0.a8.length:Int)==6))&&(a0.Q.Cap==v1.Cap))&&(decide ((a0.Q.L.length:Int)≤v1.Cap)))
def a1J(a0:Int)(a1:b6):Option Bool:=
 (F1 a1 a0).bind λv1=>
 some v1
def C6(a0:List Int)(a1:b6):Option Bool:=
 jn (λ(_:Unit)=>
  some true) (λκ6=>
  (lp (S:=Int) (E:=Bool ⊕ Unit) (λ(s9:Int)=>
   if (decide (s9<(a0.length:Int))) then
    (ix a0 s9).bind λv11=>
    (a1J v11 a1).bind λv12=>
    if (!v12) then
     some (.inr (.inl false))
    else
    some (.inl (p6 (s9+1)))
   else
   some (.inr (.inr ()))) 0).bind λe8=>
  match e8 with
  | .inl w=>some w
  | .inr w=>κ6 w)
def W6(a0:b6):Option Bool:=
 (E6 a0.Roots).bind λv1=>
 jn (λ(j12:List Int)=>
  (C6 j12 a0).bind λv13=>
  some v13) (λκ11=>
  (y4 a0.S).bind λv14=>
  (lp (S:=Int × (List Int)) (E:=(List Int)) (λ((s16,s17):Int × (List Int))=>
   if (decide (s16<(v14.length:Int))) then
    (ix v14 s16).bind λv20=>
    (o9 a0.S v20).bind λv21=>
    (app 8 s17 v21.1.Fields).bind λv22=>
    some (.inl (p6 (s16+1),v22))
   else
   some (.inr s17)) (0,v1)).bind λe15=>
  κ11 e15)
def a1K(a0:l5)(a1:b6):Option Bool:=
 (W5 a1 a0.Key).bind λv1=>
 (p8 (v1==true) false (W5 a1 a0.Val)).bind λv2=>
 some (v1&&v2)
def z7(a0:List l5)(a1:b6):Option Bool:=
 jn (λ(_:Unit)=>
  some true) (λκ6=>
  (lp (S:=Int) (E:=Bool ⊕ Unit) (λ(s9:Int)=>
   if (decide (s9<(a0.length:Int))) then
    (ix a0 s9).bind λv11=>
    (a1K v11 a1).bind λv12=>
    if (!v12) then
     some (.inr (.inl false))
    else
    some (.inl (p6 (s9+1)))
   else
   some (.inr (.inr ()))) 0).bind λe8=>
  match e8 with
  | .inl w=>some w
  | .inr w=>κ6 w)
def a03(a0:b6):Option Bool:=
 (a2e a0.T).bind λv1=>
 (z7 v1 a0).bind λv2=>
 some v2
def a05(a0:b6)(a1:g7):Option Bool:=
 if (a1.Kind==1) then
  (o9 a0.S a1.At).bind λv1=>
  some ((v1.2==0)&&v1.1.Started)
 else
 if (a1.Kind==2) then
  (p8 (((decide (a1.At≥0))&&(decide (a1.At<(a0.a8.length:Int))))==true) (⟨0,false,0⟩:c4) (ix a0.a8 a1.At)).bind λv2=>
  some (((decide (a1.At≥0))&&(decide (a1.At<(a0.a8.length:Int))))&&(!v2.Intact))
 else
 some false
def a14(a0:b6):Option Bool:=
 jn (λ((j18,j19):Bool × (List (g7 × Bool)))=>
  some j18) (λκ17=>
  jn (λ(j29:List (g7 × Bool))=>
   κ17 (true,j29)) (λκ28=>
   (lp (S:=Int × (List (g7 × Bool))) (E:=(Bool × (List (g7 × Bool))) ⊕ (List (g7 × Bool))) (λ((s31,s32):Int × (List (g7 × Bool)))=>
    if (decide (s31<(a0.Q.L.length:Int))) then
     (ix a0.Q.L s31).bind λv35=>
     (p8 ((((!((r8 s32 (⟨v35.Kind,v35.At,0⟩:g7)).getD (false:Bool)))&&(decide (v35.Prog≥0)))&&(decide (v35.Prog<6)))==true) false (a05 a0 v35)).bind λv36=>
     if (!((((!((r8 s32 (⟨v35.Kind,v35.At,0⟩:g7)).getD (false:Bool)))&&(decide (v35.Prog≥0)))&&(decide (v35.Prog<6)))&&v36)) then
      some (.inr (.inl (false,(m9 s32 (⟨v35.Kind,v35.At,0⟩:g7) true))))
     else
     some (.inl (p6 (s31+1),(m9 s32 (⟨v35.Kind,v35.At,0⟩:g7) true)))
    else
    some (.inr (.inr s32))) (0,[])).bind λe30=>
   match e30 with
   | .inl w=>κ17 w
   | .inr w=>κ28 w))
def a2D(a0:c4)(a1:b6):Option Bool:=
 if ((decide (a0.Call<(-1)))||(decide (a0.Call≥6))) then
  some false
 else
 if a0.Intact then
  (W5 a1 a0.Target).bind λv1=>
  some v1
 else
 (o7 a1.S.S a0.Target).bind λv2=>
 some ((a0.Target==0)||(v2.2==0))
def A6(a0:List c4)(a1:b6):Option Bool:=
 jn (λ(_:Unit)=>
  some true) (λκ6=>
  (lp (S:=Int) (E:=Bool ⊕ Unit) (λ(s9:Int)=>
   if (decide (s9<(a0.length:Int))) then
    (ix a0 s9).bind λv11=>
    (a2D v11 a1).bind λv12=>
    if (!v12) then
     some (.inr (.inl false))
    else
    some (.inl (p6 (s9+1)))
   else
   some (.inr (.inr ()))) 0).bind λe8=>
  match e8 with
  | .inl w=>some w
  | .inr w=>κ6 w)
def a12(a0:b6):Option Bool:=
 (A6 a0.a8 a0).bind λv1=>
 some v1
def a2b(a0:c4)(a1:Int):Option Bool:=
 some ((a1 != 0)&&(a0.Target==a1))
def L8(a0:List c4)(a1:Int):Option (List Int):=
 jn (λ(j15:List Int)=>
  some j15) (λκ14=>
  (lp (S:=Int × (List Int)) (E:=(List Int)) (λ((s17,s18):Int × (List Int))=>
   if (decide (s17<(a0.length:Int))) then
    jn (λ(j25:List Int)=>
     some (.inl (p6 (s17+1),j25))) (λκ24=>
     (ix a0 s17).bind λv26=>
     (a2b v26 a1).bind λv27=>
     if v27 then
      (app 8 s18 [s17]).bind λv28=>
      κ24 v28
     else
     κ24 s18)
   else
   some (.inr s18)) (0,[])).bind λe16=>
  κ14 e16)
def a2v(a0:List c4)(a1:Int):Option Int:=
 (L8 a0 a1).bind λv1=>
 some (v1.length:Int)
def a13(a0:b6):Option Bool:=
 jn (λ(_:Unit)=>
  some true) (λκ12=>
  (lp (S:=Int) (E:=Bool ⊕ Unit) (λ(s15:Int)=>
   if (decide (s15<(a0.S.S.a8.length:Int))) then
    jn (λ(_:Unit)=>
     some (.inl (p6 (s15+1)))) (λκ20=>
     (ix a0.S.S.a8 s15).bind λv22=>
     if ((v22.State != 1)&&(v22.State != 2)) then
      κ20 ()
     else
     (W2 s15 v22.Gen).bind λv23=>
     (a2v a0.a8 v23).bind λv24=>
     if (v22.Val.Weak != v24) then
      some (.inr (.inl false))
     else
     if ((v22.State==2)&&(((decide (v22.Val.Weak<1))||(decide ((v22.Val.Fields.length:Int) > 0)))||(v22.Val.Strong != 0))) then
      some (.inr (.inl false))
     else
     κ20 ())
   else
   some (.inr (.inr ()))) 0).bind λe14=>
  match e14 with
  | .inl w=>some w
  | .inr w=>κ12 w)
def Y7(f:Fv)(a0:b6):Option Bool:=
 if f=some 122 then W6 a0 else
 if f=some 123 then a03 a0 else
 if f=some 124 then a14 a0 else
 if f=some 125 then a12 a0 else
 if f=some 126 then a13 a0 else
 none
def a5c(a0:c9):Option (List Int):=
 jn (λ(j10:List Int)=>
  some j10) (λκ9=>
  (a7S a0 1).bind λv11=>
  (lp (S:=Int × (List Int)) (E:=(List Int)) (λ((s13,s14):Int × (List Int))=>
   if (decide (s13<(v11.1.L.length:Int))) then
    (ix v11.1.L s13).bind λv17=>
    if ((v17.Kind==v11.2)==true) then
     (app 8 s14 [v17.At]).bind λv18=>
     some (.inl (p6 (s13+1),v18))
    else
    some (.inl (p6 (s13+1),s14))
   else
   some (.inr s14)) (0,[])).bind λe12=>
  κ9 e12)
def a5y(a0:b6):Option (List Int):=
 jn (λ(j13:List Int)=>
  (a5c a0.Q).bind λv14=>
  (app 8 j13 v14).bind λv15=>
  some v15) (λκ12=>
  (lp (S:=Int × (List Int)) (E:=(List Int)) (λ((s17,s18):Int × (List Int))=>
   if (decide (s17<(a0.Roots.length:Int))) then
    jn (λ(j24:List Int)=>
     some (.inl (p6 (s17+1),j24))) (λκ23=>
     (ix a0.Roots s17).bind λv25=>
     if (v25 != 0) then
      (app 8 s18 [v25]).bind λv26=>
      κ23 v26
     else
     κ23 s18)
   else
   some (.inr s18)) (0,[])).bind λe16=>
  κ12 e16)
def a7V(a0:List Int)(a1:Int):Option Int:=
 jn (λ(j11:Int)=>
  some j11) (λκ10=>
  (a3i a0).bind λv12=>
  (lp (S:=Int × Int) (E:=Int) (λ((s14,s15):Int × Int)=>
   if (decide (s14<(v12.length:Int))) then
    (ix v12 s14).bind λv18=>
    if ((v18 != 0)==true) then
     jn (λ(j20:Int)=>
      if ((v18 != 0)&&false) then
       some (.inr j20)
      else
      some (.inl (p6 (s14+1),j20))) (λκ19=>
      if (v18==a1) then
       κ19 (p6 (s15+1))
      else
      κ19 s15)
    else
    some (.inl (p6 (s14+1),s15))
   else
   some (.inr s15)) (0,0)).bind λe13=>
  κ10 e13)
def a5R(a0:List Int)(a1:Int):Option Int:=
 (a7V a0 a1).bind λv1=>
 some v1
def a23(a0:Int)(a1:k9)(a2:a7)(a3:List b8)(a4:List Int):Option Bool:=
 (a2c a1.Strong).bind λv1=>
 (p8 ((!v1)==true) 0 (a3J a2 a3 a0)).bind λv2=>
 (p8 ((!v1)==true) 0 (a5R a4 a0)).bind λv3=>
 some ((!v1)&&(v2 != v3))
def a58(a0:a7)(a1:List b8)(a2:List Int):Option Bool:=
 jn (λ(j36:List Int)=>
  some ((j36.length:Int)==0)) (λκ35=>
  jn (λ(j54:List Int)=>
   κ35 j54) (λκ53=>
   (y4 a0).bind λv55=>
   (lp (S:=Int × (List Int)) (E:=(List Int)) (λ((s57,s58):Int × (List Int))=>
    if (decide (s57<(v55.length:Int))) then
     jn (λ(j66:List Int)=>
      some (.inl (p6 (s57+1),j66))) (λκ65=>
      (ix v55 s57).bind λv67=>
      (o9 a0 v67).bind λv68=>
      (a23 v67 v68.1 a0 a1 a2).bind λv69=>
      if v69 then
       (app 8 s58 [v67]).bind λv70=>
       κ65 v70
      else
      κ65 s58)
    else
    some (.inr s58)) (0,[])).bind λe56=>
   κ53 e56))
def a5z(a0:b6):Option Bool:=
 (a04 a0).bind λv1=>
 if (!v1) then
  some false
 else
 jn (λ(_:Unit)=>
  (a5y a0).bind λv10=>
  (a58 a0.S a0.T v10).bind λv11=>
  some v11) (λκ8=>
  (lp (S:=Int) (E:=Bool ⊕ Unit) (λ(s13:Int)=>
   if (decide (s13<([(some 122),(some 123),(some 124),(some 125),(some 126)].length:Int))) then
    (ix [(some 122),(some 123),(some 124),(some 125),(some 126)] s13).bind λv15=>
    (Y7 v15 a0).bind λv16=>
    if (!v16) then
     some (.inr (.inl false))
    else
    some (.inl (p6 (s13+1)))
   else
   some (.inr (.inr ()))) 0).bind λe12=>
  match e12 with
  | .inl w=>some w
  | .inr w=>κ8 w)
def a1V:Option Bool:=
 (a7q (-1)).bind λv1=>
 (D5 v1).bind λv2=>
 (a7q 2).bind λv3=>
 (D5 v3).bind λv4=>
 (D5 v4.1).bind λv5=>
 (D6 v1).bind λv6=>
 (p8 (((((v6.length:Int)==2)&&(v2.2.1==0))&&(v2.2.2==2))==true) false (K4 v2.1)).bind λv7=>
 (p8 (((((((v6.length:Int)==2)&&(v2.2.1==0))&&(v2.2.2==2))&&v7)&&((v2.1.Q.L.length:Int)==1))==true) [] (T2 v3)).bind λv8=>
 (p8 (((((((((((v6.length:Int)==2)&&(v2.2.1==0))&&(v2.2.2==2))&&v7)&&((v2.1.Q.L.length:Int)==1))&&((v8.length:Int)==1))&&(v4.2.1==1))&&(v4.2.2==0))&&((v4.1.Q.L.length:Int)==1))==true) false (K4 v4.1)).bind λv9=>
 (p8 ((((((((((((((v6.length:Int)==2)&&(v2.2.1==0))&&(v2.2.2==2))&&v7)&&((v2.1.Q.L.length:Int)==1))&&((v8.length:Int)==1))&&(v4.2.1==1))&&(v4.2.2==0))&&((v4.1.Q.L.length:Int)==1))&&v9)&&(v5.2.1==0))&&(v5.2.2==0))==true) false (a5z v5.1)).bind λv10=>
 some ((((((((((((((v6.length:Int)==2)&&(v2.2.1==0))&&(v2.2.2==2))&&v7)&&((v2.1.Q.L.length:Int)==1))&&((v8.length:Int)==1))&&(v4.2.1==1))&&(v4.2.2==0))&&((v4.1.Q.L.length:Int)==1))&&v9)&&(v5.2.1==0))&&(v5.2.2==0))&&v10)
def a0x(a0:Int)(a1:Bool):Option Bool:=
 (rem (p6 a0) 24).bind λv1=>
 (a4K 24 3 8).bind λv2=>
 (G3 v2 [(⟨1,0,1,(-1)⟩:k8),(⟨2,1,0,0⟩:k8)]).bind λv3=>
 jn (λ(j11:b6)=>
  (G3 j11 [(⟨5,0,0,1⟩:k8),(⟨3,0,0,0⟩:k8),(⟨3,2,0,0⟩:k8)]).bind λv12=>
  jn (λ(j15:b6)=>
   (D5 j15).bind λv16=>
   jn (λ(j18:Int)=>
    (y4 j15.S).bind λv19=>
    (p8 (((((v19.length:Int)==(p6 (1+v1)))&&(v16.2.1==0))&&(v16.2.2==j18))==true) [] (y4 v16.1.S)).bind λv20=>
    (p8 ((((((v19.length:Int)==(p6 (1+v1)))&&(v16.2.1==0))&&(v16.2.2==j18))&&((v20.length:Int)==(p6 ((p6 (1+v1))-j18))))==true) false (K4 v16.1)).bind λv21=>
    (p8 (((((((v19.length:Int)==(p6 (1+v1)))&&(v16.2.1==0))&&(v16.2.2==j18))&&((v20.length:Int)==(p6 ((p6 (1+v1))-j18))))&&v21)==true) false a1V).bind λv22=>
    some (((((((v19.length:Int)==(p6 (1+v1)))&&(v16.2.1==0))&&(v16.2.2==j18))&&((v20.length:Int)==(p6 ((p6 (1+v1))-j18))))&&v21)&&v22)) (λκ17=>
    if a1 then
     κ17 0
    else
    κ17 (p6 (1+v1)))) (λκ14=>
   if (!a1) then
    (G3 v12.1 [(⟨3,1,0,0⟩:k8)]).bind λv23=>
    κ14 v23.1
   else
   κ14 v12.1)) (λκ10=>
  (lp (S:=Int × b6) (E:=b6) (λ((s25,s26):Int × b6)=>
   if (decide (s25<(p6 (1+v1)))) then
    (G3 s26 [(⟨1,2,1,(-1)⟩:k8),(⟨5,2,0,1⟩:k8),(⟨2,1,2,0⟩:k8)]).bind λv29=>
    some (.inl (p6 (s25+1),v29.1))
   else
   some (.inr s26)) (1,v3.1)).bind λe24=>
  κ10 e24)
def a3z(a0:Int)(a1:Int):Option Int:=
 if ((((decide (a0<0))||(decide (a0 > 23)))||(decide (a1<0)))||(decide (a1 > 9))) then
  some 0
 else
 some (p6 ((p6 (1+a0))+(p6 (32*a1))))
def K8(a0:m8):Option D1:=
 jn (λ(j9:List E1)=>
  some (⟨j9,a0.Last⟩:D1)) (λκ8=>
  (lp (S:=Int × (List E1)) (E:=(List E1)) (λ((s11,s12):Int × (List E1))=>
   if (decide (s11<(a0.a8.length:Int))) then
    (ix a0.a8 s11).bind λv15=>
    (app 24 s12 [(⟨v15.State,v15.Gen,s11⟩:E1)]).bind λv16=>
    some (.inl (p6 (s11+1),v16))
   else
   some (.inr s12)) (0,[])).bind λe10=>
  κ8 e10)
def a7C(a0:Int):Option Bool:=
 if ((decide (a0<1))||(decide (a0 > 400))) then
  some false
 else
 (rem (p6 (a0-1)) 32).bind λv1=>
 (quo .i64 (p6 (a0-1)) 32).bind λv2=>
 (a3z v1 v2).bind λv3=>
 some (v3==a0)
def a6Z(a0:Int):Option Int:=
 (a7C a0).bind λv1=>
 if (!v1) then
  some (-1)
 else
 (rem (p6 (a0-1)) 32).bind λv2=>
 some v2
def b5L(a0:Int):Option Int:=
 (a7C a0).bind λv1=>
 if (!v1) then
  some (-1)
 else
 (quo .i64 (p6 (a0-1)) 32).bind λv2=>
 some v2
def L5(a0:D1)(a1:Int):Option (Int × Int):=
 if (a1==0) then
  some ((-1),2)
 else
 (a6Z a1).bind λv1=>
 if ((decide (v1<0))||(decide (v1≥(a0.a8.length:Int)))) then
  some ((-1),3)
 else
 (ix a0.a8 v1).bind λv2=>
 (b5L a1).bind λv3=>
 if ((v2.Gen != v3)||((v2.State != 1)&&(v2.State != 2))) then
  some ((-1),3)
 else
 some (v1,0)
def a8W(a0:m8)(a1:List Int):Option (List Int):=
 (app 8 [] a1).bind λv1=>
 jn (λ(j36:List Int)=>
  some j36) (λκ35=>
  (lp (S:=Int × (List Int)) (E:=(List Int)) (λ((s38,s39):Int × (List Int))=>
   if (decide (s38<(s39.length:Int))) then
    jn (λ(j56:List Int)=>
     some (.inl (p6 (s38+1),j56))) (λκ55=>
     (lp (S:=Int × (List Int)) (E:=(List Int)) (λ((s58,s59):Int × (List Int))=>
      if (decide (s58 > 0)) then
       (K8 a0).bind λv62=>
       (ix s59 (p6 (s58-1))).bind λv63=>
       (L5 v62 v63).bind λv64=>
       (ix s59 s58).bind λv65=>
       (L5 v62 v65).bind λv66=>
       (p8 (((decide (v64.1<0))||(decide (v66.1<0)))==false) (⟨0,0,⟨0,0,0,0,false,[]⟩⟩:B9) (ix a0.a8 v64.1)).bind λv67=>
       (p8 (((decide (v64.1<0))||(decide (v66.1<0)))==false) (⟨0,0,⟨0,0,0,0,false,[]⟩⟩:B9) (ix a0.a8 v66.1)).bind λv68=>
       if (((decide (v64.1<0))||(decide (v66.1<0)))||(decide (v67.Val.Serial≤v68.Val.Serial))) then
        some (.inr s59)
       else
       (ix (s59.set (s58).toNat v63) (p6 (s58-1))).bind λv69=>
       some (.inl (p6 (s58-1),((s59.set (s58).toNat v63).set (p6 (s58-1)).toNat v65)))
      else
      some (.inr s59)) (s38,s39)).bind λe57=>
     κ55 e57)
   else
   some (.inr s39)) (1,v1)).bind λe37=>
  κ35 e37)
def P6(a0:m8):Option (List Int):=
 jn (λ(j15:List Int)=>
  (a8W a0 j15).bind λv16=>
  some v16) (λκ14=>
  (lp (S:=Int × (List Int)) (E:=(List Int)) (λ((s18,s19):Int × (List Int))=>
   if (decide (s18<(a0.a8.length:Int))) then
    jn (λ(j26:List Int)=>
     some (.inl (p6 (s18+1),j26))) (λκ25=>
     (ix a0.a8 s18).bind λv27=>
     if (v27.State==1) then
      (a3z s18 v27.Gen).bind λv28=>
      (app 8 s19 [v28]).bind λv29=>
      κ25 v29
     else
     κ25 s19)
   else
   some (.inr s19)) (0,[])).bind λe17=>
  κ14 e17)
def b11(a0:D1)(a1:Int):Option (Int × Int):=
 (L5 a0 a1).bind λv1=>
 if (v1.2 != 0) then
  some (0,v1.2)
 else
 (ix a0.a8 v1.1).bind λv2=>
 if (v2.State==2) then
  some (0,3)
 else
 some (v2.Val,0)
def C7(a0:m8)(a1:Int):Option (D9 × Int):=
 (K8 a0).bind λv1=>
 (b11 v1 a1).bind λv2=>
 if (v2.2 != 0) then
  some ((⟨0,0,0,0,false,[]⟩:D9),v2.2)
 else
 (ix a0.a8 v2.1).bind λv3=>
 some (v3.Val,0)
def a3e(a0:List Int):Option (List Int):=
 jn (λ(j13:List Int)=>
  some j13) (λκ12=>
  (lp (S:=Int × (List Int)) (E:=(List Int)) (λ((s15,s16):Int × (List Int))=>
   if (decide (s15<(a0.length:Int))) then
    jn (λ(j22:List Int)=>
     some (.inl (p6 (s15+1),j22))) (λκ21=>
     (ix a0 s15).bind λv23=>
     if (v23 != 0) then
      (app 8 s16 [v23]).bind λv24=>
      κ21 v24
     else
     κ21 s16)
   else
   some (.inr s16)) (0,[])).bind λe14=>
  κ12 e14)
def b14(a0:m8)(a1:Int):Option (List Int):=
 (C7 a0 a1).bind λv1=>
 if (v1.2 != 0) then
  some []
 else
 (a3e v1.1.Fields).bind λv2=>
 some v2
def a1P(a0:List Int)(a1:Int):Option Int:=
 jn (λ(j11:Int)=>
  some j11) (λκ10=>
  (lp (S:=Int × Int) (E:=Int) (λ((s13,s14):Int × Int)=>
   if (decide (s14<(a0.length:Int))) then
    jn (λ(j19:Int)=>
     some (.inl (j19,p6 (s14+1)))) (λκ18=>
     (ix a0 s14).bind λv20=>
     if ((v20==a1)&&(a1 != 0)) then
      κ18 (p6 (s13+1))
     else
     κ18 s13)
   else
   some (.inr s13)) (0,0)).bind λe12=>
  κ10 e12)
def b8w(a0:m8)(a1:Int):Option Int:=
 (P6 a0).bind λv1=>
 jn (λ(j11:Int)=>
  some j11) (λκ10=>
  (lp (S:=Int × Int) (E:=Int) (λ((s13,s14):Int × Int)=>
   if (decide (s14<(v1.length:Int))) then
    (ix v1 s14).bind λv17=>
    (b14 a0 v17).bind λv18=>
    (a1P v18 a1).bind λv19=>
    some (.inl (p6 (s13+v19),p6 (s14+1)))
   else
   some (.inr s13)) (0,0)).bind λe12=>
  κ10 e12)
def b21(a0:List n9):Option (List Int):=
 jn (λ(j13:List Int)=>
  some j13) (λκ12=>
  (lp (S:=Int × (List Int)) (E:=(List Int)) (λ((s15,s16):Int × (List Int))=>
   if (decide (s15<(a0.length:Int))) then
    jn (λ(j22:List Int)=>
     some (.inl (p6 (s15+1),j22))) (λκ21=>
     (ix a0 s15).bind λv23=>
     if (v23.State==1) then
      (app 8 s16 [v23.Key]).bind λv24=>
      κ21 v24
     else
     κ21 s16)
   else
   some (.inr s16)) (0,[])).bind λe14=>
  κ12 e14)
def a1e(a0:List n9)(a1:Int):Option Int:=
 jn (λ(_:Unit)=>
  some (-1)) (λκ5=>
  (lp (S:=Int) (E:=Int ⊕ Unit) (λ(s8:Int)=>
   if (decide (s8<(a0.length:Int))) then
    (ix a0 s8).bind λv10=>
    if ((v10.State==1)&&(v10.Key==a1)) then
     some (.inr (.inl s8))
    else
    some (.inl (p6 (s8+1)))
   else
   some (.inr (.inr ()))) 0).bind λe7=>
  match e7 with
  | .inl w=>some w
  | .inr w=>κ5 w)
def a9T(a0:List n9)(a1:Int):Option (Int × Int):=
 (a1e a0 a1).bind λv1=>
 if (decide (v1<0)) then
  some (0,9)
 else
 (ix a0 v1).bind λv2=>
 some (v2.Val,0)
def a4W(a0:List n9):Option (List X4):=
 (b21 a0).bind λv1=>
 jn (λ(j11:List X4)=>
  some j11) (λκ10=>
  (lp (S:=Int × (List X4)) (E:=(List X4)) (λ((s13,s14):Int × (List X4))=>
   if (decide (s13<(v1.length:Int))) then
    (ix v1 s13).bind λv17=>
    (a9T a0 v17).bind λv18=>
    (app 16 s14 [(⟨v17,v18.1⟩:X4)]).bind λv19=>
    some (.inl (p6 (s13+1),v19))
   else
   some (.inr s14)) (0,[])).bind λe12=>
  κ10 e12)
def b0O(a0:List n9)(a1:Int):Option Int:=
 (a4W a0).bind λv1=>
 jn (λ(j12:Int)=>
  some j12) (λκ11=>
  (lp (S:=Int × Int) (E:=Int) (λ((s14,s15):Int × Int)=>
   if (decide (s15<(v1.length:Int))) then
    jn (λ(j20:Int)=>
     some (.inl (j20,p6 (s15+1)))) (λκ19=>
     (ix v1 s15).bind λv21=>
     if ((v21.Val==a1)&&(a1 != 0)) then
      κ19 (p6 (s14+1))
     else
     κ19 s14)
   else
   some (.inr s14)) (0,0)).bind λe13=>
  κ11 e13)
def b0P(a0:m8)(a1:List n9)(a2:Int):Option Int:=
 (b8w a0 a2).bind λv1=>
 (b0O a1 a2).bind λv2=>
 some (p6 (v1+v2))
def a9V(a0:m8)(a1:List n9)(a2:Int):Option Int:=
 (C7 a0 a2).bind λv1=>
 if (v1.2 != 0) then
  some 0
 else
 (b0P a0 a1 a2).bind λv2=>
 some (p6 (v1.1.Strong-v2))
def a1O(a0:Int):Option Bool:=
 some (decide (a0≥12))
def a7G(a0:m8)(a1:Int):Option Bool:=
 (C7 a0 a1).bind λv1=>
 (a1O v1.1.Strong).bind λv2=>
 some v2
def b24(a0:m8)(a1:List n9):Option (List Int):=
 (P6 a0).bind λv1=>
 jn (λ(j18:List Int)=>
  some j18) (λκ17=>
  (lp (S:=Int × (List Int)) (E:=(List Int)) (λ((s20,s21):Int × (List Int))=>
   if (decide (s20<(v1.length:Int))) then
    jn (λ(j29:List Int)=>
     some (.inl (p6 (s20+1),j29))) (λκ28=>
     (ix v1 s20).bind λv30=>
     (a9V a0 a1 v30).bind λv31=>
     (p8 ((decide (v31 > 0))==false) false (a7G a0 v30)).bind λv32=>
     if ((decide (v31 > 0))||v32) then
      (app 8 s21 [v30]).bind λv33=>
      κ28 v33
     else
     κ28 s21)
   else
   some (.inr s21)) (0,[])).bind λe19=>
  κ17 e19)
def a7D(a0:List Int)(a1:Int):Option Bool:=
 (a1P a0 a1).bind λv1=>
 some (decide (v1 > 0))
def a7E(a0:List Int)(a1:List Int)(a2:Bool):Option (List Int):=
 jn (λ(j15:List Int)=>
  some j15) (λκ14=>
  (lp (S:=Int × (List Int)) (E:=(List Int)) (λ((s17,s18):Int × (List Int))=>
   if (decide (s17<(a0.length:Int))) then
    jn (λ(j25:List Int)=>
     some (.inl (p6 (s17+1),j25))) (λκ24=>
     (ix a0 s17).bind λv26=>
     (a7D a1 v26).bind λv27=>
     if (v27==a2) then
      (app 8 s18 [v26]).bind λv28=>
      κ24 v28
     else
     κ24 s18)
   else
   some (.inr s18)) (0,[])).bind λe16=>
  κ14 e16)
def a62(a0:m8)(a1:List Int):Option (List Int):=
 (P6 a0).bind λv1=>
 (a7E v1 a1 true).bind λv2=>
 jn (λ(j51:List Int)=>
  some j51) (λκ50=>
  (lp (S:=(List Int) × Int) (E:=(List Int)) (λ((s53,s54):(List Int) × Int)=>
   if (decide (s54<(v1.length:Int))) then
    jn (λ(j78:List Int)=>
     some (.inl (j78,p6 (s54+1)))) (λκ77=>
     (app 8 [] s53).bind λv79=>
     jn (λ(j89:List Int)=>
      (a7E v1 j89 true).bind λv90=>
      κ77 v90) (λκ88=>
      (lp (S:=Int × (List Int)) (E:=(List Int)) (λ((s92,s93):Int × (List Int))=>
       if (decide (s92<(s53.length:Int))) then
        (ix s53 s92).bind λv96=>
        (b14 a0 v96).bind λv97=>
        (app 8 s93 v97).bind λv98=>
        some (.inl (p6 (s92+1),v98))
       else
       some (.inr s93)) (0,v79)).bind λe91=>
      κ88 e91))
   else
   some (.inr s53)) (v2,0)).bind λe52=>
  κ50 e52)
def a7F(a0:m8)(a1:Int):Option Bool:=
 (C7 a0 a1).bind λv1=>
 some (v1.2==0)
def a9U(a0:m8)(a1:List n9)(a2:List Int):Option (List Int):=
 (a4W a1).bind λv1=>
 jn (λ(j20:List Int)=>
  some j20) (λκ19=>
  (lp (S:=Int × (List Int)) (E:=(List Int)) (λ((s22,s23):Int × (List Int))=>
   if (decide (s22<(v1.length:Int))) then
    jn (λ(j32:List Int)=>
     some (.inl (p6 (s22+1),j32))) (λκ31=>
     (ix v1 s22).bind λv33=>
     (a7F a0 v33.Key).bind λv34=>
     (p8 (v34==true) false (a7D a2 v33.Key)).bind λv35=>
     (p8 ((v34&&v35)==true) false (a7F a0 v33.Val)).bind λv36=>
     if ((v34&&v35)&&v36) then
      (app 8 s23 [v33.Val]).bind λv37=>
      κ31 v37
     else
     κ31 s23)
   else
   some (.inr s23)) (0,[])).bind λe21=>
  κ19 e21)
def b2X(a0:List Int)(a1:List Int):Option Bool:=
 if ((a0.length:Int) != (a1.length:Int)) then
  some false
 else
 jn (λ(_:Unit)=>
  some true) (λκ6=>
  (lp (S:=Int) (E:=Bool ⊕ Unit) (λ(s9:Int)=>
   if (decide (s9<(a0.length:Int))) then
    (ix a0 s9).bind λv11=>
    (ix a1 s9).bind λv12=>
    if (v11 != v12) then
     some (.inr (.inl false))
    else
    some (.inl (p6 (s9+1)))
   else
   some (.inr (.inr ()))) 0).bind λe8=>
  match e8 with
  | .inl w=>some w
  | .inr w=>κ6 w)
def a8X(a0:m8)(a1:List n9)(a2:List Int):Option ((List Int) × Int):=
 (a62 a0 a2).bind λv1=>
 jn (λ(j13:List Int)=>
  some (j13,30)) (λκ12=>
  (lp (S:=(List Int) × Int) (E:=((List Int) × Int) ⊕ (List Int)) (λ((s15,s16):(List Int) × Int)=>
   if (decide (s16<30)) then
    (app 8 [] s15).bind λv19=>
    (a9U a0 a1 s15).bind λv20=>
    (app 8 v19 v20).bind λv21=>
    (a62 a0 v21).bind λv22=>
    (b2X v22 s15).bind λv23=>
    if v23 then
     some (.inr (.inl (s15,s16)))
    else
    some (.inl (v22,p6 (s16+1)))
   else
   some (.inr (.inr s15))) (v1,0)).bind λe14=>
  match e14 with
  | .inl w=>some w
  | .inr w=>κ12 w)
def b22(a0:m8)(a1:List n9)(a2:List Int):Option (List Int):=
 (a8X a0 a1 a2).bind λv1=>
 some v1.1
def b23(a0:m8)(a1:List n9)(a2:List Int):Option (List Int):=
 (b22 a0 a1 a2).bind λv1=>
 (P6 a0).bind λv2=>
 jn (λ(j17:List Int)=>
  some j17) (λκ16=>
  (lp (S:=Int × (List Int)) (E:=(List Int)) (λ((s19,s20):Int × (List Int))=>
   if (decide (s19<(v2.length:Int))) then
    jn (λ(j27:List Int)=>
     some (.inl (p6 (s19+1),j27))) (λκ26=>
     (ix v2 s19).bind λv28=>
     (a7D v1 v28).bind λv29=>
     if (!v29) then
      (app 8 s20 [v28]).bind λv30=>
      κ26 v30
     else
     κ26 s20)
   else
   some (.inr s20)) (0,[])).bind λe18=>
  κ16 e18)
def a65(a0:m8)(a1:List n9):Option (List Int):=
 (b24 a0 a1).bind λv1=>
 (b23 a0 a1 v1).bind λv2=>
 some v2
def a0R(a0:g5):Option (List Int):=
 (a65 a0.S a0.T).bind λv1=>
 some v1
def Z3(a0:g5)(a1:Int):Option Bool:=
 (C7 a0.S a1).bind λv1=>
 some (v1.2==0)
def a7H(a0:g5)(a1:Int):Option Bool:=
 (C7 a0.S a1).bind λv1=>
 (Z3 a0 a1).bind λv2=>
 some ((v2&&(decide (v1.1.Prog≥0)))&&(!v1.1.Started))
def a7I(a0:g5):Option (List Int):=
 (a0R a0).bind λv1=>
 jn (λ(j16:List Int)=>
  some j16) (λκ15=>
  (lp (S:=Int × (List Int)) (E:=(List Int)) (λ((s18,s19):Int × (List Int))=>
   if (decide (s18<(v1.length:Int))) then
    jn (λ(j26:List Int)=>
     some (.inl (p6 (s18+1),j26))) (λκ25=>
     (ix v1 s18).bind λv27=>
     (a7H a0 v27).bind λv28=>
     if v28 then
      (app 8 s19 [v27]).bind λv29=>
      κ25 v29
     else
     κ25 s19)
   else
   some (.inr s19)) (0,[])).bind λe17=>
  κ15 e17)
def a2n(a0:m8)(a1:Int)(a2:D9):Option m8:=
 (app 80 [] a0.a8).bind λv1=>
 (ix v1 a1).bind λv2=>
 some (⟨(v1.set (a1).toNat (⟨v2.State,v2.Gen,a2⟩:B9)),a0.Last,a0.Serial⟩:m8)
def K2(a0:m8)(a1:Int)(a2:D9):Option (m8 × Int):=
 (K8 a0).bind λv1=>
 (L5 v1 a1).bind λv2=>
 if (v2.2 != 0) then
  some (a0,v2.2)
 else
 (a2n a0 v2.1 a2).bind λv3=>
 some (v3,0)
def a5O(a0:z8)(a1:E3):Option (z8 × Int):=
 if (decide ((a0.L.length:Int)≥a0.Cap)) then
  some (a0,4)
 else
 (app 24 [] a0.L).bind λv1=>
 (app 24 v1 [a1]).bind λv2=>
 some ((⟨v2,a0.Cap⟩:z8),0)
def b12(a0:Int):Option Int:=
 (a1O a0).bind λv1=>
 if v1 then
  some 12
 else
 if (decide (a0<0)) then
  some 1
 else
 some (p6 (a0+1))
def a5P(a0:g5)(a1:Int)(a2:Int):Option g5:=
 (C7 a0.S a1).bind λv1=>
 if (v1.2 != 0) then
  some a0
 else
 (K2 a0.S a1 (⟨v1.1.Serial,a2,v1.1.Weak,v1.1.Prog,v1.1.Started,v1.1.Fields⟩:D9)).bind λv2=>
 some (⟨v2.1,a0.Roots,a0.a8,a0.T,a0.Q⟩:g5)
def a0G(a0:g5)(a1:Int):Option g5:=
 (C7 a0.S a1).bind λv1=>
 (b12 v1.1.Strong).bind λv2=>
 (a5P a0 a1 v2).bind λv3=>
 some v3
def a3B(a0:g5)(a1:Int):Option g5:=
 (a7H a0 a1).bind λv1=>
 if (!v1) then
  some a0
 else
 (C7 a0.S a1).bind λv2=>
 (K2 a0.S a1 (⟨v2.1.Serial,v2.1.Strong,v2.1.Weak,v2.1.Prog,true,v2.1.Fields⟩:D9)).bind λv3=>
 (a5O a0.Q (⟨1,a1,v2.1.Prog⟩:E3)).bind λv4=>
 (a0G (⟨v3.1,a0.Roots,a0.a8,a0.T,v4.1⟩:g5) a1).bind λv5=>
 some v5
def a9W(a0:g5)(a1:List Int):Option (List Int):=
 jn (λ(j17:List Int)=>
  some j17) (λκ16=>
  (lp (S:=Int × (List Int)) (E:=(List Int)) (λ((s19,s20):Int × (List Int))=>
   if (decide (s19<(a1.length:Int))) then
    jn (λ(j28:List Int)=>
     some (.inl (p6 (s19+1),j28))) (λκ27=>
     (ix a1 s19).bind λv29=>
     (Z3 a0 v29).bind λv30=>
     (p8 (v30==true) false (a7D s20 v29)).bind λv31=>
     if (v30&&(!v31)) then
      (app 8 s20 [v29]).bind λv32=>
      κ27 v32
     else
     κ27 s20)
   else
   some (.inr s20)) (0,[])).bind λe18=>
  κ16 e18)
def b0N(a0:List E2)(a1:List Int):Option ((List E2) × (List Int)):=
 jn (λ((j18,j19):(List Int) × (List E2))=>
  some (j19,j18)) (λκ17=>
  (lp (S:=Int × (List E2) × (List Int)) (E:=((List Int) × (List E2))) (λ((s22,s23,s24):Int × (List E2) × (List Int))=>
   if (decide (s22<(a0.length:Int))) then
    (ix a0 s22).bind λv27=>
    jn (λ((j31,j32):Bool × (List Int))=>
     (app 24 s23 [(⟨v27.Target,j31,v27.Call⟩:E2)]).bind λv34=>
     some (.inl (p6 (s22+1),v34,j32))) (λκ30=>
     (p8 (v27.Intact==true) 0 (a1P a1 v27.Target)).bind λv35=>
     if (v27.Intact&&(decide (v35 > 0))) then
      if (decide (v27.Call≥0)) then
       (app 8 s24 [s22]).bind λv36=>
       κ30 (false,v36)
      else
      κ30 (false,s24)
     else
     κ30 (v27.Intact,s24))
   else
   some (.inr (s24,s23))) (0,[],[])).bind λe21=>
  κ17 e21)
def a2o(a0:List n9)(a1:Int)(a2:n9):Option (List n9):=
 (app 24 [] a0).bind λv1=>
 (ix v1 a1).bind λv2=>
 some (v1.set (a1).toNat a2)
def a64(a0:List n9)(a1:Int):Option ((List n9) × Int × Int):=
 (a1e a0 a1).bind λv1=>
 if (decide (v1<0)) then
  some (a0,0,9)
 else
 (a2o a0 v1 (⟨2,0,0⟩:n9)).bind λv2=>
 (ix a0 v1).bind λv3=>
 some (v2,v3.Val,0)
def a4g(a0:List n9)(a1:List Int):Option ((List n9) × (List Int)):=
 jn (λ((j18,j19):(List n9) × (List Int))=>
  some (j18,j19)) (λκ17=>
  (lp (S:=(List n9) × Int × (List Int)) (E:=((List n9) × (List Int))) (λ((s22,s23,s24):(List n9) × Int × (List Int))=>
   if (decide (s23<(a1.length:Int))) then
    jn (λ((j31,j32):(List n9) × (List Int))=>
     some (.inl (j31,p6 (s23+1),j32))) (λκ30=>
     (ix a1 s23).bind λv34=>
     (a64 s22 v34).bind λv35=>
     if (v35.2.2==0) then
      (app 8 s24 [v35.2.1]).bind λv36=>
      κ30 (v35.1,v36)
     else
     κ30 (s22,s24))
   else
   some (.inr (s22,s24))) (a0,0,[])).bind λe21=>
  κ17 e21)
def a0o(a0:D1)(a1:Int)(a2:E1):Option D1:=
 (app 24 [] a0.a8).bind λv1=>
 (ix v1 a1).bind λv2=>
 some (⟨(v1.set (a1).toNat a2),a0.Last⟩:D1)
def b7b(a0:D1)(a1:Int):Option (D1 × Int):=
 (b11 a0 a1).bind λv1=>
 if (v1.2 != 0) then
  some (a0,v1.2)
 else
 (L5 a0 a1).bind λv2=>
 (ix a0.a8 v2.1).bind λv3=>
 (a0o a0 v2.1 (⟨2,v3.Gen,v3.Val⟩:E1)).bind λv4=>
 some (v4,0)
def a0F(a0:m8)(a1:D1):Option m8:=
 jn (λ(j10:List B9)=>
  some (⟨j10,a0.Last,a0.Serial⟩:m8)) (λκ9=>
  (lp (S:=Int × (List B9)) (E:=(List B9)) (λ((s12,s13):Int × (List B9))=>
   if (decide (s12<(a0.a8.length:Int))) then
    (ix a1.a8 s12).bind λv16=>
    (ix a0.a8 s12).bind λv17=>
    (app 80 s13 [(⟨v16.State,v16.Gen,v17.Val⟩:B9)]).bind λv18=>
    some (.inl (p6 (s12+1),v18))
   else
   some (.inr s13)) (0,[])).bind λe11=>
  κ9 e11)
def b2Z(a0:m8)(a1:Int):Option m8:=
 (K8 a0).bind λv1=>
 (b7b v1 a1).bind λv2=>
 (a0F a0 v2.1).bind λv3=>
 some v3
def b7a(a0:D1)(a1:Int):Option (D1 × Int):=
 (L5 a0 a1).bind λv1=>
 if (v1.2 != 0) then
  some (a0,v1.2)
 else
 (ix a0.a8 v1.1).bind λv2=>
 if (decide (v2.Gen≥a0.Last)) then
  (a0o a0 v1.1 (⟨3,v2.Gen,0⟩:E1)).bind λv3=>
  some (v3,0)
 else
 (a0o a0 v1.1 (⟨0,p6 (v2.Gen+1),0⟩:E1)).bind λv4=>
 some (v4,0)
def a9R(a0:m8)(a1:Int):Option m8:=
 (K8 a0).bind λv1=>
 (b7a v1 a1).bind λv2=>
 if (v2.2 != 0) then
  some a0
 else
 (a0F a0 v2.1).bind λv3=>
 (a6Z a1).bind λv4=>
 (a2n v3 v4 (⟨0,0,0,0,false,[]⟩:D9)).bind λv5=>
 some v5
def a7a(a0:g5)(a1:Int):Option g5:=
 (C7 a0.S a1).bind λv1=>
 (K2 a0.S a1 (⟨v1.1.Serial,0,v1.1.Weak,v1.1.Prog,v1.1.Started,[]⟩:D9)).bind λv2=>
 (b2Z v2.1 a1).bind λv3=>
 if (v1.1.Weak==0) then
  (a9R v3 a1).bind λv4=>
  some (⟨v4,a0.Roots,a0.a8,a0.T,a0.Q⟩:g5)
 else
 some (⟨v3,a0.Roots,a0.a8,a0.T,a0.Q⟩:g5)
def b5M(a0:Int):Option (Int × Int):=
 (a1O a0).bind λv1=>
 if v1 then
  some (12,0)
 else
 if (decide (a0<1)) then
  some (0,11)
 else
 some (p6 (a0-1),0)
def E4(a0:g5)(a1:Int):Option g5:=
 (C7 a0.S a1).bind λv1=>
 (b5M v1.1.Strong).bind λv2=>
 if (v2.2 != 0) then
  some a0
 else
 (a5P a0 a1 v2.1).bind λv3=>
 some v3
def a68(a0:g5)(a1:List Int):Option g5:=
 (a9W a0 a1).bind λv1=>
 (b0N a0.a8 v1).bind λv2=>
 jn (λ(j12:z8)=>
  jn (λ(j23:List Int)=>
   (a4g a0.T v1).bind λv24=>
   (app 8 j23 v24.2).bind λv25=>
   jn (λ(j34:g5)=>
    jn (λ(j43:g5)=>
     some j43) (λκ42=>
     (lp (S:=Int × g5) (E:=g5) (λ((s45,s46):Int × g5)=>
      if (decide (s45<(v25.length:Int))) then
       (ix v25 s45).bind λv49=>
       (E4 s46 v49).bind λv50=>
       some (.inl (p6 (s45+1),v50))
      else
      some (.inr s46)) (0,j34)).bind λe44=>
     κ42 e44)) (λκ33=>
    (lp (S:=Int × g5) (E:=g5) (λ((s52,s53):Int × g5)=>
     if (decide (s52<(v1.length:Int))) then
      (ix v1 s52).bind λv56=>
      (a7a s53 v56).bind λv57=>
      some (.inl (p6 (s52+1),v57))
     else
     some (.inr s53)) (0,(⟨a0.S,a0.Roots,v2.1,v24.1,j12⟩:g5))).bind λe51=>
    κ33 e51)) (λκ22=>
   (lp (S:=Int × (List Int)) (E:=(List Int)) (λ((s59,s60):Int × (List Int))=>
    if (decide (s59<(v1.length:Int))) then
     (ix v1 s59).bind λv63=>
     (C7 a0.S v63).bind λv64=>
     (a3e v64.1.Fields).bind λv65=>
     (app 8 s60 v65).bind λv66=>
     some (.inl (p6 (s59+1),v66))
    else
    some (.inr s60)) (0,[])).bind λe58=>
   κ22 e58)) (λκ11=>
  (lp (S:=Int × z8) (E:=z8) (λ((s68,s69):Int × z8)=>
   if (decide (s68<(v2.2.length:Int))) then
    (ix v2.2 s68).bind λv72=>
    (ix v2.1 v72).bind λv73=>
    (a5O s69 (⟨2,v72,v73.Call⟩:E3)).bind λv74=>
    some (.inl (p6 (s68+1),v74.1))
   else
   some (.inr s69)) (0,a0.Q)).bind λe67=>
  κ11 e67)
def a69(a0:g5):Option (List Int):=
 (P6 a0.S).bind λv1=>
 jn (λ(j16:List Int)=>
  some j16) (λκ15=>
  (lp (S:=Int × (List Int)) (E:=(List Int)) (λ((s18,s19):Int × (List Int))=>
   if (decide (s18<(v1.length:Int))) then
    jn (λ(j26:List Int)=>
     some (.inl (p6 (s18+1),j26))) (λκ25=>
     (ix v1 s18).bind λv27=>
     (C7 a0.S v27).bind λv28=>
     if (v28.1.Strong==0) then
      (app 8 s19 [v27]).bind λv29=>
      κ25 v29
     else
     κ25 s19)
   else
   some (.inr s19)) (0,[])).bind λe17=>
  κ15 e17)
def L6(a0:g5):Option g5:=
 jn (λ(j21:g5)=>
  some j21) (λκ20=>
  (lp (S:=Int × g5) (E:=g5 ⊕ g5) (λ((s23,s24):Int × g5)=>
   if (decide (s23<100)) then
    jn (λ(j34:g5)=>
     some (.inl (p6 (s23+1),j34))) (λκ33=>
     (a69 s24).bind λv35=>
     if ((v35.length:Int)==0) then
      some (.inr (.inl s24))
     else
     (ix v35 0).bind λv36=>
     (a7H s24 v36).bind λv37=>
     if v37 then
      (a3B s24 v36).bind λv38=>
      κ33 v38
     else
     (cut v35 0 1).bind λv39=>
     (a68 s24 v39).bind λv40=>
     κ33 v40)
   else
   some (.inr (.inr s24))) (0,a0)).bind λe22=>
  match e22 with
  | .inl w=>some w
  | .inr w=>κ20 w)
def a2p(a0:g5):Option (g5 × Int × Int):=
 (a7I a0).bind λv1=>
 jn (λ(_:Unit)=>
  (a0R a0).bind λv20=>
  (a68 a0 v20).bind λv21=>
  (L6 v21).bind λv22=>
  (P6 a0.S).bind λv23=>
  (P6 v22.S).bind λv24=>
  some (v22,0,p6 ((v23.length:Int)-(v24.length:Int)))) (λκ18=>
  if (decide ((v1.length:Int) > 0)) then
   jn (λ(j33:g5)=>
    some (j33,(v1.length:Int),0)) (λκ32=>
    (lp (S:=Int × g5) (E:=g5) (λ((s35,s36):Int × g5)=>
     if (decide (s35<(v1.length:Int))) then
      (ix v1 s35).bind λv39=>
      (a3B s36 v39).bind λv40=>
      some (.inl (p6 (s35+1),v40))
     else
     some (.inr s36)) (0,a0)).bind λe34=>
    κ32 e34)
  else
  κ18 ())
def a7J(a0:g5):Option Bool:=
 (a0R a0).bind λv1=>
 some ((v1.length:Int)==0)
def c0B(a0:D1):Option Bool:=
 if (((decide ((a0.a8.length:Int) > 24))||(decide (a0.Last<0)))||(decide (a0.Last > 9))) then
  some false
 else
 jn (λ(_:Unit)=>
  some true) (λκ5=>
  (lp (S:=Int) (E:=Bool ⊕ Unit) (λ(s8:Int)=>
   if (decide (s8<(a0.a8.length:Int))) then
    (ix a0.a8 s8).bind λv10=>
    if ((((decide (v10.State<0))||(decide (v10.State > 3)))||(decide (v10.Gen<0)))||(decide (v10.Gen > a0.Last))) then
     some (.inr (.inl false))
    else
    some (.inl (p6 (s8+1)))
   else
   some (.inr (.inr ()))) 0).bind λe7=>
  match e7 with
  | .inl w=>some w
  | .inr w=>κ5 w)
def b4B(a0:B9):Option Bool:=
 some ((a0.State==1)||(a0.State==2))
def c0C(a0:m8):Option Bool:=
 (K8 a0).bind λv1=>
 (c0B v1).bind λv2=>
 if ((!v2)||(decide (a0.Serial<0))) then
  some false
 else
 jn (λ(_:Unit)=>
  some true) (λκ22=>
  (lp (S:=Int) (E:=Bool ⊕ Unit) (λ(s25:Int)=>
   if (decide (s25<(a0.a8.length:Int))) then
    jn (λ(_:Unit)=>
     some (.inl (p6 (s25+1)))) (λκ34=>
     (ix a0.a8 s25).bind λv36=>
     (b4B v36).bind λv37=>
     if (!v37) then
      if ((((((v36.Val.Serial != 0)||(v36.Val.Strong != 0))||(v36.Val.Weak != 0))||(v36.Val.Prog != 0))||v36.Val.Started)||((v36.Val.Fields.length:Int) != 0)) then
       some (.inr (.inl false))
      else
      κ34 ()
     else
     if (((((((decide (v36.Val.Serial<1))||(decide (v36.Val.Serial > a0.Serial)))||(decide (v36.Val.Strong<0)))||(decide (v36.Val.Weak<0)))||(decide (v36.Val.Prog<(-1))))||(decide (v36.Val.Prog > 5)))||(decide ((v36.Val.Fields.length:Int) > 4))) then
      some (.inr (.inl false))
     else
     (lp (S:=Int) (E:=Bool ⊕ Unit) (λ(s39:Int)=>
      if (decide (s39<s25)) then
       (ix a0.a8 s39).bind λv41=>
       (b4B v41).bind λv42=>
       if (v42&&(v41.Val.Serial==v36.Val.Serial)) then
        some (.inr (.inl false))
       else
       some (.inl (p6 (s39+1)))
      else
      some (.inr (.inr ()))) 0).bind λe38=>
     match e38 with
     | .inl w=>some (.inr (.inl w))
     | .inr w=>κ34 w)
   else
   some (.inr (.inr ()))) 0).bind λe24=>
  match e24 with
  | .inl w=>some w
  | .inr w=>κ22 w)
def b20(a0:Int)(a1:Int):Option Int:=
 if (decide (a0<1)) then
  some 0
 else
 (rem (p6 ((p6 (5*a1))+1)) a0).bind λv1=>
 if (decide (v1<0)) then
  some (p6 (v1+a0))
 else
 some v1
def c0D(a0:List n9):Option Bool:=
 if ((decide ((a0.length:Int)<1))||(decide ((a0.length:Int) > 8))) then
  some false
 else
 jn (λ(_:Unit)=>
  some true) (λκ22=>
  (lp (S:=Int) (E:=Bool ⊕ Unit) (λ(s25:Int)=>
   if (decide (s25<(a0.length:Int))) then
    jn (λ(_:Unit)=>
     some (.inl (p6 (s25+1)))) (λκ35=>
     (ix a0 s25).bind λv37=>
     if (((decide (v37.State<0))||(decide (v37.State > 2)))||((v37.State != 1)&&((v37.Key != 0)||(v37.Val != 0)))) then
      some (.inr (.inl false))
     else
     if (v37.State != 1) then
      κ35 ()
     else
     (a1e a0 v37.Key).bind λv38=>
     if (v38 != s25) then
      some (.inr (.inl false))
     else
     (b20 (a0.length:Int) v37.Key).bind λv39=>
     (lp (S:=Int) (E:=Bool ⊕ Unit) (λ(s41:Int)=>
      if (s41 != s25) then
       (ix a0 s41).bind λv43=>
       if (v43.State==0) then
        some (.inr (.inl false))
       else
       (rem (p6 (s41+1)) (a0.length:Int)).bind λv44=>
       some (.inl v44)
      else
      some (.inr (.inr ()))) v39).bind λe40=>
     match e40 with
     | .inl w=>some (.inr (.inl w))
     | .inr w=>κ35 w)
   else
   some (.inr (.inr ()))) 0).bind λe24=>
  match e24 with
  | .inl w=>some w
  | .inr w=>κ22 w)
def c0H(a0:g5):Option Bool:=
 jn (λ(_:Unit)=>
  some ((a0.Q.Cap==30)&&(decide ((a0.Q.L.length:Int)≤30)))) (λκ30=>
  (lp (S:=Int) (E:=Bool ⊕ Unit) (λ(s33:Int)=>
   if (decide (s33<(a0.Q.L.length:Int))) then
    jn (λ(_:Unit)=>
     some (.inl (p6 (s33+1)))) (λκ47=>
     (ix a0.Q.L s33).bind λv49=>
     if ((((v49.Kind != 1)&&(v49.Kind != 2))||(decide (v49.Prog<0)))||(decide (v49.Prog > 5))) then
      some (.inr (.inl false))
     else
     jn (λ(_:Unit)=>
      (C7 a0.S v49.At).bind λv56=>
      if (((v49.Kind==1)&&((v56.2 != 0)||(!v56.1.Started)))||((v49.Kind==2)&&((decide (v49.At<0))||(decide (v49.At > 5))))) then
       some (.inr (.inl false))
      else
      κ47 ()) (λκ54=>
      (lp (S:=Int) (E:=Bool ⊕ Unit) (λ(s58:Int)=>
       if (decide (s58<s33)) then
        (ix a0.Q.L s58).bind λv60=>
        if ((v60.Kind==v49.Kind)&&(v60.At==v49.At)) then
         some (.inr (.inl false))
        else
        some (.inl (p6 (s58+1)))
       else
       some (.inr (.inr ()))) 0).bind λe57=>
      match e57 with
      | .inl w=>some (.inr (.inl w))
      | .inr w=>κ54 w))
   else
   some (.inr (.inr ()))) 0).bind λe32=>
  match e32 with
  | .inl w=>some w
  | .inr w=>κ30 w)
def a0P(a0:g5)(a1:Int):Option Bool:=
 (p8 ((a1==0)==false) false (Z3 a0 a1)).bind λv1=>
 some ((a1==0)||v1)
def c0G(a0:g5):Option Bool:=
 jn (λ(_:Unit)=>
  (P6 a0.S).bind λv8=>
  jn (λ(_:Unit)=>
   (a4W a0.T).bind λv30=>
   jn (λ(_:Unit)=>
    some true) (λκ37=>
    (lp (S:=Int) (E:=Bool ⊕ Unit) (λ(s40:Int)=>
     if (decide (s40<(v30.length:Int))) then
      (ix v30 s40).bind λv42=>
      (Z3 a0 v42.Key).bind λv43=>
      (p8 ((!v43)==false) false (Z3 a0 v42.Val)).bind λv44=>
      if ((!v43)||(!v44)) then
       some (.inr (.inl false))
      else
      some (.inl (p6 (s40+1)))
     else
     some (.inr (.inr ()))) 0).bind λe39=>
    match e39 with
    | .inl w=>some w
    | .inr w=>κ37 w)) (λκ28=>
   (lp (S:=Int) (E:=Bool ⊕ Unit) (λ(s46:Int)=>
    if (decide (s46<(v8.length:Int))) then
     jn (λ(_:Unit)=>
      some (.inl (p6 (s46+1)))) (λκ55=>
      (ix v8 s46).bind λv57=>
      (C7 a0.S v57).bind λv58=>
      (lp (S:=Int) (E:=Bool ⊕ Unit) (λ(s60:Int)=>
       if (decide (s60<(v58.1.Fields.length:Int))) then
        (ix v58.1.Fields s60).bind λv62=>
        (a0P a0 v62).bind λv63=>
        if (!v63) then
         some (.inr (.inl false))
        else
        some (.inl (p6 (s60+1)))
       else
       some (.inr (.inr ()))) 0).bind λe59=>
      match e59 with
      | .inl w=>some (.inr (.inl w))
      | .inr w=>κ55 w)
    else
    some (.inr (.inr ()))) 0).bind λe45=>
   match e45 with
   | .inl w=>some w
   | .inr w=>κ28 w)) (λκ6=>
  (lp (S:=Int) (E:=Bool ⊕ Unit) (λ(s65:Int)=>
   if (decide (s65<(a0.Roots.length:Int))) then
    (ix a0.Roots s65).bind λv67=>
    (a0P a0 v67).bind λv68=>
    if (!v68) then
     some (.inr (.inl false))
    else
    some (.inl (p6 (s65+1)))
   else
   some (.inr (.inr ()))) 0).bind λe64=>
  match e64 with
  | .inl w=>some w
  | .inr w=>κ6 w)
def a4X(a0:z8)(a1:Int):Option Bool:=
 jn (λ(_:Unit)=>
  some false) (λκ5=>
  (lp (S:=Int) (E:=Bool ⊕ Unit) (λ(s8:Int)=>
   if (decide (s8<(a0.L.length:Int))) then
    (ix a0.L s8).bind λv10=>
    if ((v10.Kind==2)&&(v10.At==a1)) then
     some (.inr (.inl true))
    else
    some (.inl (p6 (s8+1)))
   else
   some (.inr (.inr ()))) 0).bind λe7=>
  match e7 with
  | .inl w=>some w
  | .inr w=>κ5 w)
def c0F(a0:g5):Option Bool:=
 jn (λ(_:Unit)=>
  some true) (λκ9=>
  (lp (S:=Int) (E:=Bool ⊕ Unit) (λ(s12:Int)=>
   if (decide (s12<(a0.a8.length:Int))) then
    (ix a0.a8 s12).bind λv14=>
    (K8 a0.S).bind λv15=>
    (L5 v15 v14.Target).bind λv16=>
    (p8 ((((((decide (v14.Call<(-1)))||(decide (v14.Call > 5)))||((v14.Target==0)&&v14.Intact))||((v14.Target != 0)&&(v16.2 != 0)))==false)&&(v14.Intact==true)) false (Z3 a0 v14.Target)).bind λv17=>
    (p8 (((((((decide (v14.Call<(-1)))||(decide (v14.Call > 5)))||((v14.Target==0)&&v14.Intact))||((v14.Target != 0)&&(v16.2 != 0)))==false)&&(v14.Intact==true))&&((!v17)==false)) false (a4X a0.Q s12)).bind λv18=>
    if (((((decide (v14.Call<(-1)))||(decide (v14.Call > 5)))||((v14.Target==0)&&v14.Intact))||((v14.Target != 0)&&(v16.2 != 0)))||(v14.Intact&&((!v17)||v18))) then
     some (.inr (.inl false))
    else
    some (.inl (p6 (s12+1)))
   else
   some (.inr (.inr ()))) 0).bind λe11=>
  match e11 with
  | .inl w=>some w
  | .inr w=>κ9 w)
def b8v(a0:Int)(a1:Int):Option Int:=
 (a3z a0 a1).bind λv1=>
 some v1
def b8x(a0:List E2)(a1:Int):Option Int:=
 jn (λ(j11:Int)=>
  some j11) (λκ10=>
  (lp (S:=Int × Int) (E:=Int) (λ((s13,s14):Int × Int)=>
   if (decide (s14<(a0.length:Int))) then
    jn (λ(j19:Int)=>
     some (.inl (j19,p6 (s14+1)))) (λκ18=>
     (ix a0 s14).bind λv20=>
     if ((v20.Target==a1)&&(a1 != 0)) then
      κ18 (p6 (s13+1))
     else
     κ18 s13)
   else
   some (.inr s13)) (0,0)).bind λe12=>
  κ10 e12)
def c0I(a0:g5):Option Bool:=
 jn (λ(_:Unit)=>
  some true) (λκ12=>
  (lp (S:=Int) (E:=Bool ⊕ Unit) (λ(s15:Int)=>
   if (decide (s15<(a0.S.a8.length:Int))) then
    jn (λ(_:Unit)=>
     some (.inl (p6 (s15+1)))) (λκ20=>
     (ix a0.S.a8 s15).bind λv22=>
     if ((v22.State != 1)&&(v22.State != 2)) then
      κ20 ()
     else
     (b8v s15 v22.Gen).bind λv23=>
     (b8x a0.a8 v23).bind λv24=>
     if ((v22.Val.Weak != v24)||((v22.State==2)&&(((decide (v22.Val.Weak<1))||(decide ((v22.Val.Fields.length:Int) > 0)))||(v22.Val.Strong != 0)))) then
      some (.inr (.inl false))
     else
     κ20 ())
   else
   some (.inr (.inr ()))) 0).bind λe14=>
  match e14 with
  | .inl w=>some w
  | .inr w=>κ12 w)
def c2U(a0:z8):Option (List Int):=
 jn (λ(j13:List Int)=>
  some j13) (λκ12=>
  (lp (S:=Int × (List Int)) (E:=(List Int)) (λ((s15,s16):Int × (List Int))=>
   if (decide (s15<(a0.L.length:Int))) then
    jn (λ(j22:List Int)=>
     some (.inl (p6 (s15+1),j22))) (λκ21=>
     (ix a0.L s15).bind λv23=>
     if (v23.Kind==1) then
      (app 8 s16 [v23.At]).bind λv24=>
      κ21 v24
     else
     κ21 s16)
   else
   some (.inr s16)) (0,[])).bind λe14=>
  κ12 e14)
def c0E(a0:g5):Option (List Int):=
 jn (λ(j13:List Int)=>
  (c2U a0.Q).bind λv14=>
  (app 8 j13 v14).bind λv15=>
  some v15) (λκ12=>
  (lp (S:=Int × (List Int)) (E:=(List Int)) (λ((s17,s18):Int × (List Int))=>
   if (decide (s17<(a0.Roots.length:Int))) then
    jn (λ(j24:List Int)=>
     some (.inl (p6 (s17+1),j24))) (λκ23=>
     (ix a0.Roots s17).bind λv25=>
     if (v25 != 0) then
      (app 8 s18 [v25]).bind λv26=>
      κ23 v26
     else
     κ23 s18)
   else
   some (.inr s18)) (0,[])).bind λe16=>
  κ12 e16)
def c2T(a0:m8)(a1:List n9)(a2:List Int):Option Bool:=
 (P6 a0).bind λv1=>
 jn (λ(_:Unit)=>
  some true) (λκ9=>
  (lp (S:=Int) (E:=Bool ⊕ Unit) (λ(s12:Int)=>
   if (decide (s12<(v1.length:Int))) then
    (ix v1 s12).bind λv14=>
    (a7G a0 v14).bind λv15=>
    (p8 ((!v15)==true) 0 (a9V a0 a1 v14)).bind λv16=>
    (p8 ((!v15)==true) 0 (a1P a2 v14)).bind λv17=>
    if ((!v15)&&(v16 != v17)) then
     some (.inr (.inl false))
    else
    some (.inl (p6 (s12+1)))
   else
   some (.inr (.inr ()))) 0).bind λe11=>
  match e11 with
  | .inl w=>some w
  | .inr w=>κ9 w)
def c7H(a0:g5):Option Bool:=
 (c0C a0.S).bind λv1=>
 (p8 ((!v1)==false) false (c0D a0.T)).bind λv2=>
 if ((((!v1)||(!v2))||((a0.Roots.length:Int) != 6))||((a0.a8.length:Int) != 6)) then
  some false
 else
 (c0H a0).bind λv3=>
 (p8 (v3==true) false (c0G a0)).bind λv4=>
 (p8 ((v3&&v4)==true) false (c0F a0)).bind λv5=>
 (p8 (((v3&&v4)&&v5)==true) false (c0I a0)).bind λv6=>
 (p8 ((((v3&&v4)&&v5)&&v6)==true) [] (c0E a0)).bind λv7=>
 (p8 ((((v3&&v4)&&v5)&&v6)==true) false (c2T a0.S a0.T v7)).bind λv8=>
 some ((((v3&&v4)&&v5)&&v6)&&v8)
def c5O(a0:g5):Option Bool:=
 (a69 a0).bind λv1=>
 some ((v1.length:Int)==0)
def c2V(a0:z8):Option (z8 × E3 × Int):=
 if ((a0.L.length:Int)==0) then
  some (a0,(⟨0,0,0⟩:E3),10)
 else
 (cut a0.L 1 (a0.L.length:Int)).bind λv1=>
 (ix a0.L 0).bind λv2=>
 some ((⟨v1,a0.Cap⟩:z8),v2,0)
def a1f(a0:g5)(a1:Int)(a2:Int):Option (g5 × Int):=
 if ((decide (a1<0))||(decide (a1 > 5))) then
  some (a0,6)
 else
 (a0P a0 a2).bind λv1=>
 if (!v1) then
  some (a0,3)
 else
 (ix a0.Roots a1).bind λv2=>
 (a0G a0 a2).bind λv3=>
 (app 8 [] a0.Roots).bind λv4=>
 (ix v4 a1).bind λv5=>
 (E4 (⟨v3.S,(v4.set (a1).toNat a2),v3.a8,v3.T,v3.Q⟩:g5) v2).bind λv6=>
 some (v6,0)
def b7d(a0:List (List X5))(a1:Int):Option (List X5):=
 if ((decide (a1<0))||(decide (a1≥(a0.length:Int)))) then
  some []
 else
 (ix a0 a1).bind λv1=>
 some v1
def a0H(a0:Int)(a1:Int)(a2:Int)(a3:Int):Option Int:=
 if ((decide (a0<a1))||(decide (a0 > a2))) then
  some a3
 else
 some 0
def Z4(a0:Int)(a1:Int)(a2:Int):Option Int:=
 if (a0 != 0) then
  some a0
 else
 if (a1 != 0) then
  some a1
 else
 some a2
def b0Q(a0:X5):Option Int:=
 (a0H a0.A 0 5 6).bind λv1=>
 (a0H a0.B 0 5 6).bind λv2=>
 if (a0.Kind==1) then
  (a0H a0.B 0 4 1).bind λv3=>
  (a0H a0.C (-1) 5 13).bind λv4=>
  (Z4 v1 v3 v4).bind λv5=>
  some v5
 else
 jn (λ(j7:Bool)=>
  if j7 then
   (Z4 v1 v2 0).bind λv8=>
   some v8
  else
  if (a0.Kind==3) then
   some v1
  else
  if (a0.Kind==4) then
   (a0H a0.C 0 3 5).bind λv9=>
   (Z4 v1 v2 v9).bind λv10=>
   some v10
  else
  if (a0.Kind==5) then
   (a0H a0.B 0 3 5).bind λv11=>
   (a0H a0.C (-1) 5 6).bind λv12=>
   (Z4 v1 v11 v12).bind λv13=>
   some v13
  else
  if (a0.Kind==6) then
   (a0H a0.A 0 5 7).bind λv14=>
   (a0H a0.B (-1) 5 6).bind λv15=>
   (a0H a0.C (-1) 5 13).bind λv16=>
   (Z4 v14 v15 v16).bind λv17=>
   some v17
  else
  if (a0.Kind==7) then
   (a0H a0.B 0 5 7).bind λv18=>
   (Z4 v1 v18 0).bind λv19=>
   some v19
  else
  if (a0.Kind==8) then
   (a0H a0.B (-1) 5 6).bind λv20=>
   (Z4 v1 v20 0).bind λv21=>
   some v21
  else
  if (a0.Kind==11) then
   some 0
  else
  if (a0.Kind==12) then
   (a0H a0.A 0 200 12).bind λv22=>
   some v22
  else
  some 14) (λκ6=>
  if (a0.Kind==2) then
   κ6 (a0.Kind==2)
  else
  if (a0.Kind==9) then
   κ6 (a0.Kind==9)
  else
  κ6 (a0.Kind==10))
def a3g(a0:X5):Option Bool:=
 some ((decide (a0.Kind≥1))&&(decide (a0.Kind≤10)))
def b5O(a0:List E2)(a1:Int)(a2:Int)(a3:Int):Option ((List E2) × Int × Int):=
 if ((decide (a1<0))||(decide (a1≥(a0.length:Int)))) then
  some (a0,0,7)
 else
 (app 24 [] a0).bind λv1=>
 (ix v1 a1).bind λv2=>
 (ix a0 a1).bind λv3=>
 some ((v1.set (a1).toNat (⟨a2,(a2 != 0),a3⟩:E2)),v3.Target,0)
def a0O(a0:g5)(a1:Int):Option g5:=
 (K8 a0.S).bind λv1=>
 (L5 v1 a1).bind λv2=>
 if (v2.2 != 0) then
  some a0
 else
 (ix a0.S.a8 v2.1).bind λv3=>
 (K2 a0.S a1 (⟨v3.Val.Serial,v3.Val.Strong,p6 (v3.Val.Weak-1),v3.Val.Prog,v3.Val.Started,v3.Val.Fields⟩:D9)).bind λv4=>
 (ix v4.1.a8 v2.1).bind λv5=>
 if ((v5.State==2)&&(decide ((p6 (v3.Val.Weak-1))<1))) then
  (a9R v4.1 a1).bind λv6=>
  some (⟨v6,a0.Roots,a0.a8,a0.T,a0.Q⟩:g5)
 else
 some (⟨v4.1,a0.Roots,a0.a8,a0.T,a0.Q⟩:g5)
def a3A(a0:g5)(a1:Int)(a2:Int)(a3:Int):Option (g5 × Int):=
 (p8 (((decide (a1<0))||(decide (a1 > 5)))==false) false (a4X a0.Q a1)).bind λv1=>
 if (((decide (a1<0))||(decide (a1 > 5)))||v1) then
  some (a0,7)
 else
 (a0P a0 a2).bind λv2=>
 if (!v2) then
  some (a0,3)
 else
 (b5O a0.a8 a1 a2 a3).bind λv3=>
 if (a2 != 0) then
  (C7 a0.S a2).bind λv4=>
  (K2 a0.S a2 (⟨v4.1.Serial,v4.1.Strong,p6 (v4.1.Weak+1),v4.1.Prog,v4.1.Started,v4.1.Fields⟩:D9)).bind λv5=>
  (a0O (⟨v5.1,a0.Roots,v3.1,a0.T,a0.Q⟩:g5) v3.2.1).bind λv6=>
  some (v6,0)
 else
 (a0O (⟨a0.S,a0.Roots,v3.1,a0.T,a0.Q⟩:g5) v3.2.1).bind λv7=>
 some (v7,0)
def T7(a0:g5)(a1:Int):Option (Int × Int):=
 (ix a0.Roots a1).bind λv1=>
 if (v1==0) then
  some (0,2)
 else
 some (v1,0)
def a4Z(a0:g5)(a1:Int):Option Int:=
 if (decide (a1<0)) then
  some 0
 else
 (ix a0.Roots a1).bind λv1=>
 some v1
def b2Y(a0:List Int)(a1:Int):Option (Int × Int):=
 if ((decide (a1<0))||(decide (a1≥(a0.length:Int)))) then
  some (0,5)
 else
 (ix a0 a1).bind λv1=>
 some (v1,0)
def a3f(a0:m8)(a1:Int)(a2:Int):Option (Int × Int):=
 (C7 a0 a1).bind λv1=>
 if (v1.2 != 0) then
  some (0,v1.2)
 else
 (b2Y v1.1.Fields a2).bind λv2=>
 some (v2.1,v2.2)
def b7c(a0:List Int)(a1:Int)(a2:Int):Option ((List Int) × Int):=
 if ((decide (a1<0))||(decide (a1≥(a0.length:Int)))) then
  some (a0,5)
 else
 (app 8 [] a0).bind λv1=>
 (ix v1 a1).bind λv2=>
 some ((v1.set (a1).toNat a2),0)
def b5N(a0:m8)(a1:Int)(a2:Int)(a3:Int):Option (m8 × Int):=
 (C7 a0 a1).bind λv1=>
 if (v1.2 != 0) then
  some (a0,v1.2)
 else
 (b7c v1.1.Fields a2 a3).bind λv2=>
 if (v2.2 != 0) then
  some (a0,v2.2)
 else
 (K2 a0 a1 (⟨v1.1.Serial,v1.1.Strong,v1.1.Weak,v1.1.Prog,v1.1.Started,v2.1⟩:D9)).bind λv3=>
 some (v3.1,v3.2)
def a4Y(a0:g5)(a1:Int)(a2:Int)(a3:Int):Option (g5 × Int):=
 (a3f a0.S a1 a2).bind λv1=>
 if (v1.2 != 0) then
  some (a0,v1.2)
 else
 (a0P a0 a3).bind λv2=>
 if (!v2) then
  some (a0,3)
 else
 (a0G a0 a3).bind λv3=>
 (b5N v3.S a1 a2 a3).bind λv4=>
 (E4 (⟨v4.1,v3.Roots,v3.a8,v3.T,v3.Q⟩:g5) v1.1).bind λv5=>
 some (v5,0)
def b5P(a0:List n9)(a1:Int)(a2:Int):Option ((List n9) × Int):=
 (a1e a0 a1).bind λv1=>
 if (decide (v1≥0)) then
  (a2o a0 v1 (⟨1,a1,a2⟩:n9)).bind λv2=>
  some (v2,0)
 else
 (b20 (a0.length:Int) a1).bind λv3=>
 jn (λ(_:Unit)=>
  some (a0,8)) (λκ12=>
  (lp (S:=Int × Int) (E:=((List n9) × Int) ⊕ Unit) (λ((s15,s16):Int × Int)=>
   if (decide (s16<(a0.length:Int))) then
    (ix a0 s15).bind λv19=>
    if (v19.State != 1) then
     (a2o a0 s15 (⟨1,a1,a2⟩:n9)).bind λv20=>
     some (.inr (.inl (v20,0)))
    else
    (rem (p6 (s15+1)) (a0.length:Int)).bind λv21=>
    some (.inl (v21,p6 (s16+1)))
   else
   some (.inr (.inr ()))) (v3,0)).bind λe14=>
  match e14 with
  | .inl w=>some w
  | .inr w=>κ12 w)
def b5Q(a0:List n9)(a1:Int)(a2:Int):Option ((List n9) × Int × Int):=
 if (a1==0) then
  some (a0,0,2)
 else
 (a9T a0 a1).bind λv1=>
 if (a2==0) then
  (a64 a0 a1).bind λv2=>
  some (v2.1,v1.1,0)
 else
 (b5P a0 a1 a2).bind λv3=>
 if (v3.2 != 0) then
  some (a0,0,v3.2)
 else
 some (v3.1,v1.1,0)
def a67(a0:g5)(a1:Int)(a2:Int):Option (g5 × Int):=
 if (a1==0) then
  some (a0,2)
 else
 (Z3 a0 a1).bind λv1=>
 (p8 ((!v1)==false) false (a0P a0 a2)).bind λv2=>
 if ((!v1)||(!v2)) then
  some (a0,3)
 else
 (b5Q a0.T a1 a2).bind λv3=>
 if (v3.2.2 != 0) then
  some (a0,v3.2.2)
 else
 (a0G a0 a2).bind λv4=>
 (E4 (⟨v4.S,v4.Roots,v4.a8,v3.1,v4.Q⟩:g5) v3.2.1).bind λv5=>
 some (v5,0)
def a0Q(a0:g5)(a1:X5):Option (g5 × Int × Int):=
 if ((a1.Kind==6)&&(decide (a1.B<0))) then
  (a3A a0 a1.A 0 a1.C).bind λv1=>
  some (v1.1,0,v1.2)
 else
 jn (λ(j3:Int)=>
  (T7 a0 j3).bind λv4=>
  if (v4.2 != 0) then
   some (a0,0,v4.2)
  else
  if (a1.Kind==5) then
   (a4Z a0 a1.C).bind λv5=>
   (a4Y a0 v4.1 a1.B v5).bind λv6=>
   some (v6.1,v5,v6.2)
  else
  if (a1.Kind==6) then
   (a3A a0 a1.A v4.1 a1.C).bind λv7=>
   some (v7.1,v4.1,v7.2)
  else
  (a4Z a0 a1.B).bind λv8=>
  (a67 a0 v4.1 v8).bind λv9=>
  some (v9.1,v8,v9.2)) (λκ2=>
  if (a1.Kind==6) then
   κ2 a1.B
  else
  κ2 a1.A)
def a3C(a0:g5)(a1:Int):Option Int:=
 (C7 a0.S a1).bind λv1=>
 some v1.1.Serial
def b13(a0:Int):Option ((List Int) × Int):=
 if ((decide (a0<0))||(decide (a0 > 4))) then
  some ([],1)
 else
 (mk 8 a0 (0:Int)).bind λv1=>
 some (v1,0)
def a61(a0:D1)(a1:Int):Option (D1 × Int × Int):=
 jn (λ(_:Unit)=>
  some (a0,0,4)) (λκ7=>
  (lp (S:=Int) (E:=(D1 × Int × Int) ⊕ Unit) (λ(s10:Int)=>
   if (decide (s10<(a0.a8.length:Int))) then
    (ix a0.a8 s10).bind λv12=>
    if (v12.State==0) then
     (a0o a0 s10 (⟨1,v12.Gen,a1⟩:E1)).bind λv13=>
     (a3z s10 v12.Gen).bind λv14=>
     some (.inr (.inl (v13,v14,0)))
    else
    some (.inl (p6 (s10+1)))
   else
   some (.inr (.inr ()))) 0).bind λe9=>
  match e9 with
  | .inl w=>some w
  | .inr w=>κ7 w)
def a2m(a0:m8)(a1:Int)(a2:Int):Option (m8 × Int × Int):=
 (b13 a1).bind λv1=>
 if (v1.2 != 0) then
  some (a0,0,v1.2)
 else
 if ((decide (a2<(-1)))||(decide (a2 > 5))) then
  some (a0,0,13)
 else
 (K8 a0).bind λv2=>
 (a61 v2 0).bind λv3=>
 if (v3.2.2 != 0) then
  some (a0,0,v3.2.2)
 else
 (a0F a0 v3.1).bind λv4=>
 (a6Z v3.2.1).bind λv5=>
 (a2n v4 v5 (⟨p6 (a0.Serial+1),0,0,a2,false,v1.1⟩:D9)).bind λv6=>
 some ((⟨v6.a8,v6.Last,p6 (a0.Serial+1)⟩:m8),v3.2.1,0)
def b0R(a0:g5)(a1:Int):Option Int:=
 if ((decide (a1<0))||(decide (a1 > 5))) then
  some 0
 else
 (ix a0.Roots a1).bind λv1=>
 (a3C a0 v1).bind λv2=>
 some v2
def a9S(a0:List E2)(a1:Int):Option (Int × Int):=
 if ((decide (a1<0))||(decide (a1≥(a0.length:Int)))) then
  some (0,7)
 else
 (ix a0 a1).bind λv1=>
 if ((v1.Target==0)||(!v1.Intact)) then
  some (0,9)
 else
 some (v1.Target,0)
def b15(a0:List n9)(a1:Int):Option (Int × Int):=
 (a9T a0 a1).bind λv1=>
 some (v1.1,v1.2)
def a1Q(a0:g5)(a1:X5):Option (Int × Int):=
 if (a1.Kind==2) then
  (ix a0.Roots a1.B).bind λv1=>
  some (v1,0)
 else
 if (a1.Kind==4) then
  (T7 a0 a1.B).bind λv2=>
  if (v2.2 != 0) then
   some (0,v2.2)
  else
  (a3f a0.S v2.1 a1.C).bind λv3=>
  some (v3.1,v3.2)
 else
 if (a1.Kind==7) then
  (a9S a0.a8 a1.B).bind λv4=>
  some (v4.1,v4.2)
 else
 if (a1.Kind==9) then
  (T7 a0 a1.B).bind λv5=>
  if (v5.2 != 0) then
   some (0,v5.2)
  else
  (b15 a0.T v5.1).bind λv6=>
  some (v6.1,v6.2)
 else
 some (0,0)
def A8(a0:g5)(a1:X5):Option (g5 × Int × Int):=
 (b0Q a1).bind λv1=>
 if (v1 != 0) then
  some (a0,0,v1)
 else
 (a3g a1).bind λv2=>
 if (!v2) then
  some (a0,0,14)
 else
 if (a1.Kind==10) then
  (ix a0.Roots a1.A).bind λv3=>
  (ix a0.Roots a1.B).bind λv4=>
  if (v3==v4) then
   some (a0,1,0)
  else
  some (a0,0,0)
 else
 jn (λ(j6:Bool)=>
  if j6 then
   (a0Q a0 a1).bind λv7=>
   if (v7.2.2 != 0) then
    some (a0,0,v7.2.2)
   else
   (L6 v7.1).bind λv8=>
   (a3C a0 v7.2.1).bind λv9=>
   some (v8,v9,0)
  else
  if (a1.Kind==1) then
   (a2m a0.S a1.B a1.C).bind λv10=>
   if (v10.2.2 != 0) then
    some (a0,0,v10.2.2)
   else
   (a1f (⟨v10.1,a0.Roots,a0.a8,a0.T,a0.Q⟩:g5) a1.A v10.2.1).bind λv11=>
   (L6 v11.1).bind λv12=>
   (b0R v12 a1.A).bind λv13=>
   some (v12,v13,0)
  else
  (a1Q a0 a1).bind λv14=>
  if (v14.2 != 0) then
   some (a0,0,v14.2)
  else
  (a1f a0 a1.A v14.1).bind λv15=>
  (L6 v15.1).bind λv16=>
  (b0R v16 a1.A).bind λv17=>
  some (v16,v17,0)) (λκ5=>
  if (a1.Kind==5) then
   κ5 (a1.Kind==5)
  else
  if (a1.Kind==6) then
   κ5 (a1.Kind==6)
  else
  κ5 (a1.Kind==8))
def O5(a0:g5)(a1:List X5):Option (g5 × (List Int)):=
 jn (λ((j11,j12):g5 × (List Int))=>
  some (j11,j12)) (λκ10=>
  (lp (S:=Int × g5 × (List Int)) (E:=(g5 × (List Int))) (λ((s15,s16,s17):Int × g5 × (List Int))=>
   if (decide (s15<(a1.length:Int))) then
    (ix a1 s15).bind λv20=>
    (A8 s16 v20).bind λv21=>
    (app 8 s17 [v21.2.1]).bind λv22=>
    some (.inl (p6 (s15+1),v21.1,v22))
   else
   some (.inr (s16,s17))) (0,a0,[])).bind λe14=>
  κ10 e14)
def c2X(a0:g5)(a1:List (List X5)):Option (g5 × E3 × Int):=
 (c2V a0.Q).bind λv1=>
 if (v1.2.2 != 0) then
  some (a0,(⟨0,0,0⟩:E3),v1.2.2)
 else
 jn (λ(j6:g5)=>
  (b7d a1 v1.2.1.Prog).bind λv7=>
  (O5 j6 v7).bind λv8=>
  if (v1.2.1.Kind==1) then
   (a1f v8.1 5 0).bind λv9=>
   (L6 v9.1).bind λv10=>
   some (v10,v1.2.1,0)
  else
  some (v8.1,v1.2.1,0)) (λκ5=>
  if (v1.2.1.Kind==1) then
   (a1f (⟨a0.S,a0.Roots,a0.a8,a0.T,v1.1⟩:g5) 5 v1.2.1.At).bind λv11=>
   (E4 v11.1 v1.2.1.At).bind λv12=>
   (L6 v12).bind λv13=>
   κ5 v13
  else
  κ5 (⟨a0.S,a0.Roots,a0.a8,a0.T,v1.1⟩:g5))
def c2W(a0:List (List X5))(a1:E3):Option Int:=
 (b7d a0 a1.Prog).bind λv1=>
 some (p6 (1+(v1.length:Int)))
def c0J(a0:g5):Option Bool:=
 some ((a0.Q.L.length:Int)==0)
def c7I(a0:g5)(a1:List (List X5))(a2:Int):Option (g5 × Int × Int × Int):=
 jn (λ((j12,j13,j14):Int × Int × g5)=>
  some (j14,j13,j12,0)) (λκ11=>
  (lp (S:=Int × Int × g5) (E:=(g5 × Int × Int × Int) ⊕ (Int × Int × g5)) (λ((s17,s18,s19):Int × Int × g5)=>
   (c0J s19).bind λv22=>
   if (!v22) then
    (ix s19.Q.L 0).bind λv23=>
    (c2W a1 v23).bind λv24=>
    if (decide (v24 > s17)) then
     some (.inr (.inl (s19,s18,s17,12)))
    else
    (c2X s19 a1).bind λv25=>
    some (.inl (p6 (s17-v24),p6 (s18+1),v25.1))
   else
   some (.inr (.inr (s17,s18,s19)))) (a2,0,a0)).bind λe16=>
  match e16 with
  | .inl w=>some w
  | .inr w=>κ11 w)
end
end Go.Sh
