/- A part. -/
import Derived.Test.YtjlokngooekbcaaGreatP21fSh0
import Derived.Test.YtjlokngooekbcaaGreatP21fPwD
import Derived.Test.YtjlokngooekbcaaGreatP21fPwC
set_option linter.unusedVariables false
set_option linter.unusedSimpArgs false
set_option linter.unusedSectionVars false
namespace Go.Sh
set_option maxRecDepth 100000
noncomputable section
structure c9 where
 Kind:Int
 A:Int
 B:Int
 C:Int
structure k9 where
 Serial:Int
 Strong:Int
 Weak:Int
 Prog:Int
 Started:Bool
 Fields:List Int
structure b7 where
 State:Int
 Gen:Int
 Val:k9
structure c7 where
 Target:Int
 Intact:Bool
 Call:Int
structure b8 where
 State:Int
 Key:Int
 Val:Int
structure g9 where
 Kind:Int
 At:Int
 Prog:Int
structure g5 where
 part:Fv
 least:Int
 most:Int
 e:Int
structure c4 where
 a8:List b7
 Last:Int
structure a7 where
 S:c4
 Serial:Int
structure c5 where
 L:List g9
 Cap:Int
structure b6 where
 S:a7
 Roots:List Int
 a8:List c7
 T:List b8
 Q:c5
structure n9 where
 X:b6
 Progs:List (List c9)
structure j5 where
 V:Int
 E:Int
structure p6 where
 x:b6
 o:c9
structure G4 where
 r:Int
 h:Int
structure F0 where
 h:Int
 k:Int
 v:Int
structure G3 where
 t:List b8
structure m9 where
 Key:Int
 Val:Int
structure k7 where
 L:List Int
 Cap:Int
structure B7 where
 Serial:Int
 Strong:Int
 Weak:Int
 Prog:Int
 Started:Bool
 Fields:List Int
structure o6 where
 State:Int
 Gen:Int
 Val:B7
structure o7 where
 Target:Int
 Intact:Bool
 Call:Int
structure l6 where
 State:Int
 Key:Int
 Val:Int
structure u5 where
 Kind:Int
 At:Int
 Prog:Int
structure n7 where
 a8:List o6
 Last:Int
 Serial:Int
structure u7 where
 L:List u5
 Cap:Int
structure g6 where
 S:n7
 Roots:List Int
 a8:List o7
 T:List l6
 Q:u7
structure n8 where
 V:Int
 E:Int
structure H7 where
 Kind:Int
 A:Int
 B:Int
 C:Int
structure E8 where
 State:Int
 Gen:Int
 Val:Int
structure C3 where
 a8:List E8
 Last:Int
structure A0 where
 X:g6
 Progs:List (List H7)
structure Z1 where
 Key:Int
 Val:Int
def nk(a0:List (List c9)):Option Bool:=
 jn (λ(_:Unit)=>
  some (decide ((a0.length:Int)<=10))) (λκ5=>
  (lp (S:=Int) (E:=Bool ⊕ Unit) (λ(s8:Int)=>
   if ((decide (s8<(a0.length:Int)))&&(decide (s8<10))) then
    (ix a0 s8).bind λv10=>
    if (decide ((v10.length:Int) > 10)) then
     some (.inr (.inl false))
    else
    some (.inl (u4 (s8+1)))
   else
   some (.inr (.inr ()))) 0).bind λe7=>
  match e7 with
  | .inl w=>some w
  | .inr w=>κ5 w)
def T9(a0:List (List Int))(a1:Int):Option Bool:=
 jn (λ(_:Unit)=>
  some (decide ((a0.length:Int)<=a1))) (λκ5=>
  (lp (S:=Int) (E:=Bool ⊕ Unit) (λ(s8:Int)=>
   if ((decide (s8<(a0.length:Int)))&&(decide (s8<200))) then
    (ix a0 s8).bind λv10=>
    if (decide ((v10.length:Int) > 10)) then
     some (.inr (.inl false))
    else
    some (.inl (u4 (s8+1)))
   else
   some (.inr (.inr ()))) 0).bind λe7=>
  match e7 with
  | .inl w=>some w
  | .inr w=>κ5 w)
def db(a0:c9):Option Bool:=
 some ((decide (a0.Kind>=1))&&(decide (a0.Kind<=10)))
def W9:Option g5:=
 some (⟨(some 233),0,5,6⟩:g5)
def Q1:Option g5:=
 some (⟨(some 236),(-1),5,13⟩:g5)
def H5(a0:List g5):Option (List g5):=
 some a0
def X0:Option g5:=
 some (⟨(some 234),0,5,6⟩:g5)
def U6:Option g5:=
 some (⟨(some 236),0,3,5⟩:g5)
def U5:Option g5:=
 some (⟨(some 234),0,3,5⟩:g5)
def L9:Option g5:=
 some (⟨(some 236),(-1),5,6⟩:g5)
def W7:Option g5:=
 some (⟨(some 233),0,5,7⟩:g5)
def L8:Option g5:=
 some (⟨(some 234),(-1),5,6⟩:g5)
def W8:Option g5:=
 some (⟨(some 234),0,5,7⟩:g5)
def jZ:Option (List (Int × (List g5))):=
 (W9).bind λv1=>
 (Q1).bind λv2=>
 (H5 [v1,(⟨(some 234),0,4,1⟩:g5),v2]).bind λv3=>
 (X0).bind λv4=>
 (H5 [v1,v4]).bind λv5=>
 (H5 [v1]).bind λv6=>
 (U6).bind λv7=>
 (H5 [v1,v4,v7]).bind λv8=>
 (U5).bind λv9=>
 (L9).bind λv10=>
 (H5 [v1,v9,v10]).bind λv11=>
 (W7).bind λv12=>
 (L8).bind λv13=>
 (H5 [v12,v13,v2]).bind λv14=>
 (W8).bind λv15=>
 (H5 [v1,v15]).bind λv16=>
 (H5 [v1,v13]).bind λv17=>
 (H5 []).bind λv18=>
 (H5 [(⟨(some 233),0,200,12⟩:g5)]).bind λv19=>
 some (o8 (o8 (o8 (o8 (o8 (o8 (o8 (o8 (o8 (o8 (o8 (o8 [] 1 v3) 2 v5) 3 v6) 4 v8) 5 v11) 6 v14) 7 v16) 8 v17) 9 v5) 10 v5) 11 v18) 12 v19)
def pe(a0:c9):Option Int:=
 some a0.A
def pf(a0:c9):Option Int:=
 some a0.B
def pg(a0:c9):Option Int:=
 some a0.C
def qm(f:Fv)(a0:c9):Option Int:=
 if f=some 233 then pe a0 else
 if f=some 234 then pf a0 else
 if f=some 236 then pg a0 else
 none
def Q0(a0:c9):Option Int:=
 (jZ).bind λv1=>
 if (!((A6 v1 a0.Kind).isSome)) then
  some 14
 else
 jn (λ(_:Unit)=>
  some 0) (λκ8=>
  (lp (S:=Int) (E:=Int ⊕ Unit) (λ(s11:Int)=>
   if (decide (s11<(((A6 v1 a0.Kind).getD ([]:List g5)).length:Int))) then
    (ix ((A6 v1 a0.Kind).getD ([]:List g5)) s11).bind λv13=>
    (qm v13.part a0).bind λv14=>
    if ((decide (v14<v13.least))||(decide (v14 > v13.most))) then
     some (.inr (.inl v13.e))
    else
    some (.inl (u4 (s11+1)))
   else
   some (.inr (.inr ()))) 0).bind λe10=>
  match e10 with
  | .inl w=>some w
  | .inr w=>κ8 w)
def fR(a0:List (List c9)):Option Bool:=
 if (decide ((a0.length:Int) > 6)) then
  some false
 else
 jn (λ(_:Unit)=>
  some true) (λκ20=>
  (lp (S:=Int) (E:=Bool ⊕ Unit) (λ(s23:Int)=>
   if (decide (s23<(a0.length:Int))) then
    jn (λ(_:Unit)=>
     some (.inl (u4 (s23+1)))) (λκ32=>
     (ix a0 s23).bind λv34=>
     if (decide ((v34.length:Int) > 6)) then
      some (.inr (.inl false))
     else
     (lp (S:=Int) (E:=Bool ⊕ Unit) (λ(s36:Int)=>
      if (decide (s36<(v34.length:Int))) then
       (ix v34 s36).bind λv38=>
       (db v38).bind λv39=>
       (p7 ((!v39)==false) 0 (Q0 v38)).bind λv40=>
       if ((!v39)||(v40 != 0)) then
        some (.inr (.inl false))
       else
       some (.inl (u4 (s36+1)))
      else
      some (.inr (.inr ()))) 0).bind λe35=>
     match e35 with
     | .inl w=>some (.inr (.inl w))
     | .inr w=>κ32 w)
   else
   some (.inr (.inr ()))) 0).bind λe22=>
  match e22 with
  | .inl w=>some w
  | .inr w=>κ20 w)
def O3(a0:Int)(a1:Int):Option c4:=
 if ((((decide (a0<0))||(decide (a0 > 24)))||(decide (a1<0)))||(decide (a1 > 9))) then
  some (⟨[],0⟩:c4)
 else
 (mk 80 a0 (⟨0,0,⟨0,0,0,0,false,[]⟩⟩:b7)).bind λv1=>
 some (⟨v1,a1⟩:c4)
def bP(a0:Int)(a1:Int):Option a7:=
 (O3 a0 a1).bind λv1=>
 some (⟨v1,0⟩:a7)
def DZ(a0:Int):Option (List c7):=
 if ((decide (a0<0))||(decide (a0 > 6))) then
  some []
 else
 (mk 24 a0 (⟨0,false,0⟩:c7)).bind λv1=>
 jn (λ(j9:List c7)=>
  some j9) (λκ8=>
  (lp (S:=Int × (List c7)) (E:=(List c7)) (λ((s11,s12):Int × (List c7))=>
   if (decide (s11<(v1.length:Int))) then
    (ix s12 s11).bind λv15=>
    some (.inl (u4 (s11+1),(s12.set (s11).toNat (⟨v15.Target,v15.Intact,(-1)⟩:c7))))
   else
   some (.inr s12)) (0,v1)).bind λe10=>
  κ8 e10)
def qv(a0:Int):Option (List b8):=
 if ((decide (a0<1))||(decide (a0 > 8))) then
  some []
 else
 (mk 24 a0 (⟨0,0,0⟩:b8)).bind λv1=>
 some v1
def aJ(a0:Int):Option c5:=
 some (⟨[],a0⟩:c5)
def DN:Option c5:=
 (aJ 30).bind λv1=>
 some v1
def cg(a0:Int)(a1:Int)(a2:Int):Option b6:=
 if ((((((decide (a0<1))||(decide (a0 > 24)))||(decide (a1<0)))||(decide (a1 > 9)))||(decide (a2<1)))||(decide (a2 > 8))) then
  some (⟨⟨⟨[],0⟩,0⟩,[],[],[],⟨[],0⟩⟩:b6)
 else
 (bP a0 a1).bind λv1=>
 (mk 8 6 (0:Int)).bind λv2=>
 (DZ 6).bind λv3=>
 (qv a2).bind λv4=>
 (DN).bind λv5=>
 some (⟨v1,v2,v3,v4,v5⟩:b6)
def N6(a0:Int)(a1:Int)(a2:Int)(a3:List (List c9)):Option (n9 × Int):=
 (fR a3).bind λv1=>
 if (!v1) then
  some ((⟨⟨⟨⟨[],0⟩,0⟩,[],[],[],⟨[],0⟩⟩,[]⟩:n9),13)
 else
 (cg a0 a1 a2).bind λv2=>
 if ((v2.Roots.length:Int)==0) then
  some ((⟨⟨⟨⟨[],0⟩,0⟩,[],[],[],⟨[],0⟩⟩,[]⟩:n9),1)
 else
 some ((⟨v2,a3⟩:n9),0)
def U2(a0:List Int):Option (c9 × Int):=
 if ((a0.length:Int) != 4) then
  some ((⟨0,0,0,0⟩:c9),14)
 else
 (ix a0 0).bind λv1=>
 (ix a0 1).bind λv2=>
 (ix a0 2).bind λv3=>
 (ix a0 3).bind λv4=>
 (Q0 (⟨v1,v2,v3,v4⟩:c9)).bind λv5=>
 if (v5 != 0) then
  some ((⟨0,0,0,0⟩:c9),v5)
 else
 some ((⟨v1,v2,v3,v4⟩:c9),0)
def kf(a0:c9):Option Nu:=
 if (a0.Kind==11) then
  some (⟨136,[]⟩:Nu)
 else
 if (a0.Kind==12) then
  some (⟨140,[a0.A]⟩:Nu)
 else
 some (⟨132,[a0.Kind,a0.A,a0.B,a0.C]⟩:Nu)
def dM:Option (List (Int × Fv)):=
 some (o8 (o8 (o8 (o8 (o8 (o8 (o8 (o8 (o8 (o8 [] 1 (some 151)) 2 (some 152)) 3 (some 153)) 4 (some 154)) 5 (some 155)) 6 (some 156)) 7 (some 157)) 8 (some 158)) 9 (some 159)) 10 (some 160))
def BK(a0:Int):Option ((List Int) × Int):=
 if ((decide (a0<0))||(decide (a0 > 4))) then
  some ([],1)
 else
 (mk 8 a0 (0:Int)).bind λv1=>
 some (v1,0)
def P5(a0:Int):Option Bool:=
 some ((decide (a0>=(-1)))&&(decide (a0<6)))
def L7(a0:c4):Option c4:=
 some a0
def w8(a0:List b7):Option (List b7):=
 app 80 [] a0
def B8(a0:c4)(a1:Int)(a2:b7):Option c4:=
 (w8 a0.a8).bind λv1=>
 (ix v1 a1).bind λv2=>
 some (⟨(v1.set (a1).toNat a2),a0.Last⟩:c4)
def bF(a0:Int)(a1:Int):Option Int:=
 if ((((decide (a0<0))||(decide (a0>=24)))||(decide (a1<0)))||(decide (a1 > 9))) then
  some 0
 else
 some (u4 ((u4 (1+(u4 (a0*1))))+(u4 (a1*32))))
def H4(a0:c4)(a1:k9):Option (c4 × Int × Int):=
 jn (λ(_:Unit)=>
  some (a0,0,4)) (λκ9=>
  (L7 a0).bind λv11=>
  (lp (S:=Int) (E:=(c4 × Int × Int) ⊕ Unit) (λ(s13:Int)=>
   if (decide (s13<(v11.a8.length:Int))) then
    (ix v11.a8 s13).bind λv15=>
    if ((v15.State==0)==true) then
     (ix a0.a8 s13).bind λv16=>
     (B8 a0 s13 (⟨1,v16.Gen,a1⟩:b7)).bind λv17=>
     (bF s13 v16.Gen).bind λv18=>
     some (.inr (.inl (v17,v18,0)))
    else
    some (.inl (u4 (s13+1)))
   else
   some (.inr (.inr ()))) 0).bind λe12=>
  match e12 with
  | .inl w=>some w
  | .inr w=>κ9 w)
def Q8(a0:a7)(a1:Int)(a2:Int):Option (a7 × Int × Int):=
 (BK a1).bind λv1=>
 if (v1.2 != 0) then
  some (a0,0,v1.2)
 else
 (P5 a2).bind λv2=>
 if (!v2) then
  some (a0,0,13)
 else
 (H4 a0.S (⟨u4 (a0.Serial+1),0,0,a2,false,v1.1⟩:k9)).bind λv3=>
 if (v3.2.2 != 0) then
  some (a0,0,v3.2.2)
 else
 some ((⟨v3.1,u4 (a0.Serial+1)⟩:a7),v3.2.1,0)
def cd(a0:Int):Option (Int × Int × Bool):=
 if (decide (a0<1)) then
  some ((-1),(-1),false)
 else
 (rem (u4 (a0-1)) 32).bind λv1=>
 (quo .i64 v1 1).bind λv2=>
 (quo .i64 (u4 (a0-1)) 32).bind λv3=>
 if ((decide (v2>=24))||(decide (v3 > 9))) then
  some ((-1),(-1),false)
 else
 some (v2,v3,true)
def dW(a0:Int):Option Int:=
 (cd a0).bind λv1=>
 some v1.1
def fZ(a0:Int):Option Int:=
 (cd a0).bind λv1=>
 some v1.2.1
def u6(a0:c4)(a1:Int):Option (Int × Int):=
 if (a1==0) then
  some ((-1),2)
 else
 (dW a1).bind λv1=>
 if ((decide (v1<0))||(decide (v1>=(a0.a8.length:Int)))) then
  some ((-1),3)
 else
 (ix a0.a8 v1).bind λv2=>
 (fZ a1).bind λv3=>
 if ((v2.Gen != v3)||((v2.State != 1)&&(v2.State != 2))) then
  some ((-1),3)
 else
 some (v1,0)
def C6(a0:c4)(a1:Int):Option (k9 × Int):=
 (u6 a0 a1).bind λv1=>
 if (v1.2 != 0) then
  some ((⟨0,0,0,0,false,[]⟩:k9),v1.2)
 else
 (ix a0.a8 v1.1).bind λv2=>
 if (v2.State==2) then
  some ((⟨0,0,0,0,false,[]⟩:k9),3)
 else
 some (v2.Val,0)
def u9(a0:a7)(a1:Int):Option (k9 × Int):=
 (C6 a0.S a1).bind λv1=>
 some (v1.1,v1.2)
def gT(a0:b6)(a1:Int):Option Bool:=
 (u9 a0.S a1).bind λv1=>
 some (v1.2==0)
def J2(a0:b6)(a1:Int):Option Bool:=
 (p7 ((a1==0)==false) false (gT a0 a1)).bind λv1=>
 some ((a1==0)||v1)
def E3(a0:Int):Option Bool:=
 some (decide (a0>=12))
def fS(a0:Int):Option (Int × Int):=
 (E3 a0).bind λv1=>
 if v1 then
  some (12,0)
 else
 some (u4 ((if 0 > a0 then 0 else a0)+1),0)
def nr(a0:Int):Option Int:=
 (fS a0).bind λv1=>
 some v1.1
def I4(a0:c4)(a1:Int)(a2:k9):Option (c4 × Int):=
 (u6 a0 a1).bind λv1=>
 if (v1.2 != 0) then
  some (a0,v1.2)
 else
 (ix a0.a8 v1.1).bind λv2=>
 (B8 a0 v1.1 (⟨v2.State,v2.Gen,a2⟩:b7)).bind λv3=>
 some (v3,0)
def I5(a0:a7)(a1:Int)(a2:k9):Option (a7 × Int):=
 (I4 a0.S a1 a2).bind λv1=>
 some ((⟨v1.1,a0.Serial⟩:a7),v1.2)
def S0(a0:b6)(a1:Int):Option b6:=
 (u9 a0.S a1).bind λv1=>
 if (v1.2==0) then
  (nr v1.1.Strong).bind λv2=>
  (I5 a0.S a1 (⟨v1.1.Serial,v2,v1.1.Weak,v1.1.Prog,v1.1.Started,v1.1.Fields⟩:k9)).bind λv3=>
  some (⟨v3.1,a0.Roots,a0.a8,a0.T,a0.Q⟩:b6)
 else
 some a0
def Y9(a0:b6)(a1:Int):Option b6:=
 (S0 a0 a1).bind λv1=>
 some v1
def K4(a0:List Int):Option (List Int):=
 app 8 [] a0
def N7(a0:G4)(a1:b6):Option b6:=
 (K4 a1.Roots).bind λv1=>
 (ix v1 a0.r).bind λv2=>
 some (⟨a1.S,(v1.set (a0.r).toNat a0.h),a1.a8,a1.T,a1.Q⟩:b6)
def dd(a0:Int):Option (Int × Int):=
 (E3 a0).bind λv1=>
 if v1 then
  some (12,0)
 else
 if (decide (a0<1)) then
  some (0,11)
 else
 some (u4 (a0-1),0)
def rP(a0:Int):Option (Int × Int):=
 (dd a0).bind λv1=>
 some (v1.1,v1.2)
def ck(a0:Int):Option Int:=
 (rP a0).bind λv1=>
 if (v1.2 != 0) then
  some a0
 else
 some v1.1
def L3(a0:b6)(a1:Int):Option b6:=
 (u9 a0.S a1).bind λv1=>
 if (v1.2==0) then
  (ck v1.1.Strong).bind λv2=>
  (I5 a0.S a1 (⟨v1.1.Serial,v2,v1.1.Weak,v1.1.Prog,v1.1.Started,v1.1.Fields⟩:k9)).bind λv3=>
  some (⟨v3.1,a0.Roots,a0.a8,a0.T,a0.Q⟩:b6)
 else
 some a0
def B6(a0:b6)(a1:Int):Option b6:=
 (L3 a0 a1).bind λv1=>
 some v1
def D7(a0:b6)(a1:Int)(a2:Int)(a3:G4):Option b6:=
 (Y9 a0 a2).bind λv1=>
 (N7 a3 v1).bind λv2=>
 (B6 v2 a1).bind λv3=>
 some v3
def al(a0:b6)(a1:Int)(a2:Int):Option (b6 × Int):=
 if ((decide (a1<0))||(decide (a1>=(a0.Roots.length:Int)))) then
  some (a0,6)
 else
 (J2 a0 a2).bind λv1=>
 if (!v1) then
  some (a0,3)
 else
 (ix a0.Roots a1).bind λv2=>
 (D7 a0 v2 a2 (⟨a1,a2⟩:G4)).bind λv3=>
 some (v3,0)
def A9(a0:p6)(a1:Int)(a2:Int):Option (b6 × Int):=
 if (a2 != 0) then
  some (a0.x,a2)
 else
 (al a0.x a0.o.A a1).bind λv1=>
 some (v1.1,v1.2)
def R1(a0:p6):Option (b6 × Int):=
 (Q8 a0.x.S a0.o.B a0.o.C).bind λv1=>
 if (v1.2.2 != 0) then
  some (a0.x,v1.2.2)
 else
 (A9 (⟨⟨v1.1,a0.x.Roots,a0.x.a8,a0.x.T,a0.x.Q⟩,a0.o⟩:p6) v1.2.1 0).bind λv2=>
 some (v2.1,v2.2)
def J4(a0:b6)(a1:Int):Option Int:=
 if ((decide (a1<0))||(decide (a1>=(a0.Roots.length:Int)))) then
  some 0
 else
 (ix a0.Roots a1).bind λv1=>
 some v1
def G6(a0:p6):Option (b6 × Int):=
 (J4 a0.x a0.o.B).bind λv1=>
 (A9 a0 v1 0).bind λv2=>
 some (v2.1,v2.2)
def X9(a0:p6):Option (b6 × Int):=
 (A9 a0 0 0).bind λv1=>
 some (v1.1,v1.2)
def K2(a0:b6)(a1:Int):Option (Int × Int):=
 (J4 a0 a1).bind λv1=>
 if (v1==0) then
  some (0,2)
 else
 some (v1,0)
def lr(a0:List Int)(a1:Int):Option Bool:=
 some ((decide (a1>=0))&&(decide (a1<(a0.length:Int))))
def sZ(a0:List Int)(a1:Int):Option (Int × Int):=
 (lr a0 a1).bind λv1=>
 if (!v1) then
  some (0,5)
 else
 (ix a0 a1).bind λv2=>
 some (v2,0)
def Z8(a0:a7)(a1:Int)(a2:Int):Option (Int × Int):=
 (u9 a0 a1).bind λv1=>
 if (v1.2 != 0) then
  some (0,v1.2)
 else
 (sZ v1.1.Fields a2).bind λv2=>
 some (v2.1,v2.2)
def Y0(a0:p6):Option (b6 × Int):=
 (K2 a0.x a0.o.B).bind λv1=>
 if (v1.2 != 0) then
  some (a0.x,v1.2)
 else
 (Z8 a0.x.S v1.1 a0.o.C).bind λv2=>
 (A9 a0 v2.1 v2.2).bind λv3=>
 some (v3.1,v3.2)
def wN(a0:List Int)(a1:Int)(a2:Int):Option ((List Int) × Int):=
 (lr a0 a1).bind λv1=>
 if (!v1) then
  some (a0,5)
 else
 (mk 8 (a0.length:Int) (0:Int)).bind λv2=>
 (xe v2 a0).bind λv3=>
 (ix v3 a1).bind λv4=>
 some ((v3.set (a1).toNat a2),0)
def nU(a0:a7)(a1:Int)(a2:Int)(a3:Int):Option (a7 × Int):=
 (u9 a0 a1).bind λv1=>
 if (v1.2 != 0) then
  some (a0,v1.2)
 else
 (wN v1.1.Fields a2 a3).bind λv2=>
 if (v2.2 != 0) then
  some (a0,v2.2)
 else
 (I5 a0 a1 (⟨v1.1.Serial,v1.1.Strong,v1.1.Weak,v1.1.Prog,v1.1.Started,v2.1⟩:k9)).bind λv3=>
 some (v3.1,v3.2)
def aH(a0:F0)(a1:b6):Option b6:=
 (nU a1.S a0.h a0.k a0.v).bind λv1=>
 some (⟨v1.1,a1.Roots,a1.a8,a1.T,a1.Q⟩:b6)
def G5(a0:b6)(a1:Int)(a2:Int)(a3:F0):Option b6:=
 (Y9 a0 a2).bind λv1=>
 (aH a3 v1).bind λv2=>
 (B6 v2 a1).bind λv3=>
 some v3
def dg(a0:b6)(a1:Int)(a2:Int)(a3:Int):Option (b6 × Int):=
 (Z8 a0.S a1 a2).bind λv1=>
 if (v1.2 != 0) then
  some (a0,v1.2)
 else
 (J2 a0 a3).bind λv2=>
 if (!v2) then
  some (a0,3)
 else
 (G5 a0 v1.1 a3 (⟨a1,a2,a3⟩:F0)).bind λv3=>
 some (v3,0)
def U8(a0:p6):Option (b6 × Int):=
 (K2 a0.x a0.o.A).bind λv1=>
 if (v1.2 != 0) then
  some (a0.x,v1.2)
 else
 (J4 a0.x a0.o.C).bind λv2=>
 (dg a0.x v1.1 a0.o.B v2).bind λv3=>
 some (v3.1,v3.2)
def uK(a0:c5)(a1:Int):Option (c5 × Int):=
 some (a0,a1)
def gy(a0:c5)(a1:Int):Option Bool:=
 jn (λ(_:Unit)=>
  some false) (λκ6=>
  (uK a0 2).bind λv8=>
  (lp (S:=Int) (E:=Bool ⊕ Unit) (λ(s10:Int)=>
   if (decide (s10<(v8.1.L.length:Int))) then
    (ix v8.1.L s10).bind λv12=>
    if ((v12.Kind==v8.2)==true) then
     if (v12.At==a1) then
      some (.inr (.inl true))
     else
     some (.inl (u4 (s10+1)))
    else
    some (.inl (u4 (s10+1)))
   else
   some (.inr (.inr ()))) 0).bind λe9=>
  match e9 with
  | .inl w=>some w
  | .inr w=>κ6 w)
def jI(a0:List c7)(a1:Int):Option Bool:=
 some ((decide (a1>=0))&&(decide (a1<(a0.length:Int))))
def aa(a0:List c7):Option (List c7):=
 (mk 24 (a0.length:Int) (⟨0,false,0⟩:c7)).bind λv1=>
 (xe v1 a0).bind λv2=>
 some v2
def rG(a0:List c7)(a1:Int)(a2:Int)(a3:Int):Option ((List c7) × Int × Int):=
 (jI a0 a1).bind λv1=>
 if (!v1) then
  some (a0,0,7)
 else
 (aa a0).bind λv2=>
 (ix v2 a1).bind λv3=>
 (ix a0 a1).bind λv4=>
 some ((v2.set (a1).toNat (⟨a2,(a2 != 0),a3⟩:c7)),v4.Target,0)
def bH(a0:b6)(a1:Int)(a2:Int):Option b6:=
 (u6 a0.S.S a1).bind λv1=>
 if (v1.2==0) then
  (ix a0.S.S.a8 v1.1).bind λv2=>
  (I5 a0.S a1 (⟨v2.Val.Serial,v2.Val.Strong,u4 (v2.Val.Weak+a2),v2.Val.Prog,v2.Val.Started,v2.Val.Fields⟩:k9)).bind λv3=>
  some (⟨v3.1,a0.Roots,a0.a8,a0.T,a0.Q⟩:b6)
 else
 some a0
def L6(a0:c4)(a1:Int):Option (c4 × Int):=
 (u6 a0 a1).bind λv1=>
 if (v1.2 != 0) then
  some (a0,v1.2)
 else
 (ix a0.a8 v1.1).bind λv2=>
 if (v2.Gen==a0.Last) then
  (B8 a0 v1.1 (⟨3,v2.Gen,⟨0,0,0,0,false,[]⟩⟩:b7)).bind λv3=>
  some (v3,0)
 else
 (B8 a0 v1.1 (⟨0,u4 (v2.Gen+1),⟨0,0,0,0,false,[]⟩⟩:b7)).bind λv4=>
 some (v4,0)
def dL(a0:b6)(a1:Int):Option b6:=
 (bH a0 a1 (-1)).bind λv1=>
 (u6 v1.S.S a1).bind λv2=>
 if (v2.2 != 0) then
  some v1
 else
 (ix v1.S.S.a8 v2.1).bind λv3=>
 if ((v3.State==2)&&(v3.Val.Weak==0)) then
  (L6 v1.S.S a1).bind λv4=>
  some (⟨⟨v4.1,v1.S.Serial⟩,v1.Roots,v1.a8,v1.T,v1.Q⟩:b6)
 else
 some v1
def ao(a0:b6)(a1:Int)(a2:Int)(a3:Int):Option (b6 × Int):=
 (p7 (((decide (a1<0))||(decide (a1>=(a0.a8.length:Int))))==false) false (gy a0.Q a1)).bind λv1=>
 if (((decide (a1<0))||(decide (a1>=(a0.a8.length:Int))))||v1) then
  some (a0,7)
 else
 (J2 a0 a2).bind λv2=>
 if (!v2) then
  some (a0,3)
 else
 (rG a0.a8 a1 a2 a3).bind λv3=>
 (bH (⟨a0.S,a0.Roots,v3.1,a0.T,a0.Q⟩:b6) a2 1).bind λv4=>
 (dL v4 v3.2.1).bind λv5=>
 some (v5,0)
def R2(a0:p6):Option (b6 × Int):=
 if (a0.o.B==(-1)) then
  (ao a0.x a0.o.A 0 a0.o.C).bind λv1=>
  some (v1.1,v1.2)
 else
 (K2 a0.x a0.o.B).bind λv2=>
 if (v2.2 != 0) then
  some (a0.x,v2.2)
 else
 (ao a0.x a0.o.A v2.1 a0.o.C).bind λv3=>
 some (v3.1,v3.2)
def jH(a0:List c7)(a1:Int):Option (Int × Int):=
 (jI a0 a1).bind λv1=>
 if (!v1) then
  some (0,7)
 else
 (ix a0 a1).bind λv2=>
 if ((v2.Target==0)||(!v2.Intact)) then
  some (0,9)
 else
 some (v2.Target,0)
def V3(a0:p6):Option (b6 × Int):=
 (jH a0.x.a8 a0.o.B).bind λv1=>
 (A9 a0 v1.1 v1.2).bind λv2=>
 some (v2.1,v2.2)
def fH(a0:Int)(a1:Int):Option (Int × Int):=
 some (a0,a1)
def ak(a0:Int)(a1:Int):Option Int:=
 if (decide (a0<1)) then
  some 0
 else
 (rem (u4 ((u4 (5*a1))+1)) a0).bind λv1=>
 if (decide (v1<0)) then
  some (u4 (v1+a0))
 else
 some v1
def W0(a0:List b8)(a1:Int):Option Int:=
 jn (λ(_:Unit)=>
  some (-1)) (λκ8=>
  (fH (a0.length:Int) a1).bind λv10=>
  (lp (S:=Int) (E:=Int ⊕ Unit) (λ(s12:Int)=>
   if (decide (s12<v10.1)) then
    (ak v10.1 v10.2).bind λv14=>
    (rem (u4 (v14+s12)) v10.1).bind λv15=>
    (ix a0 v15).bind λv16=>
    if (v16.State==0) then
     some (.inr (.inr ()))
    else
    if ((v16.State==1)&&(v16.Key==a1)) then
     some (.inr (.inl v15))
    else
    some (.inl (u4 (s12+1)))
   else
   some (.inr (.inr ()))) 0).bind λe11=>
  match e11 with
  | .inl w=>some w
  | .inr w=>κ8 w)
def K0(a0:List b8)(a1:Int):Option (Int × Int):=
 (W0 a0 a1).bind λv1=>
 if (decide (v1<0)) then
  some (0,9)
 else
 (ix a0 v1).bind λv2=>
 some (v2.Val,0)
def C7(a0:List b8):Option (List b8):=
 app 24 [] a0
def bG(a0:List b8)(a1:Int)(a2:b8):Option (List b8):=
 (C7 a0).bind λv1=>
 (ix v1 a1).bind λv2=>
 some (v1.set (a1).toNat a2)
def V9(a0:List b8)(a1:Int):Option ((List b8) × Int × Int):=
 (W0 a0 a1).bind λv1=>
 if (decide (v1<0)) then
  some (a0,0,9)
 else
 (bG a0 v1 (⟨2,0,0⟩:b8)).bind λv2=>
 (ix a0 v1).bind λv3=>
 some (v2,v3.Val,0)
def mq(a0:List b8)(a1:Int)(a2:Int):Option ((List b8) × Int):=
 (W0 a0 a1).bind λv1=>
 if (decide (v1>=0)) then
  (bG a0 v1 (⟨1,a1,a2⟩:b8)).bind λv2=>
  some (v2,0)
 else
 jn (λ(_:Unit)=>
  some (a0,8)) (λκ11=>
  (fH (a0.length:Int) a1).bind λv13=>
  (lp (S:=Int) (E:=((List b8) × Int) ⊕ Unit) (λ(s15:Int)=>
   if (decide (s15<v13.1)) then
    (ak v13.1 v13.2).bind λv17=>
    (rem (u4 (v17+s15)) v13.1).bind λv18=>
    (ix a0 v18).bind λv19=>
    if (v19.State != 1) then
     (bG a0 v18 (⟨1,a1,a2⟩:b8)).bind λv20=>
     some (.inr (.inl (v20,0)))
    else
    some (.inl (u4 (s15+1)))
   else
   some (.inr (.inr ()))) 0).bind λe14=>
  match e14 with
  | .inl w=>some w
  | .inr w=>κ11 w)
def R8(a0:List b8)(a1:Int)(a2:Int):Option ((List b8) × Int × Int):=
 if (a1==0) then
  some (a0,0,2)
 else
 (K0 a0 a1).bind λv1=>
 if (a2==0) then
  (V9 a0 a1).bind λv2=>
  some (v2.1,v1.1,0)
 else
 (mq a0 a1 a2).bind λv3=>
 if (v3.2 != 0) then
  some (a0,0,v3.2)
 else
 some (v3.1,v1.1,0)
def U7(a0:G3)(a1:b6):Option b6:=
 some (⟨a1.S,a1.Roots,a1.a8,a0.t,a1.Q⟩:b6)
def H6(a0:b6)(a1:Int)(a2:Int)(a3:G3):Option b6:=
 (Y9 a0 a2).bind λv1=>
 (U7 a3 v1).bind λv2=>
 (B6 v2 a1).bind λv3=>
 some v3
def fI(a0:b6)(a1:Int)(a2:Int):Option (b6 × Int):=
 if (a1==0) then
  some (a0,2)
 else
 (J2 a0 a1).bind λv1=>
 (p7 ((!v1)==false) false (J2 a0 a2)).bind λv2=>
 if ((!v1)||(!v2)) then
  some (a0,3)
 else
 (R8 a0.T a1 a2).bind λv3=>
 if (v3.2.2 != 0) then
  some (a0,v3.2.2)
 else
 (H6 a0 v3.2.1 a2 (⟨v3.1⟩:G3)).bind λv4=>
 some (v4,0)
def Y1(a0:p6):Option (b6 × Int):=
 (K2 a0.x a0.o.A).bind λv1=>
 if (v1.2 != 0) then
  some (a0.x,v1.2)
 else
 (J4 a0.x a0.o.B).bind λv2=>
 (fI a0.x v1.1 v2).bind λv3=>
 some (v3.1,v3.2)
def rQ(a0:List b8)(a1:Int):Option (Int × Int):=
 (K0 a0 a1).bind λv1=>
 some (v1.1,v1.2)
def aq(a0:p6):Option (b6 × Int):=
 (K2 a0.x a0.o.B).bind λv1=>
 if (v1.2 != 0) then
  some (a0.x,v1.2)
 else
 (rQ a0.x.T v1.1).bind λv2=>
 (A9 a0 v2.1 v2.2).bind λv3=>
 some (v3.1,v3.2)
def N8(a0:p6):Option (b6 × Int):=
 some (a0.x,0)
def uk(f:Fv)(a0:p6):Option (b6 × Int):=
 if f=some 151 then R1 a0 else
 if f=some 152 then G6 a0 else
 if f=some 153 then X9 a0 else
 if f=some 154 then Y0 a0 else
 if f=some 155 then U8 a0 else
 if f=some 156 then R2 a0 else
 if f=some 157 then V3 a0 else
 if f=some 158 then Y1 a0 else
 if f=some 159 then aq a0 else
 if f=some 160 then N8 a0 else
 none
def aP(a0:Int):Option Bool:=
 some (a0 != a0)
def eK(a0:Int)(a1:Int):Option Int:=
 (aP a0).bind λv1=>
 (aP a1).bind λv2=>
 if v1 then
  if v2 then
   some 0
  else
  some (-1)
 else
 if v2 then
  some 1
 else
 if (decide (a0<a1)) then
  some (-1)
 else
 if (decide (a0 > a1)) then
  some 1
 else
 some 0
def fE(a0:Int)(a1:Int)(a2:List (Int × Int)):Option Int:=
 (eK ((A6 a2 a0).getD (0:Int)) ((A6 a2 a1).getD (0:Int))).bind λv1=>
 some v1
def C8(a0:a7):Option (List Int):=
 jn (λ((j18,j19):(List (Int × Int)) × (List Int))=>
  (sT (λp q=>fE p q j18) j19).bind λv21=>
  some v21) (λκ17=>
  (lp (S:=Int × (List (Int × Int)) × (List Int)) (E:=((List (Int × Int)) × (List Int))) (λ((s23,s24,s25):Int × (List (Int × Int)) × (List Int))=>
   if (decide (s23<(a0.S.a8.length:Int))) then
    jn (λ((j32,j33):(List (Int × Int)) × (List Int))=>
     some (.inl (u4 (s23+1),j32,j33))) (λκ31=>
     (ix a0.S.a8 s23).bind λv35=>
     if (v35.State==1) then
      (bF s23 v35.Gen).bind λv36=>
      (app 8 s25 [v36]).bind λv37=>
      κ31 ((o8 s24 v36 v35.Val.Serial),v37)
     else
     κ31 (s24,s25))
   else
   some (.inr (s24,s25))) (0,[],[])).bind λe22=>
  κ17 e22)
def bO(a0:b6):Option (List Int):=
 jn (λ(j16:List Int)=>
  some j16) (λκ15=>
  (C8 a0.S).bind λv17=>
  (lp (S:=Int × (List Int)) (E:=(List Int)) (λ((s19,s20):Int × (List Int))=>
   if (decide (s19<(v17.length:Int))) then
    jn (λ(j27:List Int)=>
     some (.inl (u4 (s19+1),j27))) (λκ26=>
     (ix v17 s19).bind λv28=>
     (u9 a0.S v28).bind λv29=>
     if (v29.1.Strong==0) then
      (app 8 s20 [v28]).bind λv30=>
      κ26 v30
     else
     κ26 s20)
   else
   some (.inr s20)) (0,[])).bind λe18=>
  κ15 e18)
def K3(a0:k9):Option Bool:=
 some ((decide (a0.Prog>=0))&&(!a0.Started))
def H3(a0:c5):Option Int:=
 some (a0.L.length:Int)
def D8(a0:List g9)(a1:Int)(a2:Int):Option (List g9):=
 (cut a0 a1 a2).bind λv1=>
 some v1
def P2(a0:c5)(a1:g9):Option (c5 × Int):=
 (H3 a0).bind λv1=>
 if (decide (v1>=a0.Cap)) then
  some (a0,4)
 else
 (D8 a0.L 0 v1).bind λv2=>
 (app 24 v2 [a1]).bind λv3=>
 some ((⟨v3,a0.Cap⟩:c5),0)
def nh(a0:c5)(a1:g9):Option (c5 × Int):=
 (P2 a0 a1).bind λv1=>
 some (v1.1,v1.2)
def Q6(a0:b6)(a1:Int):Option b6:=
 (u9 a0.S a1).bind λv1=>
 (p7 ((v1.2 != 0)==false) false (K3 v1.1)).bind λv2=>
 if ((v1.2 != 0)||(!v2)) then
  some a0
 else
 (I5 a0.S a1 (⟨v1.1.Serial,v1.1.Strong,v1.1.Weak,v1.1.Prog,true,v1.1.Fields⟩:k9)).bind λv3=>
 (nh a0.Q (⟨1,a1,v1.1.Prog⟩:g9)).bind λv4=>
 (Y9 (⟨v3.1,a0.Roots,a0.a8,a0.T,v4.1⟩:b6) a1).bind λv5=>
 some v5
def T8(a0:b6)(a1:List Int):Option (List Int):=
 jn (λ(j18:List Int)=>
  some j18) (λκ17=>
  (lp (S:=Int × (List (Int × Bool)) × (List Int)) (E:=(List Int)) (λ((s20,s21,s22):Int × (List (Int × Bool)) × (List Int))=>
   if (decide (s20<(a1.length:Int))) then
    jn (λ((j29,j30):(List Int) × (List (Int × Bool)))=>
     some (.inl (u4 (s20+1),j30,j29))) (λκ28=>
     (ix a1 s20).bind λv32=>
     (u9 a0.S v32).bind λv33=>
     if ((v33.2==0)==true) then
      if (!((A6 s21 v32).getD (false:Bool))) then
       (app 8 s22 [v32]).bind λv34=>
       κ28 (v34,(o8 s21 v32 true))
      else
      κ28 (s22,s21)
     else
     κ28 (s22,s21))
   else
   some (.inr s22)) (0,[],[])).bind λe19=>
  κ17 e19)
def P4(a0:List Int)(a1:Int):Option Int:=
 jn (λ(_:Unit)=>
  some (-1)) (λκ5=>
  (lp (S:=Int) (E:=Int ⊕ Unit) (λ(s8:Int)=>
   if (decide (s8<(a0.length:Int))) then
    (ix a0 s8).bind λv10=>
    if (a1==v10) then
     some (.inr (.inl s8))
    else
    some (.inl (u4 (s8+1)))
   else
   some (.inr (.inr ()))) 0).bind λe7=>
  match e7 with
  | .inl w=>some w
  | .inr w=>κ5 w)
def D6(a0:List Int)(a1:Int):Option Bool:=
 (P4 a0 a1).bind λv1=>
 some (decide (v1>=0))
def aB(a0:c7)(a1:List Int):Option Bool:=
 (p7 ((a0.Intact&&(a0.Target != 0))==true) false (D6 a1 a0.Target)).bind λv1=>
 some ((a0.Intact&&(a0.Target != 0))&&v1)
def H9(a0:List c7)(a1:List Int):Option (List Int):=
 jn (λ(j15:List Int)=>
  some j15) (λκ14=>
  (lp (S:=Int × (List Int)) (E:=(List Int)) (λ((s17,s18):Int × (List Int))=>
   if (decide (s17<(a0.length:Int))) then
    jn (λ(j25:List Int)=>
     some (.inl (u4 (s17+1),j25))) (λκ24=>
     (ix a0 s17).bind λv26=>
     (aB v26 a1).bind λv27=>
     if v27 then
      (app 8 s18 [s17]).bind λv28=>
      κ24 v28
     else
     κ24 s18)
   else
   some (.inr s18)) (0,[])).bind λe16=>
  κ14 e16)
def gA(a0:List c7)(a1:List Int):Option ((List c7) × (List Int)):=
 (H9 a0 a1).bind λv1=>
 (aa a0).bind λv2=>
 jn (λ((j22,j23):(List Int) × (List c7))=>
  some (j23,j22)) (λκ21=>
  (lp (S:=Int × (List c7) × (List Int)) (E:=((List Int) × (List c7))) (λ((s26,s27,s28):Int × (List c7) × (List Int))=>
   if (decide (s26<(v1.length:Int))) then
    jn (λ((j36,j37):(List Int) × (List c7))=>
     some (.inl (u4 (s26+1),j37,j36))) (λκ35=>
     (ix v1 s26).bind λv39=>
     (ix s27 v39).bind λv40=>
     (ix (s27.set (v39).toNat (⟨v40.Target,false,v40.Call⟩:c7)) v39).bind λv41=>
     if (decide (v41.Call>=0)) then
      (app 8 s28 [v39]).bind λv42=>
      κ35 (v42,(s27.set (v39).toNat (⟨v40.Target,false,v40.Call⟩:c7)))
     else
     κ35 (s28,(s27.set (v39).toNat (⟨v40.Target,false,v40.Call⟩:c7))))
   else
   some (.inr (s28,s27))) (0,v2,[])).bind λe25=>
  κ21 e25)
def cJ(a0:b6)(a1:List Int):Option b6:=
 (gA a0.a8 a1).bind λv1=>
 jn (λ(j11:c5)=>
  some (⟨a0.S,a0.Roots,v1.1,a0.T,j11⟩:b6)) (λκ10=>
  (lp (S:=Int × c5) (E:=c5) (λ((s13,s14):Int × c5)=>
   if (decide (s13<(v1.2.length:Int))) then
    (ix v1.2 s13).bind λv17=>
    (ix v1.1 v17).bind λv18=>
    (nh s14 (⟨2,v17,v18.Call⟩:g9)).bind λv19=>
    some (.inl (u4 (s13+1),v19.1))
   else
   some (.inr s14)) (0,a0.Q)).bind λe12=>
  κ10 e12)
def nY(a0:List Int):Option (List Int):=
 some a0
def fP(a0:List Int):Option (List Int):=
 jn (λ(j10:List Int)=>
  some j10) (λκ9=>
  (nY a0).bind λv11=>
  (lp (S:=Int × (List Int)) (E:=(List Int)) (λ((s13,s14):Int × (List Int))=>
   if (decide (s13<(v11.length:Int))) then
    (ix v11 s13).bind λv17=>
    if ((v17 != 0)==true) then
     (app 8 s14 [v17]).bind λv18=>
     some (.inl (u4 (s13+1),v18))
    else
    some (.inl (u4 (s13+1),s14))
   else
   some (.inr s14)) (0,[])).bind λe12=>
  κ9 e12)
def V7(a0:List b8)(a1:List Int):Option ((List b8) × (List Int)):=
 jn (λ((j18,j19):(List b8) × (List Int))=>
  some (j18,j19)) (λκ17=>
  (lp (S:=(List b8) × Int × (List Int)) (E:=((List b8) × (List Int))) (λ((s22,s23,s24):(List b8) × Int × (List Int))=>
   if (decide (s23<(a1.length:Int))) then
    jn (λ((j31,j32):(List b8) × (List Int))=>
     some (.inl (j31,u4 (s23+1),j32))) (λκ30=>
     (ix a1 s23).bind λv34=>
     (V9 s22 v34).bind λv35=>
     if (v35.2.2==0) then
      (app 8 s24 [v35.2.1]).bind λv36=>
      κ30 (v35.1,v36)
     else
     κ30 (s22,s24))
   else
   some (.inr (s22,s24))) (a0,0,[])).bind λe21=>
  κ17 e21)
def R3(a0:c4)(a1:Int):Option (c4 × Int):=
 (C6 a0 a1).bind λv1=>
 if (v1.2 != 0) then
  some (a0,v1.2)
 else
 (dW a1).bind λv2=>
 (fZ a1).bind λv3=>
 (B8 a0 v2 (⟨2,v3,v1.1⟩:b7)).bind λv4=>
 some (v4,0)
def W3(a0:b6)(a1:Int):Option b6:=
 (u9 a0.S a1).bind λv1=>
 (I5 a0.S a1 (⟨v1.1.Serial,0,v1.1.Weak,v1.1.Prog,v1.1.Started,[]⟩:k9)).bind λv2=>
 (R3 v2.1.S a1).bind λv3=>
 if (v1.1.Weak==0) then
  (L6 v3.1 a1).bind λv4=>
  some (⟨⟨v4.1,v2.1.Serial⟩,a0.Roots,a0.a8,a0.T,a0.Q⟩:b6)
 else
 some (⟨⟨v3.1,v2.1.Serial⟩,a0.Roots,a0.a8,a0.T,a0.Q⟩:b6)
def Z5(a0:b6)(a1:List Int):Option b6:=
 (T8 a0 a1).bind λv1=>
 (cJ a0 v1).bind λv2=>
 jn (λ(j13:List Int)=>
  (V7 v2.T v1).bind λv14=>
  (app 8 j13 v14.2).bind λv15=>
  jn (λ(j24:b6)=>
   jn (λ(j33:b6)=>
    some j33) (λκ32=>
    (lp (S:=Int × b6) (E:=b6) (λ((s35,s36):Int × b6)=>
     if (decide (s35<(v15.length:Int))) then
      (ix v15 s35).bind λv39=>
      (B6 s36 v39).bind λv40=>
      some (.inl (u4 (s35+1),v40))
     else
     some (.inr s36)) (0,j24)).bind λe34=>
    κ32 e34)) (λκ23=>
   (lp (S:=Int × b6) (E:=b6) (λ((s42,s43):Int × b6)=>
    if (decide (s42<(v1.length:Int))) then
     (ix v1 s42).bind λv46=>
     (W3 s43 v46).bind λv47=>
     some (.inl (u4 (s42+1),v47))
    else
    some (.inr s43)) (0,(⟨v2.S,v2.Roots,v2.a8,v14.1,v2.Q⟩:b6))).bind λe41=>
   κ23 e41)) (λκ12=>
  (lp (S:=Int × (List Int)) (E:=(List Int)) (λ((s49,s50):Int × (List Int))=>
   if (decide (s49<(v1.length:Int))) then
    (ix v1 s49).bind λv53=>
    (u9 v2.S v53).bind λv54=>
    (fP v54.1.Fields).bind λv55=>
    (app 8 s50 v55).bind λv56=>
    some (.inl (u4 (s49+1),v56))
   else
   some (.inr s50)) (0,[])).bind λe48=>
  κ12 e48)
def M8(a0:b6):Option b6:=
 (lp (S:=b6) (E:=b6) (λ(s2:b6)=>
  (bO s2).bind λv4=>
  if ((v4.length:Int)==0) then
   some (.inr s2)
  else
  (ix v4 0).bind λv5=>
  (u9 s2.S v5).bind λv6=>
  (K3 v6.1).bind λv7=>
  if v7 then
   (Q6 s2 v5).bind λv8=>
   some (.inl v8)
  else
  (cut v4 0 1).bind λv9=>
  (Z5 s2 v9).bind λv10=>
  some (.inl v10)) a0).bind λe1=>
 some e1
def Z0(a0:b6)(a1:Int):Option Int:=
 (u9 a0.S a1).bind λv1=>
 some v1.1.Serial
def bp(a0:b6)(a1:Int):Option Int:=
 (J4 a0 a1).bind λv1=>
 (Z0 a0 v1).bind λv2=>
 some v2
def T2(a0:b6)(a1:b6)(a2:c9):Option Int:=
 if (a2.Kind==5) then
  (bp a0 a2.C).bind λv1=>
  some v1
 else
 jn (λ(j3:Bool)=>
  if j3 then
   (bp a0 a2.B).bind λv4=>
   some v4
  else
  if (a2.Kind==10) then
   (J4 a0 a2.A).bind λv5=>
   (J4 a0 a2.B).bind λv6=>
   if (v5==v6) then
    some 1
   else
   some 0
  else
  (bp a1 a2.A).bind λv7=>
  some v7) (λκ2=>
  if (a2.Kind==6) then
   κ2 (a2.Kind==6)
  else
  κ2 (a2.Kind==8))
def s6(a0:b6)(a1:c9):Option (b6 × Int × Int):=
 (Q0 a1).bind λv1=>
 if (v1 != 0) then
  some (a0,0,v1)
 else
 (dM).bind λv2=>
 if (!((A6 v2 a1.Kind).isSome)) then
  some (a0,0,14)
 else
 (uk ((A6 v2 a1.Kind).getD (none:Fv)) (⟨a0,a1⟩:p6)).bind λv3=>
 if (v3.2 != 0) then
  some (a0,0,v3.2)
 else
 (M8 v3.1).bind λv5=>
 (T2 v3.1 v5 a1).bind λv6=>
 some (v5,v6,0)
def kU(a0:a7):Option a7:=
 some a0
def jt(a0:a7)(a1:Int):Option (List Int):=
 (u9 a0 a1).bind λv1=>
 (fP v1.1.Fields).bind λv2=>
 some v2
def uI(a0:a7)(a1:Int):Option Int:=
 jn (λ(j31:Int)=>
  some j31) (λκ30=>
  (kU a0).bind λv32=>
  (C8 v32).bind λv33=>
  (lp (S:=Int × Int) (E:=Int) (λ((s35,s36):Int × Int)=>
   if (decide (s35<(v33.length:Int))) then
    jn (λ(j50:Int)=>
     some (.inl (u4 (s35+1),j50))) (λκ49=>
     (ix v33 s35).bind λv51=>
     (jt v32 v51).bind λv52=>
     (lp (S:=Int × Int) (E:=Int) (λ((s54,s55):Int × Int)=>
      if (decide (s54<(v52.length:Int))) then
       (ix v52 s54).bind λv58=>
       jn (λ(j60:Int)=>
        some (.inl (u4 (s54+1),j60))) (λκ59=>
        if (v58==a1) then
         κ59 (u4 (s55+1))
        else
        κ59 s55)
      else
      some (.inr s55)) (0,s36)).bind λe53=>
     κ49 e53)
   else
   some (.inr s36)) (0,0)).bind λe34=>
  κ30 e34)
def bD(a0:List b8):Option (List b8):=
 some a0
def jc(a0:List b8):Option (List Int):=
 jn (λ(j13:List Int)=>
  some j13) (λκ12=>
  (lp (S:=Int × (List Int)) (E:=(List Int)) (λ((s15,s16):Int × (List Int))=>
   if (decide (s15<(a0.length:Int))) then
    jn (λ(j22:List Int)=>
     some (.inl (u4 (s15+1),j22))) (λκ21=>
     (ix a0 s15).bind λv23=>
     if (v23.State==1) then
      (app 8 s16 [v23.Key]).bind λv24=>
      κ21 v24
     else
     κ21 s16)
   else
   some (.inr s16)) (0,[])).bind λe14=>
  κ12 e14)
def dJ(a0:m9)(a1:Int):Option Bool:=
 some ((a1 != 0)&&(a0.Val==a1))
def z7(a0:List b8)(a1:Int):Option (List m9):=
 jn (λ(j16:List m9)=>
  some j16) (λκ15=>
  (jc a0).bind λv17=>
  (lp (S:=Int × (List m9)) (E:=(List m9)) (λ((s19,s20):Int × (List m9))=>
   if (decide (s19<(v17.length:Int))) then
    (ix v17 s19).bind λv23=>
    (K0 a0 v23).bind λv24=>
    jn (λ(j28:List m9)=>
     some (.inl (u4 (s19+1),j28))) (λκ27=>
     (dJ (⟨v23,v24.1⟩:m9) a1).bind λv29=>
     if v29 then
      (app 16 s20 [(⟨v23,v24.1⟩:m9)]).bind λv30=>
      κ27 v30
     else
     κ27 s20)
   else
   some (.inr s20)) (0,[])).bind λe18=>
  κ15 e18)
def gP(a0:List b8)(a1:Int):Option Int:=
 (bD a0).bind λv1=>
 (z7 v1 a1).bind λv2=>
 some (v2.length:Int)
def iv(a0:a7)(a1:List b8)(a2:Int):Option Int:=
 (uI a0 a2).bind λv1=>
 (gP a1 a2).bind λv2=>
 some (u4 (v1+v2))
def ll(a0:a7)(a1:List b8)(a2:Int):Option Int:=
 (u9 a0 a2).bind λv1=>
 if (v1.2 != 0) then
  some 0
 else
 (iv a0 a1 a2).bind λv2=>
 some (u4 (v1.1.Strong-v2))
def md(a0:Int):Option Bool:=
 (E3 a0).bind λv1=>
 some v1
def lk(a0:Int)(a1:k9)(a2:a7)(a3:List b8):Option Bool:=
 (ll a2 a3 a0).bind λv1=>
 (p7 ((decide (v1 > 0))==false) false (md a1.Strong)).bind λv2=>
 some ((decide (v1 > 0))||v2)
def lj(a0:a7)(a1:List b8):Option (List Int):=
 jn (λ(j36:List Int)=>
  some j36) (λκ35=>
  jn (λ(j54:List Int)=>
   κ35 j54) (λκ53=>
   (C8 a0).bind λv55=>
   (lp (S:=Int × (List Int)) (E:=(List Int)) (λ((s57,s58):Int × (List Int))=>
    if (decide (s57<(v55.length:Int))) then
     jn (λ(j66:List Int)=>
      some (.inl (u4 (s57+1),j66))) (λκ65=>
      (ix v55 s57).bind λv67=>
      (u9 a0 v67).bind λv68=>
      (lk v67 v68.1 a0 a1).bind λv69=>
      if v69 then
       (app 8 s58 [v67]).bind λv70=>
       κ65 v70
      else
      κ65 s58)
    else
    some (.inr s58)) (0,[])).bind λe56=>
   κ53 e56))
def dP(a0:Int):Option k7:=
 some (⟨[],a0⟩:k7)
def ax(a0:a7)(a1:Int):Option Bool:=
 (u9 a0 a1).bind λv1=>
 some (v1.2==0)
def J5(a0:k7):Option Int:=
 some (a0.L.length:Int)
def O0(a0:List Int)(a1:Int)(a2:Int):Option (List Int):=
 (cut a0 a1 a2).bind λv1=>
 some v1
def N9(a0:k7)(a1:Int):Option (k7 × Int):=
 (J5 a0).bind λv1=>
 if (decide (v1>=a0.Cap)) then
  some (a0,4)
 else
 (O0 a0.L 0 v1).bind λv2=>
 (app 8 v2 [a1]).bind λv3=>
 some ((⟨v3,a0.Cap⟩:k7),0)
def eV(a0:k7)(a1:Int):Option (k7 × (List Int)):=
 (J5 a0).bind λv1=>
 (O0 a0.L 0 (if (if v1<a1 then v1 else a1) > 0 then (if v1<a1 then v1 else a1) else 0)).bind λv2=>
 (O0 a0.L (if (if v1<a1 then v1 else a1) > 0 then (if v1<a1 then v1 else a1) else 0) v1).bind λv3=>
 some ((⟨v3,a0.Cap⟩:k7),v2)
def aV(a0:k7):Option (k7 × Int × Int):=
 (eV a0 1).bind λv1=>
 if ((v1.2.length:Int)==0) then
  some (a0,0,10)
 else
 (ix v1.2 0).bind λv2=>
 some (v1.1,v2,0)
def cG(a0:a7)(a1:List Int):Option (List (Int × Bool)):=
 (C8 a0).bind λv1=>
 (dP (v1.length:Int)).bind λv2=>
 jn (λ((j20,j21):k7 × (List (Int × Bool)))=>
  jn (λ(j68:List (Int × Bool))=>
   some j68) (λκ67=>
   (lp (S:=k7 × (List (Int × Bool))) (E:=(List (Int × Bool))) (λ((s70,s71):k7 × (List (Int × Bool)))=>
    (J5 s70).bind λv74=>
    if (decide (v74 > 0)) then
     (aV s70).bind λv75=>
     (jt a0 v75.2.1).bind λv76=>
     jn (λ((j94,j95):k7 × (List (Int × Bool)))=>
      some (.inl (j94,j95))) (λκ93=>
      (lp (S:=Int × k7 × (List (Int × Bool))) (E:=(k7 × (List (Int × Bool)))) (λ((s98,s99,s100):Int × k7 × (List (Int × Bool)))=>
       if (decide (s98<(v76.length:Int))) then
        jn (λ((j107,j108):k7 × (List (Int × Bool)))=>
         some (.inl (u4 (s98+1),j107,j108))) (λκ106=>
         (ix v76 s98).bind λv110=>
         (ax a0 v110).bind λv111=>
         if (v111==true) then
          if (!((A6 s100 v110).getD (false:Bool))) then
           (N9 s99 v110).bind λv112=>
           κ106 (v112.1,(o8 s100 v110 true))
          else
          κ106 (s99,s100)
         else
         κ106 (s99,s100))
       else
       some (.inr (s99,s100))) (0,v75.1,s71)).bind λe97=>
      κ93 e97)
    else
    some (.inr s71)) (j20,j21)).bind λe69=>
   κ67 e69)) (λκ19=>
  (lp (S:=Int × k7 × (List (Int × Bool))) (E:=(k7 × (List (Int × Bool)))) (λ((s114,s115,s116):Int × k7 × (List (Int × Bool)))=>
   if (decide (s114<(a1.length:Int))) then
    jn (λ((j123,j124):k7 × (List (Int × Bool)))=>
     some (.inl (u4 (s114+1),j123,j124))) (λκ122=>
     (ix a1 s114).bind λv126=>
     (ax a0 v126).bind λv127=>
     if (v127==true) then
      if (!((A6 s116 v126).getD (false:Bool))) then
       (N9 s115 v126).bind λv128=>
       κ122 (v128.1,(o8 s116 v126 true))
      else
      κ122 (s115,s116)
     else
     κ122 (s115,s116))
   else
   some (.inr (s115,s116))) (0,v2,[])).bind λe113=>
  κ19 e113)
def fz(a0:Int)(a1:List (Int × Bool)):Option Bool:=
 some ((A6 a1 a0).getD (false:Bool))
def Q4(a0:a7)(a1:List (Int × Bool)):Option (List Int):=
 jn (λ(j16:List Int)=>
  some j16) (λκ15=>
  (C8 a0).bind λv17=>
  (lp (S:=Int × (List Int)) (E:=(List Int)) (λ((s19,s20):Int × (List Int))=>
   if (decide (s19<(v17.length:Int))) then
    jn (λ(j27:List Int)=>
     some (.inl (u4 (s19+1),j27))) (λκ26=>
     (ix v17 s19).bind λv28=>
     (fz v28 a1).bind λv29=>
     if v29 then
      (app 8 s20 [v28]).bind λv30=>
      κ26 v30
     else
     κ26 s20)
   else
   some (.inr s20)) (0,[])).bind λe18=>
  κ15 e18)
def gm(a0:a7)(a1:List Int):Option (List Int):=
 (cG a0 a1).bind λv1=>
 (Q4 a0 v1).bind λv2=>
 some v2
def dK(a0:m9):Option Bool:=
 some true
def z8(a0:List b8):Option (List m9):=
 jn (λ(j16:List m9)=>
  some j16) (λκ15=>
  (jc a0).bind λv17=>
  (lp (S:=Int × (List m9)) (E:=(List m9)) (λ((s19,s20):Int × (List m9))=>
   if (decide (s19<(v17.length:Int))) then
    (ix v17 s19).bind λv23=>
    (K0 a0 v23).bind λv24=>
    jn (λ(j28:List m9)=>
     some (.inl (u4 (s19+1),j28))) (λκ27=>
     (dK (⟨v23,v24.1⟩:m9)).bind λv29=>
     if v29 then
      (app 16 s20 [(⟨v23,v24.1⟩:m9)]).bind λv30=>
      κ27 v30
     else
     κ27 s20)
   else
   some (.inr s20)) (0,[])).bind λe18=>
  κ15 e18)
def gQ(a0:List b8):Option (List m9):=
 (bD a0).bind λv1=>
 (z8 v1).bind λv2=>
 some v2
def fX(a0:Int)(a1:a7):Option Bool:=
 (u9 a1 a0).bind λv1=>
 some (v1.2==0)
def qj(a0:a7)(a1:List b8)(a2:List Int):Option (List Int):=
 jn (λ(j20:List Int)=>
  some j20) (λκ19=>
  (gQ a1).bind λv21=>
  (lp (S:=Int × (List Int)) (E:=(List Int)) (λ((s23,s24):Int × (List Int))=>
   if (decide (s23<(v21.length:Int))) then
    jn (λ(j33:List Int)=>
     some (.inl (u4 (s23+1),j33))) (λκ32=>
     (ix v21 s23).bind λv34=>
     (D6 a2 v34.Key).bind λv35=>
     (p7 (v35==true) false (fX v34.Key a0)).bind λv36=>
     (p7 ((v35&&v36)==true) false (fX v34.Val a0)).bind λv37=>
     if ((v35&&v36)&&v37) then
      (app 8 s24 [v34.Val]).bind λv38=>
      κ32 v38
     else
     κ32 s24)
   else
   some (.inr s24)) (0,[])).bind λe22=>
  κ19 e22)
def nw(a0:a7)(a1:List b8)(a2:List Int):Option ((List Int) × Int):=
 (gm a0 a2).bind λv1=>
 (lp (S:=(List Int) × Int) (E:=((List Int) × Int)) (λ((s3,s4):(List Int) × Int)=>
  (qj a0 a1 s3).bind λv7=>
  jn (λ(_:Unit)=>
   some (.inr (s3,s4))) (λκ15=>
   (lp (S:=Int) (E:=((List Int) × Int) ⊕ Unit) (λ(s18:Int)=>
    if (decide (s18<(v7.length:Int))) then
     (ix v7 s18).bind λv20=>
     (D6 s3 v20).bind λv21=>
     if (!v21) then
      (app 8 v7 s3).bind λv22=>
      (gm a0 v22).bind λv23=>
      some (.inr (.inl (v23,u4 (s4+1))))
     else
     some (.inl (u4 (s18+1)))
    else
    some (.inr (.inr ()))) 0).bind λe17=>
   match e17 with
   | .inl w=>some (.inl w)
   | .inr w=>κ15 w)) (v1,0)).bind λe2=>
 some e2
def qi(a0:a7)(a1:List b8)(a2:List Int):Option (List Int):=
 (nw a0 a1 a2).bind λv1=>
 some v1.1
def fA(a0:Int)(a1:List (Int × Bool)):Option Bool:=
 some (!((A6 a1 a0).getD (false:Bool)))
def Q5(a0:a7)(a1:List (Int × Bool)):Option (List Int):=
 jn (λ(j16:List Int)=>
  some j16) (λκ15=>
  (C8 a0).bind λv17=>
  (lp (S:=Int × (List Int)) (E:=(List Int)) (λ((s19,s20):Int × (List Int))=>
   if (decide (s19<(v17.length:Int))) then
    jn (λ(j27:List Int)=>
     some (.inl (u4 (s19+1),j27))) (λκ26=>
     (ix v17 s19).bind λv28=>
     (fA v28 a1).bind λv29=>
     if v29 then
      (app 8 s20 [v28]).bind λv30=>
      κ26 v30
     else
     κ26 s20)
   else
   some (.inr s20)) (0,[])).bind λe18=>
  κ15 e18)
def kS(a0:a7)(a1:List Int):Option (List Int):=
 (cG a0 a1).bind λv1=>
 (Q5 a0 v1).bind λv2=>
 some v2
def mi(a0:a7)(a1:List b8)(a2:List Int):Option (List Int):=
 (qi a0 a1 a2).bind λv1=>
 (kS a0 v1).bind λv2=>
 some v2
def aZ(a0:a7)(a1:List b8):Option (List Int):=
 (lj a0 a1).bind λv1=>
 (mi a0 a1 v1).bind λv2=>
 some v2
def L2(a0:b6):Option (List Int):=
 (aZ a0.S a0.T).bind λv1=>
 some v1
def eM(a0:Int)(a1:b6):Option Bool:=
 (u9 a1.S a0).bind λv1=>
 some ((decide (v1.1.Prog>=0))&&(!v1.1.Started))
def F5(a0:List Int)(a1:b6):Option (List Int):=
 jn (λ(j15:List Int)=>
  some j15) (λκ14=>
  (lp (S:=Int × (List Int)) (E:=(List Int)) (λ((s17,s18):Int × (List Int))=>
   if (decide (s17<(a0.length:Int))) then
    jn (λ(j25:List Int)=>
     some (.inl (u4 (s17+1),j25))) (λκ24=>
     (ix a0 s17).bind λv26=>
     (eM v26 a1).bind λv27=>
     if v27 then
      (app 8 s18 [v26]).bind λv28=>
      κ24 v28
     else
     κ24 s18)
   else
   some (.inr s18)) (0,[])).bind λe16=>
  κ14 e16)
def dE(a0:b6):Option (List Int):=
 (L2 a0).bind λv1=>
 (F5 v1 a0).bind λv2=>
 some v2
def V0(a0:b6):Option (b6 × Int × Int):=
 (dE a0).bind λv1=>
 jn (λ(j10:b6)=>
  if (decide ((v1.length:Int) > 0)) then
   some (j10,(v1.length:Int),0)
  else
  (L2 j10).bind λv11=>
  (Z5 j10 v11).bind λv12=>
  (M8 v12).bind λv13=>
  (C8 j10.S).bind λv14=>
  (C8 v13.S).bind λv15=>
  some (v13,0,u4 ((v14.length:Int)-(v15.length:Int)))) (λκ9=>
  (lp (S:=Int × b6) (E:=b6) (λ((s17,s18):Int × b6)=>
   if (decide (s17<(v1.length:Int))) then
    (ix v1 s17).bind λv21=>
    (Q6 s18 v21).bind λv22=>
    some (.inl (u4 (s17+1),v22))
   else
   some (.inr s18)) (0,a0)).bind λe16=>
  κ9 e16)
def X5(a0:c5)(a1:Int):Option (c5 × (List g9)):=
 (H3 a0).bind λv1=>
 (D8 a0.L 0 (if (if v1<a1 then v1 else a1) > 0 then (if v1<a1 then v1 else a1) else 0)).bind λv2=>
 (D8 a0.L (if (if v1<a1 then v1 else a1) > 0 then (if v1<a1 then v1 else a1) else 0) v1).bind λv3=>
 some ((⟨v3,a0.Cap⟩:c5),v2)
def aK(a0:c5):Option (c5 × g9 × Int):=
 (X5 a0 1).bind λv1=>
 if ((v1.2.length:Int)==0) then
  some (a0,(⟨0,0,0⟩:g9),10)
 else
 (ix v1.2 0).bind λv2=>
 some (v1.1,v2,0)
def bQ(a0:c5):Option (c5 × g9 × Int):=
 (aK a0).bind λv1=>
 some (v1.1,v1.2.1,v1.2.2)
def bC(a0:b6):Option Bool:=
 (bQ a0.Q).bind λv1=>
 some (v1.2.2 != 0)
def fU(a0:List (List c9))(a1:Int):Option (List c9):=
 if ((decide (a1<0))||(decide (a1>=(a0.length:Int)))) then
  some []
 else
 (ix a0 a1).bind λv1=>
 some v1
def kc(a0:List (List c9))(a1:g9):Option Int:=
 (fU a0 a1.Prog).bind λv1=>
 some (u4 (1+(v1.length:Int)))
def dY(a0:b6)(a1:List c9):Option (b6 × (List Int)):=
 jn (λ((j11,j12):b6 × (List Int))=>
  some (j11,j12)) (λκ10=>
  (lp (S:=Int × b6 × (List Int)) (E:=(b6 × (List Int))) (λ((s15,s16,s17):Int × b6 × (List Int))=>
   if (decide (s15<(a1.length:Int))) then
    (ix a1 s15).bind λv20=>
    (s6 s16 v20).bind λv21=>
    (app 8 s17 [v21.2.1]).bind λv22=>
    some (.inl (u4 (s15+1),v21.1,v22))
   else
   some (.inr (s16,s17))) (0,a0,[])).bind λe14=>
  κ10 e14)
def ke(a0:b6)(a1:List (List c9)):Option (b6 × g9 × Int):=
 (bQ a0.Q).bind λv1=>
 if (v1.2.2 != 0) then
  some (a0,(⟨0,0,0⟩:g9),v1.2.2)
 else
 jn (λ(j6:b6)=>
  (fU a1 v1.2.1.Prog).bind λv7=>
  (dY j6 v7).bind λv8=>
  if (v1.2.1.Kind==1) then
   (al v8.1 5 0).bind λv9=>
   (M8 v9.1).bind λv10=>
   some (v10,v1.2.1,0)
  else
  some (v8.1,v1.2.1,0)) (λκ5=>
  if (v1.2.1.Kind==1) then
   (al (⟨a0.S,a0.Roots,a0.a8,a0.T,v1.1⟩:b6) 5 v1.2.1.At).bind λv11=>
   (B6 v11.1 v1.2.1.At).bind λv12=>
   (M8 v12).bind λv13=>
   κ5 v13
  else
  κ5 (⟨a0.S,a0.Roots,a0.a8,a0.T,v1.1⟩:b6))
def dT(a0:b6)(a1:List (List c9))(a2:Int):Option (b6 × Int × Int × Int):=
 jn (λ((j14,j15,j16):Int × Int × b6)=>
  (bC j16).bind λv18=>
  if (!v18) then
   some (j16,j14,j15,12)
  else
  some (j16,j14,j15,0)) (λκ13=>
  (lp (S:=Int × b6 × Int × Int × b6) (E:=(Int × Int × b6)) (λ((s20,s21,s22,s23,s24):Int × b6 × Int × Int × b6)=>
   (bC s21).bind λv27=>
   if (!v27) then
    (bQ s21.Q).bind λv28=>
    (kc a1 v28.2.1).bind λv29=>
    if (decide (v29 > s20)) then
     some (.inr (s22,s23,s24))
    else
    (ke s21 a1).bind λv30=>
    some (.inl (u4 (s20-v29),v30.1,u4 (s22+1),u4 (s20-v29),v30.1))
   else
   some (.inr (s22,s23,s24))) (a2,a0,0,a2,a0)).bind λe19=>
  κ13 e19)
def nu(a0:n9)(a1:List Int):Option (n9 × j5):=
 (U2 a1).bind λv1=>
 if (v1.2 != 0) then
  some (a0,(⟨0,v1.2⟩:j5))
 else
 (kf v1.1).bind λv2=>
 if (decide (v2.t=132)) then
  (s6 a0.X (⟨(Ef v2 132 0),(Ef v2 132 1),(Ef v2 132 2),(Ef v2 132 3)⟩:c9)).bind λv3=>
  some ((⟨v3.1,a0.Progs⟩:n9),(⟨v3.2.1,v3.2.2⟩:j5))
 else
 if (decide (v2.t=136)) then
  (V0 a0.X).bind λv4=>
  some ((⟨v4.1,a0.Progs⟩:n9),(⟨u4 (v4.2.2-v4.2.1),0⟩:j5))
 else
 if (decide (v2.t=140)) then
  (dT a0.X a0.Progs (Ef v2 140 0)).bind λv5=>
  some ((⟨v5.1,a0.Progs⟩:n9),(⟨v5.2.1,v5.2.2.2⟩:j5))
 else
 some (a0,(⟨0,0⟩:j5))
def Y7(a0:n9)(a1:List (List Int)):Option (n9 × (List j5)):=
 jn (λ((j11,j12):n9 × (List j5))=>
  some (j11,j12)) (λκ10=>
  (lp (S:=Int × n9 × (List j5)) (E:=(n9 × (List j5))) (λ((s15,s16,s17):Int × n9 × (List j5))=>
   if (decide (s15<(a1.length:Int))) then
    (ix a1 s15).bind λv20=>
    (nu s16 v20).bind λv21=>
    (app 16 s17 [v21.2]).bind λv22=>
    some (.inl (u4 (s15+1),v21.1,v22))
   else
   some (.inr (s16,s17))) (0,a0,[])).bind λe14=>
  κ10 e14)
def P3(a0:c4):Option A4:=
 jn (λ(j9:A4)=>
  some j9) (λκ8=>
  (lp (S:=Int × A4) (E:=A4) (λ((s11,s12):Int × A4)=>
   if (decide (s11<(a0.a8.length:Int))) then
    (ix a0.a8 s11).bind λv15=>
    (A4.ix s12 v15.State).bind λv16=>
    some (.inl (u4 (s11+1),(A4.st s12 v15.State (u4 (v16+1)))))
   else
   some (.inr s12)) (0,(⟨0,0,0,0⟩:A4))).bind λe10=>
  κ8 e10)
def fq(a0:n9):Option A4:=
 (P3 a0.X.S.S).bind λv1=>
 some v1
def dF(a0:b6):Option Bool:=
 (L2 a0).bind λv1=>
 some ((v1.length:Int)==0)
def fp(a0:n9):Option Bool:=
 (bC a0.X).bind λv1=>
 (p7 (v1==true) false (dF a0.X)).bind λv2=>
 some (v1&&v2)
def fm(a0:n9):Option (List Int):=
 jn (λ(j11:List Int)=>
  (nT j11).bind λv12=>
  some v12) (λκ10=>
  (C8 a0.X.S).bind λv13=>
  (lp (S:=Int × (List Int)) (E:=(List Int)) (λ((s15,s16):Int × (List Int))=>
   if (decide (s15<(v13.length:Int))) then
    (ix v13 s15).bind λv19=>
    (Z0 a0.X v19).bind λv20=>
    (app 8 s16 [v20]).bind λv21=>
    some (.inl (u4 (s15+1),v21))
   else
   some (.inr s16)) (0,[])).bind λe14=>
  κ10 e14)
def dB:Option Bool:=
 (N6 4 5 8 []).bind λv1=>
 (Y7 v1.1 [[1,0,1,(-1)],[5,0,0,0],[3,0,0,0],[11,0,0,0],[11,0,0,0],[12,9,0,0],[2,0],[4,0,1,0]]).bind λv2=>
 (N6 4 5 8 [[(⟨11,0,0,0⟩:c9)]]).bind λv3=>
 (N6 4 5 0 []).bind λv4=>
 (p7 (((((v1.2==0)&&(v3.2==13))&&(v4.2==1))&&((v2.2.length:Int)==8))==true) (⟨0,0⟩:j5) (ix v2.2 0)).bind λv5=>
 (p7 ((((((v1.2==0)&&(v3.2==13))&&(v4.2==1))&&((v2.2.length:Int)==8))&&(v5.V==1))==true) (⟨0,0⟩:j5) (ix v2.2 1)).bind λv6=>
 (p7 (((((((v1.2==0)&&(v3.2==13))&&(v4.2==1))&&((v2.2.length:Int)==8))&&(v5.V==1))&&(v6.V==1))==true) (⟨0,0⟩:j5) (ix v2.2 2)).bind λv7=>
 (p7 ((((((((v1.2==0)&&(v3.2==13))&&(v4.2==1))&&((v2.2.length:Int)==8))&&(v5.V==1))&&(v6.V==1))&&(v7.V==0))==true) (⟨0,0⟩:j5) (ix v2.2 3)).bind λv8=>
 (p7 (((((((((v1.2==0)&&(v3.2==13))&&(v4.2==1))&&((v2.2.length:Int)==8))&&(v5.V==1))&&(v6.V==1))&&(v7.V==0))&&(v8.V==1))==true) (⟨0,0⟩:j5) (ix v2.2 4)).bind λv9=>
 (p7 ((((((((((v1.2==0)&&(v3.2==13))&&(v4.2==1))&&((v2.2.length:Int)==8))&&(v5.V==1))&&(v6.V==1))&&(v7.V==0))&&(v8.V==1))&&(v9.V==0))==true) (⟨0,0⟩:j5) (ix v2.2 5)).bind λv10=>
 (p7 (((((((((((v1.2==0)&&(v3.2==13))&&(v4.2==1))&&((v2.2.length:Int)==8))&&(v5.V==1))&&(v6.V==1))&&(v7.V==0))&&(v8.V==1))&&(v9.V==0))&&((v10.V==0)&&((v10.E==0)&&true)))==true) (⟨0,0⟩:j5) (ix v2.2 6)).bind λv11=>
 (p7 ((((((((((((v1.2==0)&&(v3.2==13))&&(v4.2==1))&&((v2.2.length:Int)==8))&&(v5.V==1))&&(v6.V==1))&&(v7.V==0))&&(v8.V==1))&&(v9.V==0))&&((v10.V==0)&&((v10.E==0)&&true)))&&(v11.E==14))==true) (⟨0,0⟩:j5) (ix v2.2 7)).bind λv12=>
 (p7 (((((((((((((v1.2==0)&&(v3.2==13))&&(v4.2==1))&&((v2.2.length:Int)==8))&&(v5.V==1))&&(v6.V==1))&&(v7.V==0))&&(v8.V==1))&&(v9.V==0))&&((v10.V==0)&&((v10.E==0)&&true)))&&(v11.E==14))&&(v12.E==2))==true) ⟨0,0,0,0⟩ (fq v2.1)).bind λv13=>
 (p7 ((((((((((((((v1.2==0)&&(v3.2==13))&&(v4.2==1))&&((v2.2.length:Int)==8))&&(v5.V==1))&&(v6.V==1))&&(v7.V==0))&&(v8.V==1))&&(v9.V==0))&&((v10.V==0)&&((v10.E==0)&&true)))&&(v11.E==14))&&(v12.E==2))&&((v13.a==4)&&((v13.b==0)&&((v13.c==0)&&((v13.d==0)&&true)))))==true) false (fp v2.1)).bind λv14=>
 (p7 (((((((((((((((v1.2==0)&&(v3.2==13))&&(v4.2==1))&&((v2.2.length:Int)==8))&&(v5.V==1))&&(v6.V==1))&&(v7.V==0))&&(v8.V==1))&&(v9.V==0))&&((v10.V==0)&&((v10.E==0)&&true)))&&(v11.E==14))&&(v12.E==2))&&((v13.a==4)&&((v13.b==0)&&((v13.c==0)&&((v13.d==0)&&true)))))&&v14)==true) [] (fm v2.1)).bind λv15=>
 some (((((((((((((((v1.2==0)&&(v3.2==13))&&(v4.2==1))&&((v2.2.length:Int)==8))&&(v5.V==1))&&(v6.V==1))&&(v7.V==0))&&(v8.V==1))&&(v9.V==0))&&((v10.V==0)&&((v10.E==0)&&true)))&&(v11.E==14))&&(v12.E==2))&&((v13.a==4)&&((v13.b==0)&&((v13.c==0)&&((v13.d==0)&&true)))))&&v14)&&((v15.length:Int)==0))
def od(a0:a7):Option Bool:=
 jn (λ(_:Unit)=>
  some (decide ((a0.S.a8.length:Int)<=30))) (λκ5=>
  (lp (S:=Int) (E:=Bool ⊕ Unit) (λ(s8:Int)=>
   if ((decide (s8<(a0.S.a8.length:Int)))&&(decide (s8<30))) then
    (ix a0.S.a8 s8).bind λv10=>
    if (decide ((v10.Val.Fields.length:Int) > 10)) then
     some (.inr (.inl false))
    else
    some (.inl (u4 (s8+1)))
   else
   some (.inr (.inr ()))) 0).bind λe7=>
  match e7 with
  | .inl w=>some w
  | .inr w=>κ5 w)
def oc(a0:b6):Option Bool:=
 (od a0.S).bind λv1=>
 some ((((v1&&(decide ((a0.Roots.length:Int)<=20)))&&(decide ((a0.a8.length:Int)<=20)))&&(decide ((a0.T.length:Int)<=20)))&&(decide ((a0.Q.L.length:Int)<=60)))
def uQ(a0:k9):Option B7:=
 some (⟨a0.Serial,a0.Strong,a0.Weak,a0.Prog,a0.Started,a0.Fields⟩:B7)
def uP(a0:a7):Option n7:=
 jn (λ(j10:List o6)=>
  some (⟨j10,a0.S.Last,a0.Serial⟩:n7)) (λκ9=>
  (lp (S:=Int × (List o6)) (E:=(List o6)) (λ((s12,s13):Int × (List o6))=>
   if (decide (s12<(a0.S.a8.length:Int))) then
    (ix a0.S.a8 s12).bind λv16=>
    (uQ v16.Val).bind λv17=>
    (app 80 s13 [(⟨v16.State,v16.Gen,v17⟩:o6)]).bind λv18=>
    some (.inl (u4 (s12+1),v18))
   else
   some (.inr s13)) (0,[])).bind λe11=>
  κ9 e11)
def oa(a0:List c7):Option (List o7):=
 jn (λ(j9:List o7)=>
  some j9) (λκ8=>
  (lp (S:=Int × (List o7)) (E:=(List o7)) (λ((s11,s12):Int × (List o7))=>
   if (decide (s11<(a0.length:Int))) then
    (ix a0 s11).bind λv15=>
    (app 24 s12 [(⟨v15.Target,v15.Intact,v15.Call⟩:o7)]).bind λv16=>
    some (.inl (u4 (s11+1),v16))
   else
   some (.inr s12)) (0,[])).bind λe10=>
  κ8 e10)
def uR(a0:List b8):Option (List l6):=
 jn (λ(j9:List l6)=>
  some j9) (λκ8=>
  (lp (S:=Int × (List l6)) (E:=(List l6)) (λ((s11,s12):Int × (List l6))=>
   if (decide (s11<(a0.length:Int))) then
    (ix a0 s11).bind λv15=>
    (app 24 s12 [(⟨v15.State,v15.Key,v15.Val⟩:l6)]).bind λv16=>
    some (.inl (u4 (s11+1),v16))
   else
   some (.inr s12)) (0,[])).bind λe10=>
  κ8 e10)
def oe(a0:c5):Option u7:=
 jn (λ(j9:List u5)=>
  some (⟨j9,a0.Cap⟩:u7)) (λκ8=>
  (lp (S:=Int × (List u5)) (E:=(List u5)) (λ((s11,s12):Int × (List u5))=>
   if (decide (s11<(a0.L.length:Int))) then
    (ix a0.L s11).bind λv15=>
    (app 24 s12 [(⟨v15.Kind,v15.At,v15.Prog⟩:u5)]).bind λv16=>
    some (.inl (u4 (s11+1),v16))
   else
   some (.inr s12)) (0,[])).bind λe10=>
  κ8 e10)
def gz(a0:b6):Option g6:=
 (uP a0.S).bind λv1=>
 (oa a0.a8).bind λv2=>
 (uR a0.T).bind λv3=>
 (oe a0.Q).bind λv4=>
 some (⟨v1,a0.Roots,v2,v3,v4⟩:g6)
def eh(a0:List Int)(a1:List Int):Option Bool:=
 if ((a0.length:Int) != (a1.length:Int)) then
  some false
 else
 jn (λ(_:Unit)=>
  some true) (λκ6=>
  (lp (S:=Int) (E:=Bool ⊕ Unit) (λ(s9:Int)=>
   if (decide (s9<(a0.length:Int))) then
    (ix a0 s9).bind λv11=>
    (ix a1 s9).bind λv12=>
    if (v11 != v12) then
     some (.inr (.inl false))
    else
    some (.inl (u4 (s9+1)))
   else
   some (.inr (.inr ()))) 0).bind λe8=>
  match e8 with
  | .inl w=>some w
  | .inr w=>κ6 w)
def jl(a0:B7)(a1:B7):Option Bool:=
 (p7 ((((((a0.Serial==a1.Serial)&&(a0.Strong==a1.Strong))&&(a0.Weak==a1.Weak))&&(a0.Prog==a1.Prog))&&(a0.Started==a1.Started))==true) false (eh a0.Fields a1.Fields)).bind λv1=>
 some ((((((a0.Serial==a1.Serial)&&(a0.Strong==a1.Strong))&&(a0.Weak==a1.Weak))&&(a0.Prog==a1.Prog))&&(a0.Started==a1.Started))&&v1)
def qQ(a0:n7)(a1:n7):Option Bool:=
 if (((a0.Last != a1.Last)||(a0.Serial != a1.Serial))||((a0.a8.length:Int) != (a1.a8.length:Int))) then
  some false
 else
 jn (λ(_:Unit)=>
  some true) (λκ7=>
  (lp (S:=Int) (E:=Bool ⊕ Unit) (λ(s10:Int)=>
   if (decide (s10<(a0.a8.length:Int))) then
    (ix a0.a8 s10).bind λv12=>
    (ix a1.a8 s10).bind λv13=>
    (p7 (((v12.State != v13.State)||(v12.Gen != v13.Gen))==false) false (jl v12.Val v13.Val)).bind λv14=>
    if (((v12.State != v13.State)||(v12.Gen != v13.Gen))||(!v14)) then
     some (.inr (.inl false))
    else
    some (.inl (u4 (s10+1)))
   else
   some (.inr (.inr ()))) 0).bind λe9=>
  match e9 with
  | .inl w=>some w
  | .inr w=>κ7 w)
def qS(a0:List o7)(a1:List o7):Option Bool:=
 if ((a0.length:Int) != (a1.length:Int)) then
  some false
 else
 jn (λ(_:Unit)=>
  some true) (λκ6=>
  (lp (S:=Int) (E:=Bool ⊕ Unit) (λ(s9:Int)=>
   if (decide (s9<(a0.length:Int))) then
    (ix a0 s9).bind λv11=>
    (ix a1 s9).bind λv12=>
    if (!((v11.Target==v12.Target)&&((v11.Intact==v12.Intact)&&((v11.Call==v12.Call)&&true)))) then
     some (.inr (.inl false))
    else
    some (.inl (u4 (s9+1)))
   else
   some (.inr (.inr ()))) 0).bind λe8=>
  match e8 with
  | .inl w=>some w
  | .inr w=>κ6 w)
def qU(a0:List l6)(a1:List l6):Option Bool:=
 if ((a0.length:Int) != (a1.length:Int)) then
  some false
 else
 jn (λ(_:Unit)=>
  some true) (λκ6=>
  (lp (S:=Int) (E:=Bool ⊕ Unit) (λ(s9:Int)=>
   if (decide (s9<(a0.length:Int))) then
    (ix a0 s9).bind λv11=>
    (ix a1 s9).bind λv12=>
    if (!((v11.State==v12.State)&&((v11.Key==v12.Key)&&((v11.Val==v12.Val)&&true)))) then
     some (.inr (.inl false))
    else
    some (.inl (u4 (s9+1)))
   else
   some (.inr (.inr ()))) 0).bind λe8=>
  match e8 with
  | .inl w=>some w
  | .inr w=>κ6 w)
def qX(a0:u7)(a1:u7):Option Bool:=
 if ((a0.Cap != a1.Cap)||((a0.L.length:Int) != (a1.L.length:Int))) then
  some false
 else
 jn (λ(_:Unit)=>
  some true) (λκ6=>
  (lp (S:=Int) (E:=Bool ⊕ Unit) (λ(s9:Int)=>
   if (decide (s9<(a0.L.length:Int))) then
    (ix a0.L s9).bind λv11=>
    (ix a1.L s9).bind λv12=>
    if (!((v11.Kind==v12.Kind)&&((v11.At==v12.At)&&((v11.Prog==v12.Prog)&&true)))) then
     some (.inr (.inl false))
    else
    some (.inl (u4 (s9+1)))
   else
   some (.inr (.inr ()))) 0).bind λe8=>
  match e8 with
  | .inl w=>some w
  | .inr w=>κ6 w)
def qZ(a0:g6)(a1:g6):Option Bool:=
 (qQ a0.S a1.S).bind λv1=>
 (p7 (v1==true) false (eh a0.Roots a1.Roots)).bind λv2=>
 (p7 ((v1&&v2)==true) false (qS a0.a8 a1.a8)).bind λv3=>
 (p7 (((v1&&v2)&&v3)==true) false (qU a0.T a1.T)).bind λv4=>
 (p7 ((((v1&&v2)&&v3)&&v4)==true) false (qX a0.Q a1.Q)).bind λv5=>
 some ((((v1&&v2)&&v3)&&v4)&&v5)
def Z9(a0:List j5):Option (List n8):=
 jn (λ(j9:List n8)=>
  some j9) (λκ8=>
  (lp (S:=Int × (List n8)) (E:=(List n8)) (λ((s11,s12):Int × (List n8))=>
   if (decide (s11<(a0.length:Int))) then
    (ix a0 s11).bind λv15=>
    (app 16 s12 [(⟨v15.V,v15.E⟩:n8)]).bind λv16=>
    some (.inl (u4 (s11+1),v16))
   else
   some (.inr s12)) (0,[])).bind λe10=>
  κ8 e10)
def iq(a0:List n8)(a1:List n8):Option Bool:=
 if ((a0.length:Int) != (a1.length:Int)) then
  some false
 else
 jn (λ(_:Unit)=>
  some true) (λκ6=>
  (lp (S:=Int) (E:=Bool ⊕ Unit) (λ(s9:Int)=>
   if (decide (s9<(a0.length:Int))) then
    (ix a0 s9).bind λv11=>
    (ix a1 s9).bind λv12=>
    if (!((v11.V==v12.V)&&((v11.E==v12.E)&&true))) then
     some (.inr (.inl false))
    else
    some (.inl (u4 (s9+1)))
   else
   some (.inr (.inr ()))) 0).bind λe8=>
  match e8 with
  | .inl w=>some w
  | .inr w=>κ6 w)
def eZ(a0:Int)(a1:Int)(a2:List (List c9))(a3:List (List Int))(a4:List (List Int)):Option Bool:=
 (nk a2).bind λv1=>
 (p7 ((!v1)==false) false (T9 a3 40)).bind λv2=>
 (p7 (((!v1)||(!v2))==false) false (T9 a4 40)).bind λv3=>
 (p7 ((((!v1)||(!v2))||(!v3))==false) false dB).bind λv4=>
 if ((((!v1)||(!v2))||(!v3))||(!v4)) then
  (dB).bind λv5=>
  some v5
 else
 (rem (u4 a0) 24).bind λv6=>
 (rem (u4 a1) 10).bind λv7=>
 (N6 (u4 (1+v6)) v7 8 a2).bind λv8=>
 if (v8.2 != 0) then
  some (v8.2==13)
 else
 (Y7 v8.1 a3).bind λv9=>
 (Y7 v9.1 a4).bind λv10=>
 (app 24 [] a3).bind λv11=>
 (app 24 v11 a4).bind λv12=>
 (Y7 v8.1 v12).bind λv13=>
 (oc v10.1.X).bind λv14=>
 (p7 (v14==true) false (oc v13.1.X)).bind λv15=>
 (p7 ((v14&&v15)==true) ⟨⟨[],0,0⟩,[],[],[],⟨[],0⟩⟩ (gz v10.1.X)).bind λv16=>
 (p7 ((v14&&v15)==true) ⟨⟨[],0,0⟩,[],[],[],⟨[],0⟩⟩ (gz v13.1.X)).bind λv17=>
 (p7 ((v14&&v15)==true) false (qZ v16 v17)).bind λv18=>
 if (((v14&&v15)&&v18)==true) then
  (Z9 v9.2).bind λv19=>
  (Z9 v10.2).bind λv20=>
  (app 16 v19 v20).bind λv21=>
  (Z9 v13.2).bind λv22=>
  (iq v21 v22).bind λv23=>
  some v23
 else
 some false
def W1(a0:H7):Option Bool:=
 some ((decide (a0.Kind>=1))&&(decide (a0.Kind<=10)))
def bu(a0:Int)(a1:Int)(a2:Int)(a3:Int):Option Int:=
 if ((decide (a0<a1))||(decide (a0 > a2))) then
  some a3
 else
 some 0
def aw(a0:Int)(a1:Int)(a2:Int):Option Int:=
 if (a0 != 0) then
  some a0
 else
 if (a1 != 0) then
  some a1
 else
 some a2
def bL(a0:H7):Option Int:=
 (bu a0.A 0 5 6).bind λv1=>
 (bu a0.B 0 5 6).bind λv2=>
 if (a0.Kind==1) then
  (bu a0.B 0 4 1).bind λv3=>
  (bu a0.C (-1) 5 13).bind λv4=>
  (aw v1 v3 v4).bind λv5=>
  some v5
 else
 jn (λ(j7:Bool)=>
  if j7 then
   (aw v1 v2 0).bind λv8=>
   some v8
  else
  if (a0.Kind==3) then
   some v1
  else
  if (a0.Kind==4) then
   (bu a0.C 0 3 5).bind λv9=>
   (aw v1 v2 v9).bind λv10=>
   some v10
  else
  if (a0.Kind==5) then
   (bu a0.B 0 3 5).bind λv11=>
   (bu a0.C (-1) 5 6).bind λv12=>
   (aw v1 v11 v12).bind λv13=>
   some v13
  else
  if (a0.Kind==6) then
   (bu a0.A 0 5 7).bind λv14=>
   (bu a0.B (-1) 5 6).bind λv15=>
   (bu a0.C (-1) 5 13).bind λv16=>
   (aw v14 v15 v16).bind λv17=>
   some v17
  else
  if (a0.Kind==7) then
   (bu a0.B 0 5 7).bind λv18=>
   (aw v1 v18 0).bind λv19=>
   some v19
  else
  if (a0.Kind==8) then
   (bu a0.B (-1) 5 6).bind λv20=>
   (aw v1 v20 0).bind λv21=>
   some v21
  else
  if (a0.Kind==11) then
   some 0
  else
  if (a0.Kind==12) then
   (bu a0.A 0 200 12).bind λv22=>
   some v22
  else
  some 14) (λκ6=>
  if (a0.Kind==2) then
   κ6 (a0.Kind==2)
  else
  if (a0.Kind==9) then
   κ6 (a0.Kind==9)
  else
  κ6 (a0.Kind==10))
def nJ(a0:List (List H7)):Option Bool:=
 if (decide ((a0.length:Int) > 6)) then
  some false
 else
 jn (λ(_:Unit)=>
  some true) (λκ20=>
  (lp (S:=Int) (E:=Bool ⊕ Unit) (λ(s23:Int)=>
   if (decide (s23<(a0.length:Int))) then
    jn (λ(_:Unit)=>
     some (.inl (u4 (s23+1)))) (λκ32=>
     (ix a0 s23).bind λv34=>
     if (decide ((v34.length:Int) > 6)) then
      some (.inr (.inl false))
     else
     (lp (S:=Int) (E:=Bool ⊕ Unit) (λ(s36:Int)=>
      if (decide (s36<(v34.length:Int))) then
       (ix v34 s36).bind λv38=>
       (W1 v38).bind λv39=>
       (p7 ((!v39)==false) 0 (bL v38)).bind λv40=>
       if ((!v39)||(v40 != 0)) then
        some (.inr (.inl false))
       else
       some (.inl (u4 (s36+1)))
      else
      some (.inr (.inr ()))) 0).bind λe35=>
     match e35 with
     | .inl w=>some (.inr (.inl w))
     | .inr w=>κ32 w)
   else
   some (.inr (.inr ()))) 0).bind λe22=>
  match e22 with
  | .inl w=>some w
  | .inr w=>κ20 w)
def Hz(a0:Int)(a1:Int):Option C3:=
 if ((((decide (a0<0))||(decide (a0 > 24)))||(decide (a1<0)))||(decide (a1 > 9))) then
  some (⟨[],0⟩:C3)
 else
 (mk 24 a0 (⟨0,0,0⟩:E8)).bind λv1=>
 some (⟨v1,a1⟩:C3)
def Bc(a0:Int)(a1:Int):Option n7:=
 (Hz a0 a1).bind λv1=>
 (mk 80 (v1.a8.length:Int) (⟨0,0,⟨0,0,0,0,false,[]⟩⟩:o6)).bind λv2=>
 some (⟨v2,v1.Last,0⟩:n7)
def PL(a0:Int):Option (List o7):=
 jn (λ(j8:List o7)=>
  some j8) (λκ7=>
  (lp (S:=Int × (List o7)) (E:=(List o7)) (λ((s10,s11):Int × (List o7))=>
   if ((decide (s10<a0))&&(decide (a0<=6))) then
    (app 24 s11 [(⟨0,false,(-1)⟩:o7)]).bind λv14=>
    some (.inl (u4 (s10+1),v14))
   else
   some (.inr s11)) (0,[])).bind λe9=>
  κ7 e9)
def HA(a0:Int):Option (List l6):=
 if ((decide (a0<1))||(decide (a0 > 8))) then
  some []
 else
 (mk 24 a0 (⟨0,0,0⟩:l6)).bind λv1=>
 some v1
def PM:Option u7:=
 some (⟨[],30⟩:u7)
def qY(a0:Int)(a1:Int)(a2:Int):Option g6:=
 if ((((((decide (a0<1))||(decide (a0 > 24)))||(decide (a1<0)))||(decide (a1 > 9)))||(decide (a2<1)))||(decide (a2 > 8))) then
  some (⟨⟨[],0,0⟩,[],[],[],⟨[],0⟩⟩:g6)
 else
 (Bc a0 a1).bind λv1=>
 (mk 8 6 (0:Int)).bind λv2=>
 (PL 6).bind λv3=>
 (HA a2).bind λv4=>
 (PM).bind λv5=>
 some (⟨v1,v2,v3,v4,v5⟩:g6)
def Bh(a0:Int)(a1:Int)(a2:Int)(a3:List (List H7)):Option (A0 × Int):=
 (nJ a3).bind λv1=>
 if (!v1) then
  some ((⟨⟨⟨[],0,0⟩,[],[],[],⟨[],0⟩⟩,[]⟩:A0),13)
 else
 (qY a0 a1 a2).bind λv2=>
 if ((v2.Roots.length:Int)==0) then
  some ((⟨⟨⟨[],0,0⟩,[],[],[],⟨[],0⟩⟩,[]⟩:A0),1)
 else
 some ((⟨v2,a3⟩:A0),0)
def gj(a0:Int)(a1:Int):Option Int:=
 if ((((decide (a0<0))||(decide (a0 > 23)))||(decide (a1<0)))||(decide (a1 > 9))) then
  some 0
 else
 some (u4 ((u4 (1+a0))+(u4 (32*a1))))
def K9(a0:n7):Option C3:=
 jn (λ(j9:List E8)=>
  some (⟨j9,a0.Last⟩:C3)) (λκ8=>
  (lp (S:=Int × (List E8)) (E:=(List E8)) (λ((s11,s12):Int × (List E8))=>
   if (decide (s11<(a0.a8.length:Int))) then
    (ix a0.a8 s11).bind λv15=>
    (app 24 s12 [(⟨v15.State,v15.Gen,s11⟩:E8)]).bind λv16=>
    some (.inl (u4 (s11+1),v16))
   else
   some (.inr s12)) (0,[])).bind λe10=>
  κ8 e10)
def nD(a0:Int):Option Bool:=
 if ((decide (a0<1))||(decide (a0 > 400))) then
  some false
 else
 (rem (u4 (a0-1)) 32).bind λv1=>
 (quo .i64 (u4 (a0-1)) 32).bind λv2=>
 (gj v1 v2).bind λv3=>
 some (v3==a0)
def mE(a0:Int):Option Int:=
 (nD a0).bind λv1=>
 if (!v1) then
  some (-1)
 else
 (rem (u4 (a0-1)) 32).bind λv2=>
 some v2
def AZ(a0:Int):Option Int:=
 (nD a0).bind λv1=>
 if (!v1) then
  some (-1)
 else
 (quo .i64 (u4 (a0-1)) 32).bind λv2=>
 some v2
def O1(a0:C3)(a1:Int):Option (Int × Int):=
 if (a1==0) then
  some ((-1),2)
 else
 (mE a1).bind λv1=>
 if ((decide (v1<0))||(decide (v1>=(a0.a8.length:Int)))) then
  some ((-1),3)
 else
 (ix a0.a8 v1).bind λv2=>
 (AZ a1).bind λv3=>
 if ((v2.Gen != v3)||((v2.State != 1)&&(v2.State != 2))) then
  some ((-1),3)
 else
 some (v1,0)
def pD(a0:n7)(a1:List Int):Option (List Int):=
 (app 8 [] a1).bind λv1=>
 jn (λ(j36:List Int)=>
  some j36) (λκ35=>
  (lp (S:=Int × (List Int)) (E:=(List Int)) (λ((s38,s39):Int × (List Int))=>
   if (decide (s38<(s39.length:Int))) then
    jn (λ(j56:List Int)=>
     some (.inl (u4 (s38+1),j56))) (λκ55=>
     (lp (S:=Int × (List Int)) (E:=(List Int)) (λ((s58,s59):Int × (List Int))=>
      if (decide (s58 > 0)) then
       (K9 a0).bind λv62=>
       (ix s59 (u4 (s58-1))).bind λv63=>
       (O1 v62 v63).bind λv64=>
       (ix s59 s58).bind λv65=>
       (O1 v62 v65).bind λv66=>
       (p7 (((decide (v64.1<0))||(decide (v66.1<0)))==false) (⟨0,0,⟨0,0,0,0,false,[]⟩⟩:o6) (ix a0.a8 v64.1)).bind λv67=>
       (p7 (((decide (v64.1<0))||(decide (v66.1<0)))==false) (⟨0,0,⟨0,0,0,0,false,[]⟩⟩:o6) (ix a0.a8 v66.1)).bind λv68=>
       if (((decide (v64.1<0))||(decide (v66.1<0)))||(decide (v67.Val.Serial<=v68.Val.Serial))) then
        some (.inr s59)
       else
       (ix (s59.set (s58).toNat v63) (u4 (s58-1))).bind λv69=>
       some (.inl (u4 (s58-1),((s59.set (s58).toNat v63).set (u4 (s58-1)).toNat v65)))
      else
      some (.inr s59)) (s38,s39)).bind λe57=>
     κ55 e57)
   else
   some (.inr s39)) (1,v1)).bind λe37=>
  κ35 e37)
def T7(a0:n7):Option (List Int):=
 jn (λ(j15:List Int)=>
  (pD a0 j15).bind λv16=>
  some v16) (λκ14=>
  (lp (S:=Int × (List Int)) (E:=(List Int)) (λ((s18,s19):Int × (List Int))=>
   if (decide (s18<(a0.a8.length:Int))) then
    jn (λ(j26:List Int)=>
     some (.inl (u4 (s18+1),j26))) (λκ25=>
     (ix a0.a8 s18).bind λv27=>
     if (v27.State==1) then
      (gj s18 v27.Gen).bind λv28=>
      (app 8 s19 [v28]).bind λv29=>
      κ25 v29
     else
     κ25 s19)
   else
   some (.inr s19)) (0,[])).bind λe17=>
  κ14 e17)
def uB(a0:C3)(a1:Int):Option (Int × Int):=
 (O1 a0 a1).bind λv1=>
 if (v1.2 != 0) then
  some (0,v1.2)
 else
 (ix a0.a8 v1.1).bind λv2=>
 if (v2.State==2) then
  some (0,3)
 else
 some (v2.Val,0)
def E1(a0:n7)(a1:Int):Option (B7 × Int):=
 (K9 a0).bind λv1=>
 (uB v1 a1).bind λv2=>
 if (v2.2 != 0) then
  some ((⟨0,0,0,0,false,[]⟩:B7),v2.2)
 else
 (ix a0.a8 v2.1).bind λv3=>
 some (v3.Val,0)
def mN(a0:g6):Option (List Int):=
 (T7 a0.S).bind λv1=>
 jn (λ(j16:List Int)=>
  some j16) (λκ15=>
  (lp (S:=Int × (List Int)) (E:=(List Int)) (λ((s18,s19):Int × (List Int))=>
   if (decide (s18<(v1.length:Int))) then
    jn (λ(j26:List Int)=>
     some (.inl (u4 (s18+1),j26))) (λκ25=>
     (ix v1 s18).bind λv27=>
     (E1 a0.S v27).bind λv28=>
     if (v28.1.Strong==0) then
      (app 8 s19 [v27]).bind λv29=>
      κ25 v29
     else
     κ25 s19)
   else
   some (.inr s19)) (0,[])).bind λe17=>
  κ15 e17)
def du(a0:List Int):Option (H7 × Int):=
 if ((a0.length:Int) != 4) then
  some ((⟨0,0,0,0⟩:H7),14)
 else
 (ix a0 0).bind λv1=>
 (ix a0 1).bind λv2=>
 (ix a0 2).bind λv3=>
 (ix a0 3).bind λv4=>
 (bL (⟨v1,v2,v3,v4⟩:H7)).bind λv5=>
 if (v5 != 0) then
  some ((⟨0,0,0,0⟩:H7),v5)
 else
 some ((⟨v1,v2,v3,v4⟩:H7),0)
def fL(a0:List Int):Option (List Int):=
 jn (λ(j13:List Int)=>
  some j13) (λκ12=>
  (lp (S:=Int × (List Int)) (E:=(List Int)) (λ((s15,s16):Int × (List Int))=>
   if (decide (s15<(a0.length:Int))) then
    jn (λ(j22:List Int)=>
     some (.inl (u4 (s15+1),j22))) (λκ21=>
     (ix a0 s15).bind λv23=>
     if (v23 != 0) then
      (app 8 s16 [v23]).bind λv24=>
      κ21 v24
     else
     κ21 s16)
   else
   some (.inr s16)) (0,[])).bind λe14=>
  κ12 e14)
def uE(a0:n7)(a1:Int):Option (List Int):=
 (E1 a0 a1).bind λv1=>
 if (v1.2 != 0) then
  some []
 else
 (fL v1.1.Fields).bind λv2=>
 some v2
def dt(a0:List Int)(a1:Int):Option Int:=
 jn (λ(j11:Int)=>
  some j11) (λκ10=>
  (lp (S:=Int × Int) (E:=Int) (λ((s13,s14):Int × Int)=>
   if (decide (s14<(a0.length:Int))) then
    jn (λ(j19:Int)=>
     some (.inl (j19,u4 (s14+1)))) (λκ18=>
     (ix a0 s14).bind λv20=>
     if ((v20==a1)&&(a1 != 0)) then
      κ18 (u4 (s13+1))
     else
     κ18 s13)
   else
   some (.inr s13)) (0,0)).bind λe12=>
  κ10 e12)
def FE(a0:n7)(a1:Int):Option Int:=
 (T7 a0).bind λv1=>
 jn (λ(j11:Int)=>
  some j11) (λκ10=>
  (lp (S:=Int × Int) (E:=Int) (λ((s13,s14):Int × Int)=>
   if (decide (s14<(v1.length:Int))) then
    (ix v1 s14).bind λv17=>
    (uE a0 v17).bind λv18=>
    (dt v18 a1).bind λv19=>
    some (.inl (u4 (s13+v19),u4 (s14+1)))
   else
   some (.inr s13)) (0,0)).bind λe12=>
  κ10 e12)
def vZ(a0:List l6):Option (List Int):=
 jn (λ(j13:List Int)=>
  some j13) (λκ12=>
  (lp (S:=Int × (List Int)) (E:=(List Int)) (λ((s15,s16):Int × (List Int))=>
   if (decide (s15<(a0.length:Int))) then
    jn (λ(j22:List Int)=>
     some (.inl (u4 (s15+1),j22))) (λκ21=>
     (ix a0 s15).bind λv23=>
     if (v23.State==1) then
      (app 8 s16 [v23.Key]).bind λv24=>
      κ21 v24
     else
     κ21 s16)
   else
   some (.inr s16)) (0,[])).bind λe14=>
  κ12 e14)
def cE(a0:List l6)(a1:Int):Option Int:=
 jn (λ(_:Unit)=>
  some (-1)) (λκ5=>
  (lp (S:=Int) (E:=Int ⊕ Unit) (λ(s8:Int)=>
   if (decide (s8<(a0.length:Int))) then
    (ix a0 s8).bind λv10=>
    if ((v10.State==1)&&(v10.Key==a1)) then
     some (.inr (.inl s8))
    else
    some (.inl (u4 (s8+1)))
   else
   some (.inr (.inr ()))) 0).bind λe7=>
  match e7 with
  | .inl w=>some w
  | .inr w=>κ5 w)
def qT(a0:List l6)(a1:Int):Option (Int × Int):=
 (cE a0 a1).bind λv1=>
 if (decide (v1<0)) then
  some (0,9)
 else
 (ix a0 v1).bind λv2=>
 some (v2.Val,0)
def jm(a0:List l6):Option (List Z1):=
 (vZ a0).bind λv1=>
 jn (λ(j11:List Z1)=>
  some j11) (λκ10=>
  (lp (S:=Int × (List Z1)) (E:=(List Z1)) (λ((s13,s14):Int × (List Z1))=>
   if (decide (s13<(v1.length:Int))) then
    (ix v1 s13).bind λv17=>
    (qT a0 v17).bind λv18=>
    (app 16 s14 [(⟨v17,v18.1⟩:Z1)]).bind λv19=>
    some (.inl (u4 (s13+1),v19))
   else
   some (.inr s14)) (0,[])).bind λe12=>
  κ10 e12)
def sD(a0:List l6)(a1:Int):Option Int:=
 (jm a0).bind λv1=>
 jn (λ(j12:Int)=>
  some j12) (λκ11=>
  (lp (S:=Int × Int) (E:=Int) (λ((s14,s15):Int × Int)=>
   if (decide (s15<(v1.length:Int))) then
    jn (λ(j20:Int)=>
     some (.inl (j20,u4 (s15+1)))) (λκ19=>
     (ix v1 s15).bind λv21=>
     if ((v21.Val==a1)&&(a1 != 0)) then
      κ19 (u4 (s14+1))
     else
     κ19 s14)
   else
   some (.inr s14)) (0,0)).bind λe13=>
  κ11 e13)
def sF(a0:n7)(a1:List l6)(a2:Int):Option Int:=
 (FE a0 a2).bind λv1=>
 (sD a1 a2).bind λv2=>
 some (u4 (v1+v2))
def qW(a0:n7)(a1:List l6)(a2:Int):Option Int:=
 (E1 a0 a2).bind λv1=>
 if (v1.2 != 0) then
  some 0
 else
 (sF a0 a1 a2).bind λv2=>
 some (u4 (v1.1.Strong-v2))
def dq(a0:Int):Option Bool:=
 some (decide (a0>=12))
def nH(a0:n7)(a1:Int):Option Bool:=
 (E1 a0 a1).bind λv1=>
 (dq v1.1.Strong).bind λv2=>
 some v2
def wc(a0:n7)(a1:List l6):Option (List Int):=
 (T7 a0).bind λv1=>
 jn (λ(j18:List Int)=>
  some j18) (λκ17=>
  (lp (S:=Int × (List Int)) (E:=(List Int)) (λ((s20,s21):Int × (List Int))=>
   if (decide (s20<(v1.length:Int))) then
    jn (λ(j29:List Int)=>
     some (.inl (u4 (s20+1),j29))) (λκ28=>
     (ix v1 s20).bind λv30=>
     (qW a0 a1 v30).bind λv31=>
     (p7 ((decide (v31 > 0))==false) false (nH a0 v30)).bind λv32=>
     if ((decide (v31 > 0))||v32) then
      (app 8 s21 [v30]).bind λv33=>
      κ28 v33
     else
     κ28 s21)
   else
   some (.inr s21)) (0,[])).bind λe19=>
  κ17 e19)
def nE(a0:List Int)(a1:Int):Option Bool:=
 (dt a0 a1).bind λv1=>
 some (decide (v1 > 0))
def nF(a0:List Int)(a1:List Int)(a2:Bool):Option (List Int):=
 jn (λ(j15:List Int)=>
  some j15) (λκ14=>
  (lp (S:=Int × (List Int)) (E:=(List Int)) (λ((s17,s18):Int × (List Int))=>
   if (decide (s17<(a0.length:Int))) then
    jn (λ(j25:List Int)=>
     some (.inl (u4 (s17+1),j25))) (λκ24=>
     (ix a0 s17).bind λv26=>
     (nE a1 v26).bind λv27=>
     if (v27==a2) then
      (app 8 s18 [v26]).bind λv28=>
      κ24 v28
     else
     κ24 s18)
   else
   some (.inr s18)) (0,[])).bind λe16=>
  κ14 e16)
def mH(a0:n7)(a1:List Int):Option (List Int):=
 (T7 a0).bind λv1=>
 (nF v1 a1 true).bind λv2=>
 jn (λ(j51:List Int)=>
  some j51) (λκ50=>
  (lp (S:=(List Int) × Int) (E:=(List Int)) (λ((s53,s54):(List Int) × Int)=>
   if (decide (s54<(v1.length:Int))) then
    jn (λ(j78:List Int)=>
     some (.inl (j78,u4 (s54+1)))) (λκ77=>
     (app 8 [] s53).bind λv79=>
     jn (λ(j89:List Int)=>
      (nF v1 j89 true).bind λv90=>
      κ77 v90) (λκ88=>
      (lp (S:=Int × (List Int)) (E:=(List Int)) (λ((s92,s93):Int × (List Int))=>
       if (decide (s92<(s53.length:Int))) then
        (ix s53 s92).bind λv96=>
        (uE a0 v96).bind λv97=>
        (app 8 s93 v97).bind λv98=>
        some (.inl (u4 (s92+1),v98))
       else
       some (.inr s93)) (0,v79)).bind λe91=>
      κ88 e91))
   else
   some (.inr s53)) (v2,0)).bind λe52=>
  κ50 e52)
def nG(a0:n7)(a1:Int):Option Bool:=
 (E1 a0 a1).bind λv1=>
 some (v1.2==0)
def qV(a0:n7)(a1:List l6)(a2:List Int):Option (List Int):=
 (jm a1).bind λv1=>
 jn (λ(j20:List Int)=>
  some j20) (λκ19=>
  (lp (S:=Int × (List Int)) (E:=(List Int)) (λ((s22,s23):Int × (List Int))=>
   if (decide (s22<(v1.length:Int))) then
    jn (λ(j32:List Int)=>
     some (.inl (u4 (s22+1),j32))) (λκ31=>
     (ix v1 s22).bind λv33=>
     (nG a0 v33.Key).bind λv34=>
     (p7 (v34==true) false (nE a2 v33.Key)).bind λv35=>
     (p7 ((v34&&v35)==true) false (nG a0 v33.Val)).bind λv36=>
     if ((v34&&v35)&&v36) then
      (app 8 s23 [v33.Val]).bind λv37=>
      κ31 v37
     else
     κ31 s23)
   else
   some (.inr s23)) (0,[])).bind λe21=>
  κ19 e21)
def pE(a0:n7)(a1:List l6)(a2:List Int):Option ((List Int) × Int):=
 (mH a0 a2).bind λv1=>
 jn (λ(j13:List Int)=>
  some (j13,30)) (λκ12=>
  (lp (S:=(List Int) × Int) (E:=((List Int) × Int) ⊕ (List Int)) (λ((s15,s16):(List Int) × Int)=>
   if (decide (s16<30)) then
    (app 8 [] s15).bind λv19=>
    (qV a0 a1 s15).bind λv20=>
    (app 8 v19 v20).bind λv21=>
    (mH a0 v21).bind λv22=>
    (eh v22 s15).bind λv23=>
    if v23 then
     some (.inr (.inl (s15,s16)))
    else
    some (.inl (v22,u4 (s16+1)))
   else
   some (.inr (.inr s15))) (v1,0)).bind λe14=>
  match e14 with
  | .inl w=>some w
  | .inr w=>κ12 w)
def wa(a0:n7)(a1:List l6)(a2:List Int):Option (List Int):=
 (pE a0 a1 a2).bind λv1=>
 some v1.1
def wb(a0:n7)(a1:List l6)(a2:List Int):Option (List Int):=
 (wa a0 a1 a2).bind λv1=>
 (T7 a0).bind λv2=>
 jn (λ(j17:List Int)=>
  some j17) (λκ16=>
  (lp (S:=Int × (List Int)) (E:=(List Int)) (λ((s19,s20):Int × (List Int))=>
   if (decide (s19<(v2.length:Int))) then
    jn (λ(j27:List Int)=>
     some (.inl (u4 (s19+1),j27))) (λκ26=>
     (ix v2 s19).bind λv28=>
     (nE v1 v28).bind λv29=>
     if (!v29) then
      (app 8 s20 [v28]).bind λv30=>
      κ26 v30
     else
     κ26 s20)
   else
   some (.inr s20)) (0,[])).bind λe18=>
  κ16 e18)
def mK(a0:n7)(a1:List l6):Option (List Int):=
 (wc a0 a1).bind λv1=>
 (wb a0 a1 v1).bind λv2=>
 some v2
def eC(a0:g6):Option (List Int):=
 (mK a0.S a0.T).bind λv1=>
 some v1
def au(a0:g6)(a1:Int):Option Bool:=
 (E1 a0.S a1).bind λv1=>
 some (v1.2==0)
def nI(a0:g6)(a1:Int):Option Bool:=
 (E1 a0.S a1).bind λv1=>
 (au a0 a1).bind λv2=>
 some ((v2&&(decide (v1.1.Prog>=0)))&&(!v1.1.Started))
def sH(a0:g6):Option (List Int):=
 (eC a0).bind λv1=>
 jn (λ(j16:List Int)=>
  some j16) (λκ15=>
  (lp (S:=Int × (List Int)) (E:=(List Int)) (λ((s18,s19):Int × (List Int))=>
   if (decide (s18<(v1.length:Int))) then
    jn (λ(j26:List Int)=>
     some (.inl (u4 (s18+1),j26))) (λκ25=>
     (ix v1 s18).bind λv27=>
     (nI a0 v27).bind λv28=>
     if v28 then
      (app 8 s19 [v27]).bind λv29=>
      κ25 v29
     else
     κ25 s19)
   else
   some (.inr s19)) (0,[])).bind λe17=>
  κ15 e17)
def ep(a0:n7)(a1:Int)(a2:B7):Option n7:=
 (app 80 [] a0.a8).bind λv1=>
 (ix v1 a1).bind λv2=>
 some (⟨(v1.set (a1).toNat (⟨v2.State,v2.Gen,a2⟩:o6)),a0.Last,a0.Serial⟩:n7)
def M4(a0:n7)(a1:Int)(a2:B7):Option (n7 × Int):=
 (K9 a0).bind λv1=>
 (O1 v1 a1).bind λv2=>
 if (v2.2 != 0) then
  some (a0,v2.2)
 else
 (ep a0 v2.1 a2).bind λv3=>
 some (v3,0)
def kQ(a0:u7)(a1:u5):Option (u7 × Int):=
 if (decide ((a0.L.length:Int)>=a0.Cap)) then
  some (a0,4)
 else
 (app 24 [] a0.L).bind λv1=>
 (app 24 v1 [a1]).bind λv2=>
 some ((⟨v2,a0.Cap⟩:u7),0)
def uC(a0:Int):Option Int:=
 (dq a0).bind λv1=>
 if v1 then
  some 12
 else
 if (decide (a0<0)) then
  some 1
 else
 some (u4 (a0+1))
def kR(a0:g6)(a1:Int)(a2:Int):Option g6:=
 (E1 a0.S a1).bind λv1=>
 if (v1.2 != 0) then
  some a0
 else
 (M4 a0.S a1 (⟨v1.1.Serial,a2,v1.1.Weak,v1.1.Prog,v1.1.Started,v1.1.Fields⟩:B7)).bind λv2=>
 some (⟨v2.1,a0.Roots,a0.a8,a0.T,a0.Q⟩:g6)
def bt(a0:g6)(a1:Int):Option g6:=
 (E1 a0.S a1).bind λv1=>
 (uC v1.1.Strong).bind λv2=>
 (kR a0 a1 v2).bind λv3=>
 some v3
def gl(a0:g6)(a1:Int):Option g6:=
 (nI a0 a1).bind λv1=>
 if (!v1) then
  some a0
 else
 (E1 a0.S a1).bind λv2=>
 (M4 a0.S a1 (⟨v2.1.Serial,v2.1.Strong,v2.1.Weak,v2.1.Prog,true,v2.1.Fields⟩:B7)).bind λv3=>
 (kQ a0.Q (⟨1,a1,v2.1.Prog⟩:u5)).bind λv4=>
 (bt (⟨v3.1,a0.Roots,a0.a8,a0.T,v4.1⟩:g6) a1).bind λv5=>
 some v5
def ra(a0:g6)(a1:List Int):Option (List Int):=
 jn (λ(j17:List Int)=>
  some j17) (λκ16=>
  (lp (S:=Int × (List Int)) (E:=(List Int)) (λ((s19,s20):Int × (List Int))=>
   if (decide (s19<(a1.length:Int))) then
    jn (λ(j28:List Int)=>
     some (.inl (u4 (s19+1),j28))) (λκ27=>
     (ix a1 s19).bind λv29=>
     (au a0 v29).bind λv30=>
     (p7 (v30==true) false (nE s20 v29)).bind λv31=>
     if (v30&&(!v31)) then
      (app 8 s20 [v29]).bind λv32=>
      κ27 v32
     else
     κ27 s20)
   else
   some (.inr s20)) (0,[])).bind λe18=>
  κ16 e18)
def sC(a0:List o7)(a1:List Int):Option ((List o7) × (List Int)):=
 jn (λ((j18,j19):(List Int) × (List o7))=>
  some (j19,j18)) (λκ17=>
  (lp (S:=Int × (List o7) × (List Int)) (E:=((List Int) × (List o7))) (λ((s22,s23,s24):Int × (List o7) × (List Int))=>
   if (decide (s22<(a0.length:Int))) then
    (ix a0 s22).bind λv27=>
    jn (λ((j31,j32):Bool × (List Int))=>
     (app 24 s23 [(⟨v27.Target,j31,v27.Call⟩:o7)]).bind λv34=>
     some (.inl (u4 (s22+1),v34,j32))) (λκ30=>
     (p7 (v27.Intact==true) 0 (dt a1 v27.Target)).bind λv35=>
     if (v27.Intact&&(decide (v35 > 0))) then
      if (decide (v27.Call>=0)) then
       (app 8 s24 [s22]).bind λv36=>
       κ30 (false,v36)
      else
      κ30 (false,s24)
     else
     κ30 (v27.Intact,s24))
   else
   some (.inr (s24,s23))) (0,[],[])).bind λe21=>
  κ17 e21)
def ez(a0:List l6)(a1:Int)(a2:l6):Option (List l6):=
 (app 24 [] a0).bind λv1=>
 (ix v1 a1).bind λv2=>
 some (v1.set (a1).toNat a2)
def mJ(a0:List l6)(a1:Int):Option ((List l6) × Int × Int):=
 (cE a0 a1).bind λv1=>
 if (decide (v1<0)) then
  some (a0,0,9)
 else
 (ez a0 v1 (⟨2,0,0⟩:l6)).bind λv2=>
 (ix a0 v1).bind λv3=>
 some (v2,v3.Val,0)
def il(a0:List l6)(a1:List Int):Option ((List l6) × (List Int)):=
 jn (λ((j18,j19):(List l6) × (List Int))=>
  some (j18,j19)) (λκ17=>
  (lp (S:=(List l6) × Int × (List Int)) (E:=((List l6) × (List Int))) (λ((s22,s23,s24):(List l6) × Int × (List Int))=>
   if (decide (s23<(a1.length:Int))) then
    jn (λ((j31,j32):(List l6) × (List Int))=>
     some (.inl (j31,u4 (s23+1),j32))) (λκ30=>
     (ix a1 s23).bind λv34=>
     (mJ s22 v34).bind λv35=>
     if (v35.2.2==0) then
      (app 8 s24 [v35.2.1]).bind λv36=>
      κ30 (v35.1,v36)
     else
     κ30 (s22,s24))
   else
   some (.inr (s22,s24))) (a0,0,[])).bind λe21=>
  κ17 e21)
def aW(a0:C3)(a1:Int)(a2:E8):Option C3:=
 (app 24 [] a0.a8).bind λv1=>
 (ix v1 a1).bind λv2=>
 some (⟨(v1.set (a1).toNat a2),a0.Last⟩:C3)
def Dq(a0:C3)(a1:Int):Option (C3 × Int):=
 (uB a0 a1).bind λv1=>
 if (v1.2 != 0) then
  some (a0,v1.2)
 else
 (O1 a0 a1).bind λv2=>
 (ix a0.a8 v2.1).bind λv3=>
 (aW a0 v2.1 (⟨2,v3.Gen,v3.Val⟩:E8)).bind λv4=>
 some (v4,0)
def br(a0:n7)(a1:C3):Option n7:=
 jn (λ(j10:List o6)=>
  some (⟨j10,a0.Last,a0.Serial⟩:n7)) (λκ9=>
  (lp (S:=Int × (List o6)) (E:=(List o6)) (λ((s12,s13):Int × (List o6))=>
   if (decide (s12<(a0.a8.length:Int))) then
    (ix a1.a8 s12).bind λv16=>
    (ix a0.a8 s12).bind λv17=>
    (app 80 s13 [(⟨v16.State,v16.Gen,v17.Val⟩:o6)]).bind λv18=>
    some (.inl (u4 (s12+1),v18))
   else
   some (.inr s13)) (0,[])).bind λe11=>
  κ9 e11)
def vX(a0:n7)(a1:Int):Option n7:=
 (K9 a0).bind λv1=>
 (Dq v1 a1).bind λv2=>
 (br a0 v2.1).bind λv3=>
 some v3
def Dp(a0:C3)(a1:Int):Option (C3 × Int):=
 (O1 a0 a1).bind λv1=>
 if (v1.2 != 0) then
  some (a0,v1.2)
 else
 (ix a0.a8 v1.1).bind λv2=>
 if (decide (v2.Gen>=a0.Last)) then
  (aW a0 v1.1 (⟨3,v2.Gen,0⟩:E8)).bind λv3=>
  some (v3,0)
 else
 (aW a0 v1.1 (⟨0,u4 (v2.Gen+1),0⟩:E8)).bind λv4=>
 some (v4,0)
def qP(a0:n7)(a1:Int):Option n7:=
 (K9 a0).bind λv1=>
 (Dp v1 a1).bind λv2=>
 if (v2.2 != 0) then
  some a0
 else
 (br a0 v2.1).bind λv3=>
 (mE a1).bind λv4=>
 (ep v3 v4 (⟨0,0,0,0,false,[]⟩:B7)).bind λv5=>
 some v5
def mO(a0:g6)(a1:Int):Option g6:=
 (E1 a0.S a1).bind λv1=>
 (M4 a0.S a1 (⟨v1.1.Serial,0,v1.1.Weak,v1.1.Prog,v1.1.Started,[]⟩:B7)).bind λv2=>
 (vX v2.1 a1).bind λv3=>
 if (v1.1.Weak==0) then
  (qP v3 a1).bind λv4=>
  some (⟨v4,a0.Roots,a0.a8,a0.T,a0.Q⟩:g6)
 else
 some (⟨v3,a0.Roots,a0.a8,a0.T,a0.Q⟩:g6)
def Ba(a0:Int):Option (Int × Int):=
 (dq a0).bind λv1=>
 if v1 then
  some (12,0)
 else
 if (decide (a0<1)) then
  some (0,11)
 else
 some (u4 (a0-1),0)
def D9(a0:g6)(a1:Int):Option g6:=
 (E1 a0.S a1).bind λv1=>
 (Ba v1.1.Strong).bind λv2=>
 if (v2.2 != 0) then
  some a0
 else
 (kR a0 a1 v2.1).bind λv3=>
 some v3
def mM(a0:g6)(a1:List Int):Option g6:=
 (ra a0 a1).bind λv1=>
 (sC a0.a8 v1).bind λv2=>
 jn (λ(j12:u7)=>
  jn (λ(j23:List Int)=>
   (il a0.T v1).bind λv24=>
   (app 8 j23 v24.2).bind λv25=>
   jn (λ(j34:g6)=>
    jn (λ(j43:g6)=>
     some j43) (λκ42=>
     (lp (S:=Int × g6) (E:=g6) (λ((s45,s46):Int × g6)=>
      if (decide (s45<(v25.length:Int))) then
       (ix v25 s45).bind λv49=>
       (D9 s46 v49).bind λv50=>
       some (.inl (u4 (s45+1),v50))
      else
      some (.inr s46)) (0,j34)).bind λe44=>
     κ42 e44)) (λκ33=>
    (lp (S:=Int × g6) (E:=g6) (λ((s52,s53):Int × g6)=>
     if (decide (s52<(v1.length:Int))) then
      (ix v1 s52).bind λv56=>
      (mO s53 v56).bind λv57=>
      some (.inl (u4 (s52+1),v57))
     else
     some (.inr s53)) (0,(⟨a0.S,a0.Roots,v2.1,v24.1,j12⟩:g6))).bind λe51=>
    κ33 e51)) (λκ22=>
   (lp (S:=Int × (List Int)) (E:=(List Int)) (λ((s59,s60):Int × (List Int))=>
    if (decide (s59<(v1.length:Int))) then
     (ix v1 s59).bind λv63=>
     (E1 a0.S v63).bind λv64=>
     (fL v64.1.Fields).bind λv65=>
     (app 8 s60 v65).bind λv66=>
     some (.inl (u4 (s59+1),v66))
    else
    some (.inr s60)) (0,[])).bind λe58=>
   κ22 e58)) (λκ11=>
  (lp (S:=Int × u7) (E:=u7) (λ((s68,s69):Int × u7)=>
   if (decide (s68<(v2.2.length:Int))) then
    (ix v2.2 s68).bind λv72=>
    (ix v2.1 v72).bind λv73=>
    (kQ s69 (⟨2,v72,v73.Call⟩:u5)).bind λv74=>
    some (.inl (u4 (s68+1),v74.1))
   else
   some (.inr s69)) (0,a0.Q)).bind λe67=>
  κ11 e67)
def O2(a0:g6):Option g6:=
 jn (λ(j21:g6)=>
  some j21) (λκ20=>
  (lp (S:=Int × g6) (E:=g6 ⊕ g6) (λ((s23,s24):Int × g6)=>
   if (decide (s23<100)) then
    jn (λ(j34:g6)=>
     some (.inl (u4 (s23+1),j34))) (λκ33=>
     (mN s24).bind λv35=>
     if ((v35.length:Int)==0) then
      some (.inr (.inl s24))
     else
     (ix v35 0).bind λv36=>
     (nI s24 v36).bind λv37=>
     if v37 then
      (gl s24 v36).bind λv38=>
      κ33 v38
     else
     (cut v35 0 1).bind λv39=>
     (mM s24 v39).bind λv40=>
     κ33 v40)
   else
   some (.inr (.inr s24))) (0,a0)).bind λe22=>
  match e22 with
  | .inl w=>some w
  | .inr w=>κ20 w)
def mP(a0:g6):Option (g6 × Int × Int):=
 (sH a0).bind λv1=>
 jn (λ(_:Unit)=>
  (eC a0).bind λv20=>
  (mM a0 v20).bind λv21=>
  (O2 v21).bind λv22=>
  (T7 a0.S).bind λv23=>
  (T7 v22.S).bind λv24=>
  some (v22,0,u4 ((v23.length:Int)-(v24.length:Int)))) (λκ18=>
  if (decide ((v1.length:Int) > 0)) then
   jn (λ(j33:g6)=>
    some (j33,(v1.length:Int),0)) (λκ32=>
    (lp (S:=Int × g6) (E:=g6) (λ((s35,s36):Int × g6)=>
     if (decide (s35<(v1.length:Int))) then
      (ix v1 s35).bind λv39=>
      (gl s36 v39).bind λv40=>
      some (.inl (u4 (s35+1),v40))
     else
     some (.inr s36)) (0,a0)).bind λe34=>
    κ32 e34)
  else
  κ18 ())
def nM(a0:g6):Option Bool:=
 some ((a0.Q.L.length:Int)==0)
def mR(a0:List (List H7))(a1:Int):Option (List H7):=
 if ((decide (a1<0))||(decide (a1>=(a0.length:Int)))) then
  some []
 else
 (ix a0 a1).bind λv1=>
 some v1
def mQ(a0:List (List H7))(a1:u5):Option Int:=
 (mR a0 a1.Prog).bind λv1=>
 some (u4 (1+(v1.length:Int)))
def wg(a0:u7):Option (u7 × u5 × Int):=
 if ((a0.L.length:Int)==0) then
  some (a0,(⟨0,0,0⟩:u5),10)
 else
 (cut a0.L 1 (a0.L.length:Int)).bind λv1=>
 (ix a0.L 0).bind λv2=>
 some ((⟨v1,a0.Cap⟩:u7),v2,0)
def bK(a0:g6)(a1:Int):Option Bool:=
 (p7 ((a1==0)==false) false (au a0 a1)).bind λv1=>
 some ((a1==0)||v1)
def V4(a0:g6)(a1:Int)(a2:Int):Option (g6 × Int):=
 if ((decide (a1<0))||(decide (a1 > 5))) then
  some (a0,6)
 else
 (bK a0 a2).bind λv1=>
 if (!v1) then
  some (a0,3)
 else
 (ix a0.Roots a1).bind λv2=>
 (bt a0 a2).bind λv3=>
 (app 8 [] a0.Roots).bind λv4=>
 (ix v4 a1).bind λv5=>
 (D9 (⟨v3.S,(v4.set (a1).toNat a2),v3.a8,v3.T,v3.Q⟩:g6) v2).bind λv6=>
 some (v6,0)
def jo(a0:u7)(a1:Int):Option Bool:=
 jn (λ(_:Unit)=>
  some false) (λκ5=>
  (lp (S:=Int) (E:=Bool ⊕ Unit) (λ(s8:Int)=>
   if (decide (s8<(a0.L.length:Int))) then
    (ix a0.L s8).bind λv10=>
    if ((v10.Kind==2)&&(v10.At==a1)) then
     some (.inr (.inl true))
    else
    some (.inl (u4 (s8+1)))
   else
   some (.inr (.inr ()))) 0).bind λe7=>
  match e7 with
  | .inl w=>some w
  | .inr w=>κ5 w)
def Be(a0:List o7)(a1:Int)(a2:Int)(a3:Int):Option ((List o7) × Int × Int):=
 if ((decide (a1<0))||(decide (a1>=(a0.length:Int)))) then
  some (a0,0,7)
 else
 (app 24 [] a0).bind λv1=>
 (ix v1 a1).bind λv2=>
 (ix a0 a1).bind λv3=>
 some ((v1.set (a1).toNat (⟨a2,(a2 != 0),a3⟩:o7)),v3.Target,0)
def bJ(a0:g6)(a1:Int):Option g6:=
 (K9 a0.S).bind λv1=>
 (O1 v1 a1).bind λv2=>
 if (v2.2 != 0) then
  some a0
 else
 (ix a0.S.a8 v2.1).bind λv3=>
 (M4 a0.S a1 (⟨v3.Val.Serial,v3.Val.Strong,u4 (v3.Val.Weak-1),v3.Val.Prog,v3.Val.Started,v3.Val.Fields⟩:B7)).bind λv4=>
 (ix v4.1.a8 v2.1).bind λv5=>
 if ((v5.State==2)&&(decide ((u4 (v3.Val.Weak-1))<1))) then
  (qP v4.1 a1).bind λv6=>
  some (⟨v6,a0.Roots,a0.a8,a0.T,a0.Q⟩:g6)
 else
 some (⟨v4.1,a0.Roots,a0.a8,a0.T,a0.Q⟩:g6)
def gk(a0:g6)(a1:Int)(a2:Int)(a3:Int):Option (g6 × Int):=
 (p7 (((decide (a1<0))||(decide (a1 > 5)))==false) false (jo a0.Q a1)).bind λv1=>
 if (((decide (a1<0))||(decide (a1 > 5)))||v1) then
  some (a0,7)
 else
 (bK a0 a2).bind λv2=>
 if (!v2) then
  some (a0,3)
 else
 (Be a0.a8 a1 a2 a3).bind λv3=>
 if (a2 != 0) then
  (E1 a0.S a2).bind λv4=>
  (M4 a0.S a2 (⟨v4.1.Serial,v4.1.Strong,u4 (v4.1.Weak+1),v4.1.Prog,v4.1.Started,v4.1.Fields⟩:B7)).bind λv5=>
  (bJ (⟨v5.1,a0.Roots,v3.1,a0.T,a0.Q⟩:g6) v3.2.1).bind λv6=>
  some (v6,0)
 else
 (bJ (⟨a0.S,a0.Roots,v3.1,a0.T,a0.Q⟩:g6) v3.2.1).bind λv7=>
 some (v7,0)
def W2(a0:g6)(a1:Int):Option (Int × Int):=
 (ix a0.Roots a1).bind λv1=>
 if (v1==0) then
  some (0,2)
 else
 some (v1,0)
def js(a0:g6)(a1:Int):Option Int:=
 if (decide (a1<0)) then
  some 0
 else
 (ix a0.Roots a1).bind λv1=>
 some v1
def vW(a0:List Int)(a1:Int):Option (Int × Int):=
 if ((decide (a1<0))||(decide (a1>=(a0.length:Int)))) then
  some (0,5)
 else
 (ix a0 a1).bind λv1=>
 some (v1,0)
def fM(a0:n7)(a1:Int)(a2:Int):Option (Int × Int):=
 (E1 a0 a1).bind λv1=>
 if (v1.2 != 0) then
  some (0,v1.2)
 else
 (vW v1.1.Fields a2).bind λv2=>
 some (v2.1,v2.2)
def Dr(a0:List Int)(a1:Int)(a2:Int):Option ((List Int) × Int):=
 if ((decide (a1<0))||(decide (a1>=(a0.length:Int)))) then
  some (a0,5)
 else
 (app 8 [] a0).bind λv1=>
 (ix v1 a1).bind λv2=>
 some ((v1.set (a1).toNat a2),0)
def Bd(a0:n7)(a1:Int)(a2:Int)(a3:Int):Option (n7 × Int):=
 (E1 a0 a1).bind λv1=>
 if (v1.2 != 0) then
  some (a0,v1.2)
 else
 (Dr v1.1.Fields a2 a3).bind λv2=>
 if (v2.2 != 0) then
  some (a0,v2.2)
 else
 (M4 a0 a1 (⟨v1.1.Serial,v1.1.Strong,v1.1.Weak,v1.1.Prog,v1.1.Started,v2.1⟩:B7)).bind λv3=>
 some (v3.1,v3.2)
def jr(a0:g6)(a1:Int)(a2:Int)(a3:Int):Option (g6 × Int):=
 (fM a0.S a1 a2).bind λv1=>
 if (v1.2 != 0) then
  some (a0,v1.2)
 else
 (bK a0 a3).bind λv2=>
 if (!v2) then
  some (a0,3)
 else
 (bt a0 a3).bind λv3=>
 (Bd v3.S a1 a2 a3).bind λv4=>
 (D9 (⟨v4.1,v3.Roots,v3.a8,v3.T,v3.Q⟩:g6) v1.1).bind λv5=>
 some (v5,0)
def vY(a0:Int)(a1:Int):Option Int:=
 if (decide (a0<1)) then
  some 0
 else
 (rem (u4 ((u4 (5*a1))+1)) a0).bind λv1=>
 if (decide (v1<0)) then
  some (u4 (v1+a0))
 else
 some v1
def Bf(a0:List l6)(a1:Int)(a2:Int):Option ((List l6) × Int):=
 (cE a0 a1).bind λv1=>
 if (decide (v1>=0)) then
  (ez a0 v1 (⟨1,a1,a2⟩:l6)).bind λv2=>
  some (v2,0)
 else
 (vY (a0.length:Int) a1).bind λv3=>
 jn (λ(_:Unit)=>
  some (a0,8)) (λκ12=>
  (lp (S:=Int × Int) (E:=((List l6) × Int) ⊕ Unit) (λ((s15,s16):Int × Int)=>
   if (decide (s16<(a0.length:Int))) then
    (ix a0 s15).bind λv19=>
    if (v19.State != 1) then
     (ez a0 s15 (⟨1,a1,a2⟩:l6)).bind λv20=>
     some (.inr (.inl (v20,0)))
    else
    (rem (u4 (s15+1)) (a0.length:Int)).bind λv21=>
    some (.inl (v21,u4 (s16+1)))
   else
   some (.inr (.inr ()))) (v3,0)).bind λe14=>
  match e14 with
  | .inl w=>some w
  | .inr w=>κ12 w)
def Bg(a0:List l6)(a1:Int)(a2:Int):Option ((List l6) × Int × Int):=
 if (a1==0) then
  some (a0,0,2)
 else
 (qT a0 a1).bind λv1=>
 if (a2==0) then
  (mJ a0 a1).bind λv2=>
  some (v2.1,v1.1,0)
 else
 (Bf a0 a1 a2).bind λv3=>
 if (v3.2 != 0) then
  some (a0,0,v3.2)
 else
 some (v3.1,v1.1,0)
def mL(a0:g6)(a1:Int)(a2:Int):Option (g6 × Int):=
 if (a1==0) then
  some (a0,2)
 else
 (au a0 a1).bind λv1=>
 (p7 ((!v1)==false) false (bK a0 a2)).bind λv2=>
 if ((!v1)||(!v2)) then
  some (a0,3)
 else
 (Bg a0.T a1 a2).bind λv3=>
 if (v3.2.2 != 0) then
  some (a0,v3.2.2)
 else
 (bt a0 a2).bind λv4=>
 (D9 (⟨v4.S,v4.Roots,v4.a8,v3.1,v4.Q⟩:g6) v3.2.1).bind λv5=>
 some (v5,0)
def bM(a0:g6)(a1:H7):Option (g6 × Int × Int):=
 if ((a1.Kind==6)&&(decide (a1.B<0))) then
  (gk a0 a1.A 0 a1.C).bind λv1=>
  some (v1.1,0,v1.2)
 else
 jn (λ(j3:Int)=>
  (W2 a0 j3).bind λv4=>
  if (v4.2 != 0) then
   some (a0,0,v4.2)
  else
  if (a1.Kind==5) then
   (js a0 a1.C).bind λv5=>
   (jr a0 v4.1 a1.B v5).bind λv6=>
   some (v6.1,v5,v6.2)
  else
  if (a1.Kind==6) then
   (gk a0 a1.A v4.1 a1.C).bind λv7=>
   some (v7.1,v4.1,v7.2)
  else
  (js a0 a1.B).bind λv8=>
  (mL a0 v4.1 v8).bind λv9=>
  some (v9.1,v8,v9.2)) (λκ2=>
  if (a1.Kind==6) then
   κ2 a1.B
  else
  κ2 a1.A)
def dv(a0:g6)(a1:Int):Option Int:=
 (E1 a0.S a1).bind λv1=>
 some v1.1.Serial
def uD(a0:Int):Option ((List Int) × Int):=
 if ((decide (a0<0))||(decide (a0 > 4))) then
  some ([],1)
 else
 (mk 8 a0 (0:Int)).bind λv1=>
 some (v1,0)
def mG(a0:C3)(a1:Int):Option (C3 × Int × Int):=
 jn (λ(_:Unit)=>
  some (a0,0,4)) (λκ7=>
  (lp (S:=Int) (E:=(C3 × Int × Int) ⊕ Unit) (λ(s10:Int)=>
   if (decide (s10<(a0.a8.length:Int))) then
    (ix a0.a8 s10).bind λv12=>
    if (v12.State==0) then
     (aW a0 s10 (⟨1,v12.Gen,a1⟩:E8)).bind λv13=>
     (gj s10 v12.Gen).bind λv14=>
     some (.inr (.inl (v13,v14,0)))
    else
    some (.inl (u4 (s10+1)))
   else
   some (.inr (.inr ()))) 0).bind λe9=>
  match e9 with
  | .inl w=>some w
  | .inr w=>κ7 w)
def en(a0:n7)(a1:Int)(a2:Int):Option (n7 × Int × Int):=
 (uD a1).bind λv1=>
 if (v1.2 != 0) then
  some (a0,0,v1.2)
 else
 if ((decide (a2<(-1)))||(decide (a2 > 5))) then
  some (a0,0,13)
 else
 (K9 a0).bind λv2=>
 (mG v2 0).bind λv3=>
 if (v3.2.2 != 0) then
  some (a0,0,v3.2.2)
 else
 (br a0 v3.1).bind λv4=>
 (mE v3.2.1).bind λv5=>
 (ep v4 v5 (⟨u4 (a0.Serial+1),0,0,a2,false,v1.1⟩:B7)).bind λv6=>
 some ((⟨v6.a8,v6.Last,u4 (a0.Serial+1)⟩:n7),v3.2.1,0)
def sG(a0:g6)(a1:Int):Option Int:=
 if ((decide (a1<0))||(decide (a1 > 5))) then
  some 0
 else
 (ix a0.Roots a1).bind λv1=>
 (dv a0 v1).bind λv2=>
 some v2
def qR(a0:List o7)(a1:Int):Option (Int × Int):=
 if ((decide (a1<0))||(decide (a1>=(a0.length:Int)))) then
  some (0,7)
 else
 (ix a0 a1).bind λv1=>
 if ((v1.Target==0)||(!v1.Intact)) then
  some (0,9)
 else
 some (v1.Target,0)
def uF(a0:List l6)(a1:Int):Option (Int × Int):=
 (qT a0 a1).bind λv1=>
 some (v1.1,v1.2)
def dw(a0:g6)(a1:H7):Option (Int × Int):=
 if (a1.Kind==2) then
  (ix a0.Roots a1.B).bind λv1=>
  some (v1,0)
 else
 if (a1.Kind==4) then
  (W2 a0 a1.B).bind λv2=>
  if (v2.2 != 0) then
   some (0,v2.2)
  else
  (fM a0.S v2.1 a1.C).bind λv3=>
  some (v3.1,v3.2)
 else
 if (a1.Kind==7) then
  (qR a0.a8 a1.B).bind λv4=>
  some (v4.1,v4.2)
 else
 if (a1.Kind==9) then
  (W2 a0 a1.B).bind λv5=>
  if (v5.2 != 0) then
   some (0,v5.2)
  else
  (uF a0.T v5.1).bind λv6=>
  some (v6.1,v6.2)
 else
 some (0,0)
def B9(a0:g6)(a1:H7):Option (g6 × Int × Int):=
 (bL a1).bind λv1=>
 if (v1 != 0) then
  some (a0,0,v1)
 else
 (W1 a1).bind λv2=>
 if (!v2) then
  some (a0,0,14)
 else
 if (a1.Kind==10) then
  (ix a0.Roots a1.A).bind λv3=>
  (ix a0.Roots a1.B).bind λv4=>
  if (v3==v4) then
   some (a0,1,0)
  else
  some (a0,0,0)
 else
 jn (λ(j6:Bool)=>
  if j6 then
   (bM a0 a1).bind λv7=>
   if (v7.2.2 != 0) then
    some (a0,0,v7.2.2)
   else
   (O2 v7.1).bind λv8=>
   (dv a0 v7.2.1).bind λv9=>
   some (v8,v9,0)
  else
  if (a1.Kind==1) then
   (en a0.S a1.B a1.C).bind λv10=>
   if (v10.2.2 != 0) then
    some (a0,0,v10.2.2)
   else
   (V4 (⟨v10.1,a0.Roots,a0.a8,a0.T,a0.Q⟩:g6) a1.A v10.2.1).bind λv11=>
   (O2 v11.1).bind λv12=>
   (sG v12 a1.A).bind λv13=>
   some (v12,v13,0)
  else
  (dw a0 a1).bind λv14=>
  if (v14.2 != 0) then
   some (a0,0,v14.2)
  else
  (V4 a0 a1.A v14.1).bind λv15=>
  (O2 v15.1).bind λv16=>
  (sG v16 a1.A).bind λv17=>
  some (v16,v17,0)) (λκ5=>
  if (a1.Kind==5) then
   κ5 (a1.Kind==5)
  else
  if (a1.Kind==6) then
   κ5 (a1.Kind==6)
  else
  κ5 (a1.Kind==8))
def uG(a0:g6)(a1:List H7):Option (g6 × (List Int)):=
 jn (λ((j11,j12):g6 × (List Int))=>
  some (j11,j12)) (λκ10=>
  (lp (S:=Int × g6 × (List Int)) (E:=(g6 × (List Int))) (λ((s15,s16,s17):Int × g6 × (List Int))=>
   if (decide (s15<(a1.length:Int))) then
    (ix a1 s15).bind λv20=>
    (B9 s16 v20).bind λv21=>
    (app 8 s17 [v21.2.1]).bind λv22=>
    some (.inl (u4 (s15+1),v21.1,v22))
   else
   some (.inr (s16,s17))) (0,a0,[])).bind λe14=>
  κ10 e14)
def wh(a0:g6)(a1:List (List H7)):Option (g6 × u5 × Int):=
 (wg a0.Q).bind λv1=>
 if (v1.2.2 != 0) then
  some (a0,(⟨0,0,0⟩:u5),v1.2.2)
 else
 jn (λ(j6:g6)=>
  (mR a1 v1.2.1.Prog).bind λv7=>
  (uG j6 v7).bind λv8=>
  if (v1.2.1.Kind==1) then
   (V4 v8.1 5 0).bind λv9=>
   (O2 v9.1).bind λv10=>
   some (v10,v1.2.1,0)
  else
  some (v8.1,v1.2.1,0)) (λκ5=>
  if (v1.2.1.Kind==1) then
   (V4 (⟨a0.S,a0.Roots,a0.a8,a0.T,v1.1⟩:g6) 5 v1.2.1.At).bind λv11=>
   (D9 v11.1 v1.2.1.At).bind λv12=>
   (O2 v12).bind λv13=>
   κ5 v13
  else
  κ5 (⟨a0.S,a0.Roots,a0.a8,a0.T,v1.1⟩:g6))
def nK(a0:g6)(a1:List (List H7))(a2:Int):Option (g6 × Int × Int × Int):=
 jn (λ((j12,j13,j14):Int × Int × g6)=>
  some (j14,j13,j12,0)) (λκ11=>
  (lp (S:=Int × Int × g6) (E:=(g6 × Int × Int × Int) ⊕ (Int × Int × g6)) (λ((s17,s18,s19):Int × Int × g6)=>
   (nM s19).bind λv22=>
   if (!v22) then
    (ix s19.Q.L 0).bind λv23=>
    (mQ a1 v23).bind λv24=>
    if (decide (v24 > s17)) then
     some (.inr (.inl (s19,s18,s17,12)))
    else
    (wh s19 a1).bind λv25=>
    some (.inl (u4 (s17-v24),u4 (s18+1),v25.1))
   else
   some (.inr (.inr (s17,s18,s19)))) (a2,0,a0)).bind λe16=>
  match e16 with
  | .inl w=>some w
  | .inr w=>κ11 w)
def FH(a0:A0)(a1:List Int):Option (A0 × n8):=
 (du a1).bind λv1=>
 if (v1.2 != 0) then
  some (a0,(⟨0,v1.2⟩:n8))
 else
 if (v1.1.Kind==11) then
  (mP a0.X).bind λv2=>
  some ((⟨v2.1,a0.Progs⟩:A0),(⟨u4 (v2.2.2-v2.2.1),0⟩:n8))
 else
 if (v1.1.Kind==12) then
  (nK a0.X a0.Progs v1.1.A).bind λv3=>
  some ((⟨v3.1,a0.Progs⟩:A0),(⟨v3.2.1,v3.2.2.2⟩:n8))
 else
 (B9 a0.X v1.1).bind λv4=>
 some ((⟨v4.1,a0.Progs⟩:A0),(⟨v4.2.1,v4.2.2⟩:n8))
def yv(a0:A0):Option (List Int):=
 (T7 a0.X.S).bind λv1=>
 jn (λ(j11:List Int)=>
  some j11) (λκ10=>
  (lp (S:=Int × (List Int)) (E:=(List Int)) (λ((s13,s14):Int × (List Int))=>
   if (decide (s13<(v1.length:Int))) then
    (ix v1 s13).bind λv17=>
    (dv a0.X v17).bind λv18=>
    (app 8 s14 [v18]).bind λv19=>
    some (.inl (u4 (s13+1),v19))
   else
   some (.inr s14)) (0,[])).bind λe12=>
  κ10 e12)
def sI(a0:g6):Option Bool:=
 (eC a0).bind λv1=>
 some ((v1.length:Int)==0)
def yw(a0:A0):Option Bool:=
 (nM a0.X).bind λv1=>
 (p7 (v1==true) false (sI a0.X)).bind λv2=>
 some (v1&&v2)
def uH(a0:A0)(a1:List (List Int)):Option (A0 × (List n8)):=
 jn (λ((j11,j12):A0 × (List n8))=>
  some (j11,j12)) (λκ10=>
  (lp (S:=Int × A0 × (List n8)) (E:=(A0 × (List n8))) (λ((s15,s16,s17):Int × A0 × (List n8))=>
   if (decide (s15<(a1.length:Int))) then
    (ix a1 s15).bind λv20=>
    (FH s16 v20).bind λv21=>
    (app 16 s17 [v21.2]).bind λv22=>
    some (.inl (u4 (s15+1),v21.1,v22))
   else
   some (.inr (s16,s17))) (0,a0,[])).bind λe14=>
  κ10 e14)
end
end Go.Sh
