/- A part. -/
import Derived.Test.YtppgkaeodaaidaaGreatDoorU3mSh0
import Derived.Test.YtppgkaeodaaidaaGreatDoorU3mPwD
import Derived.Test.YtppgkaeodaaidaaGreatDoorU3mPwC
import Derived.Test.YtppgkaeodaaidaaGreatDoorU3mPwE
set_option linter.unusedVariables false
set_option linter.unusedSimpArgs false
set_option linter.unusedSectionVars false
namespace Go.Sh
set_option maxRecDepth 100000
noncomputable section
structure p7 where
 Serial:Int
 Strong:Int
 Weak:Int
 Prog:Int
 Started:Bool
 Fields:List Int
structure b7 where
 State:Int
 Gen:Int
 Val:p7
structure k7 where
 Target:Int
 Intact:Bool
 Call:Int
structure b8 where
 State:Int
 Key:Int
 Val:Int
structure o0 where
 Kind:Int
 At:Int
 Prog:Int
structure c9 where
 Kind:Int
 A:Int
 B:Int
 C:Int
structure s7 where
 start:Int
 end_:Int
structure c5 where
 a8:List b7
 Last:Int
structure a7 where
 S:c5
 Serial:Int
structure k8 where
 L:List o0
 Cap:Int
structure b6 where
 S:a7
 Roots:List Int
 a8:List k7
 T:List b8
 Q:k8
structure w9 where
 X:b6
 Progs:List (List c9)
structure c4 where
 g:w9
 begun:Bool
 progs:List (List c9)
structure c8 where
 takes:Fw
 run:Fw
 early:Bool
structure l4 where
 part:Fv
 least:Int
 most:Int
 e:Int
structure u4 where
 x:b6
 o:c9
structure I0 where
 r:Int
 h:Int
structure G6 where
 h:Int
 k:Int
 v:Int
structure H9 where
 t:List b8
structure r9 where
 Key:Int
 Val:Int
structure l7 where
 L:List Int
 Cap:Int
structure D3 where
 V:Int
 E:Int
def Z3(a0:Int):Option Bool:=
 some (((a0==9)||(a0==13))||(a0==32))
def D4(a0:ByteArray):Option (List ByteArray):=
 jn (λ((j10,j11):Int × (List s7))=>
  jn (λ(j15:List s7)=>
   (mk 16 (j15.length:Int) (ByteArray.empty:ByteArray)).bind λv16=>
   jn (λ(j26:List ByteArray)=>
    some j26) (λκ25=>
    (lp (S:=Int × (List ByteArray)) (E:=(List ByteArray)) (λ((s28,s29):Int × (List ByteArray))=>
     if (decide (s28<(j15.length:Int))) then
      (ix j15 s28).bind λv32=>
      (yd a0 v32.start v32.end_).bind λv33=>
      (ix s29 s28).bind λv34=>
      some (.inl (z8 (s28+1),(s29.set (s28).toNat v33)))
     else
     some (.inr s29)) (0,v16)).bind λe27=>
    κ25 e27)) (λκ14=>
   if (decide (j10>=0)) then
    (app 16 j11 [(⟨j10,(a0.size:Int)⟩:s7)]).bind λv35=>
    κ14 v35
   else
   κ14 j11)) (λκ9=>
  (lp (S:=Int × Nat × (List s7)) (E:=(Int × (List s7))) (λ((s37,s38,s39):Int × Nat × (List s7))=>
   if (decide (s38<a0.size)) then
    (Z3 ((dec a0 s38).1:Int)).bind λv42=>
    if v42 then
     if (decide (s37>=0)) then
      (app 16 s39 [(⟨s37,((s38:Nat):Int)⟩:s7)]).bind λv43=>
      some (.inl (vC .i64 s37,(s38+(dec a0 s38).2),v43))
     else
     some (.inl (s37,(s38+(dec a0 s38).2),s39))
    else
    if (decide (s37<0)) then
     some (.inl (((s38:Nat):Int),(s38+(dec a0 s38).2),s39))
    else
    some (.inl (s37,(s38+(dec a0 s38).2),s39))
   else
   some (.inr (s37,s39))) ((-1),0,[])).bind λe36=>
  κ9 e36)
def Z2(a0:Int):Option Int:=
 some a0
def B4(a0:Int)(a1:Int):Option c8:=
 (Z2 a1).bind λv1=>
 some (⟨(some (137,some v1)),(some (138,some a0)),false⟩:c8)
def dU:Option (List (ByteArray × c8)):=
 (Z2 3).bind λv1=>
 (B4 1 3).bind λv2=>
 (B4 2 2).bind λv3=>
 (B4 3 1).bind λv4=>
 (B4 4 3).bind λv5=>
 (B4 5 3).bind λv6=>
 (B4 6 3).bind λv7=>
 (B4 7 2).bind λv8=>
 (B4 8 2).bind λv9=>
 (B4 9 2).bind λv10=>
 (B4 10 2).bind λv11=>
 (B4 11 0).bind λv12=>
 (B4 12 1).bind λv13=>
 (Z2 0).bind λv14=>
 some (o5 (o5 (o5 (o5 (o5 (o5 (o5 (o5 (o5 (o5 (o5 (o5 (o5 (o5 (o5 (o5 (o5 [] (s6 [112,114,111,103]) (⟨(some (75,none)),(some (76,none)),true⟩:c8)) (s6 [104,101,97,112]) (⟨(some (137,some v1)),(some (78,none)),true⟩:c8)) (s6 [110,101,119]) v2) (s6 [99,111,112,121]) v3) (s6 [100,114,111,112]) v4) (s6 [108,111,97,100]) v5) (s6 [115,116,111,114,101]) v6) (s6 [119,101,97,107]) v7) (s6 [117,112]) v8) (s6 [112,97,105,114]) v9) (s6 [103,101,116]) v10) (s6 [115,97,109,101]) v11) (s6 [99,111,108,108,101,99,116]) v12) (s6 [100,114,97,105,110]) v13) (s6 [108,105,118,101,115]) (⟨(some (137,some v14)),(some (80,none)),false⟩:c8)) (s6 [114,111,111,116,115]) (⟨(some (137,some v14)),(some (81,none)),false⟩:c8)) (s6 [116,97,108,108,121]) (⟨(some (137,some v14)),(some (82,none)),false⟩:c8))
def aF(a0:ByteArray):Option (Int × Bool):=
 jn (λ((j9,j10,j11):Int × Int × Int)=>
  if (j10==0) then
   some (0,false)
  else
  some (z8 (j11*j9),true)) (λκ8=>
  (lp (S:=Int × Int × Int × Nat) (E:=(Int × Int × Int)) (λ((s14,s15,s16,s17):Int × Int × Int × Nat)=>
   if (decide (s17<a0.size)) then
    if ((((s17:Nat):Int)==0)&&(((dec a0 s17).1:Int)==45)) then
     some (.inl (s14,s15,(-1),(s17+(dec a0 s17).2)))
    else
    if (((decide (((dec a0 s17).1:Int)<48))||(decide (((dec a0 s17).1:Int) > 57)))||(s15==9)) then
     some (.inr (s14,0,s16))
    else
    some (.inl (z8 ((z8 (s14*10))+(z8 (IntKind.i32.wrap (((dec a0 s17).1:Int)-48)))),z8 (s15+1),s16,(s17+(dec a0 s17).2)))
   else
   some (.inr (s14,s15,s16))) (0,0,1,0)).bind λXg=>
  κ8 Xg)
def ay(a0:List ByteArray):Option ((List Int) × Bool):=
 jn (λ(j10:List Int)=>
  some (j10,true)) (λκ9=>
  (lp (S:=Int × (List Int)) (E:=((List Int) × Bool) ⊕ (List Int)) (λ((s12,s13):Int × (List Int))=>
   if (decide (s12<(a0.length:Int))) then
    (ix a0 s12).bind λv16=>
    (aF v16).bind λv17=>
    if (!v17.2) then
     some (.inr (.inl ([],false)))
    else
    (app 8 s13 [v17.1]).bind λv18=>
    some (.inl (z8 (s12+1),v18))
   else
   some (.inr (.inr s13))) (0,[])).bind λe11=>
  match e11 with
  | .inl w=>some w
  | .inr w=>κ9 w)
def bQ(a0:Int):Option Bool:=
 (rem a0 4).bind λv1=>
 some (v1==1)
def cW(a0:Int)(a1:Int):Option Bool:=
 some (a0==a1)
def oA(f:Fw)(a0:Int):Option Bool:=
 match f with
 | none=>none
 | some (n,none)=>
  if n=75 then bQ a0 else
  none
 | some (n,some c)=>
  if n=137 then cW a0 c else
  none
def B7(a0:Int):Option ByteArray:=
 (nO a0).bind λv1=>
 (nK (s6 [101,114,114,111,114,32]) v1).bind λv2=>
 some v2
def dR(a0:c9):Option Bool:=
 some ((decide (a0.Kind>=1))&&(decide (a0.Kind<=10)))
def ak:Option l4:=
 some (⟨(some 169),0,5,6⟩:l4)
def U5:Option l4:=
 some (⟨(some 172),(-1),5,13⟩:l4)
def J1(a0:List l4):Option (List l4):=
 some a0
def al:Option l4:=
 some (⟨(some 170),0,5,6⟩:l4)
def X9:Option l4:=
 some (⟨(some 172),0,3,5⟩:l4)
def X8:Option l4:=
 some (⟨(some 170),0,3,5⟩:l4)
def P2:Option l4:=
 some (⟨(some 172),(-1),5,6⟩:l4)
def ai:Option l4:=
 some (⟨(some 169),0,5,7⟩:l4)
def P1:Option l4:=
 some (⟨(some 170),(-1),5,6⟩:l4)
def aj:Option l4:=
 some (⟨(some 170),0,5,7⟩:l4)
def kV:Option (List (Int × (List l4))):=
 (ak).bind λv1=>
 (U5).bind λv2=>
 (J1 [v1,(⟨(some 170),0,4,1⟩:l4),v2]).bind λv3=>
 (al).bind λv4=>
 (J1 [v1,v4]).bind λv5=>
 (J1 [v1]).bind λv6=>
 (X9).bind λv7=>
 (J1 [v1,v4,v7]).bind λv8=>
 (X8).bind λv9=>
 (P2).bind λv10=>
 (J1 [v1,v9,v10]).bind λv11=>
 (ai).bind λv12=>
 (P1).bind λv13=>
 (J1 [v12,v13,v2]).bind λv14=>
 (aj).bind λv15=>
 (J1 [v1,v15]).bind λv16=>
 (J1 [v1,v13]).bind λv17=>
 (J1 []).bind λv18=>
 (J1 [(⟨(some 169),0,200,12⟩:l4)]).bind λv19=>
 some (o5 (o5 (o5 (o5 (o5 (o5 (o5 (o5 (o5 (o5 (o5 (o5 [] 1 v3) 2 v5) 3 v6) 4 v8) 5 v11) 6 v14) 7 v16) 8 v17) 9 v5) 10 v5) 11 v18) 12 v19)
def pY(a0:c9):Option Int:=
 some a0.A
def pZ(a0:c9):Option Int:=
 some a0.B
def qc(a0:c9):Option Int:=
 some a0.C
def qV(f:Fv)(a0:c9):Option Int:=
 if f=some 169 then pY a0 else
 if f=some 170 then pZ a0 else
 if f=some 172 then qc a0 else
 none
def U4(a0:c9):Option Int:=
 (kV).bind λv1=>
 if (!((z6 v1 a0.Kind).isSome)) then
  some 14
 else
 jn (λ(_:Unit)=>
  some 0) (λκ8=>
  (lp (S:=Int) (E:=Int ⊕ Unit) (λ(s11:Int)=>
   if (decide (s11<(((z6 v1 a0.Kind).getD ([]:List l4)).length:Int))) then
    (ix ((z6 v1 a0.Kind).getD ([]:List l4)) s11).bind λv13=>
    (qV v13.part a0).bind λv14=>
    if ((decide (v14<v13.least))||(decide (v14 > v13.most))) then
     some (.inr (.inl v13.e))
    else
    some (.inl (z8 (s11+1)))
   else
   some (.inr (.inr ()))) 0).bind λe10=>
  match e10 with
  | .inl w=>some w
  | .inr w=>κ8 w)
def dS(a0:List (List c9)):Option Bool:=
 if (decide ((a0.length:Int) > 6)) then
  some false
 else
 jn (λ(_:Unit)=>
  some true) (λκ20=>
  (lp (S:=Int) (E:=Bool ⊕ Unit) (λ(s23:Int)=>
   if (decide (s23<(a0.length:Int))) then
    jn (λ(_:Unit)=>
     some (.inl (z8 (s23+1)))) (λκ32=>
     (ix a0 s23).bind λv34=>
     if (decide ((v34.length:Int) > 6)) then
      some (.inr (.inl false))
     else
     (lp (S:=Int) (E:=Bool ⊕ Unit) (λ(s36:Int)=>
      if (decide (s36<(v34.length:Int))) then
       (ix v34 s36).bind λv38=>
       (dR v38).bind λv39=>
       (z1 ((!v39)==false) 0 (U4 v38)).bind λv40=>
       if ((!v39)||(v40 != 0)) then
        some (.inr (.inl false))
       else
       some (.inl (z8 (s36+1)))
      else
      some (.inr (.inr ()))) 0).bind λe35=>
     match e35 with
     | .inl w=>some (.inr (.inl w))
     | .inr w=>κ32 w)
   else
   some (.inr (.inr ()))) 0).bind λe22=>
  match e22 with
  | .inl w=>some w
  | .inr w=>κ20 w)
def N5(a0:c4)(a1:List Int):Option (c4 × ByteArray):=
 (ix a1 0).bind λv1=>
 if ((decide (v1<0))||(decide (v1>=6))) then
  (B7 13).bind λv2=>
  some (a0,v2)
 else
 (mk 24 (if (a0.progs.length:Int) > (z8 (v1+1)) then (a0.progs.length:Int) else z8 (v1+1)) ([]:List c9)).bind λv3=>
 (ux v3 a0.progs).bind λv4=>
 (ix v4 v1).bind λv5=>
 jn (λ(j19:List c9)=>
  (dS (v4.set ((v1).toNat) j19)).bind λv20=>
  if (!v20) then
   (B7 13).bind λv21=>
   some (a0,v21)
  else
  some ((⟨a0.g,a0.begun,(v4.set ((v1).toNat) j19)⟩:c4),(s6 [111,107]))) (λκ18=>
  (cut a1 1 (a1.length:Int)).bind λv22=>
  (lp (S:=(List Int) × (List c9)) (E:=(List c9)) (λ((s24,s25):(List Int) × (List c9))=>
   if (decide ((s24.length:Int) > 0)) then
    (ix s24 0).bind λv28=>
    (ix s24 1).bind λv29=>
    (ix s24 2).bind λv30=>
    (ix s24 3).bind λv31=>
    (app 32 s25 [(⟨v28,v29,v30,v31⟩:c9)]).bind λv32=>
    (cut s24 4 (s24.length:Int)).bind λv33=>
    some (.inl (v33,v32))
   else
   some (.inr s25)) (v22,[])).bind λe23=>
  κ18 e23)
def Y6(a0:Int)(a1:Int):Option c5:=
 if ((((decide (a0<0))||(decide (a0 > 24)))||(decide (a1<0)))||(decide (a1 > 9))) then
  some (⟨[],0⟩:c5)
 else
 (mk 80 a0 (⟨0,0,⟨0,0,0,0,false,[]⟩⟩:b7)).bind λv1=>
 some (⟨v1,a1⟩:c5)
def gp(a0:Int)(a1:Int):Option a7:=
 (Y6 a0 a1).bind λv1=>
 some (⟨v1,0⟩:a7)
def Eg(a0:Int):Option (List k7):=
 if ((decide (a0<0))||(decide (a0 > 6))) then
  some []
 else
 (mk 24 a0 (⟨0,false,0⟩:k7)).bind λv1=>
 jn (λ(j9:List k7)=>
  some j9) (λκ8=>
  (lp (S:=Int × (List k7)) (E:=(List k7)) (λ((s11,s12):Int × (List k7))=>
   if (decide (s11<(v1.length:Int))) then
    (ix s12 s11).bind λv15=>
    some (.inl (z8 (s11+1),(s12.set (s11).toNat (⟨v15.Target,v15.Intact,(-1)⟩:k7))))
   else
   some (.inr s12)) (0,v1)).bind λe10=>
  κ8 e10)
def re(a0:Int):Option (List b8):=
 if ((decide (a0<1))||(decide (a0 > 8))) then
  some []
 else
 (mk 24 a0 (⟨0,0,0⟩:b8)).bind λv1=>
 some v1
def br(a0:Int):Option k8:=
 some (⟨[],a0⟩:k8)
def DW:Option k8:=
 (br 30).bind λv1=>
 some v1
def jI(a0:Int)(a1:Int)(a2:Int):Option b6:=
 if ((((((decide (a0<1))||(decide (a0 > 24)))||(decide (a1<0)))||(decide (a1 > 9)))||(decide (a2<1)))||(decide (a2 > 8))) then
  some (⟨⟨⟨[],0⟩,0⟩,[],[],[],⟨[],0⟩⟩:b6)
 else
 (gp a0 a1).bind λv1=>
 (mk 8 6 (0:Int)).bind λv2=>
 (Eg 6).bind λv3=>
 (re a2).bind λv4=>
 (DW).bind λv5=>
 some (⟨v1,v2,v3,v4,v5⟩:b6)
def Y0(a0:Int)(a1:Int)(a2:Int)(a3:List (List c9)):Option (w9 × Int):=
 (dS a3).bind λv1=>
 if (!v1) then
  some ((⟨⟨⟨⟨[],0⟩,0⟩,[],[],[],⟨[],0⟩⟩,[]⟩:w9),13)
 else
 (jI a0 a1 a2).bind λv2=>
 if ((v2.Roots.length:Int)==0) then
  some ((⟨⟨⟨⟨[],0⟩,0⟩,[],[],[],⟨[],0⟩⟩,[]⟩:w9),1)
 else
 some ((⟨v2,a3⟩:w9),0)
def M4(a0:c4)(a1:List Int):Option (c4 × ByteArray):=
 (ix a1 0).bind λv1=>
 (ix a1 1).bind λv2=>
 (ix a1 2).bind λv3=>
 (Y0 v1 v2 v3 a0.progs).bind λv4=>
 if (v4.2 != 0) then
  (B7 v4.2).bind λv5=>
  some (a0,v5)
 else
 some ((⟨v4.1,true,a0.progs⟩:c4),(s6 [111,107]))
def cq(a0:Int)(a1:Int):Option Int:=
 if ((((decide (a0<0))||(decide (a0>=24)))||(decide (a1<0)))||(decide (a1 > 9))) then
  some 0
 else
 some (z8 ((z8 (1+(z8 (a0*1))))+(z8 (a1*32))))
def cmp_isNaN_int(a0:Int):Option Bool:=
 some (a0 != a0)
def bK(a0:Int)(a1:Int):Option Int:=
 (cmp_isNaN_int a0).bind λv1=>
 (cmp_isNaN_int a1).bind λv2=>
 if v1 then
  if v2 then
   some 0
  else
  some (-1)
 else
 if v2 then
  some 1
 else
 if (decide (a0<a1)) then
  some (-1)
 else
 if (decide (a0 > a1)) then
  some 1
 else
 some 0
def dC(a0:Int)(a1:Int)(a2:List (Int × Int)):Option Int:=
 (bK ((z6 a2 a0).getD (0:Int)) ((z6 a2 a1).getD (0:Int))).bind λv1=>
 some v1
def E1(a0:a7):Option (List Int):=
 jn (λ((j18,j19):(List (Int × Int)) × (List Int))=>
  (nQ (λp q=>dC p q j18) j19).bind λv21=>
  some v21) (λκ17=>
  (lp (S:=Int × (List (Int × Int)) × (List Int)) (E:=((List (Int × Int)) × (List Int))) (λ((s23,s24,s25):Int × (List (Int × Int)) × (List Int))=>
   if (decide (s23<(a0.S.a8.length:Int))) then
    jn (λ((j32,j33):(List (Int × Int)) × (List Int))=>
     some (.inl (z8 (s23+1),j32,j33))) (λκ31=>
     (ix a0.S.a8 s23).bind λv35=>
     if (v35.State==1) then
      (cq s23 v35.Gen).bind λv36=>
      (app 8 s25 [v36]).bind λv37=>
      κ31 ((o5 s24 v36 v35.Val.Serial),v37)
     else
     κ31 (s24,s25))
   else
   some (.inr (s24,s25))) (0,[],[])).bind λe22=>
  κ17 e22)
def db(a0:Int):Option (Int × Int × Bool):=
 if (decide (a0<1)) then
  some ((-1),(-1),false)
 else
 (rem (z8 (a0-1)) 32).bind λv1=>
 (quo .i64 v1 1).bind λv2=>
 (quo .i64 (z8 (a0-1)) 32).bind λv3=>
 if ((decide (v2>=24))||(decide (v3 > 9))) then
  some ((-1),(-1),false)
 else
 some (v2,v3,true)
def eW(a0:Int):Option Int:=
 (db a0).bind λv1=>
 some v1.1
def gD(a0:Int):Option Int:=
 (db a0).bind λv1=>
 some v1.2.1
def u9(a0:c5)(a1:Int):Option (Int × Int):=
 if (a1==0) then
  some ((-1),2)
 else
 (eW a1).bind λv1=>
 if ((decide (v1<0))||(decide (v1>=(a0.a8.length:Int)))) then
  some ((-1),3)
 else
 (ix a0.a8 v1).bind λv2=>
 (gD a1).bind λv3=>
 if ((v2.Gen != v3)||((v2.State != 1)&&(v2.State != 2))) then
  some ((-1),3)
 else
 some (v1,0)
def C5(a0:c5)(a1:Int):Option (p7 × Int):=
 (u9 a0 a1).bind λv1=>
 if (v1.2 != 0) then
  some ((⟨0,0,0,0,false,[]⟩:p7),v1.2)
 else
 (ix a0.a8 v1.1).bind λv2=>
 if (v2.State==2) then
  some ((⟨0,0,0,0,false,[]⟩:p7),3)
 else
 some (v2.Val,0)
def y4(a0:a7)(a1:Int):Option (p7 × Int):=
 (C5 a0.S a1).bind λv1=>
 some (v1.1,v1.2)
def aL(a0:b6)(a1:Int):Option Int:=
 (y4 a0.S a1).bind λv1=>
 some v1.1.Serial
def fN(a0:w9):Option (List Int):=
 jn (λ(j11:List Int)=>
  (oT j11).bind λv12=>
  some v12) (λκ10=>
  (E1 a0.X.S).bind λv13=>
  (lp (S:=Int × (List Int)) (E:=(List Int)) (λ((s15,s16):Int × (List Int))=>
   if (decide (s15<(v13.length:Int))) then
    (ix v13 s15).bind λv19=>
    (aL a0.X v19).bind λv20=>
    (app 8 s16 [v20]).bind λv21=>
    some (.inl (z8 (s15+1),v21))
   else
   some (.inr s16)) (0,[])).bind λe14=>
  κ10 e14)
def W1(a0:ByteArray)(a1:List Int):Option ByteArray:=
 jn (λ(j11:ByteArray)=>
  some j11) (λκ10=>
  (lp (S:=ByteArray × Int) (E:=ByteArray) (λ((s13,s14):ByteArray × Int)=>
   if (decide (s14<(a1.length:Int))) then
    (ix a1 s14).bind λv17=>
    (nO v17).bind λv18=>
    (nK (s6 [32]) v18).bind λv19=>
    (nK s13 v19).bind λv20=>
    some (.inl (v20,z8 (s14+1)))
   else
   some (.inr s13)) (a0,0)).bind λe12=>
  κ10 e12)
def K0(a0:c4)(a1:List Int):Option (c4 × ByteArray):=
 (fN a0.g).bind λv1=>
 (W1 (s6 [108,105,118,101,115]) v1).bind λv2=>
 some (a0,v2)
def L9(a0:b6)(a1:Int):Option Int:=
 if ((decide (a1<0))||(decide (a1>=(a0.Roots.length:Int)))) then
  some 0
 else
 (ix a0.Roots a1).bind λv1=>
 some v1
def aK(a0:b6)(a1:Int):Option Int:=
 (L9 a0 a1).bind λv1=>
 (aL a0 v1).bind λv2=>
 some v2
def K1(a0:c4)(a1:List Int):Option (c4 × ByteArray):=
 (mk 8 6 (0:Int)).bind λv1=>
 jn (λ(j10:List Int)=>
  (W1 (s6 [114,111,111,116,115]) j10).bind λv11=>
  some (a0,v11)) (λκ9=>
  (lp (S:=Int × (List Int)) (E:=(List Int)) (λ((s13,s14):Int × (List Int))=>
   if (decide (s13<(v1.length:Int))) then
    (aK a0.g.X s13).bind λv17=>
    (ix s14 s13).bind λv18=>
    some (.inl (z8 (s13+1),(s14.set (s13).toNat v17)))
   else
   some (.inr s14)) (0,v1)).bind λe12=>
  κ9 e12)
def T8(a0:c5):Option A4:=
 jn (λ(j9:A4)=>
  some j9) (λκ8=>
  (lp (S:=Int × A4) (E:=A4) (λ((s11,s12):Int × A4)=>
   if (decide (s11<(a0.a8.length:Int))) then
    (ix a0.a8 s11).bind λv15=>
    (A4.ix s12 v15.State).bind λv16=>
    some (.inl (z8 (s11+1),(A4.st s12 v15.State (z8 (v16+1)))))
   else
   some (.inr s12)) (0,(⟨0,0,0,0⟩:A4))).bind λe10=>
  κ8 e10)
def fO(a0:w9):Option A4:=
 (T8 a0.X.S.S).bind λv1=>
 some v1
def R4(a0:c4)(a1:List Int):Option (c4 × ByteArray):=
 (fO a0.g).bind λv1=>
 (W1 (s6 [116,97,108,108,121]) [v1.a,v1.b,v1.c,v1.d]).bind λv2=>
 some (a0,v2)
def X7(a0:List Int):Option (c9 × Int):=
 if ((a0.length:Int) != 4) then
  some ((⟨0,0,0,0⟩:c9),14)
 else
 (ix a0 0).bind λv1=>
 (ix a0 1).bind λv2=>
 (ix a0 2).bind λv3=>
 (ix a0 3).bind λv4=>
 (U4 (⟨v1,v2,v3,v4⟩:c9)).bind λv5=>
 if (v5 != 0) then
  some ((⟨0,0,0,0⟩:c9),v5)
 else
 some ((⟨v1,v2,v3,v4⟩:c9),0)
def la(a0:c9):Option NO:=
 if (a0.Kind==11) then
  some (⟨103,[]⟩:NO)
 else
 if (a0.Kind==12) then
  some (⟨107,[a0.A]⟩:NO)
 else
 some (⟨99,[a0.Kind,a0.A,a0.B,a0.C]⟩:NO)
def eH:Option (List (Int × Fv)):=
 some (o5 (o5 (o5 (o5 (o5 (o5 (o5 (o5 (o5 (o5 [] 1 (some 97)) 2 (some 98)) 3 (some 99)) 4 (some 100)) 5 (some 101)) 6 (some 102)) 7 (some 103)) 8 (some 104)) 9 (some 105)) 10 (some 106))
def su(a0:Int):Option ((List Int) × Int):=
 if ((decide (a0<0))||(decide (a0 > 4))) then
  some ([],1)
 else
 (mk 8 a0 (0:Int)).bind λv1=>
 some (v1,0)
def U1(a0:Int):Option Bool:=
 some ((decide (a0>=(-1)))&&(decide (a0<6)))
def O9(a0:c5):Option c5:=
 some a0
def y8(a0:List b7):Option (List b7):=
 app 80 [] a0
def C9(a0:c5)(a1:Int)(a2:b7):Option c5:=
 (y8 a0.a8).bind λv1=>
 (ix v1 a1).bind λv2=>
 some (⟨(v1.set (a1).toNat a2),a0.Last⟩:c5)
def E6(a0:c5)(a1:p7):Option (c5 × Int × Int):=
 jn (λ(_:Unit)=>
  some (a0,0,4)) (λκ9=>
  (O9 a0).bind λv11=>
  (lp (S:=Int) (E:=(c5 × Int × Int) ⊕ Unit) (λ(s13:Int)=>
   if (decide (s13<(v11.a8.length:Int))) then
    (ix v11.a8 s13).bind λv15=>
    if ((v15.State==0)==true) then
     (ix a0.a8 s13).bind λv16=>
     (C9 a0 s13 (⟨1,v16.Gen,a1⟩:b7)).bind λv17=>
     (cq s13 v16.Gen).bind λv18=>
     some (.inr (.inl (v17,v18,0)))
    else
    some (.inl (z8 (s13+1)))
   else
   some (.inr (.inr ()))) 0).bind λe12=>
  match e12 with
  | .inl w=>some w
  | .inr w=>κ9 w)
def O2(a0:a7)(a1:Int)(a2:Int):Option (a7 × Int × Int):=
 (su a1).bind λv1=>
 if (v1.2 != 0) then
  some (a0,0,v1.2)
 else
 (U1 a2).bind λv2=>
 if (!v2) then
  some (a0,0,13)
 else
 (E6 a0.S (⟨z8 (a0.Serial+1),0,0,a2,false,v1.1⟩:p7)).bind λv3=>
 if (v3.2.2 != 0) then
  some (a0,0,v3.2.2)
 else
 some ((⟨v3.1,z8 (a0.Serial+1)⟩:a7),v3.2.1,0)
def iK(a0:b6)(a1:Int):Option Bool:=
 (y4 a0.S a1).bind λv1=>
 some (v1.2==0)
def L6(a0:b6)(a1:Int):Option Bool:=
 (z1 ((a1==0)==false) false (iK a0 a1)).bind λv1=>
 some ((a1==0)||v1)
def G1(a0:Int):Option Bool:=
 some (decide (a0>=12))
def gx(a0:Int):Option (Int × Int):=
 (G1 a0).bind λv1=>
 if v1 then
  some (12,0)
 else
 some (z8 ((if 0 > a0 then 0 else a0)+1),0)
def oe(a0:Int):Option Int:=
 (gx a0).bind λv1=>
 some v1.1
def K6(a0:c5)(a1:Int)(a2:p7):Option (c5 × Int):=
 (u9 a0 a1).bind λv1=>
 if (v1.2 != 0) then
  some (a0,v1.2)
 else
 (ix a0.a8 v1.1).bind λv2=>
 (C9 a0 v1.1 (⟨v2.State,v2.Gen,a2⟩:b7)).bind λv3=>
 some (v3,0)
def K7(a0:a7)(a1:Int)(a2:p7):Option (a7 × Int):=
 (K6 a0.S a1 a2).bind λv1=>
 some ((⟨v1.1,a0.Serial⟩:a7),v1.2)
def W4(a0:b6)(a1:Int):Option b6:=
 (y4 a0.S a1).bind λv1=>
 if (v1.2==0) then
  (oe v1.1.Strong).bind λv2=>
  (K7 a0.S a1 (⟨v1.1.Serial,v2,v1.1.Weak,v1.1.Prog,v1.1.Started,v1.1.Fields⟩:p7)).bind λv3=>
  some (⟨v3.1,a0.Roots,a0.a8,a0.T,a0.Q⟩:b6)
 else
 some a0
def aJ(a0:b6)(a1:Int):Option b6:=
 (W4 a0 a1).bind λv1=>
 some v1
def M9(a0:List Int):Option (List Int):=
 app 8 [] a0
def Q6(a0:I0)(a1:b6):Option b6:=
 (M9 a1.Roots).bind λv1=>
 (ix v1 a0.r).bind λv2=>
 some (⟨a1.S,(v1.set (a0.r).toNat a0.h),a1.a8,a1.T,a1.Q⟩:b6)
def dV(a0:Int):Option (Int × Int):=
 (G1 a0).bind λv1=>
 if v1 then
  some (12,0)
 else
 if (decide (a0<1)) then
  some (0,11)
 else
 some (z8 (a0-1),0)
def sI(a0:Int):Option (Int × Int):=
 (dV a0).bind λv1=>
 some (v1.1,v1.2)
def dc(a0:Int):Option Int:=
 (sI a0).bind λv1=>
 if (v1.2 != 0) then
  some a0
 else
 some v1.1
def O0(a0:b6)(a1:Int):Option b6:=
 (y4 a0.S a1).bind λv1=>
 if (v1.2==0) then
  (dc v1.1.Strong).bind λv2=>
  (K7 a0.S a1 (⟨v1.1.Serial,v2,v1.1.Weak,v1.1.Prog,v1.1.Started,v1.1.Fields⟩:p7)).bind λv3=>
  some (⟨v3.1,a0.Roots,a0.a8,a0.T,a0.Q⟩:b6)
 else
 some a0
def C8(a0:b6)(a1:Int):Option b6:=
 (O0 a0 a1).bind λv1=>
 some v1
def F2(a0:b6)(a1:Int)(a2:Int)(a3:I0):Option b6:=
 (aJ a0 a2).bind λv1=>
 (Q6 a3 v1).bind λv2=>
 (C8 v2 a1).bind λv3=>
 some v3
def bb(a0:b6)(a1:Int)(a2:Int):Option (b6 × Int):=
 if ((decide (a1<0))||(decide (a1>=(a0.Roots.length:Int)))) then
  some (a0,6)
 else
 (L6 a0 a2).bind λv1=>
 if (!v1) then
  some (a0,3)
 else
 (ix a0.Roots a1).bind λv2=>
 (F2 a0 v2 a2 (⟨a1,a2⟩:I0)).bind λv3=>
 some (v3,0)
def B6(a0:u4)(a1:Int)(a2:Int):Option (b6 × Int):=
 if (a2 != 0) then
  some (a0.x,a2)
 else
 (bb a0.x a0.o.A a1).bind λv1=>
 some (v1.1,v1.2)
def V2(a0:u4):Option (b6 × Int):=
 (O2 a0.x.S a0.o.B a0.o.C).bind λv1=>
 if (v1.2.2 != 0) then
  some (a0.x,v1.2.2)
 else
 (B6 (⟨⟨v1.1,a0.x.Roots,a0.x.a8,a0.x.T,a0.x.Q⟩,a0.o⟩:u4) v1.2.1 0).bind λv2=>
 some (v2.1,v2.2)
def I4(a0:u4):Option (b6 × Int):=
 (L9 a0.x a0.o.B).bind λv1=>
 (B6 a0 v1 0).bind λv2=>
 some (v2.1,v2.2)
def aA(a0:u4):Option (b6 × Int):=
 (B6 a0 0 0).bind λv1=>
 some (v1.1,v1.2)
def M7(a0:b6)(a1:Int):Option (Int × Int):=
 (L9 a0 a1).bind λv1=>
 if (v1==0) then
  some (0,2)
 else
 some (v1,0)
def mh(a0:List Int)(a1:Int):Option Bool:=
 some ((decide (a1>=0))&&(decide (a1<(a0.length:Int))))
def nX(a0:List Int)(a1:Int):Option (Int × Int):=
 (mh a0 a1).bind λv1=>
 if (!v1) then
  some (0,5)
 else
 (ix a0 a1).bind λv2=>
 some (v2,0)
def U0(a0:a7)(a1:Int)(a2:Int):Option (Int × Int):=
 (y4 a0 a1).bind λv1=>
 if (v1.2 != 0) then
  some (0,v1.2)
 else
 (nX v1.1.Fields a2).bind λv2=>
 some (v2.1,v2.2)
def aB(a0:u4):Option (b6 × Int):=
 (M7 a0.x a0.o.B).bind λv1=>
 if (v1.2 != 0) then
  some (a0.x,v1.2)
 else
 (U0 a0.x.S v1.1 a0.o.C).bind λv2=>
 (B6 a0 v2.1 v2.2).bind λv3=>
 some (v3.1,v3.2)
def xx(a0:List Int)(a1:Int)(a2:Int):Option ((List Int) × Int):=
 (mh a0 a1).bind λv1=>
 if (!v1) then
  some (a0,5)
 else
 (mk 8 (a0.length:Int) (0:Int)).bind λv2=>
 (ux v2 a0).bind λv3=>
 (ix v3 a1).bind λv4=>
 some ((v3.set (a1).toNat a2),0)
def oU(a0:a7)(a1:Int)(a2:Int)(a3:Int):Option (a7 × Int):=
 (y4 a0 a1).bind λv1=>
 if (v1.2 != 0) then
  some (a0,v1.2)
 else
 (xx v1.1.Fields a2 a3).bind λv2=>
 if (v2.2 != 0) then
  some (a0,v2.2)
 else
 (K7 a0 a1 (⟨v1.1.Serial,v1.1.Strong,v1.1.Weak,v1.1.Prog,v1.1.Started,v2.1⟩:p7)).bind λv3=>
 some (v3.1,v3.2)
def bo(a0:G6)(a1:b6):Option b6:=
 (oU a1.S a0.h a0.k a0.v).bind λv1=>
 some (⟨v1.1,a1.Roots,a1.a8,a1.T,a1.Q⟩:b6)
def I1(a0:b6)(a1:Int)(a2:Int)(a3:G6):Option b6:=
 (aJ a0 a2).bind λv1=>
 (bo a3 v1).bind λv2=>
 (C8 v2 a1).bind λv3=>
 some v3
def aI(a0:b6)(a1:Int)(a2:Int)(a3:Int):Option (b6 × Int):=
 (U0 a0.S a1 a2).bind λv1=>
 if (v1.2 != 0) then
  some (a0,v1.2)
 else
 (L6 a0 a3).bind λv2=>
 if (!v2) then
  some (a0,3)
 else
 (I1 a0 v1.1 a3 (⟨a1,a2,a3⟩:G6)).bind λv3=>
 some (v3,0)
def Y4(a0:u4):Option (b6 × Int):=
 (M7 a0.x a0.o.A).bind λv1=>
 if (v1.2 != 0) then
  some (a0.x,v1.2)
 else
 (L9 a0.x a0.o.C).bind λv2=>
 (aI a0.x v1.1 a0.o.B v2).bind λv3=>
 some (v3.1,v3.2)
def vn(a0:k8)(a1:Int):Option (k8 × Int):=
 some (a0,a1)
def hZ(a0:k8)(a1:Int):Option Bool:=
 jn (λ(_:Unit)=>
  some false) (λκ6=>
  (vn a0 2).bind λv8=>
  (lp (S:=Int) (E:=Bool ⊕ Unit) (λ(s10:Int)=>
   if (decide (s10<(v8.1.L.length:Int))) then
    (ix v8.1.L s10).bind λv12=>
    if ((v12.Kind==v8.2)==true) then
     if (v12.At==a1) then
      some (.inr (.inl true))
     else
     some (.inl (z8 (s10+1)))
    else
    some (.inl (z8 (s10+1)))
   else
   some (.inr (.inr ()))) 0).bind λe9=>
  match e9 with
  | .inl w=>some w
  | .inr w=>κ6 w)
def kB(a0:List k7)(a1:Int):Option Bool:=
 some ((decide (a1>=0))&&(decide (a1<(a0.length:Int))))
def aU(a0:List k7):Option (List k7):=
 (mk 24 (a0.length:Int) (⟨0,false,0⟩:k7)).bind λv1=>
 (ux v1 a0).bind λv2=>
 some v2
def sy(a0:List k7)(a1:Int)(a2:Int)(a3:Int):Option ((List k7) × Int × Int):=
 (kB a0 a1).bind λv1=>
 if (!v1) then
  some (a0,0,7)
 else
 (aU a0).bind λv2=>
 (ix v2 a1).bind λv3=>
 (ix a0 a1).bind λv4=>
 some ((v2.set (a1).toNat (⟨a2,(a2 != 0),a3⟩:k7)),v4.Target,0)
def cv(a0:b6)(a1:Int)(a2:Int):Option b6:=
 (u9 a0.S.S a1).bind λv1=>
 if (v1.2==0) then
  (ix a0.S.S.a8 v1.1).bind λv2=>
  (K7 a0.S a1 (⟨v2.Val.Serial,v2.Val.Strong,z8 (v2.Val.Weak+a2),v2.Val.Prog,v2.Val.Started,v2.Val.Fields⟩:p7)).bind λv3=>
  some (⟨v3.1,a0.Roots,a0.a8,a0.T,a0.Q⟩:b6)
 else
 some a0
def O8(a0:c5)(a1:Int):Option (c5 × Int):=
 (u9 a0 a1).bind λv1=>
 if (v1.2 != 0) then
  some (a0,v1.2)
 else
 (ix a0.a8 v1.1).bind λv2=>
 if (v2.Gen==a0.Last) then
  (C9 a0 v1.1 (⟨3,v2.Gen,⟨0,0,0,0,false,[]⟩⟩:b7)).bind λv3=>
  some (v3,0)
 else
 (C9 a0 v1.1 (⟨0,z8 (v2.Gen+1),⟨0,0,0,0,false,[]⟩⟩:b7)).bind λv4=>
 some (v4,0)
def eF(a0:b6)(a1:Int):Option b6:=
 (cv a0 a1 (-1)).bind λv1=>
 (u9 v1.S.S a1).bind λv2=>
 if (v2.2 != 0) then
  some v1
 else
 (ix v1.S.S.a8 v2.1).bind λv3=>
 if ((v3.State==2)&&(v3.Val.Weak==0)) then
  (O8 v1.S.S a1).bind λv4=>
  some (⟨⟨v4.1,v1.S.Serial⟩,v1.Roots,v1.a8,v1.T,v1.Q⟩:b6)
 else
 some v1
def W3(a0:b6)(a1:Int)(a2:Int)(a3:Int):Option (b6 × Int):=
 (z1 (((decide (a1<0))||(decide (a1>=(a0.a8.length:Int))))==false) false (hZ a0.Q a1)).bind λv1=>
 if (((decide (a1<0))||(decide (a1>=(a0.a8.length:Int))))||v1) then
  some (a0,7)
 else
 (L6 a0 a2).bind λv2=>
 if (!v2) then
  some (a0,3)
 else
 (sy a0.a8 a1 a2 a3).bind λv3=>
 (cv (⟨a0.S,a0.Roots,v3.1,a0.T,a0.Q⟩:b6) a2 1).bind λv4=>
 (eF v4 v3.2.1).bind λv5=>
 some (v5,0)
def V3(a0:u4):Option (b6 × Int):=
 if (a0.o.B==(-1)) then
  (W3 a0.x a0.o.A 0 a0.o.C).bind λv1=>
  some (v1.1,v1.2)
 else
 (M7 a0.x a0.o.B).bind λv2=>
 if (v2.2 != 0) then
  some (a0.x,v2.2)
 else
 (W3 a0.x a0.o.A v2.1 a0.o.C).bind λv3=>
 some (v3.1,v3.2)
def kz(a0:List k7)(a1:Int):Option (Int × Int):=
 (kB a0 a1).bind λv1=>
 if (!v1) then
  some (0,7)
 else
 (ix a0 a1).bind λv2=>
 if ((v2.Target==0)||(!v2.Intact)) then
  some (0,9)
 else
 some (v2.Target,0)
def Z5(a0:u4):Option (b6 × Int):=
 (kz a0.x.a8 a0.o.B).bind λv1=>
 (B6 a0 v1.1 v1.2).bind λv2=>
 some (v2.1,v2.2)
def gh(a0:Int)(a1:Int):Option (Int × Int):=
 some (a0,a1)
def ba(a0:Int)(a1:Int):Option Int:=
 if (decide (a0<1)) then
  some 0
 else
 (rem (z8 ((z8 (5*a1))+1)) a0).bind λv1=>
 if (decide (v1<0)) then
  some (z8 (v1+a0))
 else
 some v1
def aa(a0:List b8)(a1:Int):Option Int:=
 jn (λ(_:Unit)=>
  some (-1)) (λκ8=>
  (gh (a0.length:Int) a1).bind λv10=>
  (lp (S:=Int) (E:=Int ⊕ Unit) (λ(s12:Int)=>
   if (decide (s12<v10.1)) then
    (ba v10.1 v10.2).bind λv14=>
    (rem (z8 (v14+s12)) v10.1).bind λv15=>
    (ix a0 v15).bind λv16=>
    if (v16.State==0) then
     some (.inr (.inr ()))
    else
    if ((v16.State==1)&&(v16.Key==a1)) then
     some (.inr (.inl v15))
    else
    some (.inl (z8 (s12+1)))
   else
   some (.inr (.inr ()))) 0).bind λe11=>
  match e11 with
  | .inl w=>some w
  | .inr w=>κ8 w)
def M5(a0:List b8)(a1:Int):Option (Int × Int):=
 (aa a0 a1).bind λv1=>
 if (decide (v1<0)) then
  some (0,9)
 else
 (ix a0 v1).bind λv2=>
 some (v2.Val,0)
def E0(a0:List b8):Option (List b8):=
 app 24 [] a0
def cr(a0:List b8)(a1:Int)(a2:b8):Option (List b8):=
 (E0 a0).bind λv1=>
 (ix v1 a1).bind λv2=>
 some (v1.set (a1).toNat a2)
def Z9(a0:List b8)(a1:Int):Option ((List b8) × Int × Int):=
 (aa a0 a1).bind λv1=>
 if (decide (v1<0)) then
  some (a0,0,9)
 else
 (cr a0 v1 (⟨2,0,0⟩:b8)).bind λv2=>
 (ix a0 v1).bind λv3=>
 some (v2,v3.Val,0)
def gG(a0:List b8)(a1:Int)(a2:Int):Option ((List b8) × Int):=
 (aa a0 a1).bind λv1=>
 if (decide (v1>=0)) then
  (cr a0 v1 (⟨1,a1,a2⟩:b8)).bind λv2=>
  some (v2,0)
 else
 jn (λ(_:Unit)=>
  some (a0,8)) (λκ11=>
  (gh (a0.length:Int) a1).bind λv13=>
  (lp (S:=Int) (E:=((List b8) × Int) ⊕ Unit) (λ(s15:Int)=>
   if (decide (s15<v13.1)) then
    (ba v13.1 v13.2).bind λv17=>
    (rem (z8 (v17+s15)) v13.1).bind λv18=>
    (ix a0 v18).bind λv19=>
    if (v19.State != 1) then
     (cr a0 v18 (⟨1,a1,a2⟩:b8)).bind λv20=>
     some (.inr (.inl (v20,0)))
    else
    some (.inl (z8 (s15+1)))
   else
   some (.inr (.inr ()))) 0).bind λe14=>
  match e14 with
  | .inl w=>some w
  | .inr w=>κ11 w)
def P8(a0:List b8)(a1:Int)(a2:Int):Option ((List b8) × Int × Int):=
 if (a1==0) then
  some (a0,0,2)
 else
 (M5 a0 a1).bind λv1=>
 if (a2==0) then
  (Z9 a0 a1).bind λv2=>
  some (v2.1,v1.1,0)
 else
 (gG a0 a1 a2).bind λv3=>
 if (v3.2 != 0) then
  some (a0,0,v3.2)
 else
 some (v3.1,v1.1,0)
def Y2(a0:H9)(a1:b6):Option b6:=
 some (⟨a1.S,a1.Roots,a1.a8,a0.t,a1.Q⟩:b6)
def J4(a0:b6)(a1:Int)(a2:Int)(a3:H9):Option b6:=
 (aJ a0 a2).bind λv1=>
 (Y2 a3 v1).bind λv2=>
 (C8 v2 a1).bind λv3=>
 some v3
def cu(a0:b6)(a1:Int)(a2:Int):Option (b6 × Int):=
 if (a1==0) then
  some (a0,2)
 else
 (L6 a0 a1).bind λv1=>
 (z1 ((!v1)==false) false (L6 a0 a2)).bind λv2=>
 if ((!v1)||(!v2)) then
  some (a0,3)
 else
 (P8 a0.T a1 a2).bind λv3=>
 if (v3.2.2 != 0) then
  some (a0,v3.2.2)
 else
 (J4 a0 v3.2.1 a2 (⟨v3.1⟩:H9)).bind λv4=>
 some (v4,0)
def aC(a0:u4):Option (b6 × Int):=
 (M7 a0.x a0.o.A).bind λv1=>
 if (v1.2 != 0) then
  some (a0.x,v1.2)
 else
 (L9 a0.x a0.o.B).bind λv2=>
 (cu a0.x v1.1 v2).bind λv3=>
 some (v3.1,v3.2)
def sK(a0:List b8)(a1:Int):Option (Int × Int):=
 (M5 a0 a1).bind λv1=>
 some (v1.1,v1.2)
def bc(a0:u4):Option (b6 × Int):=
 (M7 a0.x a0.o.B).bind λv1=>
 if (v1.2 != 0) then
  some (a0.x,v1.2)
 else
 (sK a0.x.T v1.1).bind λv2=>
 (B6 a0 v2.1 v2.2).bind λv3=>
 some (v3.1,v3.2)
def Q7(a0:u4):Option (b6 × Int):=
 some (a0.x,0)
def uU(f:Fv)(a0:u4):Option (b6 × Int):=
 if f=some 97 then V2 a0 else
 if f=some 98 then I4 a0 else
 if f=some 99 then aA a0 else
 if f=some 100 then aB a0 else
 if f=some 101 then Y4 a0 else
 if f=some 102 then V3 a0 else
 if f=some 103 then Z5 a0 else
 if f=some 104 then aC a0 else
 if f=some 105 then bc a0 else
 if f=some 106 then Q7 a0 else
 none
def cH(a0:b6):Option (List Int):=
 jn (λ(j16:List Int)=>
  some j16) (λκ15=>
  (E1 a0.S).bind λv17=>
  (lp (S:=Int × (List Int)) (E:=(List Int)) (λ((s19,s20):Int × (List Int))=>
   if (decide (s19<(v17.length:Int))) then
    jn (λ(j27:List Int)=>
     some (.inl (z8 (s19+1),j27))) (λκ26=>
     (ix v17 s19).bind λv28=>
     (y4 a0.S v28).bind λv29=>
     if (v29.1.Strong==0) then
      (app 8 s20 [v28]).bind λv30=>
      κ26 v30
     else
     κ26 s20)
   else
   some (.inr s20)) (0,[])).bind λe18=>
  κ15 e18)
def M8(a0:p7):Option Bool:=
 some ((decide (a0.Prog>=0))&&(!a0.Started))
def I9(a0:k8):Option Int:=
 some (a0.L.length:Int)
def F6(a0:List o0)(a1:Int)(a2:Int):Option (List o0):=
 (cut a0 a1 a2).bind λv1=>
 some v1
def T5(a0:k8)(a1:o0):Option (k8 × Int):=
 (I9 a0).bind λv1=>
 if (decide (v1>=a0.Cap)) then
  some (a0,4)
 else
 (F6 a0.L 0 v1).bind λv2=>
 (app 24 v2 [a1]).bind λv3=>
 some ((⟨v3,a0.Cap⟩:k8),0)
def nV(a0:k8)(a1:o0):Option (k8 × Int):=
 (T5 a0 a1).bind λv1=>
 some (v1.1,v1.2)
def U8(a0:b6)(a1:Int):Option b6:=
 (y4 a0.S a1).bind λv1=>
 (z1 ((v1.2 != 0)==false) false (M8 v1.1)).bind λv2=>
 if ((v1.2 != 0)||(!v2)) then
  some a0
 else
 (K7 a0.S a1 (⟨v1.1.Serial,v1.1.Strong,v1.1.Weak,v1.1.Prog,true,v1.1.Fields⟩:p7)).bind λv3=>
 (nV a0.Q (⟨1,a1,v1.1.Prog⟩:o0)).bind λv4=>
 (aJ (⟨v3.1,a0.Roots,a0.a8,a0.T,v4.1⟩:b6) a1).bind λv5=>
 some v5
def X4(a0:b6)(a1:List Int):Option (List Int):=
 jn (λ(j18:List Int)=>
  some j18) (λκ17=>
  (lp (S:=Int × (List (Int × Bool)) × (List Int)) (E:=(List Int)) (λ((s20,s21,s22):Int × (List (Int × Bool)) × (List Int))=>
   if (decide (s20<(a1.length:Int))) then
    jn (λ((j29,j30):(List Int) × (List (Int × Bool)))=>
     some (.inl (z8 (s20+1),j30,j29))) (λκ28=>
     (ix a1 s20).bind λv32=>
     (y4 a0.S v32).bind λv33=>
     if ((v33.2==0)==true) then
      if (!((z6 s21 v32).getD (false:Bool))) then
       (app 8 s22 [v32]).bind λv34=>
       κ28 (v34,(o5 s21 v32 true))
      else
      κ28 (s22,s21)
     else
     κ28 (s22,s21))
   else
   some (.inr s22)) (0,[],[])).bind λe19=>
  κ17 e19)
def T9(a0:List Int)(a1:Int):Option Int:=
 jn (λ(_:Unit)=>
  some (-1)) (λκ5=>
  (lp (S:=Int) (E:=Int ⊕ Unit) (λ(s8:Int)=>
   if (decide (s8<(a0.length:Int))) then
    (ix a0 s8).bind λv10=>
    if (a1==v10) then
     some (.inr (.inl s8))
    else
    some (.inl (z8 (s8+1)))
   else
   some (.inr (.inr ()))) 0).bind λe7=>
  match e7 with
  | .inl w=>some w
  | .inr w=>κ5 w)
def F1(a0:List Int)(a1:Int):Option Bool:=
 (T9 a0 a1).bind λv1=>
 some (decide (v1>=0))
def bl(a0:k7)(a1:List Int):Option Bool:=
 (z1 ((a0.Intact&&(a0.Target != 0))==true) false (F1 a1 a0.Target)).bind λv1=>
 some ((a0.Intact&&(a0.Target != 0))&&v1)
def J8(a0:List k7)(a1:List Int):Option (List Int):=
 jn (λ(j15:List Int)=>
  some j15) (λκ14=>
  (lp (S:=Int × (List Int)) (E:=(List Int)) (λ((s17,s18):Int × (List Int))=>
   if (decide (s17<(a0.length:Int))) then
    jn (λ(j25:List Int)=>
     some (.inl (z8 (s17+1),j25))) (λκ24=>
     (ix a0 s17).bind λv26=>
     (bl v26 a1).bind λv27=>
     if v27 then
      (app 8 s18 [s17]).bind λv28=>
      κ24 v28
     else
     κ24 s18)
   else
   some (.inr s18)) (0,[])).bind λe16=>
  κ14 e16)
def ic(a0:List k7)(a1:List Int):Option ((List k7) × (List Int)):=
 (J8 a0 a1).bind λv1=>
 (aU a0).bind λv2=>
 jn (λ((j22,j23):(List Int) × (List k7))=>
  some (j23,j22)) (λκ21=>
  (lp (S:=Int × (List k7) × (List Int)) (E:=((List Int) × (List k7))) (λ((s26,s27,s28):Int × (List k7) × (List Int))=>
   if (decide (s26<(v1.length:Int))) then
    jn (λ((j36,j37):(List Int) × (List k7))=>
     some (.inl (z8 (s26+1),j37,j36))) (λκ35=>
     (ix v1 s26).bind λv39=>
     (ix s27 v39).bind λv40=>
     (ix (s27.set (v39).toNat (⟨v40.Target,false,v40.Call⟩:k7)) v39).bind λv41=>
     if (decide (v41.Call>=0)) then
      (app 8 s28 [v39]).bind λv42=>
      κ35 (v42,(s27.set (v39).toNat (⟨v40.Target,false,v40.Call⟩:k7)))
     else
     κ35 (s28,(s27.set (v39).toNat (⟨v40.Target,false,v40.Call⟩:k7))))
   else
   some (.inr (s28,s27))) (0,v2,[])).bind λe25=>
  κ21 e25)
def dy(a0:b6)(a1:List Int):Option b6:=
 (ic a0.a8 a1).bind λv1=>
 jn (λ(j11:k8)=>
  some (⟨a0.S,a0.Roots,v1.1,a0.T,j11⟩:b6)) (λκ10=>
  (lp (S:=Int × k8) (E:=k8) (λ((s13,s14):Int × k8)=>
   if (decide (s13<(v1.2.length:Int))) then
    (ix v1.2 s13).bind λv17=>
    (ix v1.1 v17).bind λv18=>
    (nV s14 (⟨2,v17,v18.Call⟩:o0)).bind λv19=>
    some (.inl (z8 (s13+1),v19.1))
   else
   some (.inr s14)) (0,a0.Q)).bind λe12=>
  κ10 e12)
def oY(a0:List Int):Option (List Int):=
 some a0
def gq(a0:List Int):Option (List Int):=
 jn (λ(j10:List Int)=>
  some j10) (λκ9=>
  (oY a0).bind λv11=>
  (lp (S:=Int × (List Int)) (E:=(List Int)) (λ((s13,s14):Int × (List Int))=>
   if (decide (s13<(v11.length:Int))) then
    (ix v11 s13).bind λv17=>
    if ((v17 != 0)==true) then
     (app 8 s14 [v17]).bind λv18=>
     some (.inl (z8 (s13+1),v18))
    else
    some (.inl (z8 (s13+1),s14))
   else
   some (.inr s14)) (0,[])).bind λe12=>
  κ9 e12)
def Z8(a0:List b8)(a1:List Int):Option ((List b8) × (List Int)):=
 jn (λ((j18,j19):(List b8) × (List Int))=>
  some (j18,j19)) (λκ17=>
  (lp (S:=(List b8) × Int × (List Int)) (E:=((List b8) × (List Int))) (λ((s22,s23,s24):(List b8) × Int × (List Int))=>
   if (decide (s23<(a1.length:Int))) then
    jn (λ((j31,j32):(List b8) × (List Int))=>
     some (.inl (j31,z8 (s23+1),j32))) (λκ30=>
     (ix a1 s23).bind λv34=>
     (Z9 s22 v34).bind λv35=>
     if (v35.2.2==0) then
      (app 8 s24 [v35.2.1]).bind λv36=>
      κ30 (v35.1,v36)
     else
     κ30 (s22,s24))
   else
   some (.inr (s22,s24))) (a0,0,[])).bind λe21=>
  κ17 e21)
def V4(a0:c5)(a1:Int):Option (c5 × Int):=
 (C5 a0 a1).bind λv1=>
 if (v1.2 != 0) then
  some (a0,v1.2)
 else
 (eW a1).bind λv2=>
 (gD a1).bind λv3=>
 (C9 a0 v2 (⟨2,v3,v1.1⟩:b7)).bind λv4=>
 some (v4,0)
def af(a0:b6)(a1:Int):Option b6:=
 (y4 a0.S a1).bind λv1=>
 (K7 a0.S a1 (⟨v1.1.Serial,0,v1.1.Weak,v1.1.Prog,v1.1.Started,[]⟩:p7)).bind λv2=>
 (V4 v2.1.S a1).bind λv3=>
 if (v1.1.Weak==0) then
  (O8 v3.1 a1).bind λv4=>
  some (⟨⟨v4.1,v2.1.Serial⟩,a0.Roots,a0.a8,a0.T,a0.Q⟩:b6)
 else
 some (⟨⟨v3.1,v2.1.Serial⟩,a0.Roots,a0.a8,a0.T,a0.Q⟩:b6)
def aQ(a0:b6)(a1:List Int):Option b6:=
 (X4 a0 a1).bind λv1=>
 (dy a0 v1).bind λv2=>
 jn (λ(j13:List Int)=>
  (Z8 v2.T v1).bind λv14=>
  (app 8 j13 v14.2).bind λv15=>
  jn (λ(j24:b6)=>
   jn (λ(j33:b6)=>
    some j33) (λκ32=>
    (lp (S:=Int × b6) (E:=b6) (λ((s35,s36):Int × b6)=>
     if (decide (s35<(v15.length:Int))) then
      (ix v15 s35).bind λv39=>
      (C8 s36 v39).bind λv40=>
      some (.inl (z8 (s35+1),v40))
     else
     some (.inr s36)) (0,j24)).bind λe34=>
    κ32 e34)) (λκ23=>
   (lp (S:=Int × b6) (E:=b6) (λ((s42,s43):Int × b6)=>
    if (decide (s42<(v1.length:Int))) then
     (ix v1 s42).bind λv46=>
     (af s43 v46).bind λv47=>
     some (.inl (z8 (s42+1),v47))
    else
    some (.inr s43)) (0,(⟨v2.S,v2.Roots,v2.a8,v14.1,v2.Q⟩:b6))).bind λe41=>
   κ23 e41)) (λκ12=>
  (lp (S:=Int × (List Int)) (E:=(List Int)) (λ((s49,s50):Int × (List Int))=>
   if (decide (s49<(v1.length:Int))) then
    (ix v1 s49).bind λv53=>
    (y4 v2.S v53).bind λv54=>
    (gq v54.1.Fields).bind λv55=>
    (app 8 s50 v55).bind λv56=>
    some (.inl (z8 (s49+1),v56))
   else
   some (.inr s50)) (0,[])).bind λe48=>
  κ12 e48)
def P7(a0:b6):Option b6:=
 (lp (S:=b6) (E:=b6) (λ(s2:b6)=>
  (cH s2).bind λv4=>
  if ((v4.length:Int)==0) then
   some (.inr s2)
  else
  (ix v4 0).bind λv5=>
  (y4 s2.S v5).bind λv6=>
  (M8 v6.1).bind λv7=>
  if v7 then
   (U8 s2 v5).bind λv8=>
   some (.inl v8)
  else
  (cut v4 0 1).bind λv9=>
  (aQ s2 v9).bind λv10=>
  some (.inl v10)) a0).bind λe1=>
 some e1
def W7(a0:b6)(a1:b6)(a2:c9):Option Int:=
 if (a2.Kind==5) then
  (aK a0 a2.C).bind λv1=>
  some v1
 else
 jn (λ(j3:Bool)=>
  if j3 then
   (aK a0 a2.B).bind λv4=>
   some v4
  else
  if (a2.Kind==10) then
   (L9 a0 a2.A).bind λv5=>
   (L9 a0 a2.B).bind λv6=>
   if (v5==v6) then
    some 1
   else
   some 0
  else
  (aK a1 a2.A).bind λv7=>
  some v7) (λκ2=>
  if (a2.Kind==6) then
   κ2 (a2.Kind==6)
  else
  κ2 (a2.Kind==8))
def x8(a0:b6)(a1:c9):Option (b6 × Int × Int):=
 (U4 a1).bind λv1=>
 if (v1 != 0) then
  some (a0,0,v1)
 else
 (eH).bind λv2=>
 if (!((z6 v2 a1.Kind).isSome)) then
  some (a0,0,14)
 else
 (uU ((z6 v2 a1.Kind).getD (none:Fv)) (⟨a0,a1⟩:u4)).bind λv3=>
 if (v3.2 != 0) then
  some (a0,0,v3.2)
 else
 (P7 v3.1).bind λv5=>
 (W7 v3.1 v5 a1).bind λv6=>
 some (v5,v6,0)
def lP(a0:a7):Option a7:=
 some a0
def jZ(a0:a7)(a1:Int):Option (List Int):=
 (y4 a0 a1).bind λv1=>
 (gq v1.1.Fields).bind λv2=>
 some v2
def vk(a0:a7)(a1:Int):Option Int:=
 jn (λ(j31:Int)=>
  some j31) (λκ30=>
  (lP a0).bind λv32=>
  (E1 v32).bind λv33=>
  (lp (S:=Int × Int) (E:=Int) (λ((s35,s36):Int × Int)=>
   if (decide (s35<(v33.length:Int))) then
    jn (λ(j50:Int)=>
     some (.inl (z8 (s35+1),j50))) (λκ49=>
     (ix v33 s35).bind λv51=>
     (jZ v32 v51).bind λv52=>
     (lp (S:=Int × Int) (E:=Int) (λ((s54,s55):Int × Int)=>
      if (decide (s54<(v52.length:Int))) then
       (ix v52 s54).bind λv58=>
       jn (λ(j60:Int)=>
        some (.inl (z8 (s54+1),j60))) (λκ59=>
        if (v58==a1) then
         κ59 (z8 (s55+1))
        else
        κ59 s55)
      else
      some (.inr s55)) (0,s36)).bind λe53=>
     κ49 e53)
   else
   some (.inr s36)) (0,0)).bind λe34=>
  κ30 e34)
def cm(a0:List b8):Option (List b8):=
 some a0
def jF(a0:List b8):Option (List Int):=
 jn (λ(j13:List Int)=>
  some j13) (λκ12=>
  (lp (S:=Int × (List Int)) (E:=(List Int)) (λ((s15,s16):Int × (List Int))=>
   if (decide (s15<(a0.length:Int))) then
    jn (λ(j22:List Int)=>
     some (.inl (z8 (s15+1),j22))) (λκ21=>
     (ix a0 s15).bind λv23=>
     if (v23.State==1) then
      (app 8 s16 [v23.Key]).bind λv24=>
      κ21 v24
     else
     κ21 s16)
   else
   some (.inr s16)) (0,[])).bind λe14=>
  κ12 e14)
def eC(a0:r9)(a1:Int):Option Bool:=
 some ((a1 != 0)&&(a0.Val==a1))
def B2(a0:List b8)(a1:Int):Option (List r9):=
 jn (λ(j16:List r9)=>
  some j16) (λκ15=>
  (jF a0).bind λv17=>
  (lp (S:=Int × (List r9)) (E:=(List r9)) (λ((s19,s20):Int × (List r9))=>
   if (decide (s19<(v17.length:Int))) then
    (ix v17 s19).bind λv23=>
    (M5 a0 v23).bind λv24=>
    jn (λ(j28:List r9)=>
     some (.inl (z8 (s19+1),j28))) (λκ27=>
     (eC (⟨v23,v24.1⟩:r9) a1).bind λv29=>
     if v29 then
      (app 16 s20 [(⟨v23,v24.1⟩:r9)]).bind λv30=>
      κ27 v30
     else
     κ27 s20)
   else
   some (.inr s20)) (0,[])).bind λe18=>
  κ15 e18)
def iG(a0:List b8)(a1:Int):Option Int:=
 (cm a0).bind λv1=>
 (B2 v1 a1).bind λv2=>
 some (v2.length:Int)
def iY(a0:a7)(a1:List b8)(a2:Int):Option Int:=
 (vk a0 a2).bind λv1=>
 (iG a1 a2).bind λv2=>
 some (z8 (v1+v2))
def mf(a0:a7)(a1:List b8)(a2:Int):Option Int:=
 (y4 a0 a2).bind λv1=>
 if (v1.2 != 0) then
  some 0
 else
 (iY a0 a1 a2).bind λv2=>
 some (z8 (v1.1.Strong-v2))
def mZ(a0:Int):Option Bool:=
 (G1 a0).bind λv1=>
 some v1
def mb(a0:Int)(a1:p7)(a2:a7)(a3:List b8):Option Bool:=
 (mf a2 a3 a0).bind λv1=>
 (z1 ((decide (v1 > 0))==false) false (mZ a1.Strong)).bind λv2=>
 some ((decide (v1 > 0))||v2)
def ma(a0:a7)(a1:List b8):Option (List Int):=
 jn (λ(j36:List Int)=>
  some j36) (λκ35=>
  jn (λ(j54:List Int)=>
   κ35 j54) (λκ53=>
   (E1 a0).bind λv55=>
   (lp (S:=Int × (List Int)) (E:=(List Int)) (λ((s57,s58):Int × (List Int))=>
    if (decide (s57<(v55.length:Int))) then
     jn (λ(j66:List Int)=>
      some (.inl (z8 (s57+1),j66))) (λκ65=>
      (ix v55 s57).bind λv67=>
      (y4 a0 v67).bind λv68=>
      (mb v67 v68.1 a0 a1).bind λv69=>
      if v69 then
       (app 8 s58 [v67]).bind λv70=>
       κ65 v70
      else
      κ65 s58)
    else
    some (.inr s58)) (0,[])).bind λe56=>
   κ53 e56))
def eK(a0:Int):Option l7:=
 some (⟨[],a0⟩:l7)
def bg(a0:a7)(a1:Int):Option Bool:=
 (y4 a0 a1).bind λv1=>
 some (v1.2==0)
def M0(a0:l7):Option Int:=
 some (a0.L.length:Int)
def Q9(a0:List Int)(a1:Int)(a2:Int):Option (List Int):=
 (cut a0 a1 a2).bind λv1=>
 some v1
def Q8(a0:l7)(a1:Int):Option (l7 × Int):=
 (M0 a0).bind λv1=>
 if (decide (v1>=a0.Cap)) then
  some (a0,4)
 else
 (Q9 a0.L 0 v1).bind λv2=>
 (app 8 v2 [a1]).bind λv3=>
 some ((⟨v3,a0.Cap⟩:l7),0)
def fC(a0:l7)(a1:Int):Option (l7 × (List Int)):=
 (M0 a0).bind λv1=>
 (Q9 a0.L 0 (if (if v1<a1 then v1 else a1) > 0 then (if v1<a1 then v1 else a1) else 0)).bind λv2=>
 (Q9 a0.L (if (if v1<a1 then v1 else a1) > 0 then (if v1<a1 then v1 else a1) else 0) v1).bind λv3=>
 some ((⟨v3,a0.Cap⟩:l7),v2)
def bD(a0:l7):Option (l7 × Int × Int):=
 (fC a0 1).bind λv1=>
 if ((v1.2.length:Int)==0) then
  some (a0,0,10)
 else
 (ix v1.2 0).bind λv2=>
 some (v1.1,v2,0)
def dv(a0:a7)(a1:List Int):Option (List (Int × Bool)):=
 (E1 a0).bind λv1=>
 (eK (v1.length:Int)).bind λv2=>
 jn (λ((j20,j21):l7 × (List (Int × Bool)))=>
  jn (λ(j68:List (Int × Bool))=>
   some j68) (λκ67=>
   (lp (S:=l7 × (List (Int × Bool))) (E:=(List (Int × Bool))) (λ((s70,s71):l7 × (List (Int × Bool)))=>
    (M0 s70).bind λv74=>
    if (decide (v74 > 0)) then
     (bD s70).bind λv75=>
     (jZ a0 v75.2.1).bind λv76=>
     jn (λ((j94,j95):l7 × (List (Int × Bool)))=>
      some (.inl (j94,j95))) (λκ93=>
      (lp (S:=Int × l7 × (List (Int × Bool))) (E:=(l7 × (List (Int × Bool)))) (λ((s98,s99,s100):Int × l7 × (List (Int × Bool)))=>
       if (decide (s98<(v76.length:Int))) then
        jn (λ((j107,j108):l7 × (List (Int × Bool)))=>
         some (.inl (z8 (s98+1),j107,j108))) (λκ106=>
         (ix v76 s98).bind λv110=>
         (bg a0 v110).bind λv111=>
         if (v111==true) then
          if (!((z6 s100 v110).getD (false:Bool))) then
           (Q8 s99 v110).bind λv112=>
           κ106 (v112.1,(o5 s100 v110 true))
          else
          κ106 (s99,s100)
         else
         κ106 (s99,s100))
       else
       some (.inr (s99,s100))) (0,v75.1,s71)).bind λe97=>
      κ93 e97)
    else
    some (.inr s71)) (j20,j21)).bind λe69=>
   κ67 e69)) (λκ19=>
  (lp (S:=Int × l7 × (List (Int × Bool))) (E:=(l7 × (List (Int × Bool)))) (λ((s114,s115,s116):Int × l7 × (List (Int × Bool)))=>
   if (decide (s114<(a1.length:Int))) then
    jn (λ((j123,j124):l7 × (List (Int × Bool)))=>
     some (.inl (z8 (s114+1),j123,j124))) (λκ122=>
     (ix a1 s114).bind λv126=>
     (bg a0 v126).bind λv127=>
     if (v127==true) then
      if (!((z6 s116 v126).getD (false:Bool))) then
       (Q8 s115 v126).bind λv128=>
       κ122 (v128.1,(o5 s116 v126 true))
      else
      κ122 (s115,s116)
     else
     κ122 (s115,s116))
   else
   some (.inr (s115,s116))) (0,v2,[])).bind λe113=>
  κ19 e113)
def fV(a0:Int)(a1:List (Int × Bool)):Option Bool:=
 some ((z6 a1 a0).getD (false:Bool))
def U6(a0:a7)(a1:List (Int × Bool)):Option (List Int):=
 jn (λ(j16:List Int)=>
  some j16) (λκ15=>
  (E1 a0).bind λv17=>
  (lp (S:=Int × (List Int)) (E:=(List Int)) (λ((s19,s20):Int × (List Int))=>
   if (decide (s19<(v17.length:Int))) then
    jn (λ(j27:List Int)=>
     some (.inl (z8 (s19+1),j27))) (λκ26=>
     (ix v17 s19).bind λv28=>
     (fV v28 a1).bind λv29=>
     if v29 then
      (app 8 s20 [v28]).bind λv30=>
      κ26 v30
     else
     κ26 s20)
   else
   some (.inr s20)) (0,[])).bind λe18=>
  κ15 e18)
def gT(a0:a7)(a1:List Int):Option (List Int):=
 (dv a0 a1).bind λv1=>
 (U6 a0 v1).bind λv2=>
 some v2
def eD(a0:r9):Option Bool:=
 some true
def B3(a0:List b8):Option (List r9):=
 jn (λ(j16:List r9)=>
  some j16) (λκ15=>
  (jF a0).bind λv17=>
  (lp (S:=Int × (List r9)) (E:=(List r9)) (λ((s19,s20):Int × (List r9))=>
   if (decide (s19<(v17.length:Int))) then
    (ix v17 s19).bind λv23=>
    (M5 a0 v23).bind λv24=>
    jn (λ(j28:List r9)=>
     some (.inl (z8 (s19+1),j28))) (λκ27=>
     (eD (⟨v23,v24.1⟩:r9)).bind λv29=>
     if v29 then
      (app 16 s20 [(⟨v23,v24.1⟩:r9)]).bind λv30=>
      κ27 v30
     else
     κ27 s20)
   else
   some (.inr s20)) (0,[])).bind λe18=>
  κ15 e18)
def iH(a0:List b8):Option (List r9):=
 (cm a0).bind λv1=>
 (B3 v1).bind λv2=>
 some v2
def gz(a0:Int)(a1:a7):Option Bool:=
 (y4 a1 a0).bind λv1=>
 some (v1.2==0)
def qR(a0:a7)(a1:List b8)(a2:List Int):Option (List Int):=
 jn (λ(j20:List Int)=>
  some j20) (λκ19=>
  (iH a1).bind λv21=>
  (lp (S:=Int × (List Int)) (E:=(List Int)) (λ((s23,s24):Int × (List Int))=>
   if (decide (s23<(v21.length:Int))) then
    jn (λ(j33:List Int)=>
     some (.inl (z8 (s23+1),j33))) (λκ32=>
     (ix v21 s23).bind λv34=>
     (F1 a2 v34.Key).bind λv35=>
     (z1 (v35==true) false (gz v34.Key a0)).bind λv36=>
     (z1 ((v35&&v36)==true) false (gz v34.Val a0)).bind λv37=>
     if ((v35&&v36)&&v37) then
      (app 8 s24 [v34.Val]).bind λv38=>
      κ32 v38
     else
     κ32 s24)
   else
   some (.inr s24)) (0,[])).bind λe22=>
  κ19 e22)
def ow(a0:a7)(a1:List b8)(a2:List Int):Option ((List Int) × Int):=
 (gT a0 a2).bind λv1=>
 (lp (S:=(List Int) × Int) (E:=((List Int) × Int)) (λ((s3,s4):(List Int) × Int)=>
  (qR a0 a1 s3).bind λv7=>
  jn (λ(_:Unit)=>
   some (.inr (s3,s4))) (λκ15=>
   (lp (S:=Int) (E:=((List Int) × Int) ⊕ Unit) (λ(s18:Int)=>
    if (decide (s18<(v7.length:Int))) then
     (ix v7 s18).bind λv20=>
     (F1 s3 v20).bind λv21=>
     if (!v21) then
      (app 8 v7 s3).bind λv22=>
      (gT a0 v22).bind λv23=>
      some (.inr (.inl (v23,z8 (s4+1))))
     else
     some (.inl (z8 (s18+1)))
    else
    some (.inr (.inr ()))) 0).bind λe17=>
   match e17 with
   | .inl w=>some (.inl w)
   | .inr w=>κ15 w)) (v1,0)).bind λe2=>
 some e2
def qQ(a0:a7)(a1:List b8)(a2:List Int):Option (List Int):=
 (ow a0 a1 a2).bind λv1=>
 some v1.1
def fW(a0:Int)(a1:List (Int × Bool)):Option Bool:=
 some (!((z6 a1 a0).getD (false:Bool)))
def U7(a0:a7)(a1:List (Int × Bool)):Option (List Int):=
 jn (λ(j16:List Int)=>
  some j16) (λκ15=>
  (E1 a0).bind λv17=>
  (lp (S:=Int × (List Int)) (E:=(List Int)) (λ((s19,s20):Int × (List Int))=>
   if (decide (s19<(v17.length:Int))) then
    jn (λ(j27:List Int)=>
     some (.inl (z8 (s19+1),j27))) (λκ26=>
     (ix v17 s19).bind λv28=>
     (fW v28 a1).bind λv29=>
     if v29 then
      (app 8 s20 [v28]).bind λv30=>
      κ26 v30
     else
     κ26 s20)
   else
   some (.inr s20)) (0,[])).bind λe18=>
  κ15 e18)
def lO(a0:a7)(a1:List Int):Option (List Int):=
 (dv a0 a1).bind λv1=>
 (U7 a0 v1).bind λv2=>
 some v2
def nf(a0:a7)(a1:List b8)(a2:List Int):Option (List Int):=
 (qQ a0 a1 a2).bind λv1=>
 (lO a0 v1).bind λv2=>
 some v2
def bG(a0:a7)(a1:List b8):Option (List Int):=
 (ma a0 a1).bind λv1=>
 (nf a0 a1 v1).bind λv2=>
 some v2
def S0(a0:b6):Option (List Int):=
 (bG a0.S a0.T).bind λv1=>
 some v1
def fu(a0:Int)(a1:b6):Option Bool:=
 (y4 a1.S a0).bind λv1=>
 some ((decide (v1.1.Prog>=0))&&(!v1.1.Started))
def H3(a0:List Int)(a1:b6):Option (List Int):=
 jn (λ(j15:List Int)=>
  some j15) (λκ14=>
  (lp (S:=Int × (List Int)) (E:=(List Int)) (λ((s17,s18):Int × (List Int))=>
   if (decide (s17<(a0.length:Int))) then
    jn (λ(j25:List Int)=>
     some (.inl (z8 (s17+1),j25))) (λκ24=>
     (ix a0 s17).bind λv26=>
     (fu v26 a1).bind λv27=>
     if v27 then
      (app 8 s18 [v26]).bind λv28=>
      κ24 v28
     else
     κ24 s18)
   else
   some (.inr s18)) (0,[])).bind λe16=>
  κ14 e16)
def ez(a0:b6):Option (List Int):=
 (S0 a0).bind λv1=>
 (H3 v1 a0).bind λv2=>
 some v2
def Z1(a0:b6):Option (b6 × Int × Int):=
 (ez a0).bind λv1=>
 jn (λ(j10:b6)=>
  if (decide ((v1.length:Int) > 0)) then
   some (j10,(v1.length:Int),0)
  else
  (S0 j10).bind λv11=>
  (aQ j10 v11).bind λv12=>
  (P7 v12).bind λv13=>
  (E1 j10.S).bind λv14=>
  (E1 v13.S).bind λv15=>
  some (v13,0,z8 ((v14.length:Int)-(v15.length:Int)))) (λκ9=>
  (lp (S:=Int × b6) (E:=b6) (λ((s17,s18):Int × b6)=>
   if (decide (s17<(v1.length:Int))) then
    (ix v1 s17).bind λv21=>
    (U8 s18 v21).bind λv22=>
    some (.inl (z8 (s17+1),v22))
   else
   some (.inr s18)) (0,a0)).bind λe16=>
  κ9 e16)
def ar(a0:k8)(a1:Int):Option (k8 × (List o0)):=
 (I9 a0).bind λv1=>
 (F6 a0.L 0 (if (if v1<a1 then v1 else a1) > 0 then (if v1<a1 then v1 else a1) else 0)).bind λv2=>
 (F6 a0.L (if (if v1<a1 then v1 else a1) > 0 then (if v1<a1 then v1 else a1) else 0) v1).bind λv3=>
 some ((⟨v3,a0.Cap⟩:k8),v2)
def bt(a0:k8):Option (k8 × o0 × Int):=
 (ar a0 1).bind λv1=>
 if ((v1.2.length:Int)==0) then
  some (a0,(⟨0,0,0⟩:o0),10)
 else
 (ix v1.2 0).bind λv2=>
 some (v1.1,v2,0)
def cI(a0:k8):Option (k8 × o0 × Int):=
 (bt a0).bind λv1=>
 some (v1.1,v1.2.1,v1.2.2)
def eT(a0:b6):Option Bool:=
 (cI a0.Q).bind λv1=>
 some (v1.2.2 != 0)
def gy(a0:List (List c9))(a1:Int):Option (List c9):=
 if ((decide (a1<0))||(decide (a1>=(a0.length:Int)))) then
  some []
 else
 (ix a0 a1).bind λv1=>
 some v1
def kY(a0:List (List c9))(a1:o0):Option Int:=
 (gy a0 a1.Prog).bind λv1=>
 some (z8 (1+(v1.length:Int)))
def eX(a0:b6)(a1:List c9):Option (b6 × (List Int)):=
 jn (λ((j11,j12):b6 × (List Int))=>
  some (j11,j12)) (λκ10=>
  (lp (S:=Int × b6 × (List Int)) (E:=(b6 × (List Int))) (λ((s15,s16,s17):Int × b6 × (List Int))=>
   if (decide (s15<(a1.length:Int))) then
    (ix a1 s15).bind λv20=>
    (x8 s16 v20).bind λv21=>
    (app 8 s17 [v21.2.1]).bind λv22=>
    some (.inl (z8 (s15+1),v21.1,v22))
   else
   some (.inr (s16,s17))) (0,a0,[])).bind λe14=>
  κ10 e14)
def kZ(a0:b6)(a1:List (List c9)):Option (b6 × o0 × Int):=
 (cI a0.Q).bind λv1=>
 if (v1.2.2 != 0) then
  some (a0,(⟨0,0,0⟩:o0),v1.2.2)
 else
 jn (λ(j6:b6)=>
  (gy a1 v1.2.1.Prog).bind λv7=>
  (eX j6 v7).bind λv8=>
  if (v1.2.1.Kind==1) then
   (bb v8.1 5 0).bind λv9=>
   (P7 v9.1).bind λv10=>
   some (v10,v1.2.1,0)
  else
  some (v8.1,v1.2.1,0)) (λκ5=>
  if (v1.2.1.Kind==1) then
   (bb (⟨a0.S,a0.Roots,a0.a8,a0.T,v1.1⟩:b6) 5 v1.2.1.At).bind λv11=>
   (C8 v11.1 v1.2.1.At).bind λv12=>
   (P7 v12).bind λv13=>
   κ5 v13
  else
  κ5 (⟨a0.S,a0.Roots,a0.a8,a0.T,v1.1⟩:b6))
def eR(a0:b6)(a1:List (List c9))(a2:Int):Option (b6 × Int × Int × Int):=
 jn (λ((j14,j15,j16):Int × Int × b6)=>
  (eT j16).bind λv18=>
  if (!v18) then
   some (j16,j14,j15,12)
  else
  some (j16,j14,j15,0)) (λκ13=>
  (lp (S:=Int × b6 × Int × Int × b6) (E:=(Int × Int × b6)) (λ((s20,s21,s22,s23,s24):Int × b6 × Int × Int × b6)=>
   (eT s21).bind λv27=>
   if (!v27) then
    (cI s21.Q).bind λv28=>
    (kY a1 v28.2.1).bind λv29=>
    if (decide (v29 > s20)) then
     some (.inr (s22,s23,s24))
    else
    (kZ s21 a1).bind λv30=>
    some (.inl (z8 (s20-v29),v30.1,z8 (s22+1),z8 (s20-v29),v30.1))
   else
   some (.inr (s22,s23,s24))) (a2,a0,0,a2,a0)).bind λe19=>
  κ13 e19)
def ot(a0:w9)(a1:List Int):Option (w9 × D3):=
 (X7 a1).bind λv1=>
 if (v1.2 != 0) then
  some (a0,(⟨0,v1.2⟩:D3))
 else
 (la v1.1).bind λv2=>
 if (decide (v2.t=99)) then
  (x8 a0.X (⟨(El v2 99 0),(El v2 99 1),(El v2 99 2),(El v2 99 3)⟩:c9)).bind λv3=>
  some ((⟨v3.1,a0.Progs⟩:w9),(⟨v3.2.1,v3.2.2⟩:D3))
 else
 if (decide (v2.t=103)) then
  (Z1 a0.X).bind λv4=>
  some ((⟨v4.1,a0.Progs⟩:w9),(⟨z8 (v4.2.2-v4.2.1),0⟩:D3))
 else
 if (decide (v2.t=107)) then
  (eR a0.X a0.Progs (El v2 107 0)).bind λv5=>
  some ((⟨v5.1,a0.Progs⟩:w9),(⟨v5.2.1,v5.2.2.2⟩:D3))
 else
 some (a0,(⟨0,0⟩:D3))
def fM(a0:D3):Option ByteArray:=
 if (a0.E != 0) then
  (B7 a0.E).bind λv1=>
  some v1
 else
 (nO a0.V).bind λv2=>
 some v2
def V1(a0:c4)(a1:Int)(a2:List Int):Option (c4 × ByteArray):=
 (mk 8 4 (0:Int)).bind λv1=>
 (ix v1 0).bind λv2=>
 (CG (v1.set (0:Int).toNat a1) 1 a2).bind λv3=>
 (ot a0.g v3).bind λv4=>
 (fM v4.2).bind λv5=>
 some ((⟨v4.1,a0.begun,a0.progs⟩:c4),v5)
def O5(a0:c4)(a1:List Int)(a2:Int):Option (c4 × ByteArray):=
 (V1 a0 a2 a1).bind λv1=>
 some (v1.1,v1.2)
def oB(f:Fw)(a0:c4)(a1:List Int):Option (c4 × ByteArray):=
 match f with
 | none=>none
 | some (n,none)=>
  if n=76 then N5 a0 a1 else
  if n=78 then M4 a0 a1 else
  if n=80 then K0 a0 a1 else
  if n=81 then K1 a0 a1 else
  if n=82 then R4 a0 a1 else
  none
 | some (n,some c)=>
  if n=138 then O5 a0 a1 c else
  none
def D0(a0:c4)(a1:List ByteArray):Option (c4 × ByteArray):=
 (dU).bind λv1=>
 (ix a1 0).bind λv2=>
 (cut a1 1 (a1.length:Int)).bind λv3=>
 (ay v3).bind λv4=>
 if (((!((z6 v1 v2).isSome))||(!v4.2))==false) then
  (oA (((z6 v1 v2).getD (⟨none,none,false⟩:c8)).takes) (v4.1.length:Int)).bind λv5=>
  if (!v5) then
   (B7 33).bind λv8=>
   some (a0,v8)
  else
  if ((!a0.begun)&&(!(((z6 v1 v2).getD (⟨none,none,false⟩:c8)).early))) then
   some (a0,(s6 [110,111,32,104,101,97,112]))
  else
  (oB (((z6 v1 v2).getD (⟨none,none,false⟩:c8)).run) a0 v4.1).bind λv9=>
  some (v9.1,v9.2)
 else
 (B7 33).bind λv12=>
 some (a0,v12)
def L5(a0:ByteArray):Option (List ByteArray):=
 jn (λ(j21:List ByteArray)=>
  some j21) (λκ20=>
  (tH a0 (s6 [10])).bind λv22=>
  (lp (S:=Int × c4 × (List ByteArray)) (E:=(List ByteArray)) (λ((s24,s25,s26):Int × c4 × (List ByteArray))=>
   if (decide (s24<(v22.length:Int))) then
    jn (λ((j34,j35):c4 × (List ByteArray))=>
     some (.inl (z8 (s24+1),j34,j35))) (λκ33=>
     (ix v22 s24).bind λv37=>
     (D4 v37).bind λv38=>
     if ((v38.length:Int)==0) then
      κ33 (s25,s26)
     else
     (D0 s25 v38).bind λv39=>
     (app 16 s26 [v39.2]).bind λv40=>
     κ33 (v39.1,v40))
   else
   some (.inr s26)) (0,(⟨⟨⟨⟨⟨[],0⟩,0⟩,[],[],[],⟨[],0⟩⟩,[]⟩,false,[]⟩:c4),[])).bind λe23=>
  κ20 e23)
def pa:Option Bool:=
 (L5 (s6 [108,105,118,101,115,10,112,114,111,103,32,48,32,50,32,50,32,53,32,48,10,104,101,97,112,32,51,32,53,32,56,10,110,101,119,32,48,32,49,32,48,10,115,116,111,114,101,32,48,32,48,32,48,10,10,119,101,97,107,32,49,32,48,32,45,49,10,32,100,114,111,112,32,48,32,10,99,111,108,108,101,99,116,10,100,114,97,105,110,32,57,10,114,111,111,116,115,10,108,105,118,101,115,10,100,114,111,112,32,50,10,99,111,108,108,101,99,116,10,116,97,108,108,121,10,117,112,32,48,32,49,10,104,101,97,112,32,48,32,48,32,48,10,112,114,111,103,32,54,10,110,101,119,32,48,10,102,108,121])).bind λv1=>
 (z1 (((v1.length:Int)==19)==true) (ByteArray.empty:ByteArray) (ix v1 0)).bind λv2=>
 (z1 ((((v1.length:Int)==19)&&(v2.toList==(s6 [110,111,32,104,101,97,112]).toList))==true) (ByteArray.empty:ByteArray) (ix v1 1)).bind λv3=>
 (z1 (((((v1.length:Int)==19)&&(v2.toList==(s6 [110,111,32,104,101,97,112]).toList))&&(v3.toList==(s6 [111,107]).toList))==true) (ByteArray.empty:ByteArray) (ix v1 2)).bind λv4=>
 (z1 ((((((v1.length:Int)==19)&&(v2.toList==(s6 [110,111,32,104,101,97,112]).toList))&&(v3.toList==(s6 [111,107]).toList))&&(v4.toList==(s6 [111,107]).toList))==true) (ByteArray.empty:ByteArray) (ix v1 3)).bind λv5=>
 (z1 (((((((v1.length:Int)==19)&&(v2.toList==(s6 [110,111,32,104,101,97,112]).toList))&&(v3.toList==(s6 [111,107]).toList))&&(v4.toList==(s6 [111,107]).toList))&&(v5.toList==(s6 [49]).toList))==true) (ByteArray.empty:ByteArray) (ix v1 4)).bind λv6=>
 (z1 ((((((((v1.length:Int)==19)&&(v2.toList==(s6 [110,111,32,104,101,97,112]).toList))&&(v3.toList==(s6 [111,107]).toList))&&(v4.toList==(s6 [111,107]).toList))&&(v5.toList==(s6 [49]).toList))&&(v6.toList==(s6 [49]).toList))==true) (ByteArray.empty:ByteArray) (ix v1 5)).bind λv7=>
 (z1 (((((((((v1.length:Int)==19)&&(v2.toList==(s6 [110,111,32,104,101,97,112]).toList))&&(v3.toList==(s6 [111,107]).toList))&&(v4.toList==(s6 [111,107]).toList))&&(v5.toList==(s6 [49]).toList))&&(v6.toList==(s6 [49]).toList))&&(v7.toList==(s6 [49]).toList))==true) (ByteArray.empty:ByteArray) (ix v1 6)).bind λv8=>
 (z1 ((((((((((v1.length:Int)==19)&&(v2.toList==(s6 [110,111,32,104,101,97,112]).toList))&&(v3.toList==(s6 [111,107]).toList))&&(v4.toList==(s6 [111,107]).toList))&&(v5.toList==(s6 [49]).toList))&&(v6.toList==(s6 [49]).toList))&&(v7.toList==(s6 [49]).toList))&&(v8.toList==(s6 [48]).toList))==true) (ByteArray.empty:ByteArray) (ix v1 7)).bind λv9=>
 (z1 (((((((((((v1.length:Int)==19)&&(v2.toList==(s6 [110,111,32,104,101,97,112]).toList))&&(v3.toList==(s6 [111,107]).toList))&&(v4.toList==(s6 [111,107]).toList))&&(v5.toList==(s6 [49]).toList))&&(v6.toList==(s6 [49]).toList))&&(v7.toList==(s6 [49]).toList))&&(v8.toList==(s6 [48]).toList))&&(v9.toList==(s6 [45,49]).toList))==true) (ByteArray.empty:ByteArray) (ix v1 8)).bind λv10=>
 (z1 ((((((((((((v1.length:Int)==19)&&(v2.toList==(s6 [110,111,32,104,101,97,112]).toList))&&(v3.toList==(s6 [111,107]).toList))&&(v4.toList==(s6 [111,107]).toList))&&(v5.toList==(s6 [49]).toList))&&(v6.toList==(s6 [49]).toList))&&(v7.toList==(s6 [49]).toList))&&(v8.toList==(s6 [48]).toList))&&(v9.toList==(s6 [45,49]).toList))&&(v10.toList==(s6 [49]).toList))==true) (ByteArray.empty:ByteArray) (ix v1 9)).bind λv11=>
 (z1 (((((((((((((v1.length:Int)==19)&&(v2.toList==(s6 [110,111,32,104,101,97,112]).toList))&&(v3.toList==(s6 [111,107]).toList))&&(v4.toList==(s6 [111,107]).toList))&&(v5.toList==(s6 [49]).toList))&&(v6.toList==(s6 [49]).toList))&&(v7.toList==(s6 [49]).toList))&&(v8.toList==(s6 [48]).toList))&&(v9.toList==(s6 [45,49]).toList))&&(v10.toList==(s6 [49]).toList))&&(v11.toList==(s6 [114,111,111,116,115,32,48,32,48,32,49,32,48,32,48,32,48]).toList))==true) (ByteArray.empty:ByteArray) (ix v1 10)).bind λv12=>
 (z1 ((((((((((((((v1.length:Int)==19)&&(v2.toList==(s6 [110,111,32,104,101,97,112]).toList))&&(v3.toList==(s6 [111,107]).toList))&&(v4.toList==(s6 [111,107]).toList))&&(v5.toList==(s6 [49]).toList))&&(v6.toList==(s6 [49]).toList))&&(v7.toList==(s6 [49]).toList))&&(v8.toList==(s6 [48]).toList))&&(v9.toList==(s6 [45,49]).toList))&&(v10.toList==(s6 [49]).toList))&&(v11.toList==(s6 [114,111,111,116,115,32,48,32,48,32,49,32,48,32,48,32,48]).toList))&&(v12.toList==(s6 [108,105,118,101,115,32,49]).toList))==true) (ByteArray.empty:ByteArray) (ix v1 11)).bind λv13=>
 (z1 (((((((((((((((v1.length:Int)==19)&&(v2.toList==(s6 [110,111,32,104,101,97,112]).toList))&&(v3.toList==(s6 [111,107]).toList))&&(v4.toList==(s6 [111,107]).toList))&&(v5.toList==(s6 [49]).toList))&&(v6.toList==(s6 [49]).toList))&&(v7.toList==(s6 [49]).toList))&&(v8.toList==(s6 [48]).toList))&&(v9.toList==(s6 [45,49]).toList))&&(v10.toList==(s6 [49]).toList))&&(v11.toList==(s6 [114,111,111,116,115,32,48,32,48,32,49,32,48,32,48,32,48]).toList))&&(v12.toList==(s6 [108,105,118,101,115,32,49]).toList))&&(v13.toList==(s6 [48]).toList))==true) (ByteArray.empty:ByteArray) (ix v1 12)).bind λv14=>
 (z1 ((((((((((((((((v1.length:Int)==19)&&(v2.toList==(s6 [110,111,32,104,101,97,112]).toList))&&(v3.toList==(s6 [111,107]).toList))&&(v4.toList==(s6 [111,107]).toList))&&(v5.toList==(s6 [49]).toList))&&(v6.toList==(s6 [49]).toList))&&(v7.toList==(s6 [49]).toList))&&(v8.toList==(s6 [48]).toList))&&(v9.toList==(s6 [45,49]).toList))&&(v10.toList==(s6 [49]).toList))&&(v11.toList==(s6 [114,111,111,116,115,32,48,32,48,32,49,32,48,32,48,32,48]).toList))&&(v12.toList==(s6 [108,105,118,101,115,32,49]).toList))&&(v13.toList==(s6 [48]).toList))&&(v14.toList==(s6 [49]).toList))==true) (ByteArray.empty:ByteArray) (ix v1 13)).bind λv15=>
 (z1 (((((((((((((((((v1.length:Int)==19)&&(v2.toList==(s6 [110,111,32,104,101,97,112]).toList))&&(v3.toList==(s6 [111,107]).toList))&&(v4.toList==(s6 [111,107]).toList))&&(v5.toList==(s6 [49]).toList))&&(v6.toList==(s6 [49]).toList))&&(v7.toList==(s6 [49]).toList))&&(v8.toList==(s6 [48]).toList))&&(v9.toList==(s6 [45,49]).toList))&&(v10.toList==(s6 [49]).toList))&&(v11.toList==(s6 [114,111,111,116,115,32,48,32,48,32,49,32,48,32,48,32,48]).toList))&&(v12.toList==(s6 [108,105,118,101,115,32,49]).toList))&&(v13.toList==(s6 [48]).toList))&&(v14.toList==(s6 [49]).toList))&&(v15.toList==(s6 [116,97,108,108,121,32,50,32,48,32,49,32,48]).toList))==true) (ByteArray.empty:ByteArray) (ix v1 14)).bind λv16=>
 (z1 ((((((((((((((((((v1.length:Int)==19)&&(v2.toList==(s6 [110,111,32,104,101,97,112]).toList))&&(v3.toList==(s6 [111,107]).toList))&&(v4.toList==(s6 [111,107]).toList))&&(v5.toList==(s6 [49]).toList))&&(v6.toList==(s6 [49]).toList))&&(v7.toList==(s6 [49]).toList))&&(v8.toList==(s6 [48]).toList))&&(v9.toList==(s6 [45,49]).toList))&&(v10.toList==(s6 [49]).toList))&&(v11.toList==(s6 [114,111,111,116,115,32,48,32,48,32,49,32,48,32,48,32,48]).toList))&&(v12.toList==(s6 [108,105,118,101,115,32,49]).toList))&&(v13.toList==(s6 [48]).toList))&&(v14.toList==(s6 [49]).toList))&&(v15.toList==(s6 [116,97,108,108,121,32,50,32,48,32,49,32,48]).toList))&&(v16.toList==(s6 [101,114,114,111,114,32,57]).toList))==true) (ByteArray.empty:ByteArray) (ix v1 15)).bind λv17=>
 (z1 (((((((((((((((((((v1.length:Int)==19)&&(v2.toList==(s6 [110,111,32,104,101,97,112]).toList))&&(v3.toList==(s6 [111,107]).toList))&&(v4.toList==(s6 [111,107]).toList))&&(v5.toList==(s6 [49]).toList))&&(v6.toList==(s6 [49]).toList))&&(v7.toList==(s6 [49]).toList))&&(v8.toList==(s6 [48]).toList))&&(v9.toList==(s6 [45,49]).toList))&&(v10.toList==(s6 [49]).toList))&&(v11.toList==(s6 [114,111,111,116,115,32,48,32,48,32,49,32,48,32,48,32,48]).toList))&&(v12.toList==(s6 [108,105,118,101,115,32,49]).toList))&&(v13.toList==(s6 [48]).toList))&&(v14.toList==(s6 [49]).toList))&&(v15.toList==(s6 [116,97,108,108,121,32,50,32,48,32,49,32,48]).toList))&&(v16.toList==(s6 [101,114,114,111,114,32,57]).toList))&&(v17.toList==(s6 [101,114,114,111,114,32,49]).toList))==true) (ByteArray.empty:ByteArray) (ix v1 16)).bind λv18=>
 (z1 ((((((((((((((((((((v1.length:Int)==19)&&(v2.toList==(s6 [110,111,32,104,101,97,112]).toList))&&(v3.toList==(s6 [111,107]).toList))&&(v4.toList==(s6 [111,107]).toList))&&(v5.toList==(s6 [49]).toList))&&(v6.toList==(s6 [49]).toList))&&(v7.toList==(s6 [49]).toList))&&(v8.toList==(s6 [48]).toList))&&(v9.toList==(s6 [45,49]).toList))&&(v10.toList==(s6 [49]).toList))&&(v11.toList==(s6 [114,111,111,116,115,32,48,32,48,32,49,32,48,32,48,32,48]).toList))&&(v12.toList==(s6 [108,105,118,101,115,32,49]).toList))&&(v13.toList==(s6 [48]).toList))&&(v14.toList==(s6 [49]).toList))&&(v15.toList==(s6 [116,97,108,108,121,32,50,32,48,32,49,32,48]).toList))&&(v16.toList==(s6 [101,114,114,111,114,32,57]).toList))&&(v17.toList==(s6 [101,114,114,111,114,32,49]).toList))&&(v18.toList==(s6 [101,114,114,111,114,32,49,51]).toList))==true) (ByteArray.empty:ByteArray) (ix v1 17)).bind λv19=>
 (z1 (((((((((((((((((((((v1.length:Int)==19)&&(v2.toList==(s6 [110,111,32,104,101,97,112]).toList))&&(v3.toList==(s6 [111,107]).toList))&&(v4.toList==(s6 [111,107]).toList))&&(v5.toList==(s6 [49]).toList))&&(v6.toList==(s6 [49]).toList))&&(v7.toList==(s6 [49]).toList))&&(v8.toList==(s6 [48]).toList))&&(v9.toList==(s6 [45,49]).toList))&&(v10.toList==(s6 [49]).toList))&&(v11.toList==(s6 [114,111,111,116,115,32,48,32,48,32,49,32,48,32,48,32,48]).toList))&&(v12.toList==(s6 [108,105,118,101,115,32,49]).toList))&&(v13.toList==(s6 [48]).toList))&&(v14.toList==(s6 [49]).toList))&&(v15.toList==(s6 [116,97,108,108,121,32,50,32,48,32,49,32,48]).toList))&&(v16.toList==(s6 [101,114,114,111,114,32,57]).toList))&&(v17.toList==(s6 [101,114,114,111,114,32,49]).toList))&&(v18.toList==(s6 [101,114,114,111,114,32,49,51]).toList))&&(v19.toList==(s6 [101,114,114,111,114,32,51,51]).toList))==true) (ByteArray.empty:ByteArray) (ix v1 18)).bind λv20=>
 some (((((((((((((((((((((v1.length:Int)==19)&&(v2.toList==(s6 [110,111,32,104,101,97,112]).toList))&&(v3.toList==(s6 [111,107]).toList))&&(v4.toList==(s6 [111,107]).toList))&&(v5.toList==(s6 [49]).toList))&&(v6.toList==(s6 [49]).toList))&&(v7.toList==(s6 [49]).toList))&&(v8.toList==(s6 [48]).toList))&&(v9.toList==(s6 [45,49]).toList))&&(v10.toList==(s6 [49]).toList))&&(v11.toList==(s6 [114,111,111,116,115,32,48,32,48,32,49,32,48,32,48,32,48]).toList))&&(v12.toList==(s6 [108,105,118,101,115,32,49]).toList))&&(v13.toList==(s6 [48]).toList))&&(v14.toList==(s6 [49]).toList))&&(v15.toList==(s6 [116,97,108,108,121,32,50,32,48,32,49,32,48]).toList))&&(v16.toList==(s6 [101,114,114,111,114,32,57]).toList))&&(v17.toList==(s6 [101,114,114,111,114,32,49]).toList))&&(v18.toList==(s6 [101,114,114,111,114,32,49,51]).toList))&&(v19.toList==(s6 [101,114,114,111,114,32,51,51]).toList))&&(v20.toList==(s6 [101,114,114,111,114,32,51,51]).toList))
def ky(a0:List ByteArray)(a1:List ByteArray):Option Bool:=
 if ((a0.length:Int) != (a1.length:Int)) then
  some false
 else
 jn (λ(_:Unit)=>
  some true) (λκ6=>
  (lp (S:=Int) (E:=Bool ⊕ Unit) (λ(s9:Int)=>
   if (decide (s9<(a0.length:Int))) then
    (ix a0 s9).bind λv11=>
    (ix a1 s9).bind λv12=>
    if (!(v11.toList==v12.toList)) then
     some (.inr (.inl false))
    else
    some (.inl (z8 (s9+1)))
   else
   some (.inr (.inr ()))) 0).bind λe8=>
  match e8 with
  | .inl w=>some w
  | .inr w=>κ6 w)
def bN(a0:ByteArray)(a1:ByteArray):Option Bool:=
 (z1 (((decide ((a0.size:Int) > 300))||(decide ((a1.size:Int) > 300)))==false) false pa).bind λv1=>
 if (((decide ((a0.size:Int) > 300))||(decide ((a1.size:Int) > 300)))||(!v1)) then
  (pa).bind λv2=>
  some v2
 else
 (L5 a0).bind λv3=>
 (nK a0 (s6 [10])).bind λv4=>
 (nK v4 a1).bind λv5=>
 (L5 v5).bind λv6=>
 jn (λ(j29:ByteArray)=>
  (z1 ((decide ((v6.length:Int)>=(v3.length:Int)))==true) [] (cut v6 0 (v3.length:Int))).bind λv30=>
  (z1 ((decide ((v6.length:Int)>=(v3.length:Int)))==true) false (ky v3 v30)).bind λv31=>
  (z1 (((decide ((v6.length:Int)>=(v3.length:Int)))&&v31)==true) ByteArray.empty (nK j29 (s6 [32,10,13,10]))).bind λv32=>
  (z1 (((decide ((v6.length:Int)>=(v3.length:Int)))&&v31)==true) [] (L5 v32)).bind λv33=>
  (z1 (((decide ((v6.length:Int)>=(v3.length:Int)))&&v31)==true) false (ky v3 v33)).bind λv34=>
  some (((decide ((v6.length:Int)>=(v3.length:Int)))&&v31)&&v34)) (λκ28=>
  (lp (S:=ByteArray × Int) (E:=ByteArray) (λ((s36,s37):ByteArray × Int)=>
   if (decide (s37<(a0.size:Int))) then
    jn (λ(j48:ByteArray)=>
     some (.inl (j48,z8 (s37+1)))) (λκ47=>
     (WR a0 s37).bind λv49=>
     if ((v49==10)||(v49==32)) then
      (nK s36 (s6 [9])).bind λv50=>
      (yd a0 s37 (z8 (s37+1))).bind λv51=>
      (nK v50 v51).bind λv52=>
      (nK v52 (s6 [32])).bind λv53=>
      κ47 v53
     else
     (yd a0 s37 (z8 (s37+1))).bind λv54=>
     (nK s36 v54).bind λv55=>
     κ47 v55)
   else
   some (.inr s36)) (ByteArray.empty,0)).bind λe35=>
  κ28 e35)
structure R5 where
 Serial:Int
 Strong:Int
 Weak:Int
 Prog:Int
 Started:Bool
 Fields:List Int
structure I5 where
 State:Int
 Gen:Int
 Val:R5
structure H2 where
 Target:Int
 Intact:Bool
 Call:Int
structure B5 where
 State:Int
 Key:Int
 Val:Int
structure dt where
 Kind:Int
 At:Int
 Prog:Int
structure au where
 Kind:Int
 A:Int
 B:Int
 C:Int
structure y9 where
 a8:List I5
 Last:Int
 Serial:Int
structure G3 where
 L:List dt
 Cap:Int
structure o7 where
 S:y9
 Roots:List Int
 a8:List H2
 T:List B5
 Q:G3
structure lN where
 X:o7
 Progs:List (List au)
structure O7 where
 State:Int
 Gen:Int
 Val:Int
structure H0 where
 a8:List O7
 Last:Int
def ab(a0:au):Option Bool:=
 some ((decide (a0.Kind>=1))&&(decide (a0.Kind<=10)))
def cc(a0:Int)(a1:Int)(a2:Int)(a3:Int):Option Int:=
 if ((decide (a0<a1))||(decide (a0 > a2))) then
  some a3
 else
 some 0
def bf(a0:Int)(a1:Int)(a2:Int):Option Int:=
 if (a0 != 0) then
  some a0
 else
 if (a1 != 0) then
  some a1
 else
 some a2
def cD(a0:au):Option Int:=
 (cc a0.A 0 5 6).bind λv1=>
 (cc a0.B 0 5 6).bind λv2=>
 if (a0.Kind==1) then
  (cc a0.B 0 4 1).bind λv3=>
  (cc a0.C (-1) 5 13).bind λv4=>
  (bf v1 v3 v4).bind λv5=>
  some v5
 else
 jn (λ(j7:Bool)=>
  if j7 then
   (bf v1 v2 0).bind λv8=>
   some v8
  else
  if (a0.Kind==3) then
   some v1
  else
  if (a0.Kind==4) then
   (cc a0.C 0 3 5).bind λv9=>
   (bf v1 v2 v9).bind λv10=>
   some v10
  else
  if (a0.Kind==5) then
   (cc a0.B 0 3 5).bind λv11=>
   (cc a0.C (-1) 5 6).bind λv12=>
   (bf v1 v11 v12).bind λv13=>
   some v13
  else
  if (a0.Kind==6) then
   (cc a0.A 0 5 7).bind λv14=>
   (cc a0.B (-1) 5 6).bind λv15=>
   (cc a0.C (-1) 5 13).bind λv16=>
   (bf v14 v15 v16).bind λv17=>
   some v17
  else
  if (a0.Kind==7) then
   (cc a0.B 0 5 7).bind λv18=>
   (bf v1 v18 0).bind λv19=>
   some v19
  else
  if (a0.Kind==8) then
   (cc a0.B (-1) 5 6).bind λv20=>
   (bf v1 v20 0).bind λv21=>
   some v21
  else
  if (a0.Kind==11) then
   some 0
  else
  if (a0.Kind==12) then
   (cc a0.A 0 200 12).bind λv22=>
   some v22
  else
  some 14) (λκ6=>
  if (a0.Kind==2) then
   κ6 (a0.Kind==2)
  else
  if (a0.Kind==9) then
   κ6 (a0.Kind==9)
  else
  κ6 (a0.Kind==10))
def oM(a0:List (List au)):Option Bool:=
 if (decide ((a0.length:Int) > 6)) then
  some false
 else
 jn (λ(_:Unit)=>
  some true) (λκ20=>
  (lp (S:=Int) (E:=Bool ⊕ Unit) (λ(s23:Int)=>
   if (decide (s23<(a0.length:Int))) then
    jn (λ(_:Unit)=>
     some (.inl (z8 (s23+1)))) (λκ32=>
     (ix a0 s23).bind λv34=>
     if (decide ((v34.length:Int) > 6)) then
      some (.inr (.inl false))
     else
     (lp (S:=Int) (E:=Bool ⊕ Unit) (λ(s36:Int)=>
      if (decide (s36<(v34.length:Int))) then
       (ix v34 s36).bind λv38=>
       (ab v38).bind λv39=>
       (z1 ((!v39)==false) 0 (cD v38)).bind λv40=>
       if ((!v39)||(v40 != 0)) then
        some (.inr (.inl false))
       else
       some (.inl (z8 (s36+1)))
      else
      some (.inr (.inr ()))) 0).bind λe35=>
     match e35 with
     | .inl w=>some (.inr (.inl w))
     | .inr w=>κ32 w)
   else
   some (.inr (.inr ()))) 0).bind λe22=>
  match e22 with
  | .inl w=>some w
  | .inr w=>κ20 w)
def Hy(a0:Int)(a1:Int):Option H0:=
 if ((((decide (a0<0))||(decide (a0 > 24)))||(decide (a1<0)))||(decide (a1 > 9))) then
  some (⟨[],0⟩:H0)
 else
 (mk 24 a0 (⟨0,0,0⟩:O7)).bind λv1=>
 some (⟨v1,a1⟩:H0)
def BC(a0:Int)(a1:Int):Option y9:=
 (Hy a0 a1).bind λv1=>
 (mk 80 (v1.a8.length:Int) (⟨0,0,⟨0,0,0,0,false,[]⟩⟩:I5)).bind λv2=>
 some (⟨v2,v1.Last,0⟩:y9)
def Qr(a0:Int):Option (List H2):=
 jn (λ(j8:List H2)=>
  some j8) (λκ7=>
  (lp (S:=Int × (List H2)) (E:=(List H2)) (λ((s10,s11):Int × (List H2))=>
   if ((decide (s10<a0))&&(decide (a0<=6))) then
    (app 24 s11 [(⟨0,false,(-1)⟩:H2)]).bind λv14=>
    some (.inl (z8 (s10+1),v14))
   else
   some (.inr s11)) (0,[])).bind λe9=>
  κ7 e9)
def Hz(a0:Int):Option (List B5):=
 if ((decide (a0<1))||(decide (a0 > 8))) then
  some []
 else
 (mk 24 a0 (⟨0,0,0⟩:B5)).bind λv1=>
 some v1
def Qs:Option G3:=
 some (⟨[],30⟩:G3)
def rI(a0:Int)(a1:Int)(a2:Int):Option o7:=
 if ((((((decide (a0<1))||(decide (a0 > 24)))||(decide (a1<0)))||(decide (a1 > 9)))||(decide (a2<1)))||(decide (a2 > 8))) then
  some (⟨⟨[],0,0⟩,[],[],[],⟨[],0⟩⟩:o7)
 else
 (BC a0 a1).bind λv1=>
 (mk 8 6 (0:Int)).bind λv2=>
 (Qr 6).bind λv3=>
 (Hz a2).bind λv4=>
 (Qs).bind λv5=>
 some (⟨v1,v2,v3,v4,v5⟩:o7)
def BI(a0:Int)(a1:Int)(a2:Int)(a3:List (List au)):Option (lN × Int):=
 (oM a3).bind λv1=>
 if (!v1) then
  some ((⟨⟨⟨[],0,0⟩,[],[],[],⟨[],0⟩⟩,[]⟩:lN),13)
 else
 (rI a0 a1 a2).bind λv2=>
 if ((v2.Roots.length:Int)==0) then
  some ((⟨⟨⟨[],0,0⟩,[],[],[],⟨[],0⟩⟩,[]⟩:lN),1)
 else
 some ((⟨v2,a3⟩:lN),0)
def jT(a0:Int)(a1:Int):Option Int:=
 if ((((decide (a0<0))||(decide (a0 > 23)))||(decide (a1<0)))||(decide (a1 > 9))) then
  some 0
 else
 some (z8 ((z8 (1+a0))+(z8 (32*a1))))
def X0(a0:y9):Option H0:=
 jn (λ(j9:List O7)=>
  some (⟨j9,a0.Last⟩:H0)) (λκ8=>
  (lp (S:=Int × (List O7)) (E:=(List O7)) (λ((s11,s12):Int × (List O7))=>
   if (decide (s11<(a0.a8.length:Int))) then
    (ix a0.a8 s11).bind λv15=>
    (app 24 s12 [(⟨v15.State,v15.Gen,s11⟩:O7)]).bind λv16=>
    some (.inl (z8 (s11+1),v16))
   else
   some (.inr s12)) (0,[])).bind λe10=>
  κ8 e10)
def oJ(a0:Int):Option Bool:=
 if ((decide (a0<1))||(decide (a0 > 400))) then
  some false
 else
 (rem (z8 (a0-1)) 32).bind λv1=>
 (quo .i64 (z8 (a0-1)) 32).bind λv2=>
 (jT v1 v2).bind λv3=>
 some (v3==a0)
def nw(a0:Int):Option Int:=
 (oJ a0).bind λv1=>
 if (!v1) then
  some (-1)
 else
 (rem (z8 (a0-1)) 32).bind λv2=>
 some v2
def BA(a0:Int):Option Int:=
 (oJ a0).bind λv1=>
 if (!v1) then
  some (-1)
 else
 (quo .i64 (z8 (a0-1)) 32).bind λv2=>
 some v2
def T6(a0:H0)(a1:Int):Option (Int × Int):=
 if (a1==0) then
  some ((-1),2)
 else
 (nw a1).bind λv1=>
 if ((decide (v1<0))||(decide (v1>=(a0.a8.length:Int)))) then
  some ((-1),3)
 else
 (ix a0.a8 v1).bind λv2=>
 (BA a1).bind λv3=>
 if ((v2.Gen != v3)||((v2.State != 1)&&(v2.State != 2))) then
  some ((-1),3)
 else
 some (v1,0)
def qp(a0:y9)(a1:List Int):Option (List Int):=
 (app 8 [] a1).bind λv1=>
 jn (λ(j36:List Int)=>
  some j36) (λκ35=>
  (lp (S:=Int × (List Int)) (E:=(List Int)) (λ((s38,s39):Int × (List Int))=>
   if (decide (s38<(s39.length:Int))) then
    jn (λ(j56:List Int)=>
     some (.inl (z8 (s38+1),j56))) (λκ55=>
     (lp (S:=Int × (List Int)) (E:=(List Int)) (λ((s58,s59):Int × (List Int))=>
      if (decide (s58 > 0)) then
       (X0 a0).bind λv62=>
       (ix s59 (z8 (s58-1))).bind λv63=>
       (T6 v62 v63).bind λv64=>
       (ix s59 s58).bind λv65=>
       (T6 v62 v65).bind λv66=>
       (z1 (((decide (v64.1<0))||(decide (v66.1<0)))==false) (⟨0,0,⟨0,0,0,0,false,[]⟩⟩:I5) (ix a0.a8 v64.1)).bind λv67=>
       (z1 (((decide (v64.1<0))||(decide (v66.1<0)))==false) (⟨0,0,⟨0,0,0,0,false,[]⟩⟩:I5) (ix a0.a8 v66.1)).bind λv68=>
       if (((decide (v64.1<0))||(decide (v66.1<0)))||(decide (v67.Val.Serial<=v68.Val.Serial))) then
        some (.inr s59)
       else
       (ix (s59.set (s58).toNat v63) (z8 (s58-1))).bind λv69=>
       some (.inl (z8 (s58-1),((s59.set (s58).toNat v63).set (z8 (s58-1)).toNat v65)))
      else
      some (.inr s59)) (s38,s39)).bind λe57=>
     κ55 e57)
   else
   some (.inr s39)) (1,v1)).bind λe37=>
  κ35 e37)
def wW(a0:y9):Option (List Int):=
 jn (λ(j15:List Int)=>
  (qp a0 j15).bind λv16=>
  some v16) (λκ14=>
  (lp (S:=Int × (List Int)) (E:=(List Int)) (λ((s18,s19):Int × (List Int))=>
   if (decide (s18<(a0.a8.length:Int))) then
    jn (λ(j26:List Int)=>
     some (.inl (z8 (s18+1),j26))) (λκ25=>
     (ix a0.a8 s18).bind λv27=>
     if (v27.State==1) then
      (jT s18 v27.Gen).bind λv28=>
      (app 8 s19 [v28]).bind λv29=>
      κ25 v29
     else
     κ25 s19)
   else
   some (.inr s19)) (0,[])).bind λe17=>
  κ14 e17)
def vf(a0:H0)(a1:Int):Option (Int × Int):=
 (T6 a0 a1).bind λv1=>
 if (v1.2 != 0) then
  some (0,v1.2)
 else
 (ix a0.a8 v1.1).bind λv2=>
 if (v2.State==2) then
  some (0,3)
 else
 some (v2.Val,0)
def M1(a0:y9)(a1:Int):Option (R5 × Int):=
 (X0 a0).bind λv1=>
 (vf v1 a1).bind λv2=>
 if (v2.2 != 0) then
  some ((⟨0,0,0,0,false,[]⟩:R5),v2.2)
 else
 (ix a0.a8 v2.1).bind λv3=>
 some (v3.Val,0)
def gS(a0:o7)(a1:Int):Option Int:=
 (M1 a0.S a1).bind λv1=>
 some v1.1.Serial
def tx(a0:o7)(a1:Int):Option Int:=
 if ((decide (a1<0))||(decide (a1 > 5))) then
  some 0
 else
 (ix a0.Roots a1).bind λv1=>
 (gS a0 v1).bind λv2=>
 some v2
def gR(a0:List Int):Option (au × Int):=
 if ((a0.length:Int) != 4) then
  some ((⟨0,0,0,0⟩:au),14)
 else
 (ix a0 0).bind λv1=>
 (ix a0 1).bind λv2=>
 (ix a0 2).bind λv3=>
 (ix a0 3).bind λv4=>
 (cD (⟨v1,v2,v3,v4⟩:au)).bind λv5=>
 if (v5 != 0) then
  some ((⟨0,0,0,0⟩:au),v5)
 else
 some ((⟨v1,v2,v3,v4⟩:au),0)
def jV(a0:List Int):Option (List Int):=
 jn (λ(j13:List Int)=>
  some j13) (λκ12=>
  (lp (S:=Int × (List Int)) (E:=(List Int)) (λ((s15,s16):Int × (List Int))=>
   if (decide (s15<(a0.length:Int))) then
    jn (λ(j22:List Int)=>
     some (.inl (z8 (s15+1),j22))) (λκ21=>
     (ix a0 s15).bind λv23=>
     if (v23 != 0) then
      (app 8 s16 [v23]).bind λv24=>
      κ21 v24
     else
     κ21 s16)
   else
   some (.inr s16)) (0,[])).bind λe14=>
  κ12 e14)
def jW(a0:List Int)(a1:Int):Option Int:=
 jn (λ(j11:Int)=>
  some j11) (λκ10=>
  (lp (S:=Int × Int) (E:=Int) (λ((s13,s14):Int × Int)=>
   if (decide (s14<(a0.length:Int))) then
    jn (λ(j19:Int)=>
     some (.inl (j19,z8 (s14+1)))) (λκ18=>
     (ix a0 s14).bind λv20=>
     if ((v20==a1)&&(a1 != 0)) then
      κ18 (z8 (s13+1))
     else
     κ18 s13)
   else
   some (.inr s13)) (0,0)).bind λe12=>
  κ10 e12)
def fi(a0:List B5)(a1:Int):Option Int:=
 jn (λ(_:Unit)=>
  some (-1)) (λκ5=>
  (lp (S:=Int) (E:=Int ⊕ Unit) (λ(s8:Int)=>
   if (decide (s8<(a0.length:Int))) then
    (ix a0 s8).bind λv10=>
    if ((v10.State==1)&&(v10.Key==a1)) then
     some (.inr (.inl s8))
    else
    some (.inl (z8 (s8+1)))
   else
   some (.inr (.inr ()))) 0).bind λe7=>
  match e7 with
  | .inl w=>some w
  | .inr w=>κ5 w)
def vi(a0:List B5)(a1:Int):Option (Int × Int):=
 (fi a0 a1).bind λv1=>
 if (decide (v1<0)) then
  some (0,9)
 else
 (ix a0 v1).bind λv2=>
 some (v2.Val,0)
def jU(a0:Int):Option Bool:=
 some (decide (a0>=12))
def BE(a0:List Int)(a1:Int):Option Bool:=
 (jW a0 a1).bind λv1=>
 some (decide (v1 > 0))
def gl(a0:o7)(a1:Int):Option Bool:=
 (M1 a0.S a1).bind λv1=>
 some (v1.2==0)
def rK(a0:o7)(a1:Int):Option Bool:=
 (M1 a0.S a1).bind λv1=>
 (gl a0 a1).bind λv2=>
 some ((v2&&(decide (v1.1.Prog>=0)))&&(!v1.1.Started))
def fh(a0:y9)(a1:Int)(a2:R5):Option y9:=
 (app 80 [] a0.a8).bind λv1=>
 (ix v1 a1).bind λv2=>
 some (⟨(v1.set (a1).toNat (⟨v2.State,v2.Gen,a2⟩:I5)),a0.Last,a0.Serial⟩:y9)
def P5(a0:y9)(a1:Int)(a2:R5):Option (y9 × Int):=
 (X0 a0).bind λv1=>
 (T6 v1 a1).bind λv2=>
 if (v2.2 != 0) then
  some (a0,v2.2)
 else
 (fh a0 v2.1 a2).bind λv3=>
 some (v3,0)
def lK(a0:G3)(a1:dt):Option (G3 × Int):=
 if (decide ((a0.L.length:Int)>=a0.Cap)) then
  some (a0,4)
 else
 (app 24 [] a0.L).bind λv1=>
 (app 24 v1 [a1]).bind λv2=>
 some ((⟨v2,a0.Cap⟩:G3),0)
def vg(a0:Int):Option Int:=
 (jU a0).bind λv1=>
 if v1 then
  some 12
 else
 if (decide (a0<0)) then
  some 1
 else
 some (z8 (a0+1))
def lL(a0:o7)(a1:Int)(a2:Int):Option o7:=
 (M1 a0.S a1).bind λv1=>
 if (v1.2 != 0) then
  some a0
 else
 (P5 a0.S a1 (⟨v1.1.Serial,a2,v1.1.Weak,v1.1.Prog,v1.1.Started,v1.1.Fields⟩:R5)).bind λv2=>
 some (⟨v2.1,a0.Roots,a0.a8,a0.T,a0.Q⟩:o7)
def ca(a0:o7)(a1:Int):Option o7:=
 (M1 a0.S a1).bind λv1=>
 (vg v1.1.Strong).bind λv2=>
 (lL a0 a1 v2).bind λv3=>
 some v3
def lM(a0:o7)(a1:Int):Option o7:=
 (rK a0 a1).bind λv1=>
 if (!v1) then
  some a0
 else
 (M1 a0.S a1).bind λv2=>
 (P5 a0.S a1 (⟨v2.1.Serial,v2.1.Strong,v2.1.Weak,v2.1.Prog,true,v2.1.Fields⟩:R5)).bind λv3=>
 (lK a0.Q (⟨1,a1,v2.1.Prog⟩:dt)).bind λv4=>
 (ca (⟨v3.1,a0.Roots,a0.a8,a0.T,v4.1⟩:o7) a1).bind λv5=>
 some v5
def rM(a0:o7)(a1:List Int):Option (List Int):=
 jn (λ(j17:List Int)=>
  some j17) (λκ16=>
  (lp (S:=Int × (List Int)) (E:=(List Int)) (λ((s19,s20):Int × (List Int))=>
   if (decide (s19<(a1.length:Int))) then
    jn (λ(j28:List Int)=>
     some (.inl (z8 (s19+1),j28))) (λκ27=>
     (ix a1 s19).bind λv29=>
     (gl a0 v29).bind λv30=>
     (z1 (v30==true) false (BE s20 v29)).bind λv31=>
     if (v30&&(!v31)) then
      (app 8 s20 [v29]).bind λv32=>
      κ27 v32
     else
     κ27 s20)
   else
   some (.inr s20)) (0,[])).bind λe18=>
  κ16 e18)
def tv(a0:List H2)(a1:List Int):Option ((List H2) × (List Int)):=
 jn (λ((j18,j19):(List Int) × (List H2))=>
  some (j19,j18)) (λκ17=>
  (lp (S:=Int × (List H2) × (List Int)) (E:=((List Int) × (List H2))) (λ((s22,s23,s24):Int × (List H2) × (List Int))=>
   if (decide (s22<(a0.length:Int))) then
    (ix a0 s22).bind λv27=>
    jn (λ((j31,j32):Bool × (List Int))=>
     (app 24 s23 [(⟨v27.Target,j31,v27.Call⟩:H2)]).bind λv34=>
     some (.inl (z8 (s22+1),v34,j32))) (λκ30=>
     (z1 (v27.Intact==true) 0 (jW a1 v27.Target)).bind λv35=>
     if (v27.Intact&&(decide (v35 > 0))) then
      if (decide (v27.Call>=0)) then
       (app 8 s24 [s22]).bind λv36=>
       κ30 (false,v36)
      else
      κ30 (false,s24)
     else
     κ30 (v27.Intact,s24))
   else
   some (.inr (s24,s23))) (0,[],[])).bind λe21=>
  κ17 e21)
def fk(a0:List B5)(a1:Int)(a2:B5):Option (List B5):=
 (app 24 [] a0).bind λv1=>
 (ix v1 a1).bind λv2=>
 some (v1.set (a1).toNat a2)
def nA(a0:List B5)(a1:Int):Option ((List B5) × Int × Int):=
 (fi a0 a1).bind λv1=>
 if (decide (v1<0)) then
  some (a0,0,9)
 else
 (fk a0 v1 (⟨2,0,0⟩:B5)).bind λv2=>
 (ix a0 v1).bind λv3=>
 some (v2,v3.Val,0)
def iV(a0:List B5)(a1:List Int):Option ((List B5) × (List Int)):=
 jn (λ((j18,j19):(List B5) × (List Int))=>
  some (j18,j19)) (λκ17=>
  (lp (S:=(List B5) × Int × (List Int)) (E:=((List B5) × (List Int))) (λ((s22,s23,s24):(List B5) × Int × (List Int))=>
   if (decide (s23<(a1.length:Int))) then
    jn (λ((j31,j32):(List B5) × (List Int))=>
     some (.inl (j31,z8 (s23+1),j32))) (λκ30=>
     (ix a1 s23).bind λv34=>
     (nA s22 v34).bind λv35=>
     if (v35.2.2==0) then
      (app 8 s24 [v35.2.1]).bind λv36=>
      κ30 (v35.1,v36)
     else
     κ30 (s22,s24))
   else
   some (.inr (s22,s24))) (a0,0,[])).bind λe21=>
  κ17 e21)
def bE(a0:H0)(a1:Int)(a2:O7):Option H0:=
 (app 24 [] a0.a8).bind λv1=>
 (ix v1 a1).bind λv2=>
 some (⟨(v1.set (a1).toNat a2),a0.Last⟩:H0)
def Dz(a0:H0)(a1:Int):Option (H0 × Int):=
 (vf a0 a1).bind λv1=>
 if (v1.2 != 0) then
  some (a0,v1.2)
 else
 (T6 a0 a1).bind λv2=>
 (ix a0.a8 v2.1).bind λv3=>
 (bE a0 v2.1 (⟨2,v3.Gen,v3.Val⟩:O7)).bind λv4=>
 some (v4,0)
def bZ(a0:y9)(a1:H0):Option y9:=
 jn (λ(j10:List I5)=>
  some (⟨j10,a0.Last,a0.Serial⟩:y9)) (λκ9=>
  (lp (S:=Int × (List I5)) (E:=(List I5)) (λ((s12,s13):Int × (List I5))=>
   if (decide (s12<(a0.a8.length:Int))) then
    (ix a1.a8 s12).bind λv16=>
    (ix a0.a8 s12).bind λv17=>
    (app 80 s13 [(⟨v16.State,v16.Gen,v17.Val⟩:I5)]).bind λv18=>
    some (.inl (z8 (s12+1),v18))
   else
   some (.inr s13)) (0,[])).bind λe11=>
  κ9 e11)
def wV(a0:y9)(a1:Int):Option y9:=
 (X0 a0).bind λv1=>
 (Dz v1 a1).bind λv2=>
 (bZ a0 v2.1).bind λv3=>
 some v3
def Dy(a0:H0)(a1:Int):Option (H0 × Int):=
 (T6 a0 a1).bind λv1=>
 if (v1.2 != 0) then
  some (a0,v1.2)
 else
 (ix a0.a8 v1.1).bind λv2=>
 if (decide (v2.Gen>=a0.Last)) then
  (bE a0 v1.1 (⟨3,v2.Gen,0⟩:O7)).bind λv3=>
  some (v3,0)
 else
 (bE a0 v1.1 (⟨0,z8 (v2.Gen+1),0⟩:O7)).bind λv4=>
 some (v4,0)
def rG(a0:y9)(a1:Int):Option y9:=
 (X0 a0).bind λv1=>
 (Dy v1 a1).bind λv2=>
 if (v2.2 != 0) then
  some a0
 else
 (bZ a0 v2.1).bind λv3=>
 (nw a1).bind λv4=>
 (fh v3 v4 (⟨0,0,0,0,false,[]⟩:R5)).bind λv5=>
 some v5
def nC(a0:o7)(a1:Int):Option o7:=
 (M1 a0.S a1).bind λv1=>
 (P5 a0.S a1 (⟨v1.1.Serial,0,v1.1.Weak,v1.1.Prog,v1.1.Started,[]⟩:R5)).bind λv2=>
 (wV v2.1 a1).bind λv3=>
 if (v1.1.Weak==0) then
  (rG v3 a1).bind λv4=>
  some (⟨v4,a0.Roots,a0.a8,a0.T,a0.Q⟩:o7)
 else
 some (⟨v3,a0.Roots,a0.a8,a0.T,a0.Q⟩:o7)
def BB(a0:Int):Option (Int × Int):=
 (jU a0).bind λv1=>
 if v1 then
  some (12,0)
 else
 if (decide (a0<1)) then
  some (0,11)
 else
 some (z8 (a0-1),0)
def J3(a0:o7)(a1:Int):Option o7:=
 (M1 a0.S a1).bind λv1=>
 (BB v1.1.Strong).bind λv2=>
 if (v2.2 != 0) then
  some a0
 else
 (lL a0 a1 v2.1).bind λv3=>
 some v3
def rJ(a0:o7)(a1:List Int):Option o7:=
 (rM a0 a1).bind λv1=>
 (tv a0.a8 v1).bind λv2=>
 jn (λ(j12:G3)=>
  jn (λ(j23:List Int)=>
   (iV a0.T v1).bind λv24=>
   (app 8 j23 v24.2).bind λv25=>
   jn (λ(j34:o7)=>
    jn (λ(j43:o7)=>
     some j43) (λκ42=>
     (lp (S:=Int × o7) (E:=o7) (λ((s45,s46):Int × o7)=>
      if (decide (s45<(v25.length:Int))) then
       (ix v25 s45).bind λv49=>
       (J3 s46 v49).bind λv50=>
       some (.inl (z8 (s45+1),v50))
      else
      some (.inr s46)) (0,j34)).bind λe44=>
     κ42 e44)) (λκ33=>
    (lp (S:=Int × o7) (E:=o7) (λ((s52,s53):Int × o7)=>
     if (decide (s52<(v1.length:Int))) then
      (ix v1 s52).bind λv56=>
      (nC s53 v56).bind λv57=>
      some (.inl (z8 (s52+1),v57))
     else
     some (.inr s53)) (0,(⟨a0.S,a0.Roots,v2.1,v24.1,j12⟩:o7))).bind λe51=>
    κ33 e51)) (λκ22=>
   (lp (S:=Int × (List Int)) (E:=(List Int)) (λ((s59,s60):Int × (List Int))=>
    if (decide (s59<(v1.length:Int))) then
     (ix v1 s59).bind λv63=>
     (M1 a0.S v63).bind λv64=>
     (jV v64.1.Fields).bind λv65=>
     (app 8 s60 v65).bind λv66=>
     some (.inl (z8 (s59+1),v66))
    else
    some (.inr s60)) (0,[])).bind λe58=>
   κ22 e58)) (λκ11=>
  (lp (S:=Int × G3) (E:=G3) (λ((s68,s69):Int × G3)=>
   if (decide (s68<(v2.2.length:Int))) then
    (ix v2.2 s68).bind λv72=>
    (ix v2.1 v72).bind λv73=>
    (lK s69 (⟨2,v72,v73.Call⟩:dt)).bind λv74=>
    some (.inl (z8 (s68+1),v74.1))
   else
   some (.inr s69)) (0,a0.Q)).bind λe67=>
  κ11 e67)
def rL(a0:o7):Option (List Int):=
 (wW a0.S).bind λv1=>
 jn (λ(j16:List Int)=>
  some j16) (λκ15=>
  (lp (S:=Int × (List Int)) (E:=(List Int)) (λ((s18,s19):Int × (List Int))=>
   if (decide (s18<(v1.length:Int))) then
    jn (λ(j26:List Int)=>
     some (.inl (z8 (s18+1),j26))) (λκ25=>
     (ix v1 s18).bind λv27=>
     (M1 a0.S v27).bind λv28=>
     if (v28.1.Strong==0) then
      (app 8 s19 [v27]).bind λv29=>
      κ25 v29
     else
     κ25 s19)
   else
   some (.inr s19)) (0,[])).bind λe17=>
  κ15 e17)
def aO(a0:o7):Option o7:=
 jn (λ(j21:o7)=>
  some j21) (λκ20=>
  (lp (S:=Int × o7) (E:=o7 ⊕ o7) (λ((s23,s24):Int × o7)=>
   if (decide (s23<100)) then
    jn (λ(j34:o7)=>
     some (.inl (z8 (s23+1),j34))) (λκ33=>
     (rL s24).bind λv35=>
     if ((v35.length:Int)==0) then
      some (.inr (.inl s24))
     else
     (ix v35 0).bind λv36=>
     (rK s24 v36).bind λv37=>
     if v37 then
      (lM s24 v36).bind λv38=>
      κ33 v38
     else
     (cut v35 0 1).bind λv39=>
     (rJ s24 v39).bind λv40=>
     κ33 v40)
   else
   some (.inr (.inr s24))) (0,a0)).bind λe22=>
  match e22 with
  | .inl w=>some w
  | .inr w=>κ20 w)
def gm(a0:o7)(a1:Int):Option Bool:=
 (z1 ((a1==0)==false) false (gl a0 a1)).bind λv1=>
 some ((a1==0)||v1)
def gP(a0:o7)(a1:Int)(a2:Int):Option (o7 × Int):=
 if ((decide (a1<0))||(decide (a1 > 5))) then
  some (a0,6)
 else
 (gm a0 a2).bind λv1=>
 if (!v1) then
  some (a0,3)
 else
 (ix a0.Roots a1).bind λv2=>
 (ca a0 a2).bind λv3=>
 (app 8 [] a0.Roots).bind λv4=>
 (ix v4 a1).bind λv5=>
 (J3 (⟨v3.S,(v4.set (a1).toNat a2),v3.a8,v3.T,v3.Q⟩:o7) v2).bind λv6=>
 some (v6,0)
def oK(a0:G3)(a1:Int):Option Bool:=
 jn (λ(_:Unit)=>
  some false) (λκ5=>
  (lp (S:=Int) (E:=Bool ⊕ Unit) (λ(s8:Int)=>
   if (decide (s8<(a0.L.length:Int))) then
    (ix a0.L s8).bind λv10=>
    if ((v10.Kind==2)&&(v10.At==a1)) then
     some (.inr (.inl true))
    else
    some (.inl (z8 (s8+1)))
   else
   some (.inr (.inr ()))) 0).bind λe7=>
  match e7 with
  | .inl w=>some w
  | .inr w=>κ5 w)
def BF(a0:List H2)(a1:Int)(a2:Int)(a3:Int):Option ((List H2) × Int × Int):=
 if ((decide (a1<0))||(decide (a1>=(a0.length:Int)))) then
  some (a0,0,7)
 else
 (app 24 [] a0).bind λv1=>
 (ix v1 a1).bind λv2=>
 (ix a0 a1).bind λv3=>
 some ((v1.set (a1).toNat (⟨a2,(a2 != 0),a3⟩:H2)),v3.Target,0)
def cC(a0:o7)(a1:Int):Option o7:=
 (X0 a0.S).bind λv1=>
 (T6 v1 a1).bind λv2=>
 if (v2.2 != 0) then
  some a0
 else
 (ix a0.S.a8 v2.1).bind λv3=>
 (P5 a0.S a1 (⟨v3.Val.Serial,v3.Val.Strong,z8 (v3.Val.Weak-1),v3.Val.Prog,v3.Val.Started,v3.Val.Fields⟩:R5)).bind λv4=>
 (ix v4.1.a8 v2.1).bind λv5=>
 if ((v5.State==2)&&(decide ((z8 (v3.Val.Weak-1))<1))) then
  (rG v4.1 a1).bind λv6=>
  some (⟨v6,a0.Roots,a0.a8,a0.T,a0.Q⟩:o7)
 else
 some (⟨v4.1,a0.Roots,a0.a8,a0.T,a0.Q⟩:o7)
def gQ(a0:o7)(a1:Int)(a2:Int)(a3:Int):Option (o7 × Int):=
 (z1 (((decide (a1<0))||(decide (a1 > 5)))==false) false (oK a0.Q a1)).bind λv1=>
 if (((decide (a1<0))||(decide (a1 > 5)))||v1) then
  some (a0,7)
 else
 (gm a0 a2).bind λv2=>
 if (!v2) then
  some (a0,3)
 else
 (BF a0.a8 a1 a2 a3).bind λv3=>
 if (a2 != 0) then
  (M1 a0.S a2).bind λv4=>
  (P5 a0.S a2 (⟨v4.1.Serial,v4.1.Strong,z8 (v4.1.Weak+1),v4.1.Prog,v4.1.Started,v4.1.Fields⟩:R5)).bind λv5=>
  (cC (⟨v5.1,a0.Roots,v3.1,a0.T,a0.Q⟩:o7) v3.2.1).bind λv6=>
  some (v6,0)
 else
 (cC (⟨a0.S,a0.Roots,v3.1,a0.T,a0.Q⟩:o7) v3.2.1).bind λv7=>
 some (v7,0)
def ae(a0:o7)(a1:Int):Option (Int × Int):=
 (ix a0.Roots a1).bind λv1=>
 if (v1==0) then
  some (0,2)
 else
 some (v1,0)
def jY(a0:o7)(a1:Int):Option Int:=
 if (decide (a1<0)) then
  some 0
 else
 (ix a0.Roots a1).bind λv1=>
 some v1
def wU(a0:List Int)(a1:Int):Option (Int × Int):=
 if ((decide (a1<0))||(decide (a1>=(a0.length:Int)))) then
  some (0,5)
 else
 (ix a0 a1).bind λv1=>
 some (v1,0)
def gk(a0:y9)(a1:Int)(a2:Int):Option (Int × Int):=
 (M1 a0 a1).bind λv1=>
 if (v1.2 != 0) then
  some (0,v1.2)
 else
 (wU v1.1.Fields a2).bind λv2=>
 some (v2.1,v2.2)
def DA(a0:List Int)(a1:Int)(a2:Int):Option ((List Int) × Int):=
 if ((decide (a1<0))||(decide (a1>=(a0.length:Int)))) then
  some (a0,5)
 else
 (app 8 [] a0).bind λv1=>
 (ix v1 a1).bind λv2=>
 some ((v1.set (a1).toNat a2),0)
def BD(a0:y9)(a1:Int)(a2:Int)(a3:Int):Option (y9 × Int):=
 (M1 a0 a1).bind λv1=>
 if (v1.2 != 0) then
  some (a0,v1.2)
 else
 (DA v1.1.Fields a2 a3).bind λv2=>
 if (v2.2 != 0) then
  some (a0,v2.2)
 else
 (P5 a0 a1 (⟨v1.1.Serial,v1.1.Strong,v1.1.Weak,v1.1.Prog,v1.1.Started,v2.1⟩:R5)).bind λv3=>
 some (v3.1,v3.2)
def jX(a0:o7)(a1:Int)(a2:Int)(a3:Int):Option (o7 × Int):=
 (gk a0.S a1 a2).bind λv1=>
 if (v1.2 != 0) then
  some (a0,v1.2)
 else
 (gm a0 a3).bind λv2=>
 if (!v2) then
  some (a0,3)
 else
 (ca a0 a3).bind λv3=>
 (BD v3.S a1 a2 a3).bind λv4=>
 (J3 (⟨v4.1,v3.Roots,v3.a8,v3.T,v3.Q⟩:o7) v1.1).bind λv5=>
 some (v5,0)
def DB(a0:Int)(a1:Int):Option Int:=
 if (decide (a0<1)) then
  some 0
 else
 (rem (z8 ((z8 (5*a1))+1)) a0).bind λv1=>
 if (decide (v1<0)) then
  some (z8 (v1+a0))
 else
 some v1
def BG(a0:List B5)(a1:Int)(a2:Int):Option ((List B5) × Int):=
 (fi a0 a1).bind λv1=>
 if (decide (v1>=0)) then
  (fk a0 v1 (⟨1,a1,a2⟩:B5)).bind λv2=>
  some (v2,0)
 else
 (DB (a0.length:Int) a1).bind λv3=>
 jn (λ(_:Unit)=>
  some (a0,8)) (λκ12=>
  (lp (S:=Int × Int) (E:=((List B5) × Int) ⊕ Unit) (λ((s15,s16):Int × Int)=>
   if (decide (s16<(a0.length:Int))) then
    (ix a0 s15).bind λv19=>
    if (v19.State != 1) then
     (fk a0 s15 (⟨1,a1,a2⟩:B5)).bind λv20=>
     some (.inr (.inl (v20,0)))
    else
    (rem (z8 (s15+1)) (a0.length:Int)).bind λv21=>
    some (.inl (v21,z8 (s16+1)))
   else
   some (.inr (.inr ()))) (v3,0)).bind λe14=>
  match e14 with
  | .inl w=>some w
  | .inr w=>κ12 w)
def BH(a0:List B5)(a1:Int)(a2:Int):Option ((List B5) × Int × Int):=
 if (a1==0) then
  some (a0,0,2)
 else
 (vi a0 a1).bind λv1=>
 if (a2==0) then
  (nA a0 a1).bind λv2=>
  some (v2.1,v1.1,0)
 else
 (BG a0 a1 a2).bind λv3=>
 if (v3.2 != 0) then
  some (a0,0,v3.2)
 else
 some (v3.1,v1.1,0)
def nB(a0:o7)(a1:Int)(a2:Int):Option (o7 × Int):=
 if (a1==0) then
  some (a0,2)
 else
 (gl a0 a1).bind λv1=>
 (z1 ((!v1)==false) false (gm a0 a2)).bind λv2=>
 if ((!v1)||(!v2)) then
  some (a0,3)
 else
 (BH a0.T a1 a2).bind λv3=>
 if (v3.2.2 != 0) then
  some (a0,v3.2.2)
 else
 (ca a0 a2).bind λv4=>
 (J3 (⟨v4.S,v4.Roots,v4.a8,v3.1,v4.Q⟩:o7) v3.2.1).bind λv5=>
 some (v5,0)
def cE(a0:o7)(a1:au):Option (o7 × Int × Int):=
 if ((a1.Kind==6)&&(decide (a1.B<0))) then
  (gQ a0 a1.A 0 a1.C).bind λv1=>
  some (v1.1,0,v1.2)
 else
 jn (λ(j3:Int)=>
  (ae a0 j3).bind λv4=>
  if (v4.2 != 0) then
   some (a0,0,v4.2)
  else
  if (a1.Kind==5) then
   (jY a0 a1.C).bind λv5=>
   (jX a0 v4.1 a1.B v5).bind λv6=>
   some (v6.1,v5,v6.2)
  else
  if (a1.Kind==6) then
   (gQ a0 a1.A v4.1 a1.C).bind λv7=>
   some (v7.1,v4.1,v7.2)
  else
  (jY a0 a1.B).bind λv8=>
  (nB a0 v4.1 v8).bind λv9=>
  some (v9.1,v8,v9.2)) (λκ2=>
  if (a1.Kind==6) then
   κ2 a1.B
  else
  κ2 a1.A)
def vh(a0:Int):Option ((List Int) × Int):=
 if ((decide (a0<0))||(decide (a0 > 4))) then
  some ([],1)
 else
 (mk 8 a0 (0:Int)).bind λv1=>
 some (v1,0)
def ny(a0:H0)(a1:Int):Option (H0 × Int × Int):=
 jn (λ(_:Unit)=>
  some (a0,0,4)) (λκ7=>
  (lp (S:=Int) (E:=(H0 × Int × Int) ⊕ Unit) (λ(s10:Int)=>
   if (decide (s10<(a0.a8.length:Int))) then
    (ix a0.a8 s10).bind λv12=>
    if (v12.State==0) then
     (bE a0 s10 (⟨1,v12.Gen,a1⟩:O7)).bind λv13=>
     (jT s10 v12.Gen).bind λv14=>
     some (.inr (.inl (v13,v14,0)))
    else
    some (.inl (z8 (s10+1)))
   else
   some (.inr (.inr ()))) 0).bind λe9=>
  match e9 with
  | .inl w=>some w
  | .inr w=>κ7 w)
def fg(a0:y9)(a1:Int)(a2:Int):Option (y9 × Int × Int):=
 (vh a1).bind λv1=>
 if (v1.2 != 0) then
  some (a0,0,v1.2)
 else
 if ((decide (a2<(-1)))||(decide (a2 > 5))) then
  some (a0,0,13)
 else
 (X0 a0).bind λv2=>
 (ny v2 0).bind λv3=>
 if (v3.2.2 != 0) then
  some (a0,0,v3.2.2)
 else
 (bZ a0 v3.1).bind λv4=>
 (nw v3.2.1).bind λv5=>
 (fh v4 v5 (⟨z8 (a0.Serial+1),0,0,a2,false,v1.1⟩:R5)).bind λv6=>
 some ((⟨v6.a8,v6.Last,z8 (a0.Serial+1)⟩:y9),v3.2.1,0)
def rH(a0:List H2)(a1:Int):Option (Int × Int):=
 if ((decide (a1<0))||(decide (a1>=(a0.length:Int)))) then
  some (0,7)
 else
 (ix a0 a1).bind λv1=>
 if ((v1.Target==0)||(!v1.Intact)) then
  some (0,9)
 else
 some (v1.Target,0)
def vj(a0:List B5)(a1:Int):Option (Int × Int):=
 (vi a0 a1).bind λv1=>
 some (v1.1,v1.2)
def ed(a0:o7)(a1:au):Option (Int × Int):=
 if (a1.Kind==2) then
  (ix a0.Roots a1.B).bind λv1=>
  some (v1,0)
 else
 if (a1.Kind==4) then
  (ae a0 a1.B).bind λv2=>
  if (v2.2 != 0) then
   some (0,v2.2)
  else
  (gk a0.S v2.1 a1.C).bind λv3=>
  some (v3.1,v3.2)
 else
 if (a1.Kind==7) then
  (rH a0.a8 a1.B).bind λv4=>
  some (v4.1,v4.2)
 else
 if (a1.Kind==9) then
  (ae a0 a1.B).bind λv5=>
  if (v5.2 != 0) then
   some (0,v5.2)
  else
  (vj a0.T v5.1).bind λv6=>
  some (v6.1,v6.2)
 else
 some (0,0)
def D9(a0:o7)(a1:au):Option (o7 × Int × Int):=
 (cD a1).bind λv1=>
 if (v1 != 0) then
  some (a0,0,v1)
 else
 (ab a1).bind λv2=>
 if (!v2) then
  some (a0,0,14)
 else
 if (a1.Kind==10) then
  (ix a0.Roots a1.A).bind λv3=>
  (ix a0.Roots a1.B).bind λv4=>
  if (v3==v4) then
   some (a0,1,0)
  else
  some (a0,0,0)
 else
 jn (λ(j6:Bool)=>
  if j6 then
   (cE a0 a1).bind λv7=>
   if (v7.2.2 != 0) then
    some (a0,0,v7.2.2)
   else
   (aO v7.1).bind λv8=>
   (gS a0 v7.2.1).bind λv9=>
   some (v8,v9,0)
  else
  if (a1.Kind==1) then
   (fg a0.S a1.B a1.C).bind λv10=>
   if (v10.2.2 != 0) then
    some (a0,0,v10.2.2)
   else
   (gP (⟨v10.1,a0.Roots,a0.a8,a0.T,a0.Q⟩:o7) a1.A v10.2.1).bind λv11=>
   (aO v11.1).bind λv12=>
   (tx v12 a1.A).bind λv13=>
   some (v12,v13,0)
  else
  (ed a0 a1).bind λv14=>
  if (v14.2 != 0) then
   some (a0,0,v14.2)
  else
  (gP a0 a1.A v14.1).bind λv15=>
  (aO v15.1).bind λv16=>
  (tx v16 a1.A).bind λv17=>
  some (v16,v17,0)) (λκ5=>
  if (a1.Kind==5) then
   κ5 (a1.Kind==5)
  else
  if (a1.Kind==6) then
   κ5 (a1.Kind==6)
  else
  κ5 (a1.Kind==8))
def HA(a0:o7)(a1:List au):Option (o7 × (List Int)):=
 jn (λ((j11,j12):o7 × (List Int))=>
  some (j11,j12)) (λκ10=>
  (lp (S:=Int × o7 × (List Int)) (E:=(o7 × (List Int))) (λ((s15,s16,s17):Int × o7 × (List Int))=>
   if (decide (s15<(a1.length:Int))) then
    (ix a1 s15).bind λv20=>
    (D9 s16 v20).bind λv21=>
    (app 8 s17 [v21.2.1]).bind λv22=>
    some (.inl (z8 (s15+1),v21.1,v22))
   else
   some (.inr (s16,s17))) (0,a0,[])).bind λe14=>
  κ10 e14)
end
end Go.Sh
