/- A part. -/
import Derived.Test.YtppgkaeodaaidaaGreatDoorU3hSh0
import Derived.Test.YtppgkaeodaaidaaGreatDoorU3hPwD
import Derived.Test.YtppgkaeodaaidaaGreatDoorU3hPwC
import Derived.Test.YtppgkaeodaaidaaGreatDoorU3hPwE
set_option linter.unusedVariables false
set_option linter.unusedSimpArgs false
set_option linter.unusedSectionVars false
namespace Go.Sh
set_option maxRecDepth 100000
noncomputable section
structure o9 where
 Serial:Int
 Strong:Int
 Weak:Int
 Prog:Int
 Started:Bool
 Fields:List Int
structure b7 where
 State:Int
 Gen:Int
 Val:o9
structure j5 where
 Target:Int
 Intact:Bool
 Call:Int
structure b8 where
 State:Int
 Key:Int
 Val:Int
structure l7 where
 Kind:Int
 At:Int
 Prog:Int
structure c8 where
 Kind:Int
 A:Int
 B:Int
 C:Int
structure s6 where
 start:Int
 end_:Int
structure c5 where
 a8:List b7
 Last:Int
structure a7 where
 S:c5
 Serial:Int
structure k7 where
 L:List l7
 Cap:Int
structure b6 where
 S:a7
 Roots:List Int
 a8:List j5
 T:List b8
 Q:k7
structure u9 where
 X:b6
 Progs:List (List c8)
structure c4 where
 g:u9
 begun:Bool
 progs:List (List c8)
structure c9 where
 takes:Fw
 run:Fw
 early:Bool
structure k8 where
 part:Fv
 least:Int
 most:Int
 e:Int
structure u3 where
 x:b6
 o:c8
structure H9 where
 r:Int
 h:Int
structure G7 where
 h:Int
 k:Int
 v:Int
structure H8 where
 t:List b8
structure r7 where
 Key:Int
 Val:Int
structure l6 where
 L:List Int
 Cap:Int
structure D4 where
 V:Int
 E:Int
def Z3(a0:Int):Option Bool:=
 some (((a0==9)||(a0==13))||(a0==32))
def D5(a0:ByteArray):Option (List ByteArray):=
 jn (λ((j10,j11):Int × (List s6))=>
  jn (λ(j15:List s6)=>
   (mk 16 (j15.length:Int) (ByteArray.empty:ByteArray)).bind λv16=>
   jn (λ(j26:List ByteArray)=>
    some j26) (λκ25=>
    (lp (S:=Int × (List ByteArray)) (E:=(List ByteArray)) (λ((s28,s29):Int × (List ByteArray))=>
     if (decide (s28<(j15.length:Int))) then
      (ix j15 s28).bind λv32=>
      (FP a0 v32.start v32.end_).bind λv33=>
      (ix s29 s28).bind λv34=>
      some (.inl (z8 (s28+1),(s29.set (s28).toNat v33)))
     else
     some (.inr s29)) (0,v16)).bind λe27=>
    κ25 e27)) (λκ14=>
   if (decide (j10>=0)) then
    (app 16 j11 [(⟨j10,(a0.size:Int)⟩:s6)]).bind λv35=>
    κ14 v35
   else
   κ14 j11)) (λκ9=>
  (lp (S:=Int × Nat × (List s6)) (E:=(Int × (List s6))) (λ((s37,s38,s39):Int × Nat × (List s6))=>
   if (decide (s38<a0.size)) then
    (Z3 ((dec a0 s38).1:Int)).bind λv42=>
    if v42 then
     if (decide (s37>=0)) then
      (app 16 s39 [(⟨s37,((s38:Nat):Int)⟩:s6)]).bind λv43=>
      some (.inl (vF .i64 s37,(s38+(dec a0 s38).2),v43))
     else
     some (.inl (s37,(s38+(dec a0 s38).2),s39))
    else
    if (decide (s37<0)) then
     some (.inl (((s38:Nat):Int),(s38+(dec a0 s38).2),s39))
    else
    some (.inl (s37,(s38+(dec a0 s38).2),s39))
   else
   some (.inr (s37,s39))) ((-1),0,[])).bind λe36=>
  κ9 e36)
def Z2(a0:Int):Option Int:=
 some a0
def B4(a0:Int)(a1:Int):Option c9:=
 (Z2 a1).bind λv1=>
 some (⟨(some (137,some v1)),(some (138,some a0)),false⟩:c9)
def dU:Option (List (ByteArray × c9)):=
 (Z2 3).bind λv1=>
 (B4 1 3).bind λv2=>
 (B4 2 2).bind λv3=>
 (B4 3 1).bind λv4=>
 (B4 4 3).bind λv5=>
 (B4 5 3).bind λv6=>
 (B4 6 3).bind λv7=>
 (B4 7 2).bind λv8=>
 (B4 8 2).bind λv9=>
 (B4 9 2).bind λv10=>
 (B4 10 2).bind λv11=>
 (B4 11 0).bind λv12=>
 (B4 12 1).bind λv13=>
 (Z2 0).bind λv14=>
 some (o0 (o0 (o0 (o0 (o0 (o0 (o0 (o0 (o0 (o0 (o0 (o0 (o0 (o0 (o0 (o0 (o0 [] (r9 [112,114,111,103]) (⟨(some (75,none)),(some (76,none)),true⟩:c9)) (r9 [104,101,97,112]) (⟨(some (137,some v1)),(some (78,none)),true⟩:c9)) (r9 [110,101,119]) v2) (r9 [99,111,112,121]) v3) (r9 [100,114,111,112]) v4) (r9 [108,111,97,100]) v5) (r9 [115,116,111,114,101]) v6) (r9 [119,101,97,107]) v7) (r9 [117,112]) v8) (r9 [112,97,105,114]) v9) (r9 [103,101,116]) v10) (r9 [115,97,109,101]) v11) (r9 [99,111,108,108,101,99,116]) v12) (r9 [100,114,97,105,110]) v13) (r9 [108,105,118,101,115]) (⟨(some (137,some v14)),(some (80,none)),false⟩:c9)) (r9 [114,111,111,116,115]) (⟨(some (137,some v14)),(some (81,none)),false⟩:c9)) (r9 [116,97,108,108,121]) (⟨(some (137,some v14)),(some (82,none)),false⟩:c9))
def aG(a0:ByteArray):Option (Int × Bool):=
 jn (λ((j9,j10,j11):Int × Int × Int)=>
  if (j10==0) then
   some (0,false)
  else
  some (z8 (j11*j9),true)) (λκ8=>
  (lp (S:=Int × Int × Int × Nat) (E:=(Int × Int × Int)) (λ((s14,s15,s16,s17):Int × Int × Int × Nat)=>
   if (decide (s17<a0.size)) then
    if ((((s17:Nat):Int)==0)&&(((dec a0 s17).1:Int)==45)) then
     some (.inl (s14,s15,(-1),(s17+(dec a0 s17).2)))
    else
    if (((decide (((dec a0 s17).1:Int)<48))||(decide (((dec a0 s17).1:Int) > 57)))||(s15==9)) then
     some (.inr (s14,0,s16))
    else
    some (.inl (z8 ((z8 (s14*10))+(z8 (IntKind.i32.wrap (((dec a0 s17).1:Int)-48)))),z8 (s15+1),s16,(s17+(dec a0 s17).2)))
   else
   some (.inr (s14,s15,s16))) (0,0,1,0)).bind λXl=>
  κ8 Xl)
def az(a0:List ByteArray):Option ((List Int) × Bool):=
 jn (λ(j10:List Int)=>
  some (j10,true)) (λκ9=>
  (lp (S:=Int × (List Int)) (E:=((List Int) × Bool) ⊕ (List Int)) (λ((s12,s13):Int × (List Int))=>
   if (decide (s12<(a0.length:Int))) then
    (ix a0 s12).bind λv16=>
    (aG v16).bind λv17=>
    if (!v17.2) then
     some (.inr (.inl ([],false)))
    else
    (app 8 s13 [v17.1]).bind λv18=>
    some (.inl (z8 (s12+1),v18))
   else
   some (.inr (.inr s13))) (0,[])).bind λe11=>
  match e11 with
  | .inl w=>some w
  | .inr w=>κ9 w)
def bQ(a0:Int):Option Bool:=
 (rem a0 4).bind λv1=>
 some (v1==1)
def cV(a0:Int)(a1:Int):Option Bool:=
 some (a0==a1)
def oC(f:Fw)(a0:Int):Option Bool:=
 match f with
 | none=>none
 | some (n,none)=>
  if n=75 then bQ a0 else
  none
 | some (n,some c)=>
  if n=137 then cV a0 c else
  none
def B7(a0:Int):Option ByteArray:=
 (nQ a0).bind λv1=>
 (tJ (r9 [101,114,114,111,114,32]) v1).bind λv2=>
 some v2
def dR(a0:c8):Option Bool:=
 some ((decide (a0.Kind>=1))&&(decide (a0.Kind<=10)))
def ak:Option k8:=
 some (⟨(some 169),0,5,6⟩:k8)
def U3:Option k8:=
 some (⟨(some 172),(-1),5,13⟩:k8)
def J0(a0:List k8):Option (List k8):=
 some a0
def al:Option k8:=
 some (⟨(some 170),0,5,6⟩:k8)
def X8:Option k8:=
 some (⟨(some 172),0,3,5⟩:k8)
def X7:Option k8:=
 some (⟨(some 170),0,3,5⟩:k8)
def P0:Option k8:=
 some (⟨(some 172),(-1),5,6⟩:k8)
def ai:Option k8:=
 some (⟨(some 169),0,5,7⟩:k8)
def O9:Option k8:=
 some (⟨(some 170),(-1),5,6⟩:k8)
def aj:Option k8:=
 some (⟨(some 170),0,5,7⟩:k8)
def kV:Option (List (Int × (List k8))):=
 (ak).bind λv1=>
 (U3).bind λv2=>
 (J0 [v1,(⟨(some 170),0,4,1⟩:k8),v2]).bind λv3=>
 (al).bind λv4=>
 (J0 [v1,v4]).bind λv5=>
 (J0 [v1]).bind λv6=>
 (X8).bind λv7=>
 (J0 [v1,v4,v7]).bind λv8=>
 (X7).bind λv9=>
 (P0).bind λv10=>
 (J0 [v1,v9,v10]).bind λv11=>
 (ai).bind λv12=>
 (O9).bind λv13=>
 (J0 [v12,v13,v2]).bind λv14=>
 (aj).bind λv15=>
 (J0 [v1,v15]).bind λv16=>
 (J0 [v1,v13]).bind λv17=>
 (J0 []).bind λv18=>
 (J0 [(⟨(some 169),0,200,12⟩:k8)]).bind λv19=>
 some (o0 (o0 (o0 (o0 (o0 (o0 (o0 (o0 (o0 (o0 (o0 (o0 [] 1 v3) 2 v5) 3 v6) 4 v8) 5 v11) 6 v14) 7 v16) 8 v17) 9 v5) 10 v5) 11 v18) 12 v19)
def pZ(a0:c8):Option Int:=
 some a0.A
def qc(a0:c8):Option Int:=
 some a0.B
def qd(a0:c8):Option Int:=
 some a0.C
def qW(f:Fv)(a0:c8):Option Int:=
 if f=some 169 then pZ a0 else
 if f=some 170 then qc a0 else
 if f=some 172 then qd a0 else
 none
def U2(a0:c8):Option Int:=
 (kV).bind λv1=>
 if (!((y9 v1 a0.Kind).isSome)) then
  some 14
 else
 jn (λ(_:Unit)=>
  some 0) (λκ8=>
  (lp (S:=Int) (E:=Int ⊕ Unit) (λ(s11:Int)=>
   if (decide (s11<(((y9 v1 a0.Kind).getD ([]:List k8)).length:Int))) then
    (ix ((y9 v1 a0.Kind).getD ([]:List k8)) s11).bind λv13=>
    (qW v13.part a0).bind λv14=>
    if ((decide (v14<v13.least))||(decide (v14 > v13.most))) then
     some (.inr (.inl v13.e))
    else
    some (.inl (z8 (s11+1)))
   else
   some (.inr (.inr ()))) 0).bind λe10=>
  match e10 with
  | .inl w=>some w
  | .inr w=>κ8 w)
def dS(a0:List (List c8)):Option Bool:=
 if (decide ((a0.length:Int) > 6)) then
  some false
 else
 jn (λ(_:Unit)=>
  some true) (λκ20=>
  (lp (S:=Int) (E:=Bool ⊕ Unit) (λ(s23:Int)=>
   if (decide (s23<(a0.length:Int))) then
    jn (λ(_:Unit)=>
     some (.inl (z8 (s23+1)))) (λκ32=>
     (ix a0 s23).bind λv34=>
     if (decide ((v34.length:Int) > 6)) then
      some (.inr (.inl false))
     else
     (lp (S:=Int) (E:=Bool ⊕ Unit) (λ(s36:Int)=>
      if (decide (s36<(v34.length:Int))) then
       (ix v34 s36).bind λv38=>
       (dR v38).bind λv39=>
       (z6 ((!v39)==false) 0 (U2 v38)).bind λv40=>
       if ((!v39)||(v40 != 0)) then
        some (.inr (.inl false))
       else
       some (.inl (z8 (s36+1)))
      else
      some (.inr (.inr ()))) 0).bind λe35=>
     match e35 with
     | .inl w=>some (.inr (.inl w))
     | .inr w=>κ32 w)
   else
   some (.inr (.inr ()))) 0).bind λe22=>
  match e22 with
  | .inl w=>some w
  | .inr w=>κ20 w)
def N4(a0:c4)(a1:List Int):Option (c4 × ByteArray):=
 (ix a1 0).bind λv1=>
 if ((decide (v1<0))||(decide (v1>=6))) then
  (B7 13).bind λv2=>
  some (a0,v2)
 else
 (mk 24 (if (a0.progs.length:Int) > (z8 (v1+1)) then (a0.progs.length:Int) else z8 (v1+1)) ([]:List c8)).bind λv3=>
 (uB v3 a0.progs).bind λv4=>
 (ix v4 v1).bind λv5=>
 jn (λ(j19:List c8)=>
  (dS (v4.set ((v1).toNat) j19)).bind λv20=>
  if (!v20) then
   (B7 13).bind λv21=>
   some (a0,v21)
  else
  some ((⟨a0.g,a0.begun,(v4.set ((v1).toNat) j19)⟩:c4),(r9 [111,107]))) (λκ18=>
  (cut a1 1 (a1.length:Int)).bind λv22=>
  (lp (S:=(List Int) × (List c8)) (E:=(List c8)) (λ((s24,s25):(List Int) × (List c8))=>
   if (decide ((s24.length:Int) > 0)) then
    (ix s24 0).bind λv28=>
    (ix s24 1).bind λv29=>
    (ix s24 2).bind λv30=>
    (ix s24 3).bind λv31=>
    (app 32 s25 [(⟨v28,v29,v30,v31⟩:c8)]).bind λv32=>
    (cut s24 4 (s24.length:Int)).bind λv33=>
    some (.inl (v33,v32))
   else
   some (.inr s25)) (v22,[])).bind λe23=>
  κ18 e23)
def Y5(a0:Int)(a1:Int):Option c5:=
 if ((((decide (a0<0))||(decide (a0 > 24)))||(decide (a1<0)))||(decide (a1 > 9))) then
  some (⟨[],0⟩:c5)
 else
 (mk 80 a0 (⟨0,0,⟨0,0,0,0,false,[]⟩⟩:b7)).bind λv1=>
 some (⟨v1,a1⟩:c5)
def gq(a0:Int)(a1:Int):Option a7:=
 (Y5 a0 a1).bind λv1=>
 some (⟨v1,0⟩:a7)
def Ef(a0:Int):Option (List j5):=
 if ((decide (a0<0))||(decide (a0 > 6))) then
  some []
 else
 (mk 24 a0 (⟨0,false,0⟩:j5)).bind λv1=>
 jn (λ(j9:List j5)=>
  some j9) (λκ8=>
  (lp (S:=Int × (List j5)) (E:=(List j5)) (λ((s11,s12):Int × (List j5))=>
   if (decide (s11<(v1.length:Int))) then
    (ix s12 s11).bind λv15=>
    some (.inl (z8 (s11+1),(s12.set (s11).toNat (⟨v15.Target,v15.Intact,(-1)⟩:j5))))
   else
   some (.inr s12)) (0,v1)).bind λe10=>
  κ8 e10)
def rh(a0:Int):Option (List b8):=
 if ((decide (a0<1))||(decide (a0 > 8))) then
  some []
 else
 (mk 24 a0 (⟨0,0,0⟩:b8)).bind λv1=>
 some v1
def bu(a0:Int):Option k7:=
 some (⟨[],a0⟩:k7)
def DT:Option k7:=
 (bu 30).bind λv1=>
 some v1
def jJ(a0:Int)(a1:Int)(a2:Int):Option b6:=
 if ((((((decide (a0<1))||(decide (a0 > 24)))||(decide (a1<0)))||(decide (a1 > 9)))||(decide (a2<1)))||(decide (a2 > 8))) then
  some (⟨⟨⟨[],0⟩,0⟩,[],[],[],⟨[],0⟩⟩:b6)
 else
 (gq a0 a1).bind λv1=>
 (mk 8 6 (0:Int)).bind λv2=>
 (Ef 6).bind λv3=>
 (rh a2).bind λv4=>
 (DT).bind λv5=>
 some (⟨v1,v2,v3,v4,v5⟩:b6)
def F9(a0:Int)(a1:Int)(a2:Int)(a3:List (List c8)):Option (u9 × Int):=
 (dS a3).bind λv1=>
 if (!v1) then
  some ((⟨⟨⟨⟨[],0⟩,0⟩,[],[],[],⟨[],0⟩⟩,[]⟩:u9),13)
 else
 (jJ a0 a1 a2).bind λv2=>
 if ((v2.Roots.length:Int)==0) then
  some ((⟨⟨⟨⟨[],0⟩,0⟩,[],[],[],⟨[],0⟩⟩,[]⟩:u9),1)
 else
 some ((⟨v2,a3⟩:u9),0)
def M3(a0:c4)(a1:List Int):Option (c4 × ByteArray):=
 (ix a1 0).bind λv1=>
 (ix a1 1).bind λv2=>
 (ix a1 2).bind λv3=>
 (F9 v1 v2 v3 a0.progs).bind λv4=>
 if (v4.2 != 0) then
  (B7 v4.2).bind λv5=>
  some (a0,v5)
 else
 some ((⟨v4.1,true,a0.progs⟩:c4),(r9 [111,107]))
def cq(a0:Int)(a1:Int):Option Int:=
 if ((((decide (a0<0))||(decide (a0>=24)))||(decide (a1<0)))||(decide (a1 > 9))) then
  some 0
 else
 some (z8 ((z8 (1+(z8 (a0*1))))+(z8 (a1*32))))
def cmp_isNaN_int(a0:Int):Option Bool:=
 some (a0 != a0)
def bL(a0:Int)(a1:Int):Option Int:=
 (cmp_isNaN_int a0).bind λv1=>
 (cmp_isNaN_int a1).bind λv2=>
 if v1 then
  if v2 then
   some 0
  else
  some (-1)
 else
 if v2 then
  some 1
 else
 if (decide (a0<a1)) then
  some (-1)
 else
 if (decide (a0 > a1)) then
  some 1
 else
 some 0
def dB(a0:Int)(a1:Int)(a2:List (Int × Int)):Option Int:=
 (bL ((y9 a2 a0).getD (0:Int)) ((y9 a2 a1).getD (0:Int))).bind λv1=>
 some v1
def E0(a0:a7):Option (List Int):=
 jn (λ((j18,j19):(List (Int × Int)) × (List Int))=>
  (nT (λp q=>dB p q j18) j19).bind λv21=>
  some v21) (λκ17=>
  (lp (S:=Int × (List (Int × Int)) × (List Int)) (E:=((List (Int × Int)) × (List Int))) (λ((s23,s24,s25):Int × (List (Int × Int)) × (List Int))=>
   if (decide (s23<(a0.S.a8.length:Int))) then
    jn (λ((j32,j33):(List (Int × Int)) × (List Int))=>
     some (.inl (z8 (s23+1),j32,j33))) (λκ31=>
     (ix a0.S.a8 s23).bind λv35=>
     if (v35.State==1) then
      (cq s23 v35.Gen).bind λv36=>
      (app 8 s25 [v36]).bind λv37=>
      κ31 ((o0 s24 v36 v35.Val.Serial),v37)
     else
     κ31 (s24,s25))
   else
   some (.inr (s24,s25))) (0,[],[])).bind λe22=>
  κ17 e22)
def da(a0:Int):Option (Int × Int × Bool):=
 if (decide (a0<1)) then
  some ((-1),(-1),false)
 else
 (rem (z8 (a0-1)) 32).bind λv1=>
 (quo .i64 v1 1).bind λv2=>
 (quo .i64 (z8 (a0-1)) 32).bind λv3=>
 if ((decide (v2>=24))||(decide (v3 > 9))) then
  some ((-1),(-1),false)
 else
 some (v2,v3,true)
def eV(a0:Int):Option Int:=
 (da a0).bind λv1=>
 some v1.1
def gH(a0:Int):Option Int:=
 (da a0).bind λv1=>
 some v1.2.1
def u7(a0:c5)(a1:Int):Option (Int × Int):=
 if (a1==0) then
  some ((-1),2)
 else
 (eV a1).bind λv1=>
 if ((decide (v1<0))||(decide (v1>=(a0.a8.length:Int)))) then
  some ((-1),3)
 else
 (ix a0.a8 v1).bind λv2=>
 (gH a1).bind λv3=>
 if ((v2.Gen != v3)||((v2.State != 1)&&(v2.State != 2))) then
  some ((-1),3)
 else
 some (v1,0)
def C4(a0:c5)(a1:Int):Option (o9 × Int):=
 (u7 a0 a1).bind λv1=>
 if (v1.2 != 0) then
  some ((⟨0,0,0,0,false,[]⟩:o9),v1.2)
 else
 (ix a0.a8 v1.1).bind λv2=>
 if (v2.State==2) then
  some ((⟨0,0,0,0,false,[]⟩:o9),3)
 else
 some (v2.Val,0)
def y3(a0:a7)(a1:Int):Option (o9 × Int):=
 (C4 a0.S a1).bind λv1=>
 some (v1.1,v1.2)
def aM(a0:b6)(a1:Int):Option Int:=
 (y3 a0.S a1).bind λv1=>
 some v1.1.Serial
def fN(a0:u9):Option (List Int):=
 jn (λ(j11:List Int)=>
  (oW j11).bind λv12=>
  some v12) (λκ10=>
  (E0 a0.X.S).bind λv13=>
  (lp (S:=Int × (List Int)) (E:=(List Int)) (λ((s15,s16):Int × (List Int))=>
   if (decide (s15<(v13.length:Int))) then
    (ix v13 s15).bind λv19=>
    (aM a0.X v19).bind λv20=>
    (app 8 s16 [v20]).bind λv21=>
    some (.inl (z8 (s15+1),v21))
   else
   some (.inr s16)) (0,[])).bind λe14=>
  κ10 e14)
def W0(a0:ByteArray)(a1:List Int):Option ByteArray:=
 jn (λ(j11:ByteArray)=>
  some j11) (λκ10=>
  (lp (S:=ByteArray × Int) (E:=ByteArray) (λ((s13,s14):ByteArray × Int)=>
   if (decide (s14<(a1.length:Int))) then
    (ix a1 s14).bind λv17=>
    (nQ v17).bind λv18=>
    (tJ (r9 [32]) v18).bind λv19=>
    (tJ s13 v19).bind λv20=>
    some (.inl (v20,z8 (s14+1)))
   else
   some (.inr s13)) (a0,0)).bind λe12=>
  κ10 e12)
def J8(a0:c4)(a1:List Int):Option (c4 × ByteArray):=
 (fN a0.g).bind λv1=>
 (W0 (r9 [108,105,118,101,115]) v1).bind λv2=>
 some (a0,v2)
def L8(a0:b6)(a1:Int):Option Int:=
 if ((decide (a1<0))||(decide (a1>=(a0.Roots.length:Int)))) then
  some 0
 else
 (ix a0.Roots a1).bind λv1=>
 some v1
def aL(a0:b6)(a1:Int):Option Int:=
 (L8 a0 a1).bind λv1=>
 (aM a0 v1).bind λv2=>
 some v2
def J9(a0:c4)(a1:List Int):Option (c4 × ByteArray):=
 (mk 8 6 (0:Int)).bind λv1=>
 jn (λ(j10:List Int)=>
  (W0 (r9 [114,111,111,116,115]) j10).bind λv11=>
  some (a0,v11)) (λκ9=>
  (lp (S:=Int × (List Int)) (E:=(List Int)) (λ((s13,s14):Int × (List Int))=>
   if (decide (s13<(v1.length:Int))) then
    (aL a0.g.X s13).bind λv17=>
    (ix s14 s13).bind λv18=>
    some (.inl (z8 (s13+1),(s14.set (s13).toNat v17)))
   else
   some (.inr s14)) (0,v1)).bind λe12=>
  κ9 e12)
def T6(a0:c5):Option A4:=
 jn (λ(j9:A4)=>
  some j9) (λκ8=>
  (lp (S:=Int × A4) (E:=A4) (λ((s11,s12):Int × A4)=>
   if (decide (s11<(a0.a8.length:Int))) then
    (ix a0.a8 s11).bind λv15=>
    (A4.ix s12 v15.State).bind λv16=>
    some (.inl (z8 (s11+1),(A4.st s12 v15.State (z8 (v16+1)))))
   else
   some (.inr s12)) (0,(⟨0,0,0,0⟩:A4))).bind λe10=>
  κ8 e10)
def fO(a0:u9):Option A4:=
 (T6 a0.X.S.S).bind λv1=>
 some v1
def Q9(a0:c4)(a1:List Int):Option (c4 × ByteArray):=
 (fO a0.g).bind λv1=>
 (W0 (r9 [116,97,108,108,121]) [v1.a,v1.b,v1.c,v1.d]).bind λv2=>
 some (a0,v2)
def X6(a0:List Int):Option (c8 × Int):=
 if ((a0.length:Int) != 4) then
  some ((⟨0,0,0,0⟩:c8),14)
 else
 (ix a0 0).bind λv1=>
 (ix a0 1).bind λv2=>
 (ix a0 2).bind λv3=>
 (ix a0 3).bind λv4=>
 (U2 (⟨v1,v2,v3,v4⟩:c8)).bind λv5=>
 if (v5 != 0) then
  some ((⟨0,0,0,0⟩:c8),v5)
 else
 some ((⟨v1,v2,v3,v4⟩:c8),0)
def la(a0:c8):Option NU:=
 if (a0.Kind==11) then
  some (⟨103,[]⟩:NU)
 else
 if (a0.Kind==12) then
  some (⟨107,[a0.A]⟩:NU)
 else
 some (⟨99,[a0.Kind,a0.A,a0.B,a0.C]⟩:NU)
def eI:Option (List (Int × Fv)):=
 some (o0 (o0 (o0 (o0 (o0 (o0 (o0 (o0 (o0 (o0 [] 1 (some 97)) 2 (some 98)) 3 (some 99)) 4 (some 100)) 5 (some 101)) 6 (some 102)) 7 (some 103)) 8 (some 104)) 9 (some 105)) 10 (some 106))
def sw(a0:Int):Option ((List Int) × Int):=
 if ((decide (a0<0))||(decide (a0 > 4))) then
  some ([],1)
 else
 (mk 8 a0 (0:Int)).bind λv1=>
 some (v1,0)
def T9(a0:Int):Option Bool:=
 some ((decide (a0>=(-1)))&&(decide (a0<6)))
def O8(a0:c5):Option c5:=
 some a0
def y7(a0:List b7):Option (List b7):=
 app 80 [] a0
def C9(a0:c5)(a1:Int)(a2:b7):Option c5:=
 (y7 a0.a8).bind λv1=>
 (ix v1 a1).bind λv2=>
 some (⟨(v1.set (a1).toNat a2),a0.Last⟩:c5)
def E5(a0:c5)(a1:o9):Option (c5 × Int × Int):=
 jn (λ(_:Unit)=>
  some (a0,0,4)) (λκ9=>
  (O8 a0).bind λv11=>
  (lp (S:=Int) (E:=(c5 × Int × Int) ⊕ Unit) (λ(s13:Int)=>
   if (decide (s13<(v11.a8.length:Int))) then
    (ix v11.a8 s13).bind λv15=>
    if ((v15.State==0)==true) then
     (ix a0.a8 s13).bind λv16=>
     (C9 a0 s13 (⟨1,v16.Gen,a1⟩:b7)).bind λv17=>
     (cq s13 v16.Gen).bind λv18=>
     some (.inr (.inl (v17,v18,0)))
    else
    some (.inl (z8 (s13+1)))
   else
   some (.inr (.inr ()))) 0).bind λe12=>
  match e12 with
  | .inl w=>some w
  | .inr w=>κ9 w)
def O0(a0:a7)(a1:Int)(a2:Int):Option (a7 × Int × Int):=
 (sw a1).bind λv1=>
 if (v1.2 != 0) then
  some (a0,0,v1.2)
 else
 (T9 a2).bind λv2=>
 if (!v2) then
  some (a0,0,13)
 else
 (E5 a0.S (⟨z8 (a0.Serial+1),0,0,a2,false,v1.1⟩:o9)).bind λv3=>
 if (v3.2.2 != 0) then
  some (a0,0,v3.2.2)
 else
 some ((⟨v3.1,z8 (a0.Serial+1)⟩:a7),v3.2.1,0)
def iO(a0:b6)(a1:Int):Option Bool:=
 (y3 a0.S a1).bind λv1=>
 some (v1.2==0)
def L5(a0:b6)(a1:Int):Option Bool:=
 (z6 ((a1==0)==false) false (iO a0 a1)).bind λv1=>
 some ((a1==0)||v1)
def G2(a0:Int):Option Bool:=
 some (decide (a0>=12))
def gy(a0:Int):Option (Int × Int):=
 (G2 a0).bind λv1=>
 if v1 then
  some (12,0)
 else
 some (z8 ((if 0 > a0 then 0 else a0)+1),0)
def oi(a0:Int):Option Int:=
 (gy a0).bind λv1=>
 some v1.1
def K5(a0:c5)(a1:Int)(a2:o9):Option (c5 × Int):=
 (u7 a0 a1).bind λv1=>
 if (v1.2 != 0) then
  some (a0,v1.2)
 else
 (ix a0.a8 v1.1).bind λv2=>
 (C9 a0 v1.1 (⟨v2.State,v2.Gen,a2⟩:b7)).bind λv3=>
 some (v3,0)
def K6(a0:a7)(a1:Int)(a2:o9):Option (a7 × Int):=
 (K5 a0.S a1 a2).bind λv1=>
 some ((⟨v1.1,a0.Serial⟩:a7),v1.2)
def W3(a0:b6)(a1:Int):Option b6:=
 (y3 a0.S a1).bind λv1=>
 if (v1.2==0) then
  (oi v1.1.Strong).bind λv2=>
  (K6 a0.S a1 (⟨v1.1.Serial,v2,v1.1.Weak,v1.1.Prog,v1.1.Started,v1.1.Fields⟩:o9)).bind λv3=>
  some (⟨v3.1,a0.Roots,a0.a8,a0.T,a0.Q⟩:b6)
 else
 some a0
def aK(a0:b6)(a1:Int):Option b6:=
 (W3 a0 a1).bind λv1=>
 some v1
def M8(a0:List Int):Option (List Int):=
 app 8 [] a0
def Q3(a0:H9)(a1:b6):Option b6:=
 (M8 a1.Roots).bind λv1=>
 (ix v1 a0.r).bind λv2=>
 some (⟨a1.S,(v1.set (a0.r).toNat a0.h),a1.a8,a1.T,a1.Q⟩:b6)
def dV(a0:Int):Option (Int × Int):=
 (G2 a0).bind λv1=>
 if v1 then
  some (12,0)
 else
 if (decide (a0<1)) then
  some (0,11)
 else
 some (z8 (a0-1),0)
def sK(a0:Int):Option (Int × Int):=
 (dV a0).bind λv1=>
 some (v1.1,v1.2)
def db(a0:Int):Option Int:=
 (sK a0).bind λv1=>
 if (v1.2 != 0) then
  some a0
 else
 some v1.1
def N8(a0:b6)(a1:Int):Option b6:=
 (y3 a0.S a1).bind λv1=>
 if (v1.2==0) then
  (db v1.1.Strong).bind λv2=>
  (K6 a0.S a1 (⟨v1.1.Serial,v2,v1.1.Weak,v1.1.Prog,v1.1.Started,v1.1.Fields⟩:o9)).bind λv3=>
  some (⟨v3.1,a0.Roots,a0.a8,a0.T,a0.Q⟩:b6)
 else
 some a0
def C8(a0:b6)(a1:Int):Option b6:=
 (N8 a0 a1).bind λv1=>
 some v1
def F2(a0:b6)(a1:Int)(a2:Int)(a3:H9):Option b6:=
 (aK a0 a2).bind λv1=>
 (Q3 a3 v1).bind λv2=>
 (C8 v2 a1).bind λv3=>
 some v3
def bc(a0:b6)(a1:Int)(a2:Int):Option (b6 × Int):=
 if ((decide (a1<0))||(decide (a1>=(a0.Roots.length:Int)))) then
  some (a0,6)
 else
 (L5 a0 a2).bind λv1=>
 if (!v1) then
  some (a0,3)
 else
 (ix a0.Roots a1).bind λv2=>
 (F2 a0 v2 a2 (⟨a1,a2⟩:H9)).bind λv3=>
 some (v3,0)
def B6(a0:u3)(a1:Int)(a2:Int):Option (b6 × Int):=
 if (a2 != 0) then
  some (a0.x,a2)
 else
 (bc a0.x a0.o.A a1).bind λv1=>
 some (v1.1,v1.2)
def V1(a0:u3):Option (b6 × Int):=
 (O0 a0.x.S a0.o.B a0.o.C).bind λv1=>
 if (v1.2.2 != 0) then
  some (a0.x,v1.2.2)
 else
 (B6 (⟨⟨v1.1,a0.x.Roots,a0.x.a8,a0.x.T,a0.x.Q⟩,a0.o⟩:u3) v1.2.1 0).bind λv2=>
 some (v2.1,v2.2)
def I2(a0:u3):Option (b6 × Int):=
 (L8 a0.x a0.o.B).bind λv1=>
 (B6 a0 v1 0).bind λv2=>
 some (v2.1,v2.2)
def aB(a0:u3):Option (b6 × Int):=
 (B6 a0 0 0).bind λv1=>
 some (v1.1,v1.2)
def M6(a0:b6)(a1:Int):Option (Int × Int):=
 (L8 a0 a1).bind λv1=>
 if (v1==0) then
  some (0,2)
 else
 some (v1,0)
def mh(a0:List Int)(a1:Int):Option Bool:=
 some ((decide (a1>=0))&&(decide (a1<(a0.length:Int))))
def nZ(a0:List Int)(a1:Int):Option (Int × Int):=
 (mh a0 a1).bind λv1=>
 if (!v1) then
  some (0,5)
 else
 (ix a0 a1).bind λv2=>
 some (v2,0)
def T8(a0:a7)(a1:Int)(a2:Int):Option (Int × Int):=
 (y3 a0 a1).bind λv1=>
 if (v1.2 != 0) then
  some (0,v1.2)
 else
 (nZ v1.1.Fields a2).bind λv2=>
 some (v2.1,v2.2)
def aC(a0:u3):Option (b6 × Int):=
 (M6 a0.x a0.o.B).bind λv1=>
 if (v1.2 != 0) then
  some (a0.x,v1.2)
 else
 (T8 a0.x.S v1.1 a0.o.C).bind λv2=>
 (B6 a0 v2.1 v2.2).bind λv3=>
 some (v3.1,v3.2)
def xy(a0:List Int)(a1:Int)(a2:Int):Option ((List Int) × Int):=
 (mh a0 a1).bind λv1=>
 if (!v1) then
  some (a0,5)
 else
 (mk 8 (a0.length:Int) (0:Int)).bind λv2=>
 (uB v2 a0).bind λv3=>
 (ix v3 a1).bind λv4=>
 some ((v3.set (a1).toNat a2),0)
def oX(a0:a7)(a1:Int)(a2:Int)(a3:Int):Option (a7 × Int):=
 (y3 a0 a1).bind λv1=>
 if (v1.2 != 0) then
  some (a0,v1.2)
 else
 (xy v1.1.Fields a2 a3).bind λv2=>
 if (v2.2 != 0) then
  some (a0,v2.2)
 else
 (K6 a0 a1 (⟨v1.1.Serial,v1.1.Strong,v1.1.Weak,v1.1.Prog,v1.1.Started,v2.1⟩:o9)).bind λv3=>
 some (v3.1,v3.2)
def bq(a0:G7)(a1:b6):Option b6:=
 (oX a1.S a0.h a0.k a0.v).bind λv1=>
 some (⟨v1.1,a1.Roots,a1.a8,a1.T,a1.Q⟩:b6)
def I0(a0:b6)(a1:Int)(a2:Int)(a3:G7):Option b6:=
 (aK a0 a2).bind λv1=>
 (bq a3 v1).bind λv2=>
 (C8 v2 a1).bind λv3=>
 some v3
def aJ(a0:b6)(a1:Int)(a2:Int)(a3:Int):Option (b6 × Int):=
 (T8 a0.S a1 a2).bind λv1=>
 if (v1.2 != 0) then
  some (a0,v1.2)
 else
 (L5 a0 a3).bind λv2=>
 if (!v2) then
  some (a0,3)
 else
 (I0 a0 v1.1 a3 (⟨a1,a2,a3⟩:G7)).bind λv3=>
 some (v3,0)
def Y2(a0:u3):Option (b6 × Int):=
 (M6 a0.x a0.o.A).bind λv1=>
 if (v1.2 != 0) then
  some (a0.x,v1.2)
 else
 (L8 a0.x a0.o.C).bind λv2=>
 (aJ a0.x v1.1 a0.o.B v2).bind λv3=>
 some (v3.1,v3.2)
def vq(a0:k7)(a1:Int):Option (k7 × Int):=
 some (a0,a1)
def il(a0:k7)(a1:Int):Option Bool:=
 jn (λ(_:Unit)=>
  some false) (λκ6=>
  (vq a0 2).bind λv8=>
  (lp (S:=Int) (E:=Bool ⊕ Unit) (λ(s10:Int)=>
   if (decide (s10<(v8.1.L.length:Int))) then
    (ix v8.1.L s10).bind λv12=>
    if ((v12.Kind==v8.2)==true) then
     if (v12.At==a1) then
      some (.inr (.inl true))
     else
     some (.inl (z8 (s10+1)))
    else
    some (.inl (z8 (s10+1)))
   else
   some (.inr (.inr ()))) 0).bind λe9=>
  match e9 with
  | .inl w=>some w
  | .inr w=>κ6 w)
def kD(a0:List j5)(a1:Int):Option Bool:=
 some ((decide (a1>=0))&&(decide (a1<(a0.length:Int))))
def aV(a0:List j5):Option (List j5):=
 (mk 24 (a0.length:Int) (⟨0,false,0⟩:j5)).bind λv1=>
 (uB v1 a0).bind λv2=>
 some v2
def sz(a0:List j5)(a1:Int)(a2:Int)(a3:Int):Option ((List j5) × Int × Int):=
 (kD a0 a1).bind λv1=>
 if (!v1) then
  some (a0,0,7)
 else
 (aV a0).bind λv2=>
 (ix v2 a1).bind λv3=>
 (ix a0 a1).bind λv4=>
 some ((v2.set (a1).toNat (⟨a2,(a2 != 0),a3⟩:j5)),v4.Target,0)
def cv(a0:b6)(a1:Int)(a2:Int):Option b6:=
 (u7 a0.S.S a1).bind λv1=>
 if (v1.2==0) then
  (ix a0.S.S.a8 v1.1).bind λv2=>
  (K6 a0.S a1 (⟨v2.Val.Serial,v2.Val.Strong,z8 (v2.Val.Weak+a2),v2.Val.Prog,v2.Val.Started,v2.Val.Fields⟩:o9)).bind λv3=>
  some (⟨v3.1,a0.Roots,a0.a8,a0.T,a0.Q⟩:b6)
 else
 some a0
def O7(a0:c5)(a1:Int):Option (c5 × Int):=
 (u7 a0 a1).bind λv1=>
 if (v1.2 != 0) then
  some (a0,v1.2)
 else
 (ix a0.a8 v1.1).bind λv2=>
 if (v2.Gen==a0.Last) then
  (C9 a0 v1.1 (⟨3,v2.Gen,⟨0,0,0,0,false,[]⟩⟩:b7)).bind λv3=>
  some (v3,0)
 else
 (C9 a0 v1.1 (⟨0,z8 (v2.Gen+1),⟨0,0,0,0,false,[]⟩⟩:b7)).bind λv4=>
 some (v4,0)
def eG(a0:b6)(a1:Int):Option b6:=
 (cv a0 a1 (-1)).bind λv1=>
 (u7 v1.S.S a1).bind λv2=>
 if (v2.2 != 0) then
  some v1
 else
 (ix v1.S.S.a8 v2.1).bind λv3=>
 if ((v3.State==2)&&(v3.Val.Weak==0)) then
  (O7 v1.S.S a1).bind λv4=>
  some (⟨⟨v4.1,v1.S.Serial⟩,v1.Roots,v1.a8,v1.T,v1.Q⟩:b6)
 else
 some v1
def W2(a0:b6)(a1:Int)(a2:Int)(a3:Int):Option (b6 × Int):=
 (z6 (((decide (a1<0))||(decide (a1>=(a0.a8.length:Int))))==false) false (il a0.Q a1)).bind λv1=>
 if (((decide (a1<0))||(decide (a1>=(a0.a8.length:Int))))||v1) then
  some (a0,7)
 else
 (L5 a0 a2).bind λv2=>
 if (!v2) then
  some (a0,3)
 else
 (sz a0.a8 a1 a2 a3).bind λv3=>
 (cv (⟨a0.S,a0.Roots,v3.1,a0.T,a0.Q⟩:b6) a2 1).bind λv4=>
 (eG v4 v3.2.1).bind λv5=>
 some (v5,0)
def V2(a0:u3):Option (b6 × Int):=
 if (a0.o.B==(-1)) then
  (W2 a0.x a0.o.A 0 a0.o.C).bind λv1=>
  some (v1.1,v1.2)
 else
 (M6 a0.x a0.o.B).bind λv2=>
 if (v2.2 != 0) then
  some (a0.x,v2.2)
 else
 (W2 a0.x a0.o.A v2.1 a0.o.C).bind λv3=>
 some (v3.1,v3.2)
def kB(a0:List j5)(a1:Int):Option (Int × Int):=
 (kD a0 a1).bind λv1=>
 if (!v1) then
  some (0,7)
 else
 (ix a0 a1).bind λv2=>
 if ((v2.Target==0)||(!v2.Intact)) then
  some (0,9)
 else
 some (v2.Target,0)
def Z5(a0:u3):Option (b6 × Int):=
 (kB a0.x.a8 a0.o.B).bind λv1=>
 (B6 a0 v1.1 v1.2).bind λv2=>
 some (v2.1,v2.2)
def gi(a0:Int)(a1:Int):Option (Int × Int):=
 some (a0,a1)
def bb(a0:Int)(a1:Int):Option Int:=
 if (decide (a0<1)) then
  some 0
 else
 (rem (z8 ((z8 (5*a1))+1)) a0).bind λv1=>
 if (decide (v1<0)) then
  some (z8 (v1+a0))
 else
 some v1
def aa(a0:List b8)(a1:Int):Option Int:=
 jn (λ(_:Unit)=>
  some (-1)) (λκ8=>
  (gi (a0.length:Int) a1).bind λv10=>
  (lp (S:=Int) (E:=Int ⊕ Unit) (λ(s12:Int)=>
   if (decide (s12<v10.1)) then
    (bb v10.1 v10.2).bind λv14=>
    (rem (z8 (v14+s12)) v10.1).bind λv15=>
    (ix a0 v15).bind λv16=>
    if (v16.State==0) then
     some (.inr (.inr ()))
    else
    if ((v16.State==1)&&(v16.Key==a1)) then
     some (.inr (.inl v15))
    else
    some (.inl (z8 (s12+1)))
   else
   some (.inr (.inr ()))) 0).bind λe11=>
  match e11 with
  | .inl w=>some w
  | .inr w=>κ8 w)
def M4(a0:List b8)(a1:Int):Option (Int × Int):=
 (aa a0 a1).bind λv1=>
 if (decide (v1<0)) then
  some (0,9)
 else
 (ix a0 v1).bind λv2=>
 some (v2.Val,0)
def D9(a0:List b8):Option (List b8):=
 app 24 [] a0
def cr(a0:List b8)(a1:Int)(a2:b8):Option (List b8):=
 (D9 a0).bind λv1=>
 (ix v1 a1).bind λv2=>
 some (v1.set (a1).toNat a2)
def Z9(a0:List b8)(a1:Int):Option ((List b8) × Int × Int):=
 (aa a0 a1).bind λv1=>
 if (decide (v1<0)) then
  some (a0,0,9)
 else
 (cr a0 v1 (⟨2,0,0⟩:b8)).bind λv2=>
 (ix a0 v1).bind λv3=>
 some (v2,v3.Val,0)
def gJ(a0:List b8)(a1:Int)(a2:Int):Option ((List b8) × Int):=
 (aa a0 a1).bind λv1=>
 if (decide (v1>=0)) then
  (cr a0 v1 (⟨1,a1,a2⟩:b8)).bind λv2=>
  some (v2,0)
 else
 jn (λ(_:Unit)=>
  some (a0,8)) (λκ11=>
  (gi (a0.length:Int) a1).bind λv13=>
  (lp (S:=Int) (E:=((List b8) × Int) ⊕ Unit) (λ(s15:Int)=>
   if (decide (s15<v13.1)) then
    (bb v13.1 v13.2).bind λv17=>
    (rem (z8 (v17+s15)) v13.1).bind λv18=>
    (ix a0 v18).bind λv19=>
    if (v19.State != 1) then
     (cr a0 v18 (⟨1,a1,a2⟩:b8)).bind λv20=>
     some (.inr (.inl (v20,0)))
    else
    some (.inl (z8 (s15+1)))
   else
   some (.inr (.inr ()))) 0).bind λe14=>
  match e14 with
  | .inl w=>some w
  | .inr w=>κ11 w)
def P7(a0:List b8)(a1:Int)(a2:Int):Option ((List b8) × Int × Int):=
 if (a1==0) then
  some (a0,0,2)
 else
 (M4 a0 a1).bind λv1=>
 if (a2==0) then
  (Z9 a0 a1).bind λv2=>
  some (v2.1,v1.1,0)
 else
 (gJ a0 a1 a2).bind λv3=>
 if (v3.2 != 0) then
  some (a0,0,v3.2)
 else
 some (v3.1,v1.1,0)
def Y0(a0:H8)(a1:b6):Option b6:=
 some (⟨a1.S,a1.Roots,a1.a8,a0.t,a1.Q⟩:b6)
def J2(a0:b6)(a1:Int)(a2:Int)(a3:H8):Option b6:=
 (aK a0 a2).bind λv1=>
 (Y0 a3 v1).bind λv2=>
 (C8 v2 a1).bind λv3=>
 some v3
def cu(a0:b6)(a1:Int)(a2:Int):Option (b6 × Int):=
 if (a1==0) then
  some (a0,2)
 else
 (L5 a0 a1).bind λv1=>
 (z6 ((!v1)==false) false (L5 a0 a2)).bind λv2=>
 if ((!v1)||(!v2)) then
  some (a0,3)
 else
 (P7 a0.T a1 a2).bind λv3=>
 if (v3.2.2 != 0) then
  some (a0,v3.2.2)
 else
 (J2 a0 v3.2.1 a2 (⟨v3.1⟩:H8)).bind λv4=>
 some (v4,0)
def aD(a0:u3):Option (b6 × Int):=
 (M6 a0.x a0.o.A).bind λv1=>
 if (v1.2 != 0) then
  some (a0.x,v1.2)
 else
 (L8 a0.x a0.o.B).bind λv2=>
 (cu a0.x v1.1 v2).bind λv3=>
 some (v3.1,v3.2)
def sM(a0:List b8)(a1:Int):Option (Int × Int):=
 (M4 a0 a1).bind λv1=>
 some (v1.1,v1.2)
def bf(a0:u3):Option (b6 × Int):=
 (M6 a0.x a0.o.B).bind λv1=>
 if (v1.2 != 0) then
  some (a0.x,v1.2)
 else
 (sM a0.x.T v1.1).bind λv2=>
 (B6 a0 v2.1 v2.2).bind λv3=>
 some (v3.1,v3.2)
def Q4(a0:u3):Option (b6 × Int):=
 some (a0.x,0)
def uY(f:Fv)(a0:u3):Option (b6 × Int):=
 if f=some 97 then V1 a0 else
 if f=some 98 then I2 a0 else
 if f=some 99 then aB a0 else
 if f=some 100 then aC a0 else
 if f=some 101 then Y2 a0 else
 if f=some 102 then V2 a0 else
 if f=some 103 then Z5 a0 else
 if f=some 104 then aD a0 else
 if f=some 105 then bf a0 else
 if f=some 106 then Q4 a0 else
 none
def cH(a0:b6):Option (List Int):=
 jn (λ(j16:List Int)=>
  some j16) (λκ15=>
  (E0 a0.S).bind λv17=>
  (lp (S:=Int × (List Int)) (E:=(List Int)) (λ((s19,s20):Int × (List Int))=>
   if (decide (s19<(v17.length:Int))) then
    jn (λ(j27:List Int)=>
     some (.inl (z8 (s19+1),j27))) (λκ26=>
     (ix v17 s19).bind λv28=>
     (y3 a0.S v28).bind λv29=>
     if (v29.1.Strong==0) then
      (app 8 s20 [v28]).bind λv30=>
      κ26 v30
     else
     κ26 s20)
   else
   some (.inr s20)) (0,[])).bind λe18=>
  κ15 e18)
def M7(a0:o9):Option Bool:=
 some ((decide (a0.Prog>=0))&&(!a0.Started))
def I8(a0:k7):Option Int:=
 some (a0.L.length:Int)
def F6(a0:List l7)(a1:Int)(a2:Int):Option (List l7):=
 (cut a0 a1 a2).bind λv1=>
 some v1
def T3(a0:k7)(a1:l7):Option (k7 × Int):=
 (I8 a0).bind λv1=>
 if (decide (v1>=a0.Cap)) then
  some (a0,4)
 else
 (F6 a0.L 0 v1).bind λv2=>
 (app 24 v2 [a1]).bind λv3=>
 some ((⟨v3,a0.Cap⟩:k7),0)
def nX(a0:k7)(a1:l7):Option (k7 × Int):=
 (T3 a0 a1).bind λv1=>
 some (v1.1,v1.2)
def U7(a0:b6)(a1:Int):Option b6:=
 (y3 a0.S a1).bind λv1=>
 (z6 ((v1.2 != 0)==false) false (M7 v1.1)).bind λv2=>
 if ((v1.2 != 0)||(!v2)) then
  some a0
 else
 (K6 a0.S a1 (⟨v1.1.Serial,v1.1.Strong,v1.1.Weak,v1.1.Prog,true,v1.1.Fields⟩:o9)).bind λv3=>
 (nX a0.Q (⟨1,a1,v1.1.Prog⟩:l7)).bind λv4=>
 (aK (⟨v3.1,a0.Roots,a0.a8,a0.T,v4.1⟩:b6) a1).bind λv5=>
 some v5
def X0(a0:b6)(a1:List Int):Option (List Int):=
 jn (λ(j18:List Int)=>
  some j18) (λκ17=>
  (lp (S:=Int × (List (Int × Bool)) × (List Int)) (E:=(List Int)) (λ((s20,s21,s22):Int × (List (Int × Bool)) × (List Int))=>
   if (decide (s20<(a1.length:Int))) then
    jn (λ((j29,j30):(List Int) × (List (Int × Bool)))=>
     some (.inl (z8 (s20+1),j30,j29))) (λκ28=>
     (ix a1 s20).bind λv32=>
     (y3 a0.S v32).bind λv33=>
     if ((v33.2==0)==true) then
      if (!((y9 s21 v32).getD (false:Bool))) then
       (app 8 s22 [v32]).bind λv34=>
       κ28 (v34,(o0 s21 v32 true))
      else
      κ28 (s22,s21)
     else
     κ28 (s22,s21))
   else
   some (.inr s22)) (0,[],[])).bind λe19=>
  κ17 e19)
def T7(a0:List Int)(a1:Int):Option Int:=
 jn (λ(_:Unit)=>
  some (-1)) (λκ5=>
  (lp (S:=Int) (E:=Int ⊕ Unit) (λ(s8:Int)=>
   if (decide (s8<(a0.length:Int))) then
    (ix a0 s8).bind λv10=>
    if (a1==v10) then
     some (.inr (.inl s8))
    else
    some (.inl (z8 (s8+1)))
   else
   some (.inr (.inr ()))) 0).bind λe7=>
  match e7 with
  | .inl w=>some w
  | .inr w=>κ5 w)
def F1(a0:List Int)(a1:Int):Option Bool:=
 (T7 a0 a1).bind λv1=>
 some (decide (v1>=0))
def bn(a0:j5)(a1:List Int):Option Bool:=
 (z6 ((a0.Intact&&(a0.Target != 0))==true) false (F1 a1 a0.Target)).bind λv1=>
 some ((a0.Intact&&(a0.Target != 0))&&v1)
def J6(a0:List j5)(a1:List Int):Option (List Int):=
 jn (λ(j15:List Int)=>
  some j15) (λκ14=>
  (lp (S:=Int × (List Int)) (E:=(List Int)) (λ((s17,s18):Int × (List Int))=>
   if (decide (s17<(a0.length:Int))) then
    jn (λ(j25:List Int)=>
     some (.inl (z8 (s17+1),j25))) (λκ24=>
     (ix a0 s17).bind λv26=>
     (bn v26 a1).bind λv27=>
     if v27 then
      (app 8 s18 [s17]).bind λv28=>
      κ24 v28
     else
     κ24 s18)
   else
   some (.inr s18)) (0,[])).bind λe16=>
  κ14 e16)
def iq(a0:List j5)(a1:List Int):Option ((List j5) × (List Int)):=
 (J6 a0 a1).bind λv1=>
 (aV a0).bind λv2=>
 jn (λ((j22,j23):(List Int) × (List j5))=>
  some (j23,j22)) (λκ21=>
  (lp (S:=Int × (List j5) × (List Int)) (E:=((List Int) × (List j5))) (λ((s26,s27,s28):Int × (List j5) × (List Int))=>
   if (decide (s26<(v1.length:Int))) then
    jn (λ((j36,j37):(List Int) × (List j5))=>
     some (.inl (z8 (s26+1),j37,j36))) (λκ35=>
     (ix v1 s26).bind λv39=>
     (ix s27 v39).bind λv40=>
     (ix (s27.set (v39).toNat (⟨v40.Target,false,v40.Call⟩:j5)) v39).bind λv41=>
     if (decide (v41.Call>=0)) then
      (app 8 s28 [v39]).bind λv42=>
      κ35 (v42,(s27.set (v39).toNat (⟨v40.Target,false,v40.Call⟩:j5)))
     else
     κ35 (s28,(s27.set (v39).toNat (⟨v40.Target,false,v40.Call⟩:j5))))
   else
   some (.inr (s28,s27))) (0,v2,[])).bind λe25=>
  κ21 e25)
def dx(a0:b6)(a1:List Int):Option b6:=
 (iq a0.a8 a1).bind λv1=>
 jn (λ(j11:k7)=>
  some (⟨a0.S,a0.Roots,v1.1,a0.T,j11⟩:b6)) (λκ10=>
  (lp (S:=Int × k7) (E:=k7) (λ((s13,s14):Int × k7)=>
   if (decide (s13<(v1.2.length:Int))) then
    (ix v1.2 s13).bind λv17=>
    (ix v1.1 v17).bind λv18=>
    (nX s14 (⟨2,v17,v18.Call⟩:l7)).bind λv19=>
    some (.inl (z8 (s13+1),v19.1))
   else
   some (.inr s14)) (0,a0.Q)).bind λe12=>
  κ10 e12)
def pb(a0:List Int):Option (List Int):=
 some a0
def gr(a0:List Int):Option (List Int):=
 jn (λ(j10:List Int)=>
  some j10) (λκ9=>
  (pb a0).bind λv11=>
  (lp (S:=Int × (List Int)) (E:=(List Int)) (λ((s13,s14):Int × (List Int))=>
   if (decide (s13<(v11.length:Int))) then
    (ix v11 s13).bind λv17=>
    if ((v17 != 0)==true) then
     (app 8 s14 [v17]).bind λv18=>
     some (.inl (z8 (s13+1),v18))
    else
    some (.inl (z8 (s13+1),s14))
   else
   some (.inr s14)) (0,[])).bind λe12=>
  κ9 e12)
def Z8(a0:List b8)(a1:List Int):Option ((List b8) × (List Int)):=
 jn (λ((j18,j19):(List b8) × (List Int))=>
  some (j18,j19)) (λκ17=>
  (lp (S:=(List b8) × Int × (List Int)) (E:=((List b8) × (List Int))) (λ((s22,s23,s24):(List b8) × Int × (List Int))=>
   if (decide (s23<(a1.length:Int))) then
    jn (λ((j31,j32):(List b8) × (List Int))=>
     some (.inl (j31,z8 (s23+1),j32))) (λκ30=>
     (ix a1 s23).bind λv34=>
     (Z9 s22 v34).bind λv35=>
     if (v35.2.2==0) then
      (app 8 s24 [v35.2.1]).bind λv36=>
      κ30 (v35.1,v36)
     else
     κ30 (s22,s24))
   else
   some (.inr (s22,s24))) (a0,0,[])).bind λe21=>
  κ17 e21)
def V3(a0:c5)(a1:Int):Option (c5 × Int):=
 (C4 a0 a1).bind λv1=>
 if (v1.2 != 0) then
  some (a0,v1.2)
 else
 (eV a1).bind λv2=>
 (gH a1).bind λv3=>
 (C9 a0 v2 (⟨2,v3,v1.1⟩:b7)).bind λv4=>
 some (v4,0)
def af(a0:b6)(a1:Int):Option b6:=
 (y3 a0.S a1).bind λv1=>
 (K6 a0.S a1 (⟨v1.1.Serial,0,v1.1.Weak,v1.1.Prog,v1.1.Started,[]⟩:o9)).bind λv2=>
 (V3 v2.1.S a1).bind λv3=>
 if (v1.1.Weak==0) then
  (O7 v3.1 a1).bind λv4=>
  some (⟨⟨v4.1,v2.1.Serial⟩,a0.Roots,a0.a8,a0.T,a0.Q⟩:b6)
 else
 some (⟨⟨v3.1,v2.1.Serial⟩,a0.Roots,a0.a8,a0.T,a0.Q⟩:b6)
def aR(a0:b6)(a1:List Int):Option b6:=
 (X0 a0 a1).bind λv1=>
 (dx a0 v1).bind λv2=>
 jn (λ(j13:List Int)=>
  (Z8 v2.T v1).bind λv14=>
  (app 8 j13 v14.2).bind λv15=>
  jn (λ(j24:b6)=>
   jn (λ(j33:b6)=>
    some j33) (λκ32=>
    (lp (S:=Int × b6) (E:=b6) (λ((s35,s36):Int × b6)=>
     if (decide (s35<(v15.length:Int))) then
      (ix v15 s35).bind λv39=>
      (C8 s36 v39).bind λv40=>
      some (.inl (z8 (s35+1),v40))
     else
     some (.inr s36)) (0,j24)).bind λe34=>
    κ32 e34)) (λκ23=>
   (lp (S:=Int × b6) (E:=b6) (λ((s42,s43):Int × b6)=>
    if (decide (s42<(v1.length:Int))) then
     (ix v1 s42).bind λv46=>
     (af s43 v46).bind λv47=>
     some (.inl (z8 (s42+1),v47))
    else
    some (.inr s43)) (0,(⟨v2.S,v2.Roots,v2.a8,v14.1,v2.Q⟩:b6))).bind λe41=>
   κ23 e41)) (λκ12=>
  (lp (S:=Int × (List Int)) (E:=(List Int)) (λ((s49,s50):Int × (List Int))=>
   if (decide (s49<(v1.length:Int))) then
    (ix v1 s49).bind λv53=>
    (y3 v2.S v53).bind λv54=>
    (gr v54.1.Fields).bind λv55=>
    (app 8 s50 v55).bind λv56=>
    some (.inl (z8 (s49+1),v56))
   else
   some (.inr s50)) (0,[])).bind λe48=>
  κ12 e48)
def P6(a0:b6):Option b6:=
 (lp (S:=b6) (E:=b6) (λ(s2:b6)=>
  (cH s2).bind λv4=>
  if ((v4.length:Int)==0) then
   some (.inr s2)
  else
  (ix v4 0).bind λv5=>
  (y3 s2.S v5).bind λv6=>
  (M7 v6.1).bind λv7=>
  if v7 then
   (U7 s2 v5).bind λv8=>
   some (.inl v8)
  else
  (cut v4 0 1).bind λv9=>
  (aR s2 v9).bind λv10=>
  some (.inl v10)) a0).bind λe1=>
 some e1
def W6(a0:b6)(a1:b6)(a2:c8):Option Int:=
 if (a2.Kind==5) then
  (aL a0 a2.C).bind λv1=>
  some v1
 else
 jn (λ(j3:Bool)=>
  if j3 then
   (aL a0 a2.B).bind λv4=>
   some v4
  else
  if (a2.Kind==10) then
   (L8 a0 a2.A).bind λv5=>
   (L8 a0 a2.B).bind λv6=>
   if (v5==v6) then
    some 1
   else
   some 0
  else
  (aL a1 a2.A).bind λv7=>
  some v7) (λκ2=>
  if (a2.Kind==6) then
   κ2 (a2.Kind==6)
  else
  κ2 (a2.Kind==8))
def x6(a0:b6)(a1:c8):Option (b6 × Int × Int):=
 (U2 a1).bind λv1=>
 if (v1 != 0) then
  some (a0,0,v1)
 else
 (eI).bind λv2=>
 if (!((y9 v2 a1.Kind).isSome)) then
  some (a0,0,14)
 else
 (uY ((y9 v2 a1.Kind).getD (none:Fv)) (⟨a0,a1⟩:u3)).bind λv3=>
 if (v3.2 != 0) then
  some (a0,0,v3.2)
 else
 (P6 v3.1).bind λv5=>
 (W6 v3.1 v5 a1).bind λv6=>
 some (v5,v6,0)
def lP(a0:a7):Option a7:=
 some a0
def kc(a0:a7)(a1:Int):Option (List Int):=
 (y3 a0 a1).bind λv1=>
 (gr v1.1.Fields).bind λv2=>
 some v2
def vn(a0:a7)(a1:Int):Option Int:=
 jn (λ(j31:Int)=>
  some j31) (λκ30=>
  (lP a0).bind λv32=>
  (E0 v32).bind λv33=>
  (lp (S:=Int × Int) (E:=Int) (λ((s35,s36):Int × Int)=>
   if (decide (s35<(v33.length:Int))) then
    jn (λ(j50:Int)=>
     some (.inl (z8 (s35+1),j50))) (λκ49=>
     (ix v33 s35).bind λv51=>
     (kc v32 v51).bind λv52=>
     (lp (S:=Int × Int) (E:=Int) (λ((s54,s55):Int × Int)=>
      if (decide (s54<(v52.length:Int))) then
       (ix v52 s54).bind λv58=>
       jn (λ(j60:Int)=>
        some (.inl (z8 (s54+1),j60))) (λκ59=>
        if (v58==a1) then
         κ59 (z8 (s55+1))
        else
        κ59 s55)
      else
      some (.inr s55)) (0,s36)).bind λe53=>
     κ49 e53)
   else
   some (.inr s36)) (0,0)).bind λe34=>
  κ30 e34)
def cm(a0:List b8):Option (List b8):=
 some a0
def jG(a0:List b8):Option (List Int):=
 jn (λ(j13:List Int)=>
  some j13) (λκ12=>
  (lp (S:=Int × (List Int)) (E:=(List Int)) (λ((s15,s16):Int × (List Int))=>
   if (decide (s15<(a0.length:Int))) then
    jn (λ(j22:List Int)=>
     some (.inl (z8 (s15+1),j22))) (λκ21=>
     (ix a0 s15).bind λv23=>
     if (v23.State==1) then
      (app 8 s16 [v23.Key]).bind λv24=>
      κ21 v24
     else
     κ21 s16)
   else
   some (.inr s16)) (0,[])).bind λe14=>
  κ12 e14)
def eD(a0:r7)(a1:Int):Option Bool:=
 some ((a1 != 0)&&(a0.Val==a1))
def B2(a0:List b8)(a1:Int):Option (List r7):=
 jn (λ(j16:List r7)=>
  some j16) (λκ15=>
  (jG a0).bind λv17=>
  (lp (S:=Int × (List r7)) (E:=(List r7)) (λ((s19,s20):Int × (List r7))=>
   if (decide (s19<(v17.length:Int))) then
    (ix v17 s19).bind λv23=>
    (M4 a0 v23).bind λv24=>
    jn (λ(j28:List r7)=>
     some (.inl (z8 (s19+1),j28))) (λκ27=>
     (eD (⟨v23,v24.1⟩:r7) a1).bind λv29=>
     if v29 then
      (app 16 s20 [(⟨v23,v24.1⟩:r7)]).bind λv30=>
      κ27 v30
     else
     κ27 s20)
   else
   some (.inr s20)) (0,[])).bind λe18=>
  κ15 e18)
def iJ(a0:List b8)(a1:Int):Option Int:=
 (cm a0).bind λv1=>
 (B2 v1 a1).bind λv2=>
 some (v2.length:Int)
def jc(a0:a7)(a1:List b8)(a2:Int):Option Int:=
 (vn a0 a2).bind λv1=>
 (iJ a1 a2).bind λv2=>
 some (z8 (v1+v2))
def mf(a0:a7)(a1:List b8)(a2:Int):Option Int:=
 (y3 a0 a2).bind λv1=>
 if (v1.2 != 0) then
  some 0
 else
 (jc a0 a1 a2).bind λv2=>
 some (z8 (v1.1.Strong-v2))
def na(a0:Int):Option Bool:=
 (G2 a0).bind λv1=>
 some v1
def mb(a0:Int)(a1:o9)(a2:a7)(a3:List b8):Option Bool:=
 (mf a2 a3 a0).bind λv1=>
 (z6 ((decide (v1 > 0))==false) false (na a1.Strong)).bind λv2=>
 some ((decide (v1 > 0))||v2)
def ma(a0:a7)(a1:List b8):Option (List Int):=
 jn (λ(j36:List Int)=>
  some j36) (λκ35=>
  jn (λ(j54:List Int)=>
   κ35 j54) (λκ53=>
   (E0 a0).bind λv55=>
   (lp (S:=Int × (List Int)) (E:=(List Int)) (λ((s57,s58):Int × (List Int))=>
    if (decide (s57<(v55.length:Int))) then
     jn (λ(j66:List Int)=>
      some (.inl (z8 (s57+1),j66))) (λκ65=>
      (ix v55 s57).bind λv67=>
      (y3 a0 v67).bind λv68=>
      (mb v67 v68.1 a0 a1).bind λv69=>
      if v69 then
       (app 8 s58 [v67]).bind λv70=>
       κ65 v70
      else
      κ65 s58)
    else
    some (.inr s58)) (0,[])).bind λe56=>
   κ53 e56))
def eM(a0:Int):Option l6:=
 some (⟨[],a0⟩:l6)
def bh(a0:a7)(a1:Int):Option Bool:=
 (y3 a0 a1).bind λv1=>
 some (v1.2==0)
def L9(a0:l6):Option Int:=
 some (a0.L.length:Int)
def Q6(a0:List Int)(a1:Int)(a2:Int):Option (List Int):=
 (cut a0 a1 a2).bind λv1=>
 some v1
def Q5(a0:l6)(a1:Int):Option (l6 × Int):=
 (L9 a0).bind λv1=>
 if (decide (v1>=a0.Cap)) then
  some (a0,4)
 else
 (Q6 a0.L 0 v1).bind λv2=>
 (app 8 v2 [a1]).bind λv3=>
 some ((⟨v3,a0.Cap⟩:l6),0)
def fC(a0:l6)(a1:Int):Option (l6 × (List Int)):=
 (L9 a0).bind λv1=>
 (Q6 a0.L 0 (if (if v1<a1 then v1 else a1) > 0 then (if v1<a1 then v1 else a1) else 0)).bind λv2=>
 (Q6 a0.L (if (if v1<a1 then v1 else a1) > 0 then (if v1<a1 then v1 else a1) else 0) v1).bind λv3=>
 some ((⟨v3,a0.Cap⟩:l6),v2)
def bE(a0:l6):Option (l6 × Int × Int):=
 (fC a0 1).bind λv1=>
 if ((v1.2.length:Int)==0) then
  some (a0,0,10)
 else
 (ix v1.2 0).bind λv2=>
 some (v1.1,v2,0)
def du(a0:a7)(a1:List Int):Option (List (Int × Bool)):=
 (E0 a0).bind λv1=>
 (eM (v1.length:Int)).bind λv2=>
 jn (λ((j20,j21):l6 × (List (Int × Bool)))=>
  jn (λ(j68:List (Int × Bool))=>
   some j68) (λκ67=>
   (lp (S:=l6 × (List (Int × Bool))) (E:=(List (Int × Bool))) (λ((s70,s71):l6 × (List (Int × Bool)))=>
    (L9 s70).bind λv74=>
    if (decide (v74 > 0)) then
     (bE s70).bind λv75=>
     (kc a0 v75.2.1).bind λv76=>
     jn (λ((j94,j95):l6 × (List (Int × Bool)))=>
      some (.inl (j94,j95))) (λκ93=>
      (lp (S:=Int × l6 × (List (Int × Bool))) (E:=(l6 × (List (Int × Bool)))) (λ((s98,s99,s100):Int × l6 × (List (Int × Bool)))=>
       if (decide (s98<(v76.length:Int))) then
        jn (λ((j107,j108):l6 × (List (Int × Bool)))=>
         some (.inl (z8 (s98+1),j107,j108))) (λκ106=>
         (ix v76 s98).bind λv110=>
         (bh a0 v110).bind λv111=>
         if (v111==true) then
          if (!((y9 s100 v110).getD (false:Bool))) then
           (Q5 s99 v110).bind λv112=>
           κ106 (v112.1,(o0 s100 v110 true))
          else
          κ106 (s99,s100)
         else
         κ106 (s99,s100))
       else
       some (.inr (s99,s100))) (0,v75.1,s71)).bind λe97=>
      κ93 e97)
    else
    some (.inr s71)) (j20,j21)).bind λe69=>
   κ67 e69)) (λκ19=>
  (lp (S:=Int × l6 × (List (Int × Bool))) (E:=(l6 × (List (Int × Bool)))) (λ((s114,s115,s116):Int × l6 × (List (Int × Bool)))=>
   if (decide (s114<(a1.length:Int))) then
    jn (λ((j123,j124):l6 × (List (Int × Bool)))=>
     some (.inl (z8 (s114+1),j123,j124))) (λκ122=>
     (ix a1 s114).bind λv126=>
     (bh a0 v126).bind λv127=>
     if (v127==true) then
      if (!((y9 s116 v126).getD (false:Bool))) then
       (Q5 s115 v126).bind λv128=>
       κ122 (v128.1,(o0 s116 v126 true))
      else
      κ122 (s115,s116)
     else
     κ122 (s115,s116))
   else
   some (.inr (s115,s116))) (0,v2,[])).bind λe113=>
  κ19 e113)
def fV(a0:Int)(a1:List (Int × Bool)):Option Bool:=
 some ((y9 a1 a0).getD (false:Bool))
def U5(a0:a7)(a1:List (Int × Bool)):Option (List Int):=
 jn (λ(j16:List Int)=>
  some j16) (λκ15=>
  (E0 a0).bind λv17=>
  (lp (S:=Int × (List Int)) (E:=(List Int)) (λ((s19,s20):Int × (List Int))=>
   if (decide (s19<(v17.length:Int))) then
    jn (λ(j27:List Int)=>
     some (.inl (z8 (s19+1),j27))) (λκ26=>
     (ix v17 s19).bind λv28=>
     (fV v28 a1).bind λv29=>
     if v29 then
      (app 8 s20 [v28]).bind λv30=>
      κ26 v30
     else
     κ26 s20)
   else
   some (.inr s20)) (0,[])).bind λe18=>
  κ15 e18)
def gW(a0:a7)(a1:List Int):Option (List Int):=
 (du a0 a1).bind λv1=>
 (U5 a0 v1).bind λv2=>
 some v2
def eE(a0:r7):Option Bool:=
 some true
def B3(a0:List b8):Option (List r7):=
 jn (λ(j16:List r7)=>
  some j16) (λκ15=>
  (jG a0).bind λv17=>
  (lp (S:=Int × (List r7)) (E:=(List r7)) (λ((s19,s20):Int × (List r7))=>
   if (decide (s19<(v17.length:Int))) then
    (ix v17 s19).bind λv23=>
    (M4 a0 v23).bind λv24=>
    jn (λ(j28:List r7)=>
     some (.inl (z8 (s19+1),j28))) (λκ27=>
     (eE (⟨v23,v24.1⟩:r7)).bind λv29=>
     if v29 then
      (app 16 s20 [(⟨v23,v24.1⟩:r7)]).bind λv30=>
      κ27 v30
     else
     κ27 s20)
   else
   some (.inr s20)) (0,[])).bind λe18=>
  κ15 e18)
def iK(a0:List b8):Option (List r7):=
 (cm a0).bind λv1=>
 (B3 v1).bind λv2=>
 some v2
def gB(a0:Int)(a1:a7):Option Bool:=
 (y3 a1 a0).bind λv1=>
 some (v1.2==0)
def qS(a0:a7)(a1:List b8)(a2:List Int):Option (List Int):=
 jn (λ(j20:List Int)=>
  some j20) (λκ19=>
  (iK a1).bind λv21=>
  (lp (S:=Int × (List Int)) (E:=(List Int)) (λ((s23,s24):Int × (List Int))=>
   if (decide (s23<(v21.length:Int))) then
    jn (λ(j33:List Int)=>
     some (.inl (z8 (s23+1),j33))) (λκ32=>
     (ix v21 s23).bind λv34=>
     (F1 a2 v34.Key).bind λv35=>
     (z6 (v35==true) false (gB v34.Key a0)).bind λv36=>
     (z6 ((v35&&v36)==true) false (gB v34.Val a0)).bind λv37=>
     if ((v35&&v36)&&v37) then
      (app 8 s24 [v34.Val]).bind λv38=>
      κ32 v38
     else
     κ32 s24)
   else
   some (.inr s24)) (0,[])).bind λe22=>
  κ19 e22)
def oz(a0:a7)(a1:List b8)(a2:List Int):Option ((List Int) × Int):=
 (gW a0 a2).bind λv1=>
 (lp (S:=(List Int) × Int) (E:=((List Int) × Int)) (λ((s3,s4):(List Int) × Int)=>
  (qS a0 a1 s3).bind λv7=>
  jn (λ(_:Unit)=>
   some (.inr (s3,s4))) (λκ15=>
   (lp (S:=Int) (E:=((List Int) × Int) ⊕ Unit) (λ(s18:Int)=>
    if (decide (s18<(v7.length:Int))) then
     (ix v7 s18).bind λv20=>
     (F1 s3 v20).bind λv21=>
     if (!v21) then
      (app 8 v7 s3).bind λv22=>
      (gW a0 v22).bind λv23=>
      some (.inr (.inl (v23,z8 (s4+1))))
     else
     some (.inl (z8 (s18+1)))
    else
    some (.inr (.inr ()))) 0).bind λe17=>
   match e17 with
   | .inl w=>some (.inl w)
   | .inr w=>κ15 w)) (v1,0)).bind λe2=>
 some e2
def qR(a0:a7)(a1:List b8)(a2:List Int):Option (List Int):=
 (oz a0 a1 a2).bind λv1=>
 some v1.1
def fW(a0:Int)(a1:List (Int × Bool)):Option Bool:=
 some (!((y9 a1 a0).getD (false:Bool)))
def U6(a0:a7)(a1:List (Int × Bool)):Option (List Int):=
 jn (λ(j16:List Int)=>
  some j16) (λκ15=>
  (E0 a0).bind λv17=>
  (lp (S:=Int × (List Int)) (E:=(List Int)) (λ((s19,s20):Int × (List Int))=>
   if (decide (s19<(v17.length:Int))) then
    jn (λ(j27:List Int)=>
     some (.inl (z8 (s19+1),j27))) (λκ26=>
     (ix v17 s19).bind λv28=>
     (fW v28 a1).bind λv29=>
     if v29 then
      (app 8 s20 [v28]).bind λv30=>
      κ26 v30
     else
     κ26 s20)
   else
   some (.inr s20)) (0,[])).bind λe18=>
  κ15 e18)
def lO(a0:a7)(a1:List Int):Option (List Int):=
 (du a0 a1).bind λv1=>
 (U6 a0 v1).bind λv2=>
 some v2
def nh(a0:a7)(a1:List b8)(a2:List Int):Option (List Int):=
 (qR a0 a1 a2).bind λv1=>
 (lO a0 v1).bind λv2=>
 some v2
def bH(a0:a7)(a1:List b8):Option (List Int):=
 (ma a0 a1).bind λv1=>
 (nh a0 a1 v1).bind λv2=>
 some v2
def R7(a0:b6):Option (List Int):=
 (bH a0.S a0.T).bind λv1=>
 some v1
def fu(a0:Int)(a1:b6):Option Bool:=
 (y3 a1.S a0).bind λv1=>
 some ((decide (v1.1.Prog>=0))&&(!v1.1.Started))
def H4(a0:List Int)(a1:b6):Option (List Int):=
 jn (λ(j15:List Int)=>
  some j15) (λκ14=>
  (lp (S:=Int × (List Int)) (E:=(List Int)) (λ((s17,s18):Int × (List Int))=>
   if (decide (s17<(a0.length:Int))) then
    jn (λ(j25:List Int)=>
     some (.inl (z8 (s17+1),j25))) (λκ24=>
     (ix a0 s17).bind λv26=>
     (fu v26 a1).bind λv27=>
     if v27 then
      (app 8 s18 [v26]).bind λv28=>
      κ24 v28
     else
     κ24 s18)
   else
   some (.inr s18)) (0,[])).bind λe16=>
  κ14 e16)
def eC(a0:b6):Option (List Int):=
 (R7 a0).bind λv1=>
 (H4 v1 a0).bind λv2=>
 some v2
def Z1(a0:b6):Option (b6 × Int × Int):=
 (eC a0).bind λv1=>
 jn (λ(j10:b6)=>
  if (decide ((v1.length:Int) > 0)) then
   some (j10,(v1.length:Int),0)
  else
  (R7 j10).bind λv11=>
  (aR j10 v11).bind λv12=>
  (P6 v12).bind λv13=>
  (E0 j10.S).bind λv14=>
  (E0 v13.S).bind λv15=>
  some (v13,0,z8 ((v14.length:Int)-(v15.length:Int)))) (λκ9=>
  (lp (S:=Int × b6) (E:=b6) (λ((s17,s18):Int × b6)=>
   if (decide (s17<(v1.length:Int))) then
    (ix v1 s17).bind λv21=>
    (U7 s18 v21).bind λv22=>
    some (.inl (z8 (s17+1),v22))
   else
   some (.inr s18)) (0,a0)).bind λe16=>
  κ9 e16)
def ar(a0:k7)(a1:Int):Option (k7 × (List l7)):=
 (I8 a0).bind λv1=>
 (F6 a0.L 0 (if (if v1<a1 then v1 else a1) > 0 then (if v1<a1 then v1 else a1) else 0)).bind λv2=>
 (F6 a0.L (if (if v1<a1 then v1 else a1) > 0 then (if v1<a1 then v1 else a1) else 0) v1).bind λv3=>
 some ((⟨v3,a0.Cap⟩:k7),v2)
def bw(a0:k7):Option (k7 × l7 × Int):=
 (ar a0 1).bind λv1=>
 if ((v1.2.length:Int)==0) then
  some (a0,(⟨0,0,0⟩:l7),10)
 else
 (ix v1.2 0).bind λv2=>
 some (v1.1,v2,0)
def cI(a0:k7):Option (k7 × l7 × Int):=
 (bw a0).bind λv1=>
 some (v1.1,v1.2.1,v1.2.2)
def eR(a0:b6):Option Bool:=
 (cI a0.Q).bind λv1=>
 some (v1.2.2 != 0)
def gA(a0:List (List c8))(a1:Int):Option (List c8):=
 if ((decide (a1<0))||(decide (a1>=(a0.length:Int)))) then
  some []
 else
 (ix a0 a1).bind λv1=>
 some v1
def kY(a0:List (List c8))(a1:l7):Option Int:=
 (gA a0 a1.Prog).bind λv1=>
 some (z8 (1+(v1.length:Int)))
def eW(a0:b6)(a1:List c8):Option (b6 × (List Int)):=
 jn (λ((j11,j12):b6 × (List Int))=>
  some (j11,j12)) (λκ10=>
  (lp (S:=Int × b6 × (List Int)) (E:=(b6 × (List Int))) (λ((s15,s16,s17):Int × b6 × (List Int))=>
   if (decide (s15<(a1.length:Int))) then
    (ix a1 s15).bind λv20=>
    (x6 s16 v20).bind λv21=>
    (app 8 s17 [v21.2.1]).bind λv22=>
    some (.inl (z8 (s15+1),v21.1,v22))
   else
   some (.inr (s16,s17))) (0,a0,[])).bind λe14=>
  κ10 e14)
def kZ(a0:b6)(a1:List (List c8)):Option (b6 × l7 × Int):=
 (cI a0.Q).bind λv1=>
 if (v1.2.2 != 0) then
  some (a0,(⟨0,0,0⟩:l7),v1.2.2)
 else
 jn (λ(j6:b6)=>
  (gA a1 v1.2.1.Prog).bind λv7=>
  (eW j6 v7).bind λv8=>
  if (v1.2.1.Kind==1) then
   (bc v8.1 5 0).bind λv9=>
   (P6 v9.1).bind λv10=>
   some (v10,v1.2.1,0)
  else
  some (v8.1,v1.2.1,0)) (λκ5=>
  if (v1.2.1.Kind==1) then
   (bc (⟨a0.S,a0.Roots,a0.a8,a0.T,v1.1⟩:b6) 5 v1.2.1.At).bind λv11=>
   (C8 v11.1 v1.2.1.At).bind λv12=>
   (P6 v12).bind λv13=>
   κ5 v13
  else
  κ5 (⟨a0.S,a0.Roots,a0.a8,a0.T,v1.1⟩:b6))
def eQ(a0:b6)(a1:List (List c8))(a2:Int):Option (b6 × Int × Int × Int):=
 jn (λ((j14,j15,j16):Int × Int × b6)=>
  (eR j16).bind λv18=>
  if (!v18) then
   some (j16,j14,j15,12)
  else
  some (j16,j14,j15,0)) (λκ13=>
  (lp (S:=Int × b6 × Int × Int × b6) (E:=(Int × Int × b6)) (λ((s20,s21,s22,s23,s24):Int × b6 × Int × Int × b6)=>
   (eR s21).bind λv27=>
   if (!v27) then
    (cI s21.Q).bind λv28=>
    (kY a1 v28.2.1).bind λv29=>
    if (decide (v29 > s20)) then
     some (.inr (s22,s23,s24))
    else
    (kZ s21 a1).bind λv30=>
    some (.inl (z8 (s20-v29),v30.1,z8 (s22+1),z8 (s20-v29),v30.1))
   else
   some (.inr (s22,s23,s24))) (a2,a0,0,a2,a0)).bind λe19=>
  κ13 e19)
def ov(a0:u9)(a1:List Int):Option (u9 × D4):=
 (X6 a1).bind λv1=>
 if (v1.2 != 0) then
  some (a0,(⟨0,v1.2⟩:D4))
 else
 (la v1.1).bind λv2=>
 if (decide (v2.t=99)) then
  (x6 a0.X (⟨(Ek v2 99 0),(Ek v2 99 1),(Ek v2 99 2),(Ek v2 99 3)⟩:c8)).bind λv3=>
  some ((⟨v3.1,a0.Progs⟩:u9),(⟨v3.2.1,v3.2.2⟩:D4))
 else
 if (decide (v2.t=103)) then
  (Z1 a0.X).bind λv4=>
  some ((⟨v4.1,a0.Progs⟩:u9),(⟨z8 (v4.2.2-v4.2.1),0⟩:D4))
 else
 if (decide (v2.t=107)) then
  (eQ a0.X a0.Progs (Ek v2 107 0)).bind λv5=>
  some ((⟨v5.1,a0.Progs⟩:u9),(⟨v5.2.1,v5.2.2.2⟩:D4))
 else
 some (a0,(⟨0,0⟩:D4))
def fM(a0:D4):Option ByteArray:=
 if (a0.E != 0) then
  (B7 a0.E).bind λv1=>
  some v1
 else
 (nQ a0.V).bind λv2=>
 some v2
def V0(a0:c4)(a1:Int)(a2:List Int):Option (c4 × ByteArray):=
 (mk 8 4 (0:Int)).bind λv1=>
 (ix v1 0).bind λv2=>
 (CE (v1.set (0:Int).toNat a1) 1 a2).bind λv3=>
 (ov a0.g v3).bind λv4=>
 (fM v4.2).bind λv5=>
 some ((⟨v4.1,a0.begun,a0.progs⟩:c4),v5)
def O3(a0:c4)(a1:List Int)(a2:Int):Option (c4 × ByteArray):=
 (V0 a0 a2 a1).bind λv1=>
 some (v1.1,v1.2)
def oD(f:Fw)(a0:c4)(a1:List Int):Option (c4 × ByteArray):=
 match f with
 | none=>none
 | some (n,none)=>
  if n=76 then N4 a0 a1 else
  if n=78 then M3 a0 a1 else
  if n=80 then J8 a0 a1 else
  if n=81 then J9 a0 a1 else
  if n=82 then Q9 a0 a1 else
  none
 | some (n,some c)=>
  if n=138 then O3 a0 a1 c else
  none
def D1(a0:c4)(a1:List ByteArray):Option (c4 × ByteArray):=
 (dU).bind λv1=>
 (ix a1 0).bind λv2=>
 (cut a1 1 (a1.length:Int)).bind λv3=>
 (az v3).bind λv4=>
 if (((!((y9 v1 v2).isSome))||(!v4.2))==false) then
  (oC (((y9 v1 v2).getD (⟨none,none,false⟩:c9)).takes) (v4.1.length:Int)).bind λv5=>
  if (!v5) then
   (B7 33).bind λv8=>
   some (a0,v8)
  else
  if ((!a0.begun)&&(!(((y9 v1 v2).getD (⟨none,none,false⟩:c9)).early))) then
   some (a0,(r9 [110,111,32,104,101,97,112]))
  else
  (oD (((y9 v1 v2).getD (⟨none,none,false⟩:c9)).run) a0 v4.1).bind λv9=>
  some (v9.1,v9.2)
 else
 (B7 33).bind λv12=>
 some (a0,v12)
def L4(a0:ByteArray):Option (List ByteArray):=
 jn (λ(j21:List ByteArray)=>
  some j21) (λκ20=>
  (tN a0 (r9 [10])).bind λv22=>
  (lp (S:=Int × c4 × (List ByteArray)) (E:=(List ByteArray)) (λ((s24,s25,s26):Int × c4 × (List ByteArray))=>
   if (decide (s24<(v22.length:Int))) then
    jn (λ((j34,j35):c4 × (List ByteArray))=>
     some (.inl (z8 (s24+1),j34,j35))) (λκ33=>
     (ix v22 s24).bind λv37=>
     (D5 v37).bind λv38=>
     if ((v38.length:Int)==0) then
      κ33 (s25,s26)
     else
     (D1 s25 v38).bind λv39=>
     (app 16 s26 [v39.2]).bind λv40=>
     κ33 (v39.1,v40))
   else
   some (.inr s26)) (0,(⟨⟨⟨⟨⟨[],0⟩,0⟩,[],[],[],⟨[],0⟩⟩,[]⟩,false,[]⟩:c4),[])).bind λe23=>
  κ20 e23)
def pd:Option Bool:=
 (L4 (r9 [108,105,118,101,115,10,112,114,111,103,32,48,32,50,32,50,32,53,32,48,10,104,101,97,112,32,51,32,53,32,56,10,110,101,119,32,48,32,49,32,48,10,115,116,111,114,101,32,48,32,48,32,48,10,10,119,101,97,107,32,49,32,48,32,45,49,10,32,100,114,111,112,32,48,32,10,99,111,108,108,101,99,116,10,100,114,97,105,110,32,57,10,114,111,111,116,115,10,108,105,118,101,115,10,100,114,111,112,32,50,10,99,111,108,108,101,99,116,10,116,97,108,108,121,10,117,112,32,48,32,49,10,104,101,97,112,32,48,32,48,32,48,10,112,114,111,103,32,54,10,110,101,119,32,48,10,102,108,121])).bind λv1=>
 (z6 (((v1.length:Int)==19)==true) (ByteArray.empty:ByteArray) (ix v1 0)).bind λv2=>
 (z6 ((((v1.length:Int)==19)&&(v2.toList==(r9 [110,111,32,104,101,97,112]).toList))==true) (ByteArray.empty:ByteArray) (ix v1 1)).bind λv3=>
 (z6 (((((v1.length:Int)==19)&&(v2.toList==(r9 [110,111,32,104,101,97,112]).toList))&&(v3.toList==(r9 [111,107]).toList))==true) (ByteArray.empty:ByteArray) (ix v1 2)).bind λv4=>
 (z6 ((((((v1.length:Int)==19)&&(v2.toList==(r9 [110,111,32,104,101,97,112]).toList))&&(v3.toList==(r9 [111,107]).toList))&&(v4.toList==(r9 [111,107]).toList))==true) (ByteArray.empty:ByteArray) (ix v1 3)).bind λv5=>
 (z6 (((((((v1.length:Int)==19)&&(v2.toList==(r9 [110,111,32,104,101,97,112]).toList))&&(v3.toList==(r9 [111,107]).toList))&&(v4.toList==(r9 [111,107]).toList))&&(v5.toList==(r9 [49]).toList))==true) (ByteArray.empty:ByteArray) (ix v1 4)).bind λv6=>
 (z6 ((((((((v1.length:Int)==19)&&(v2.toList==(r9 [110,111,32,104,101,97,112]).toList))&&(v3.toList==(r9 [111,107]).toList))&&(v4.toList==(r9 [111,107]).toList))&&(v5.toList==(r9 [49]).toList))&&(v6.toList==(r9 [49]).toList))==true) (ByteArray.empty:ByteArray) (ix v1 5)).bind λv7=>
 (z6 (((((((((v1.length:Int)==19)&&(v2.toList==(r9 [110,111,32,104,101,97,112]).toList))&&(v3.toList==(r9 [111,107]).toList))&&(v4.toList==(r9 [111,107]).toList))&&(v5.toList==(r9 [49]).toList))&&(v6.toList==(r9 [49]).toList))&&(v7.toList==(r9 [49]).toList))==true) (ByteArray.empty:ByteArray) (ix v1 6)).bind λv8=>
 (z6 ((((((((((v1.length:Int)==19)&&(v2.toList==(r9 [110,111,32,104,101,97,112]).toList))&&(v3.toList==(r9 [111,107]).toList))&&(v4.toList==(r9 [111,107]).toList))&&(v5.toList==(r9 [49]).toList))&&(v6.toList==(r9 [49]).toList))&&(v7.toList==(r9 [49]).toList))&&(v8.toList==(r9 [48]).toList))==true) (ByteArray.empty:ByteArray) (ix v1 7)).bind λv9=>
 (z6 (((((((((((v1.length:Int)==19)&&(v2.toList==(r9 [110,111,32,104,101,97,112]).toList))&&(v3.toList==(r9 [111,107]).toList))&&(v4.toList==(r9 [111,107]).toList))&&(v5.toList==(r9 [49]).toList))&&(v6.toList==(r9 [49]).toList))&&(v7.toList==(r9 [49]).toList))&&(v8.toList==(r9 [48]).toList))&&(v9.toList==(r9 [45,49]).toList))==true) (ByteArray.empty:ByteArray) (ix v1 8)).bind λv10=>
 (z6 ((((((((((((v1.length:Int)==19)&&(v2.toList==(r9 [110,111,32,104,101,97,112]).toList))&&(v3.toList==(r9 [111,107]).toList))&&(v4.toList==(r9 [111,107]).toList))&&(v5.toList==(r9 [49]).toList))&&(v6.toList==(r9 [49]).toList))&&(v7.toList==(r9 [49]).toList))&&(v8.toList==(r9 [48]).toList))&&(v9.toList==(r9 [45,49]).toList))&&(v10.toList==(r9 [49]).toList))==true) (ByteArray.empty:ByteArray) (ix v1 9)).bind λv11=>
 (z6 (((((((((((((v1.length:Int)==19)&&(v2.toList==(r9 [110,111,32,104,101,97,112]).toList))&&(v3.toList==(r9 [111,107]).toList))&&(v4.toList==(r9 [111,107]).toList))&&(v5.toList==(r9 [49]).toList))&&(v6.toList==(r9 [49]).toList))&&(v7.toList==(r9 [49]).toList))&&(v8.toList==(r9 [48]).toList))&&(v9.toList==(r9 [45,49]).toList))&&(v10.toList==(r9 [49]).toList))&&(v11.toList==(r9 [114,111,111,116,115,32,48,32,48,32,49,32,48,32,48,32,48]).toList))==true) (ByteArray.empty:ByteArray) (ix v1 10)).bind λv12=>
 (z6 ((((((((((((((v1.length:Int)==19)&&(v2.toList==(r9 [110,111,32,104,101,97,112]).toList))&&(v3.toList==(r9 [111,107]).toList))&&(v4.toList==(r9 [111,107]).toList))&&(v5.toList==(r9 [49]).toList))&&(v6.toList==(r9 [49]).toList))&&(v7.toList==(r9 [49]).toList))&&(v8.toList==(r9 [48]).toList))&&(v9.toList==(r9 [45,49]).toList))&&(v10.toList==(r9 [49]).toList))&&(v11.toList==(r9 [114,111,111,116,115,32,48,32,48,32,49,32,48,32,48,32,48]).toList))&&(v12.toList==(r9 [108,105,118,101,115,32,49]).toList))==true) (ByteArray.empty:ByteArray) (ix v1 11)).bind λv13=>
 (z6 (((((((((((((((v1.length:Int)==19)&&(v2.toList==(r9 [110,111,32,104,101,97,112]).toList))&&(v3.toList==(r9 [111,107]).toList))&&(v4.toList==(r9 [111,107]).toList))&&(v5.toList==(r9 [49]).toList))&&(v6.toList==(r9 [49]).toList))&&(v7.toList==(r9 [49]).toList))&&(v8.toList==(r9 [48]).toList))&&(v9.toList==(r9 [45,49]).toList))&&(v10.toList==(r9 [49]).toList))&&(v11.toList==(r9 [114,111,111,116,115,32,48,32,48,32,49,32,48,32,48,32,48]).toList))&&(v12.toList==(r9 [108,105,118,101,115,32,49]).toList))&&(v13.toList==(r9 [48]).toList))==true) (ByteArray.empty:ByteArray) (ix v1 12)).bind λv14=>
 (z6 ((((((((((((((((v1.length:Int)==19)&&(v2.toList==(r9 [110,111,32,104,101,97,112]).toList))&&(v3.toList==(r9 [111,107]).toList))&&(v4.toList==(r9 [111,107]).toList))&&(v5.toList==(r9 [49]).toList))&&(v6.toList==(r9 [49]).toList))&&(v7.toList==(r9 [49]).toList))&&(v8.toList==(r9 [48]).toList))&&(v9.toList==(r9 [45,49]).toList))&&(v10.toList==(r9 [49]).toList))&&(v11.toList==(r9 [114,111,111,116,115,32,48,32,48,32,49,32,48,32,48,32,48]).toList))&&(v12.toList==(r9 [108,105,118,101,115,32,49]).toList))&&(v13.toList==(r9 [48]).toList))&&(v14.toList==(r9 [49]).toList))==true) (ByteArray.empty:ByteArray) (ix v1 13)).bind λv15=>
 (z6 (((((((((((((((((v1.length:Int)==19)&&(v2.toList==(r9 [110,111,32,104,101,97,112]).toList))&&(v3.toList==(r9 [111,107]).toList))&&(v4.toList==(r9 [111,107]).toList))&&(v5.toList==(r9 [49]).toList))&&(v6.toList==(r9 [49]).toList))&&(v7.toList==(r9 [49]).toList))&&(v8.toList==(r9 [48]).toList))&&(v9.toList==(r9 [45,49]).toList))&&(v10.toList==(r9 [49]).toList))&&(v11.toList==(r9 [114,111,111,116,115,32,48,32,48,32,49,32,48,32,48,32,48]).toList))&&(v12.toList==(r9 [108,105,118,101,115,32,49]).toList))&&(v13.toList==(r9 [48]).toList))&&(v14.toList==(r9 [49]).toList))&&(v15.toList==(r9 [116,97,108,108,121,32,50,32,48,32,49,32,48]).toList))==true) (ByteArray.empty:ByteArray) (ix v1 14)).bind λv16=>
 (z6 ((((((((((((((((((v1.length:Int)==19)&&(v2.toList==(r9 [110,111,32,104,101,97,112]).toList))&&(v3.toList==(r9 [111,107]).toList))&&(v4.toList==(r9 [111,107]).toList))&&(v5.toList==(r9 [49]).toList))&&(v6.toList==(r9 [49]).toList))&&(v7.toList==(r9 [49]).toList))&&(v8.toList==(r9 [48]).toList))&&(v9.toList==(r9 [45,49]).toList))&&(v10.toList==(r9 [49]).toList))&&(v11.toList==(r9 [114,111,111,116,115,32,48,32,48,32,49,32,48,32,48,32,48]).toList))&&(v12.toList==(r9 [108,105,118,101,115,32,49]).toList))&&(v13.toList==(r9 [48]).toList))&&(v14.toList==(r9 [49]).toList))&&(v15.toList==(r9 [116,97,108,108,121,32,50,32,48,32,49,32,48]).toList))&&(v16.toList==(r9 [101,114,114,111,114,32,57]).toList))==true) (ByteArray.empty:ByteArray) (ix v1 15)).bind λv17=>
 (z6 (((((((((((((((((((v1.length:Int)==19)&&(v2.toList==(r9 [110,111,32,104,101,97,112]).toList))&&(v3.toList==(r9 [111,107]).toList))&&(v4.toList==(r9 [111,107]).toList))&&(v5.toList==(r9 [49]).toList))&&(v6.toList==(r9 [49]).toList))&&(v7.toList==(r9 [49]).toList))&&(v8.toList==(r9 [48]).toList))&&(v9.toList==(r9 [45,49]).toList))&&(v10.toList==(r9 [49]).toList))&&(v11.toList==(r9 [114,111,111,116,115,32,48,32,48,32,49,32,48,32,48,32,48]).toList))&&(v12.toList==(r9 [108,105,118,101,115,32,49]).toList))&&(v13.toList==(r9 [48]).toList))&&(v14.toList==(r9 [49]).toList))&&(v15.toList==(r9 [116,97,108,108,121,32,50,32,48,32,49,32,48]).toList))&&(v16.toList==(r9 [101,114,114,111,114,32,57]).toList))&&(v17.toList==(r9 [101,114,114,111,114,32,49]).toList))==true) (ByteArray.empty:ByteArray) (ix v1 16)).bind λv18=>
 (z6 ((((((((((((((((((((v1.length:Int)==19)&&(v2.toList==(r9 [110,111,32,104,101,97,112]).toList))&&(v3.toList==(r9 [111,107]).toList))&&(v4.toList==(r9 [111,107]).toList))&&(v5.toList==(r9 [49]).toList))&&(v6.toList==(r9 [49]).toList))&&(v7.toList==(r9 [49]).toList))&&(v8.toList==(r9 [48]).toList))&&(v9.toList==(r9 [45,49]).toList))&&(v10.toList==(r9 [49]).toList))&&(v11.toList==(r9 [114,111,111,116,115,32,48,32,48,32,49,32,48,32,48,32,48]).toList))&&(v12.toList==(r9 [108,105,118,101,115,32,49]).toList))&&(v13.toList==(r9 [48]).toList))&&(v14.toList==(r9 [49]).toList))&&(v15.toList==(r9 [116,97,108,108,121,32,50,32,48,32,49,32,48]).toList))&&(v16.toList==(r9 [101,114,114,111,114,32,57]).toList))&&(v17.toList==(r9 [101,114,114,111,114,32,49]).toList))&&(v18.toList==(r9 [101,114,114,111,114,32,49,51]).toList))==true) (ByteArray.empty:ByteArray) (ix v1 17)).bind λv19=>
 (z6 (((((((((((((((((((((v1.length:Int)==19)&&(v2.toList==(r9 [110,111,32,104,101,97,112]).toList))&&(v3.toList==(r9 [111,107]).toList))&&(v4.toList==(r9 [111,107]).toList))&&(v5.toList==(r9 [49]).toList))&&(v6.toList==(r9 [49]).toList))&&(v7.toList==(r9 [49]).toList))&&(v8.toList==(r9 [48]).toList))&&(v9.toList==(r9 [45,49]).toList))&&(v10.toList==(r9 [49]).toList))&&(v11.toList==(r9 [114,111,111,116,115,32,48,32,48,32,49,32,48,32,48,32,48]).toList))&&(v12.toList==(r9 [108,105,118,101,115,32,49]).toList))&&(v13.toList==(r9 [48]).toList))&&(v14.toList==(r9 [49]).toList))&&(v15.toList==(r9 [116,97,108,108,121,32,50,32,48,32,49,32,48]).toList))&&(v16.toList==(r9 [101,114,114,111,114,32,57]).toList))&&(v17.toList==(r9 [101,114,114,111,114,32,49]).toList))&&(v18.toList==(r9 [101,114,114,111,114,32,49,51]).toList))&&(v19.toList==(r9 [101,114,114,111,114,32,51,51]).toList))==true) (ByteArray.empty:ByteArray) (ix v1 18)).bind λv20=>
 some (((((((((((((((((((((v1.length:Int)==19)&&(v2.toList==(r9 [110,111,32,104,101,97,112]).toList))&&(v3.toList==(r9 [111,107]).toList))&&(v4.toList==(r9 [111,107]).toList))&&(v5.toList==(r9 [49]).toList))&&(v6.toList==(r9 [49]).toList))&&(v7.toList==(r9 [49]).toList))&&(v8.toList==(r9 [48]).toList))&&(v9.toList==(r9 [45,49]).toList))&&(v10.toList==(r9 [49]).toList))&&(v11.toList==(r9 [114,111,111,116,115,32,48,32,48,32,49,32,48,32,48,32,48]).toList))&&(v12.toList==(r9 [108,105,118,101,115,32,49]).toList))&&(v13.toList==(r9 [48]).toList))&&(v14.toList==(r9 [49]).toList))&&(v15.toList==(r9 [116,97,108,108,121,32,50,32,48,32,49,32,48]).toList))&&(v16.toList==(r9 [101,114,114,111,114,32,57]).toList))&&(v17.toList==(r9 [101,114,114,111,114,32,49]).toList))&&(v18.toList==(r9 [101,114,114,111,114,32,49,51]).toList))&&(v19.toList==(r9 [101,114,114,111,114,32,51,51]).toList))&&(v20.toList==(r9 [101,114,114,111,114,32,51,51]).toList))
def kz(a0:List ByteArray)(a1:List ByteArray):Option Bool:=
 if ((a0.length:Int) != (a1.length:Int)) then
  some false
 else
 jn (λ(_:Unit)=>
  some true) (λκ6=>
  (lp (S:=Int) (E:=Bool ⊕ Unit) (λ(s9:Int)=>
   if (decide (s9<(a0.length:Int))) then
    (ix a0 s9).bind λv11=>
    (ix a1 s9).bind λv12=>
    if (!(v11.toList==v12.toList)) then
     some (.inr (.inl false))
    else
    some (.inl (z8 (s9+1)))
   else
   some (.inr (.inr ()))) 0).bind λe8=>
  match e8 with
  | .inl w=>some w
  | .inr w=>κ6 w)
def bm(a0:ByteArray)(a1:ByteArray):Option Bool:=
 (z6 (((decide ((a0.size:Int) > 300))||(decide ((a1.size:Int) > 300)))==false) false pd).bind λv1=>
 if (((decide ((a0.size:Int) > 300))||(decide ((a1.size:Int) > 300)))||(!v1)) then
  (pd).bind λv2=>
  some v2
 else
 (L4 a0).bind λv3=>
 (tJ (r9 [10,112,114,111,103,32,48,10,112,114,111,103,32,49,10,112,114,111,103,32,50,10,112,114,111,103,32,51,10,112,114,111,103,32,52,10,112,114,111,103,32,53,10,104,101,97,112,32,52,32,51,32,56,10]) a1).bind λv4=>
 (L4 v4).bind λv5=>
 (tJ a0 (r9 [10,112,114,111,103,32,48,10,112,114,111,103,32,49,10,112,114,111,103,32,50,10,112,114,111,103,32,51,10,112,114,111,103,32,52,10,112,114,111,103,32,53,10,104,101,97,112,32,52,32,51,32,56,10])).bind λv6=>
 (tJ v6 a1).bind λv7=>
 (L4 v7).bind λv8=>
 (z6 (((v8.length:Int)==(z8 ((v3.length:Int)+(v5.length:Int))))==true) [] (cut v8 0 (v3.length:Int))).bind λv9=>
 (z6 (((v8.length:Int)==(z8 ((v3.length:Int)+(v5.length:Int))))==true) false (kz v9 v3)).bind λv10=>
 (z6 ((((v8.length:Int)==(z8 ((v3.length:Int)+(v5.length:Int))))&&v10)==true) [] (cut v8 (v3.length:Int) (v8.length:Int))).bind λv11=>
 (z6 ((((v8.length:Int)==(z8 ((v3.length:Int)+(v5.length:Int))))&&v10)==true) false (kz v11 v5)).bind λv12=>
 some ((((v8.length:Int)==(z8 ((v3.length:Int)+(v5.length:Int))))&&v10)&&v12)
structure R1 where
 Serial:Int
 Strong:Int
 Weak:Int
 Prog:Int
 Started:Bool
 Fields:List Int
structure I4 where
 State:Int
 Gen:Int
 Val:R1
structure H3 where
 Target:Int
 Intact:Bool
 Call:Int
structure B5 where
 State:Int
 Key:Int
 Val:Int
structure dq where
 Kind:Int
 At:Int
 Prog:Int
structure au where
 Kind:Int
 A:Int
 B:Int
 C:Int
structure y8 where
 a8:List I4
 Last:Int
 Serial:Int
structure G4 where
 L:List dq
 Cap:Int
structure o6 where
 S:y8
 Roots:List Int
 a8:List H3
 T:List B5
 Q:G4
structure lN where
 X:o6
 Progs:List (List au)
structure O6 where
 State:Int
 Gen:Int
 Val:Int
structure H2 where
 a8:List O6
 Last:Int
def ab(a0:au):Option Bool:=
 some ((decide (a0.Kind>=1))&&(decide (a0.Kind<=10)))
def ca(a0:Int)(a1:Int)(a2:Int)(a3:Int):Option Int:=
 if ((decide (a0<a1))||(decide (a0 > a2))) then
  some a3
 else
 some 0
def bg(a0:Int)(a1:Int)(a2:Int):Option Int:=
 if (a0 != 0) then
  some a0
 else
 if (a1 != 0) then
  some a1
 else
 some a2
def cD(a0:au):Option Int:=
 (ca a0.A 0 5 6).bind λv1=>
 (ca a0.B 0 5 6).bind λv2=>
 if (a0.Kind==1) then
  (ca a0.B 0 4 1).bind λv3=>
  (ca a0.C (-1) 5 13).bind λv4=>
  (bg v1 v3 v4).bind λv5=>
  some v5
 else
 jn (λ(j7:Bool)=>
  if j7 then
   (bg v1 v2 0).bind λv8=>
   some v8
  else
  if (a0.Kind==3) then
   some v1
  else
  if (a0.Kind==4) then
   (ca a0.C 0 3 5).bind λv9=>
   (bg v1 v2 v9).bind λv10=>
   some v10
  else
  if (a0.Kind==5) then
   (ca a0.B 0 3 5).bind λv11=>
   (ca a0.C (-1) 5 6).bind λv12=>
   (bg v1 v11 v12).bind λv13=>
   some v13
  else
  if (a0.Kind==6) then
   (ca a0.A 0 5 7).bind λv14=>
   (ca a0.B (-1) 5 6).bind λv15=>
   (ca a0.C (-1) 5 13).bind λv16=>
   (bg v14 v15 v16).bind λv17=>
   some v17
  else
  if (a0.Kind==7) then
   (ca a0.B 0 5 7).bind λv18=>
   (bg v1 v18 0).bind λv19=>
   some v19
  else
  if (a0.Kind==8) then
   (ca a0.B (-1) 5 6).bind λv20=>
   (bg v1 v20 0).bind λv21=>
   some v21
  else
  if (a0.Kind==11) then
   some 0
  else
  if (a0.Kind==12) then
   (ca a0.A 0 200 12).bind λv22=>
   some v22
  else
  some 14) (λκ6=>
  if (a0.Kind==2) then
   κ6 (a0.Kind==2)
  else
  if (a0.Kind==9) then
   κ6 (a0.Kind==9)
  else
  κ6 (a0.Kind==10))
def oO(a0:List (List au)):Option Bool:=
 if (decide ((a0.length:Int) > 6)) then
  some false
 else
 jn (λ(_:Unit)=>
  some true) (λκ20=>
  (lp (S:=Int) (E:=Bool ⊕ Unit) (λ(s23:Int)=>
   if (decide (s23<(a0.length:Int))) then
    jn (λ(_:Unit)=>
     some (.inl (z8 (s23+1)))) (λκ32=>
     (ix a0 s23).bind λv34=>
     if (decide ((v34.length:Int) > 6)) then
      some (.inr (.inl false))
     else
     (lp (S:=Int) (E:=Bool ⊕ Unit) (λ(s36:Int)=>
      if (decide (s36<(v34.length:Int))) then
       (ix v34 s36).bind λv38=>
       (ab v38).bind λv39=>
       (z6 ((!v39)==false) 0 (cD v38)).bind λv40=>
       if ((!v39)||(v40 != 0)) then
        some (.inr (.inl false))
       else
       some (.inl (z8 (s36+1)))
      else
      some (.inr (.inr ()))) 0).bind λe35=>
     match e35 with
     | .inl w=>some (.inr (.inl w))
     | .inr w=>κ32 w)
   else
   some (.inr (.inr ()))) 0).bind λe22=>
  match e22 with
  | .inl w=>some w
  | .inr w=>κ20 w)
def Hy(a0:Int)(a1:Int):Option H2:=
 if ((((decide (a0<0))||(decide (a0 > 24)))||(decide (a1<0)))||(decide (a1 > 9))) then
  some (⟨[],0⟩:H2)
 else
 (mk 24 a0 (⟨0,0,0⟩:O6)).bind λv1=>
 some (⟨v1,a1⟩:H2)
def Bz(a0:Int)(a1:Int):Option y8:=
 (Hy a0 a1).bind λv1=>
 (mk 80 (v1.a8.length:Int) (⟨0,0,⟨0,0,0,0,false,[]⟩⟩:I4)).bind λv2=>
 some (⟨v2,v1.Last,0⟩:y8)
def Qw(a0:Int):Option (List H3):=
 jn (λ(j8:List H3)=>
  some j8) (λκ7=>
  (lp (S:=Int × (List H3)) (E:=(List H3)) (λ((s10,s11):Int × (List H3))=>
   if ((decide (s10<a0))&&(decide (a0<=6))) then
    (app 24 s11 [(⟨0,false,(-1)⟩:H3)]).bind λv14=>
    some (.inl (z8 (s10+1),v14))
   else
   some (.inr s11)) (0,[])).bind λe9=>
  κ7 e9)
def Hz(a0:Int):Option (List B5):=
 if ((decide (a0<1))||(decide (a0 > 8))) then
  some []
 else
 (mk 24 a0 (⟨0,0,0⟩:B5)).bind λv1=>
 some v1
def Qx:Option G4:=
 some (⟨[],30⟩:G4)
def rJ(a0:Int)(a1:Int)(a2:Int):Option o6:=
 if ((((((decide (a0<1))||(decide (a0 > 24)))||(decide (a1<0)))||(decide (a1 > 9)))||(decide (a2<1)))||(decide (a2 > 8))) then
  some (⟨⟨[],0,0⟩,[],[],[],⟨[],0⟩⟩:o6)
 else
 (Bz a0 a1).bind λv1=>
 (mk 8 6 (0:Int)).bind λv2=>
 (Qw 6).bind λv3=>
 (Hz a2).bind λv4=>
 (Qx).bind λv5=>
 some (⟨v1,v2,v3,v4,v5⟩:o6)
def BF(a0:Int)(a1:Int)(a2:Int)(a3:List (List au)):Option (lN × Int):=
 (oO a3).bind λv1=>
 if (!v1) then
  some ((⟨⟨⟨[],0,0⟩,[],[],[],⟨[],0⟩⟩,[]⟩:lN),13)
 else
 (rJ a0 a1 a2).bind λv2=>
 if ((v2.Roots.length:Int)==0) then
  some ((⟨⟨⟨[],0,0⟩,[],[],[],⟨[],0⟩⟩,[]⟩:lN),1)
 else
 some ((⟨v2,a3⟩:lN),0)
def jU(a0:Int)(a1:Int):Option Int:=
 if ((((decide (a0<0))||(decide (a0 > 23)))||(decide (a1<0)))||(decide (a1 > 9))) then
  some 0
 else
 some (z8 ((z8 (1+a0))+(z8 (32*a1))))
def W9(a0:y8):Option H2:=
 jn (λ(j9:List O6)=>
  some (⟨j9,a0.Last⟩:H2)) (λκ8=>
  (lp (S:=Int × (List O6)) (E:=(List O6)) (λ((s11,s12):Int × (List O6))=>
   if (decide (s11<(a0.a8.length:Int))) then
    (ix a0.a8 s11).bind λv15=>
    (app 24 s12 [(⟨v15.State,v15.Gen,s11⟩:O6)]).bind λv16=>
    some (.inl (z8 (s11+1),v16))
   else
   some (.inr s12)) (0,[])).bind λe10=>
  κ8 e10)
def oM(a0:Int):Option Bool:=
 if ((decide (a0<1))||(decide (a0 > 400))) then
  some false
 else
 (rem (z8 (a0-1)) 32).bind λv1=>
 (quo .i64 (z8 (a0-1)) 32).bind λv2=>
 (jU v1 v2).bind λv3=>
 some (v3==a0)
def ny(a0:Int):Option Int:=
 (oM a0).bind λv1=>
 if (!v1) then
  some (-1)
 else
 (rem (z8 (a0-1)) 32).bind λv2=>
 some v2
def Bw(a0:Int):Option Int:=
 (oM a0).bind λv1=>
 if (!v1) then
  some (-1)
 else
 (quo .i64 (z8 (a0-1)) 32).bind λv2=>
 some v2
def T4(a0:H2)(a1:Int):Option (Int × Int):=
 if (a1==0) then
  some ((-1),2)
 else
 (ny a1).bind λv1=>
 if ((decide (v1<0))||(decide (v1>=(a0.a8.length:Int)))) then
  some ((-1),3)
 else
 (ix a0.a8 v1).bind λv2=>
 (Bw a1).bind λv3=>
 if ((v2.Gen != v3)||((v2.State != 1)&&(v2.State != 2))) then
  some ((-1),3)
 else
 some (v1,0)
def qq(a0:y8)(a1:List Int):Option (List Int):=
 (app 8 [] a1).bind λv1=>
 jn (λ(j36:List Int)=>
  some j36) (λκ35=>
  (lp (S:=Int × (List Int)) (E:=(List Int)) (λ((s38,s39):Int × (List Int))=>
   if (decide (s38<(s39.length:Int))) then
    jn (λ(j56:List Int)=>
     some (.inl (z8 (s38+1),j56))) (λκ55=>
     (lp (S:=Int × (List Int)) (E:=(List Int)) (λ((s58,s59):Int × (List Int))=>
      if (decide (s58 > 0)) then
       (W9 a0).bind λv62=>
       (ix s59 (z8 (s58-1))).bind λv63=>
       (T4 v62 v63).bind λv64=>
       (ix s59 s58).bind λv65=>
       (T4 v62 v65).bind λv66=>
       (z6 (((decide (v64.1<0))||(decide (v66.1<0)))==false) (⟨0,0,⟨0,0,0,0,false,[]⟩⟩:I4) (ix a0.a8 v64.1)).bind λv67=>
       (z6 (((decide (v64.1<0))||(decide (v66.1<0)))==false) (⟨0,0,⟨0,0,0,0,false,[]⟩⟩:I4) (ix a0.a8 v66.1)).bind λv68=>
       if (((decide (v64.1<0))||(decide (v66.1<0)))||(decide (v67.Val.Serial<=v68.Val.Serial))) then
        some (.inr s59)
       else
       (ix (s59.set (s58).toNat v63) (z8 (s58-1))).bind λv69=>
       some (.inl (z8 (s58-1),((s59.set (s58).toNat v63).set (z8 (s58-1)).toNat v65)))
      else
      some (.inr s59)) (s38,s39)).bind λe57=>
     κ55 e57)
   else
   some (.inr s39)) (1,v1)).bind λe37=>
  κ35 e37)
def wZ(a0:y8):Option (List Int):=
 jn (λ(j15:List Int)=>
  (qq a0 j15).bind λv16=>
  some v16) (λκ14=>
  (lp (S:=Int × (List Int)) (E:=(List Int)) (λ((s18,s19):Int × (List Int))=>
   if (decide (s18<(a0.a8.length:Int))) then
    jn (λ(j26:List Int)=>
     some (.inl (z8 (s18+1),j26))) (λκ25=>
     (ix a0.a8 s18).bind λv27=>
     if (v27.State==1) then
      (jU s18 v27.Gen).bind λv28=>
      (app 8 s19 [v28]).bind λv29=>
      κ25 v29
     else
     κ25 s19)
   else
   some (.inr s19)) (0,[])).bind λe17=>
  κ14 e17)
def vi(a0:H2)(a1:Int):Option (Int × Int):=
 (T4 a0 a1).bind λv1=>
 if (v1.2 != 0) then
  some (0,v1.2)
 else
 (ix a0.a8 v1.1).bind λv2=>
 if (v2.State==2) then
  some (0,3)
 else
 some (v2.Val,0)
def M0(a0:y8)(a1:Int):Option (R1 × Int):=
 (W9 a0).bind λv1=>
 (vi v1 a1).bind λv2=>
 if (v2.2 != 0) then
  some ((⟨0,0,0,0,false,[]⟩:R1),v2.2)
 else
 (ix a0.a8 v2.1).bind λv3=>
 some (v3.Val,0)
def gV(a0:o6)(a1:Int):Option Int:=
 (M0 a0.S a1).bind λv1=>
 some v1.1.Serial
def tC(a0:o6)(a1:Int):Option Int:=
 if ((decide (a1<0))||(decide (a1 > 5))) then
  some 0
 else
 (ix a0.Roots a1).bind λv1=>
 (gV a0 v1).bind λv2=>
 some v2
def gU(a0:List Int):Option (au × Int):=
 if ((a0.length:Int) != 4) then
  some ((⟨0,0,0,0⟩:au),14)
 else
 (ix a0 0).bind λv1=>
 (ix a0 1).bind λv2=>
 (ix a0 2).bind λv3=>
 (ix a0 3).bind λv4=>
 (cD (⟨v1,v2,v3,v4⟩:au)).bind λv5=>
 if (v5 != 0) then
  some ((⟨0,0,0,0⟩:au),v5)
 else
 some ((⟨v1,v2,v3,v4⟩:au),0)
def jW(a0:List Int):Option (List Int):=
 jn (λ(j13:List Int)=>
  some j13) (λκ12=>
  (lp (S:=Int × (List Int)) (E:=(List Int)) (λ((s15,s16):Int × (List Int))=>
   if (decide (s15<(a0.length:Int))) then
    jn (λ(j22:List Int)=>
     some (.inl (z8 (s15+1),j22))) (λκ21=>
     (ix a0 s15).bind λv23=>
     if (v23 != 0) then
      (app 8 s16 [v23]).bind λv24=>
      κ21 v24
     else
     κ21 s16)
   else
   some (.inr s16)) (0,[])).bind λe14=>
  κ12 e14)
def jX(a0:List Int)(a1:Int):Option Int:=
 jn (λ(j11:Int)=>
  some j11) (λκ10=>
  (lp (S:=Int × Int) (E:=Int) (λ((s13,s14):Int × Int)=>
   if (decide (s14<(a0.length:Int))) then
    jn (λ(j19:Int)=>
     some (.inl (j19,z8 (s14+1)))) (λκ18=>
     (ix a0 s14).bind λv20=>
     if ((v20==a1)&&(a1 != 0)) then
      κ18 (z8 (s13+1))
     else
     κ18 s13)
   else
   some (.inr s13)) (0,0)).bind λe12=>
  κ10 e12)
def fi(a0:List B5)(a1:Int):Option Int:=
 jn (λ(_:Unit)=>
  some (-1)) (λκ5=>
  (lp (S:=Int) (E:=Int ⊕ Unit) (λ(s8:Int)=>
   if (decide (s8<(a0.length:Int))) then
    (ix a0 s8).bind λv10=>
    if ((v10.State==1)&&(v10.Key==a1)) then
     some (.inr (.inl s8))
    else
    some (.inl (z8 (s8+1)))
   else
   some (.inr (.inr ()))) 0).bind λe7=>
  match e7 with
  | .inl w=>some w
  | .inr w=>κ5 w)
def vl(a0:List B5)(a1:Int):Option (Int × Int):=
 (fi a0 a1).bind λv1=>
 if (decide (v1<0)) then
  some (0,9)
 else
 (ix a0 v1).bind λv2=>
 some (v2.Val,0)
def jV(a0:Int):Option Bool:=
 some (decide (a0>=12))
def BB(a0:List Int)(a1:Int):Option Bool:=
 (jX a0 a1).bind λv1=>
 some (decide (v1 > 0))
def gm(a0:o6)(a1:Int):Option Bool:=
 (M0 a0.S a1).bind λv1=>
 some (v1.2==0)
def rL(a0:o6)(a1:Int):Option Bool:=
 (M0 a0.S a1).bind λv1=>
 (gm a0 a1).bind λv2=>
 some ((v2&&(decide (v1.1.Prog>=0)))&&(!v1.1.Started))
def fh(a0:y8)(a1:Int)(a2:R1):Option y8:=
 (app 80 [] a0.a8).bind λv1=>
 (ix v1 a1).bind λv2=>
 some (⟨(v1.set (a1).toNat (⟨v2.State,v2.Gen,a2⟩:I4)),a0.Last,a0.Serial⟩:y8)
def P3(a0:y8)(a1:Int)(a2:R1):Option (y8 × Int):=
 (W9 a0).bind λv1=>
 (T4 v1 a1).bind λv2=>
 if (v2.2 != 0) then
  some (a0,v2.2)
 else
 (fh a0 v2.1 a2).bind λv3=>
 some (v3,0)
def lK(a0:G4)(a1:dq):Option (G4 × Int):=
 if (decide ((a0.L.length:Int)>=a0.Cap)) then
  some (a0,4)
 else
 (app 24 [] a0.L).bind λv1=>
 (app 24 v1 [a1]).bind λv2=>
 some ((⟨v2,a0.Cap⟩:G4),0)
def vj(a0:Int):Option Int:=
 (jV a0).bind λv1=>
 if v1 then
  some 12
 else
 if (decide (a0<0)) then
  some 1
 else
 some (z8 (a0+1))
def lL(a0:o6)(a1:Int)(a2:Int):Option o6:=
 (M0 a0.S a1).bind λv1=>
 if (v1.2 != 0) then
  some a0
 else
 (P3 a0.S a1 (⟨v1.1.Serial,a2,v1.1.Weak,v1.1.Prog,v1.1.Started,v1.1.Fields⟩:R1)).bind λv2=>
 some (⟨v2.1,a0.Roots,a0.a8,a0.T,a0.Q⟩:o6)
def bZ(a0:o6)(a1:Int):Option o6:=
 (M0 a0.S a1).bind λv1=>
 (vj v1.1.Strong).bind λv2=>
 (lL a0 a1 v2).bind λv3=>
 some v3
def lM(a0:o6)(a1:Int):Option o6:=
 (rL a0 a1).bind λv1=>
 if (!v1) then
  some a0
 else
 (M0 a0.S a1).bind λv2=>
 (P3 a0.S a1 (⟨v2.1.Serial,v2.1.Strong,v2.1.Weak,v2.1.Prog,true,v2.1.Fields⟩:R1)).bind λv3=>
 (lK a0.Q (⟨1,a1,v2.1.Prog⟩:dq)).bind λv4=>
 (bZ (⟨v3.1,a0.Roots,a0.a8,a0.T,v4.1⟩:o6) a1).bind λv5=>
 some v5
def rP(a0:o6)(a1:List Int):Option (List Int):=
 jn (λ(j17:List Int)=>
  some j17) (λκ16=>
  (lp (S:=Int × (List Int)) (E:=(List Int)) (λ((s19,s20):Int × (List Int))=>
   if (decide (s19<(a1.length:Int))) then
    jn (λ(j28:List Int)=>
     some (.inl (z8 (s19+1),j28))) (λκ27=>
     (ix a1 s19).bind λv29=>
     (gm a0 v29).bind λv30=>
     (z6 (v30==true) false (BB s20 v29)).bind λv31=>
     if (v30&&(!v31)) then
      (app 8 s20 [v29]).bind λv32=>
      κ27 v32
     else
     κ27 s20)
   else
   some (.inr s20)) (0,[])).bind λe18=>
  κ16 e18)
def tB(a0:List H3)(a1:List Int):Option ((List H3) × (List Int)):=
 jn (λ((j18,j19):(List Int) × (List H3))=>
  some (j19,j18)) (λκ17=>
  (lp (S:=Int × (List H3) × (List Int)) (E:=((List Int) × (List H3))) (λ((s22,s23,s24):Int × (List H3) × (List Int))=>
   if (decide (s22<(a0.length:Int))) then
    (ix a0 s22).bind λv27=>
    jn (λ((j31,j32):Bool × (List Int))=>
     (app 24 s23 [(⟨v27.Target,j31,v27.Call⟩:H3)]).bind λv34=>
     some (.inl (z8 (s22+1),v34,j32))) (λκ30=>
     (z6 (v27.Intact==true) 0 (jX a1 v27.Target)).bind λv35=>
     if (v27.Intact&&(decide (v35 > 0))) then
      if (decide (v27.Call>=0)) then
       (app 8 s24 [s22]).bind λv36=>
       κ30 (false,v36)
      else
      κ30 (false,s24)
     else
     κ30 (v27.Intact,s24))
   else
   some (.inr (s24,s23))) (0,[],[])).bind λe21=>
  κ17 e21)
def fk(a0:List B5)(a1:Int)(a2:B5):Option (List B5):=
 (app 24 [] a0).bind λv1=>
 (ix v1 a1).bind λv2=>
 some (v1.set (a1).toNat a2)
def nC(a0:List B5)(a1:Int):Option ((List B5) × Int × Int):=
 (fi a0 a1).bind λv1=>
 if (decide (v1<0)) then
  some (a0,0,9)
 else
 (fk a0 v1 (⟨2,0,0⟩:B5)).bind λv2=>
 (ix a0 v1).bind λv3=>
 some (v2,v3.Val,0)
def iY(a0:List B5)(a1:List Int):Option ((List B5) × (List Int)):=
 jn (λ((j18,j19):(List B5) × (List Int))=>
  some (j18,j19)) (λκ17=>
  (lp (S:=(List B5) × Int × (List Int)) (E:=((List B5) × (List Int))) (λ((s22,s23,s24):(List B5) × Int × (List Int))=>
   if (decide (s23<(a1.length:Int))) then
    jn (λ((j31,j32):(List B5) × (List Int))=>
     some (.inl (j31,z8 (s23+1),j32))) (λκ30=>
     (ix a1 s23).bind λv34=>
     (nC s22 v34).bind λv35=>
     if (v35.2.2==0) then
      (app 8 s24 [v35.2.1]).bind λv36=>
      κ30 (v35.1,v36)
     else
     κ30 (s22,s24))
   else
   some (.inr (s22,s24))) (a0,0,[])).bind λe21=>
  κ17 e21)
def bF(a0:H2)(a1:Int)(a2:O6):Option H2:=
 (app 24 [] a0.a8).bind λv1=>
 (ix v1 a1).bind λv2=>
 some (⟨(v1.set (a1).toNat a2),a0.Last⟩:H2)
def Dy(a0:H2)(a1:Int):Option (H2 × Int):=
 (vi a0 a1).bind λv1=>
 if (v1.2 != 0) then
  some (a0,v1.2)
 else
 (T4 a0 a1).bind λv2=>
 (ix a0.a8 v2.1).bind λv3=>
 (bF a0 v2.1 (⟨2,v3.Gen,v3.Val⟩:O6)).bind λv4=>
 some (v4,0)
def bY(a0:y8)(a1:H2):Option y8:=
 jn (λ(j10:List I4)=>
  some (⟨j10,a0.Last,a0.Serial⟩:y8)) (λκ9=>
  (lp (S:=Int × (List I4)) (E:=(List I4)) (λ((s12,s13):Int × (List I4))=>
   if (decide (s12<(a0.a8.length:Int))) then
    (ix a1.a8 s12).bind λv16=>
    (ix a0.a8 s12).bind λv17=>
    (app 80 s13 [(⟨v16.State,v16.Gen,v17.Val⟩:I4)]).bind λv18=>
    some (.inl (z8 (s12+1),v18))
   else
   some (.inr s13)) (0,[])).bind λe11=>
  κ9 e11)
def wY(a0:y8)(a1:Int):Option y8:=
 (W9 a0).bind λv1=>
 (Dy v1 a1).bind λv2=>
 (bY a0 v2.1).bind λv3=>
 some v3
def Dx(a0:H2)(a1:Int):Option (H2 × Int):=
 (T4 a0 a1).bind λv1=>
 if (v1.2 != 0) then
  some (a0,v1.2)
 else
 (ix a0.a8 v1.1).bind λv2=>
 if (decide (v2.Gen>=a0.Last)) then
  (bF a0 v1.1 (⟨3,v2.Gen,0⟩:O6)).bind λv3=>
  some (v3,0)
 else
 (bF a0 v1.1 (⟨0,z8 (v2.Gen+1),0⟩:O6)).bind λv4=>
 some (v4,0)
def rH(a0:y8)(a1:Int):Option y8:=
 (W9 a0).bind λv1=>
 (Dx v1 a1).bind λv2=>
 if (v2.2 != 0) then
  some a0
 else
 (bY a0 v2.1).bind λv3=>
 (ny a1).bind λv4=>
 (fh v3 v4 (⟨0,0,0,0,false,[]⟩:R1)).bind λv5=>
 some v5
def nE(a0:o6)(a1:Int):Option o6:=
 (M0 a0.S a1).bind λv1=>
 (P3 a0.S a1 (⟨v1.1.Serial,0,v1.1.Weak,v1.1.Prog,v1.1.Started,[]⟩:R1)).bind λv2=>
 (wY v2.1 a1).bind λv3=>
 if (v1.1.Weak==0) then
  (rH v3 a1).bind λv4=>
  some (⟨v4,a0.Roots,a0.a8,a0.T,a0.Q⟩:o6)
 else
 some (⟨v3,a0.Roots,a0.a8,a0.T,a0.Q⟩:o6)
def Bx(a0:Int):Option (Int × Int):=
 (jV a0).bind λv1=>
 if v1 then
  some (12,0)
 else
 if (decide (a0<1)) then
  some (0,11)
 else
 some (z8 (a0-1),0)
def J1(a0:o6)(a1:Int):Option o6:=
 (M0 a0.S a1).bind λv1=>
 (Bx v1.1.Strong).bind λv2=>
 if (v2.2 != 0) then
  some a0
 else
 (lL a0 a1 v2.1).bind λv3=>
 some v3
def rK(a0:o6)(a1:List Int):Option o6:=
 (rP a0 a1).bind λv1=>
 (tB a0.a8 v1).bind λv2=>
 jn (λ(j12:G4)=>
  jn (λ(j23:List Int)=>
   (iY a0.T v1).bind λv24=>
   (app 8 j23 v24.2).bind λv25=>
   jn (λ(j34:o6)=>
    jn (λ(j43:o6)=>
     some j43) (λκ42=>
     (lp (S:=Int × o6) (E:=o6) (λ((s45,s46):Int × o6)=>
      if (decide (s45<(v25.length:Int))) then
       (ix v25 s45).bind λv49=>
       (J1 s46 v49).bind λv50=>
       some (.inl (z8 (s45+1),v50))
      else
      some (.inr s46)) (0,j34)).bind λe44=>
     κ42 e44)) (λκ33=>
    (lp (S:=Int × o6) (E:=o6) (λ((s52,s53):Int × o6)=>
     if (decide (s52<(v1.length:Int))) then
      (ix v1 s52).bind λv56=>
      (nE s53 v56).bind λv57=>
      some (.inl (z8 (s52+1),v57))
     else
     some (.inr s53)) (0,(⟨a0.S,a0.Roots,v2.1,v24.1,j12⟩:o6))).bind λe51=>
    κ33 e51)) (λκ22=>
   (lp (S:=Int × (List Int)) (E:=(List Int)) (λ((s59,s60):Int × (List Int))=>
    if (decide (s59<(v1.length:Int))) then
     (ix v1 s59).bind λv63=>
     (M0 a0.S v63).bind λv64=>
     (jW v64.1.Fields).bind λv65=>
     (app 8 s60 v65).bind λv66=>
     some (.inl (z8 (s59+1),v66))
    else
    some (.inr s60)) (0,[])).bind λe58=>
   κ22 e58)) (λκ11=>
  (lp (S:=Int × G4) (E:=G4) (λ((s68,s69):Int × G4)=>
   if (decide (s68<(v2.2.length:Int))) then
    (ix v2.2 s68).bind λv72=>
    (ix v2.1 v72).bind λv73=>
    (lK s69 (⟨2,v72,v73.Call⟩:dq)).bind λv74=>
    some (.inl (z8 (s68+1),v74.1))
   else
   some (.inr s69)) (0,a0.Q)).bind λe67=>
  κ11 e67)
def rM(a0:o6):Option (List Int):=
 (wZ a0.S).bind λv1=>
 jn (λ(j16:List Int)=>
  some j16) (λκ15=>
  (lp (S:=Int × (List Int)) (E:=(List Int)) (λ((s18,s19):Int × (List Int))=>
   if (decide (s18<(v1.length:Int))) then
    jn (λ(j26:List Int)=>
     some (.inl (z8 (s18+1),j26))) (λκ25=>
     (ix v1 s18).bind λv27=>
     (M0 a0.S v27).bind λv28=>
     if (v28.1.Strong==0) then
      (app 8 s19 [v27]).bind λv29=>
      κ25 v29
     else
     κ25 s19)
   else
   some (.inr s19)) (0,[])).bind λe17=>
  κ15 e17)
def aP(a0:o6):Option o6:=
 jn (λ(j21:o6)=>
  some j21) (λκ20=>
  (lp (S:=Int × o6) (E:=o6 ⊕ o6) (λ((s23,s24):Int × o6)=>
   if (decide (s23<100)) then
    jn (λ(j34:o6)=>
     some (.inl (z8 (s23+1),j34))) (λκ33=>
     (rM s24).bind λv35=>
     if ((v35.length:Int)==0) then
      some (.inr (.inl s24))
     else
     (ix v35 0).bind λv36=>
     (rL s24 v36).bind λv37=>
     if v37 then
      (lM s24 v36).bind λv38=>
      κ33 v38
     else
     (cut v35 0 1).bind λv39=>
     (rK s24 v39).bind λv40=>
     κ33 v40)
   else
   some (.inr (.inr s24))) (0,a0)).bind λe22=>
  match e22 with
  | .inl w=>some w
  | .inr w=>κ20 w)
def gn(a0:o6)(a1:Int):Option Bool:=
 (z6 ((a1==0)==false) false (gm a0 a1)).bind λv1=>
 some ((a1==0)||v1)
def gS(a0:o6)(a1:Int)(a2:Int):Option (o6 × Int):=
 if ((decide (a1<0))||(decide (a1 > 5))) then
  some (a0,6)
 else
 (gn a0 a2).bind λv1=>
 if (!v1) then
  some (a0,3)
 else
 (ix a0.Roots a1).bind λv2=>
 (bZ a0 a2).bind λv3=>
 (app 8 [] a0.Roots).bind λv4=>
 (ix v4 a1).bind λv5=>
 (J1 (⟨v3.S,(v4.set (a1).toNat a2),v3.a8,v3.T,v3.Q⟩:o6) v2).bind λv6=>
 some (v6,0)
def oN(a0:G4)(a1:Int):Option Bool:=
 jn (λ(_:Unit)=>
  some false) (λκ5=>
  (lp (S:=Int) (E:=Bool ⊕ Unit) (λ(s8:Int)=>
   if (decide (s8<(a0.L.length:Int))) then
    (ix a0.L s8).bind λv10=>
    if ((v10.Kind==2)&&(v10.At==a1)) then
     some (.inr (.inl true))
    else
    some (.inl (z8 (s8+1)))
   else
   some (.inr (.inr ()))) 0).bind λe7=>
  match e7 with
  | .inl w=>some w
  | .inr w=>κ5 w)
def BC(a0:List H3)(a1:Int)(a2:Int)(a3:Int):Option ((List H3) × Int × Int):=
 if ((decide (a1<0))||(decide (a1>=(a0.length:Int)))) then
  some (a0,0,7)
 else
 (app 24 [] a0).bind λv1=>
 (ix v1 a1).bind λv2=>
 (ix a0 a1).bind λv3=>
 some ((v1.set (a1).toNat (⟨a2,(a2 != 0),a3⟩:H3)),v3.Target,0)
def cC(a0:o6)(a1:Int):Option o6:=
 (W9 a0.S).bind λv1=>
 (T4 v1 a1).bind λv2=>
 if (v2.2 != 0) then
  some a0
 else
 (ix a0.S.a8 v2.1).bind λv3=>
 (P3 a0.S a1 (⟨v3.Val.Serial,v3.Val.Strong,z8 (v3.Val.Weak-1),v3.Val.Prog,v3.Val.Started,v3.Val.Fields⟩:R1)).bind λv4=>
 (ix v4.1.a8 v2.1).bind λv5=>
 if ((v5.State==2)&&(decide ((z8 (v3.Val.Weak-1))<1))) then
  (rH v4.1 a1).bind λv6=>
  some (⟨v6,a0.Roots,a0.a8,a0.T,a0.Q⟩:o6)
 else
 some (⟨v4.1,a0.Roots,a0.a8,a0.T,a0.Q⟩:o6)
def gT(a0:o6)(a1:Int)(a2:Int)(a3:Int):Option (o6 × Int):=
 (z6 (((decide (a1<0))||(decide (a1 > 5)))==false) false (oN a0.Q a1)).bind λv1=>
 if (((decide (a1<0))||(decide (a1 > 5)))||v1) then
  some (a0,7)
 else
 (gn a0 a2).bind λv2=>
 if (!v2) then
  some (a0,3)
 else
 (BC a0.a8 a1 a2 a3).bind λv3=>
 if (a2 != 0) then
  (M0 a0.S a2).bind λv4=>
  (P3 a0.S a2 (⟨v4.1.Serial,v4.1.Strong,z8 (v4.1.Weak+1),v4.1.Prog,v4.1.Started,v4.1.Fields⟩:R1)).bind λv5=>
  (cC (⟨v5.1,a0.Roots,v3.1,a0.T,a0.Q⟩:o6) v3.2.1).bind λv6=>
  some (v6,0)
 else
 (cC (⟨a0.S,a0.Roots,v3.1,a0.T,a0.Q⟩:o6) v3.2.1).bind λv7=>
 some (v7,0)
def ae(a0:o6)(a1:Int):Option (Int × Int):=
 (ix a0.Roots a1).bind λv1=>
 if (v1==0) then
  some (0,2)
 else
 some (v1,0)
def jZ(a0:o6)(a1:Int):Option Int:=
 if (decide (a1<0)) then
  some 0
 else
 (ix a0.Roots a1).bind λv1=>
 some v1
def wX(a0:List Int)(a1:Int):Option (Int × Int):=
 if ((decide (a1<0))||(decide (a1>=(a0.length:Int)))) then
  some (0,5)
 else
 (ix a0 a1).bind λv1=>
 some (v1,0)
def gl(a0:y8)(a1:Int)(a2:Int):Option (Int × Int):=
 (M0 a0 a1).bind λv1=>
 if (v1.2 != 0) then
  some (0,v1.2)
 else
 (wX v1.1.Fields a2).bind λv2=>
 some (v2.1,v2.2)
def Dz(a0:List Int)(a1:Int)(a2:Int):Option ((List Int) × Int):=
 if ((decide (a1<0))||(decide (a1>=(a0.length:Int)))) then
  some (a0,5)
 else
 (app 8 [] a0).bind λv1=>
 (ix v1 a1).bind λv2=>
 some ((v1.set (a1).toNat a2),0)
def BA(a0:y8)(a1:Int)(a2:Int)(a3:Int):Option (y8 × Int):=
 (M0 a0 a1).bind λv1=>
 if (v1.2 != 0) then
  some (a0,v1.2)
 else
 (Dz v1.1.Fields a2 a3).bind λv2=>
 if (v2.2 != 0) then
  some (a0,v2.2)
 else
 (P3 a0 a1 (⟨v1.1.Serial,v1.1.Strong,v1.1.Weak,v1.1.Prog,v1.1.Started,v2.1⟩:R1)).bind λv3=>
 some (v3.1,v3.2)
def jY(a0:o6)(a1:Int)(a2:Int)(a3:Int):Option (o6 × Int):=
 (gl a0.S a1 a2).bind λv1=>
 if (v1.2 != 0) then
  some (a0,v1.2)
 else
 (gn a0 a3).bind λv2=>
 if (!v2) then
  some (a0,3)
 else
 (bZ a0 a3).bind λv3=>
 (BA v3.S a1 a2 a3).bind λv4=>
 (J1 (⟨v4.1,v3.Roots,v3.a8,v3.T,v3.Q⟩:o6) v1.1).bind λv5=>
 some (v5,0)
def DA(a0:Int)(a1:Int):Option Int:=
 if (decide (a0<1)) then
  some 0
 else
 (rem (z8 ((z8 (5*a1))+1)) a0).bind λv1=>
 if (decide (v1<0)) then
  some (z8 (v1+a0))
 else
 some v1
def BD(a0:List B5)(a1:Int)(a2:Int):Option ((List B5) × Int):=
 (fi a0 a1).bind λv1=>
 if (decide (v1>=0)) then
  (fk a0 v1 (⟨1,a1,a2⟩:B5)).bind λv2=>
  some (v2,0)
 else
 (DA (a0.length:Int) a1).bind λv3=>
 jn (λ(_:Unit)=>
  some (a0,8)) (λκ12=>
  (lp (S:=Int × Int) (E:=((List B5) × Int) ⊕ Unit) (λ((s15,s16):Int × Int)=>
   if (decide (s16<(a0.length:Int))) then
    (ix a0 s15).bind λv19=>
    if (v19.State != 1) then
     (fk a0 s15 (⟨1,a1,a2⟩:B5)).bind λv20=>
     some (.inr (.inl (v20,0)))
    else
    (rem (z8 (s15+1)) (a0.length:Int)).bind λv21=>
    some (.inl (v21,z8 (s16+1)))
   else
   some (.inr (.inr ()))) (v3,0)).bind λe14=>
  match e14 with
  | .inl w=>some w
  | .inr w=>κ12 w)
def BE(a0:List B5)(a1:Int)(a2:Int):Option ((List B5) × Int × Int):=
 if (a1==0) then
  some (a0,0,2)
 else
 (vl a0 a1).bind λv1=>
 if (a2==0) then
  (nC a0 a1).bind λv2=>
  some (v2.1,v1.1,0)
 else
 (BD a0 a1 a2).bind λv3=>
 if (v3.2 != 0) then
  some (a0,0,v3.2)
 else
 some (v3.1,v1.1,0)
def nD(a0:o6)(a1:Int)(a2:Int):Option (o6 × Int):=
 if (a1==0) then
  some (a0,2)
 else
 (gm a0 a1).bind λv1=>
 (z6 ((!v1)==false) false (gn a0 a2)).bind λv2=>
 if ((!v1)||(!v2)) then
  some (a0,3)
 else
 (BE a0.T a1 a2).bind λv3=>
 if (v3.2.2 != 0) then
  some (a0,v3.2.2)
 else
 (bZ a0 a2).bind λv4=>
 (J1 (⟨v4.S,v4.Roots,v4.a8,v3.1,v4.Q⟩:o6) v3.2.1).bind λv5=>
 some (v5,0)
def cE(a0:o6)(a1:au):Option (o6 × Int × Int):=
 if ((a1.Kind==6)&&(decide (a1.B<0))) then
  (gT a0 a1.A 0 a1.C).bind λv1=>
  some (v1.1,0,v1.2)
 else
 jn (λ(j3:Int)=>
  (ae a0 j3).bind λv4=>
  if (v4.2 != 0) then
   some (a0,0,v4.2)
  else
  if (a1.Kind==5) then
   (jZ a0 a1.C).bind λv5=>
   (jY a0 v4.1 a1.B v5).bind λv6=>
   some (v6.1,v5,v6.2)
  else
  if (a1.Kind==6) then
   (gT a0 a1.A v4.1 a1.C).bind λv7=>
   some (v7.1,v4.1,v7.2)
  else
  (jZ a0 a1.B).bind λv8=>
  (nD a0 v4.1 v8).bind λv9=>
  some (v9.1,v8,v9.2)) (λκ2=>
  if (a1.Kind==6) then
   κ2 a1.B
  else
  κ2 a1.A)
def vk(a0:Int):Option ((List Int) × Int):=
 if ((decide (a0<0))||(decide (a0 > 4))) then
  some ([],1)
 else
 (mk 8 a0 (0:Int)).bind λv1=>
 some (v1,0)
def nB(a0:H2)(a1:Int):Option (H2 × Int × Int):=
 jn (λ(_:Unit)=>
  some (a0,0,4)) (λκ7=>
  (lp (S:=Int) (E:=(H2 × Int × Int) ⊕ Unit) (λ(s10:Int)=>
   if (decide (s10<(a0.a8.length:Int))) then
    (ix a0.a8 s10).bind λv12=>
    if (v12.State==0) then
     (bF a0 s10 (⟨1,v12.Gen,a1⟩:O6)).bind λv13=>
     (jU s10 v12.Gen).bind λv14=>
     some (.inr (.inl (v13,v14,0)))
    else
    some (.inl (z8 (s10+1)))
   else
   some (.inr (.inr ()))) 0).bind λe9=>
  match e9 with
  | .inl w=>some w
  | .inr w=>κ7 w)
def fg(a0:y8)(a1:Int)(a2:Int):Option (y8 × Int × Int):=
 (vk a1).bind λv1=>
 if (v1.2 != 0) then
  some (a0,0,v1.2)
 else
 if ((decide (a2<(-1)))||(decide (a2 > 5))) then
  some (a0,0,13)
 else
 (W9 a0).bind λv2=>
 (nB v2 0).bind λv3=>
 if (v3.2.2 != 0) then
  some (a0,0,v3.2.2)
 else
 (bY a0 v3.1).bind λv4=>
 (ny v3.2.1).bind λv5=>
 (fh v4 v5 (⟨z8 (a0.Serial+1),0,0,a2,false,v1.1⟩:R1)).bind λv6=>
 some ((⟨v6.a8,v6.Last,z8 (a0.Serial+1)⟩:y8),v3.2.1,0)
def rI(a0:List H3)(a1:Int):Option (Int × Int):=
 if ((decide (a1<0))||(decide (a1>=(a0.length:Int)))) then
  some (0,7)
 else
 (ix a0 a1).bind λv1=>
 if ((v1.Target==0)||(!v1.Intact)) then
  some (0,9)
 else
 some (v1.Target,0)
def vm(a0:List B5)(a1:Int):Option (Int × Int):=
 (vl a0 a1).bind λv1=>
 some (v1.1,v1.2)
def ed(a0:o6)(a1:au):Option (Int × Int):=
 if (a1.Kind==2) then
  (ix a0.Roots a1.B).bind λv1=>
  some (v1,0)
 else
 if (a1.Kind==4) then
  (ae a0 a1.B).bind λv2=>
  if (v2.2 != 0) then
   some (0,v2.2)
  else
  (gl a0.S v2.1 a1.C).bind λv3=>
  some (v3.1,v3.2)
 else
 if (a1.Kind==7) then
  (rI a0.a8 a1.B).bind λv4=>
  some (v4.1,v4.2)
 else
 if (a1.Kind==9) then
  (ae a0 a1.B).bind λv5=>
  if (v5.2 != 0) then
   some (0,v5.2)
  else
  (vm a0.T v5.1).bind λv6=>
  some (v6.1,v6.2)
 else
 some (0,0)
def D8(a0:o6)(a1:au):Option (o6 × Int × Int):=
 (cD a1).bind λv1=>
 if (v1 != 0) then
  some (a0,0,v1)
 else
 (ab a1).bind λv2=>
 if (!v2) then
  some (a0,0,14)
 else
 if (a1.Kind==10) then
  (ix a0.Roots a1.A).bind λv3=>
  (ix a0.Roots a1.B).bind λv4=>
  if (v3==v4) then
   some (a0,1,0)
  else
  some (a0,0,0)
 else
 jn (λ(j6:Bool)=>
  if j6 then
   (cE a0 a1).bind λv7=>
   if (v7.2.2 != 0) then
    some (a0,0,v7.2.2)
   else
   (aP v7.1).bind λv8=>
   (gV a0 v7.2.1).bind λv9=>
   some (v8,v9,0)
  else
  if (a1.Kind==1) then
   (fg a0.S a1.B a1.C).bind λv10=>
   if (v10.2.2 != 0) then
    some (a0,0,v10.2.2)
   else
   (gS (⟨v10.1,a0.Roots,a0.a8,a0.T,a0.Q⟩:o6) a1.A v10.2.1).bind λv11=>
   (aP v11.1).bind λv12=>
   (tC v12 a1.A).bind λv13=>
   some (v12,v13,0)
  else
  (ed a0 a1).bind λv14=>
  if (v14.2 != 0) then
   some (a0,0,v14.2)
  else
  (gS a0 a1.A v14.1).bind λv15=>
  (aP v15.1).bind λv16=>
  (tC v16 a1.A).bind λv17=>
  some (v16,v17,0)) (λκ5=>
  if (a1.Kind==5) then
   κ5 (a1.Kind==5)
  else
  if (a1.Kind==6) then
   κ5 (a1.Kind==6)
  else
  κ5 (a1.Kind==8))
def HA(a0:o6)(a1:List au):Option (o6 × (List Int)):=
 jn (λ((j11,j12):o6 × (List Int))=>
  some (j11,j12)) (λκ10=>
  (lp (S:=Int × o6 × (List Int)) (E:=(o6 × (List Int))) (λ((s15,s16,s17):Int × o6 × (List Int))=>
   if (decide (s15<(a1.length:Int))) then
    (ix a1 s15).bind λv20=>
    (D8 s16 v20).bind λv21=>
    (app 8 s17 [v21.2.1]).bind λv22=>
    some (.inl (z8 (s15+1),v21.1,v22))
   else
   some (.inr (s16,s17))) (0,a0,[])).bind λe14=>
  κ10 e14)
end
end Go.Sh
