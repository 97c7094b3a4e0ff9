/- A part. -/
import Derived.Test.YtppgkaeodaaidaaGreatDoorU3rSh0
import Derived.Test.YtppgkaeodaaidaaGreatDoorU3rPwD
import Derived.Test.YtppgkaeodaaidaaGreatDoorU3rPwC
import Derived.Test.YtppgkaeodaaidaaGreatDoorU3rPwE
set_option linter.unusedVariables false
set_option linter.unusedSimpArgs false
set_option linter.unusedSectionVars false
namespace Go.Sh
set_option maxRecDepth 100000
noncomputable section
structure p7 where
 Serial:Int
 Strong:Int
 Weak:Int
 Prog:Int
 Started:Bool
 Fields:List Int
structure b7 where
 State:Int
 Gen:Int
 Val:p7
structure j5 where
 Target:Int
 Intact:Bool
 Call:Int
structure b8 where
 State:Int
 Key:Int
 Val:Int
structure n0 where
 Kind:Int
 At:Int
 Prog:Int
structure e6 where
 Kind:Int
 A:Int
 B:Int
 C:Int
structure s7 where
 start:Int
 end_:Int
structure c5 where
 a8:List b7
 Last:Int
structure a7 where
 S:c5
 Serial:Int
structure k7 where
 L:List n0
 Cap:Int
structure b6 where
 S:a7
 Roots:List Int
 a8:List j5
 T:List b8
 Q:k7
structure s6 where
 X:b6
 Progs:List (List e6)
structure c4 where
 g:s6
 begun:Bool
 progs:List (List e6)
structure c8 where
 takes:Fw
 run:Fw
 early:Bool
structure k8 where
 part:Fv
 least:Int
 most:Int
 e:Int
structure u7 where
 x:b6
 o:e6
structure I1 where
 r:Int
 h:Int
structure G8 where
 h:Int
 k:Int
 v:Int
structure I0 where
 t:List b8
structure r9 where
 Key:Int
 Val:Int
structure l7 where
 L:List Int
 Cap:Int
structure D5 where
 V:Int
 E:Int
def Z1(a0:Int):Option Bool:=
 some (((a0==9)||(a0==13))||(a0==32))
def D6(a0:ByteArray):Option (List ByteArray):=
 jn (λ((j10,j11):Int × (List s7))=>
  jn (λ(j15:List s7)=>
   (mk 16 (j15.length:Int) (ByteArray.empty:ByteArray)).bind λv16=>
   jn (λ(j26:List ByteArray)=>
    some j26) (λκ25=>
    (lp (S:=Int × (List ByteArray)) (E:=(List ByteArray)) (λ((s28,s29):Int × (List ByteArray))=>
     if (decide (s28<(j15.length:Int))) then
      (ix j15 s28).bind λv32=>
      (yg a0 v32.start v32.end_).bind λv33=>
      (ix s29 s28).bind λv34=>
      some (.inl (z6 (s28+1),(s29.set (s28).toNat v33)))
     else
     some (.inr s29)) (0,v16)).bind λe27=>
    κ25 e27)) (λκ14=>
   if (decide (j10>=0)) then
    (app 16 j11 [(⟨j10,(a0.size:Int)⟩:s7)]).bind λv35=>
    κ14 v35
   else
   κ14 j11)) (λκ9=>
  (lp (S:=Int × Nat × (List s7)) (E:=(Int × (List s7))) (λ((s37,s38,s39):Int × Nat × (List s7))=>
   if (decide (s38<a0.size)) then
    (Z1 ((dec a0 s38).1:Int)).bind λv42=>
    if v42 then
     if (decide (s37>=0)) then
      (app 16 s39 [(⟨s37,((s38:Nat):Int)⟩:s7)]).bind λv43=>
      some (.inl (vN .i64 s37,(s38+(dec a0 s38).2),v43))
     else
     some (.inl (s37,(s38+(dec a0 s38).2),s39))
    else
    if (decide (s37<0)) then
     some (.inl (((s38:Nat):Int),(s38+(dec a0 s38).2),s39))
    else
    some (.inl (s37,(s38+(dec a0 s38).2),s39))
   else
   some (.inr (s37,s39))) ((-1),0,[])).bind λe36=>
  κ9 e36)
def Z0(a0:Int):Option Int:=
 some a0
def B5(a0:Int)(a1:Int):Option c8:=
 (Z0 a1).bind λv1=>
 some (⟨(some (137,some v1)),(some (138,some a0)),false⟩:c8)
def dU:Option (List (ByteArray × c8)):=
 (Z0 3).bind λv1=>
 (B5 1 3).bind λv2=>
 (B5 2 2).bind λv3=>
 (B5 3 1).bind λv4=>
 (B5 4 3).bind λv5=>
 (B5 5 3).bind λv6=>
 (B5 6 3).bind λv7=>
 (B5 7 2).bind λv8=>
 (B5 8 2).bind λv9=>
 (B5 9 2).bind λv10=>
 (B5 10 2).bind λv11=>
 (B5 11 0).bind λv12=>
 (B5 12 1).bind λv13=>
 (Z0 0).bind λv14=>
 some (o5 (o5 (o5 (o5 (o5 (o5 (o5 (o5 (o5 (o5 (o5 (o5 (o5 (o5 (o5 (o5 (o5 [] (p8 [112,114,111,103]) (⟨(some (75,none)),(some (76,none)),true⟩:c8)) (p8 [104,101,97,112]) (⟨(some (137,some v1)),(some (78,none)),true⟩:c8)) (p8 [110,101,119]) v2) (p8 [99,111,112,121]) v3) (p8 [100,114,111,112]) v4) (p8 [108,111,97,100]) v5) (p8 [115,116,111,114,101]) v6) (p8 [119,101,97,107]) v7) (p8 [117,112]) v8) (p8 [112,97,105,114]) v9) (p8 [103,101,116]) v10) (p8 [115,97,109,101]) v11) (p8 [99,111,108,108,101,99,116]) v12) (p8 [100,114,97,105,110]) v13) (p8 [108,105,118,101,115]) (⟨(some (137,some v14)),(some (80,none)),false⟩:c8)) (p8 [114,111,111,116,115]) (⟨(some (137,some v14)),(some (81,none)),false⟩:c8)) (p8 [116,97,108,108,121]) (⟨(some (137,some v14)),(some (82,none)),false⟩:c8))
def aG(a0:ByteArray):Option (Int × Bool):=
 jn (λ((j9,j10,j11):Int × Int × Int)=>
  if (j10==0) then
   some (0,false)
  else
  some (z6 (j11*j9),true)) (λκ8=>
  (lp (S:=Int × Int × Int × Nat) (E:=(Int × Int × Int)) (λ((s14,s15,s16,s17):Int × Int × Int × Nat)=>
   if (decide (s17<a0.size)) then
    if ((((s17:Nat):Int)==0)&&(((dec a0 s17).1:Int)==45)) then
     some (.inl (s14,s15,(-1),(s17+(dec a0 s17).2)))
    else
    if (((decide (((dec a0 s17).1:Int)<48))||(decide (((dec a0 s17).1:Int) > 57)))||(s15==9)) then
     some (.inr (s14,0,s16))
    else
    some (.inl (z6 ((z6 (s14*10))+(z6 (IntKind.i32.wrap (((dec a0 s17).1:Int)-48)))),z6 (s15+1),s16,(s17+(dec a0 s17).2)))
   else
   some (.inr (s14,s15,s16))) (0,0,1,0)).bind λXz=>
  κ8 Xz)
def ay(a0:List ByteArray):Option ((List Int) × Bool):=
 jn (λ(j10:List Int)=>
  some (j10,true)) (λκ9=>
  (lp (S:=Int × (List Int)) (E:=((List Int) × Bool) ⊕ (List Int)) (λ((s12,s13):Int × (List Int))=>
   if (decide (s12<(a0.length:Int))) then
    (ix a0 s12).bind λv16=>
    (aG v16).bind λv17=>
    if (!v17.2) then
     some (.inr (.inl ([],false)))
    else
    (app 8 s13 [v17.1]).bind λv18=>
    some (.inl (z6 (s12+1),v18))
   else
   some (.inr (.inr s13))) (0,[])).bind λe11=>
  match e11 with
  | .inl w=>some w
  | .inr w=>κ9 w)
def bQ(a0:Int):Option Bool:=
 (rem a0 4).bind λv1=>
 some (v1==1)
def cX(a0:Int)(a1:Int):Option Bool:=
 some (a0==a1)
def oH(f:Fw)(a0:Int):Option Bool:=
 match f with
 | none=>none
 | some (n,none)=>
  if n=75 then bQ a0 else
  none
 | some (n,some c)=>
  if n=137 then cX a0 c else
  none
def B8(a0:Int):Option ByteArray:=
 (nV a0).bind λv1=>
 (kq (p8 [101,114,114,111,114,32]) v1).bind λv2=>
 some v2
def dR(a0:e6):Option Bool:=
 some ((decide (a0.Kind>=1))&&(decide (a0.Kind<=10)))
def ak:Option k8:=
 some (⟨(some 169),0,5,6⟩:k8)
def U3:Option k8:=
 some (⟨(some 172),(-1),5,13⟩:k8)
def J2(a0:List k8):Option (List k8):=
 some a0
def al:Option k8:=
 some (⟨(some 170),0,5,6⟩:k8)
def X9:Option k8:=
 some (⟨(some 172),0,3,5⟩:k8)
def X8:Option k8:=
 some (⟨(some 170),0,3,5⟩:k8)
def P2:Option k8:=
 some (⟨(some 172),(-1),5,6⟩:k8)
def ai:Option k8:=
 some (⟨(some 169),0,5,7⟩:k8)
def P1:Option k8:=
 some (⟨(some 170),(-1),5,6⟩:k8)
def aj:Option k8:=
 some (⟨(some 170),0,5,7⟩:k8)
def ld:Option (List (Int × (List k8))):=
 (ak).bind λv1=>
 (U3).bind λv2=>
 (J2 [v1,(⟨(some 170),0,4,1⟩:k8),v2]).bind λv3=>
 (al).bind λv4=>
 (J2 [v1,v4]).bind λv5=>
 (J2 [v1]).bind λv6=>
 (X9).bind λv7=>
 (J2 [v1,v4,v7]).bind λv8=>
 (X8).bind λv9=>
 (P2).bind λv10=>
 (J2 [v1,v9,v10]).bind λv11=>
 (ai).bind λv12=>
 (P1).bind λv13=>
 (J2 [v12,v13,v2]).bind λv14=>
 (aj).bind λv15=>
 (J2 [v1,v15]).bind λv16=>
 (J2 [v1,v13]).bind λv17=>
 (J2 []).bind λv18=>
 (J2 [(⟨(some 169),0,200,12⟩:k8)]).bind λv19=>
 some (o5 (o5 (o5 (o5 (o5 (o5 (o5 (o5 (o5 (o5 (o5 (o5 [] 1 v3) 2 v5) 3 v6) 4 v8) 5 v11) 6 v14) 7 v16) 8 v17) 9 v5) 10 v5) 11 v18) 12 v19)
def qg(a0:e6):Option Int:=
 some a0.A
def qh(a0:e6):Option Int:=
 some a0.B
def qi(a0:e6):Option Int:=
 some a0.C
def rj(f:Fv)(a0:e6):Option Int:=
 if f=some 169 then qg a0 else
 if f=some 170 then qh a0 else
 if f=some 172 then qi a0 else
 none
def U2(a0:e6):Option Int:=
 (ld).bind λv1=>
 if (!((z7 v1 a0.Kind).isSome)) then
  some 14
 else
 jn (λ(_:Unit)=>
  some 0) (λκ8=>
  (lp (S:=Int) (E:=Int ⊕ Unit) (λ(s11:Int)=>
   if (decide (s11<(((z7 v1 a0.Kind).getD ([]:List k8)).length:Int))) then
    (ix ((z7 v1 a0.Kind).getD ([]:List k8)) s11).bind λv13=>
    (rj v13.part a0).bind λv14=>
    if ((decide (v14<v13.least))||(decide (v14 > v13.most))) then
     some (.inr (.inl v13.e))
    else
    some (.inl (z6 (s11+1)))
   else
   some (.inr (.inr ()))) 0).bind λe10=>
  match e10 with
  | .inl w=>some w
  | .inr w=>κ8 w)
def dS(a0:List (List e6)):Option Bool:=
 if (decide ((a0.length:Int) > 6)) then
  some false
 else
 jn (λ(_:Unit)=>
  some true) (λκ20=>
  (lp (S:=Int) (E:=Bool ⊕ Unit) (λ(s23:Int)=>
   if (decide (s23<(a0.length:Int))) then
    jn (λ(_:Unit)=>
     some (.inl (z6 (s23+1)))) (λκ32=>
     (ix a0 s23).bind λv34=>
     if (decide ((v34.length:Int) > 6)) then
      some (.inr (.inl false))
     else
     (lp (S:=Int) (E:=Bool ⊕ Unit) (λ(s36:Int)=>
      if (decide (s36<(v34.length:Int))) then
       (ix v34 s36).bind λv38=>
       (dR v38).bind λv39=>
       (z8 ((!v39)==false) 0 (U2 v38)).bind λv40=>
       if ((!v39)||(v40 != 0)) then
        some (.inr (.inl false))
       else
       some (.inl (z6 (s36+1)))
      else
      some (.inr (.inr ()))) 0).bind λe35=>
     match e35 with
     | .inl w=>some (.inr (.inl w))
     | .inr w=>κ32 w)
   else
   some (.inr (.inr ()))) 0).bind λe22=>
  match e22 with
  | .inl w=>some w
  | .inr w=>κ20 w)
def N6(a0:c4)(a1:List Int):Option (c4 × ByteArray):=
 (ix a1 0).bind λv1=>
 if ((decide (v1<0))||(decide (v1>=6))) then
  (B8 13).bind λv2=>
  some (a0,v2)
 else
 (mk 24 (if (a0.progs.length:Int) > (z6 (v1+1)) then (a0.progs.length:Int) else z6 (v1+1)) ([]:List e6)).bind λv3=>
 (uG v3 a0.progs).bind λv4=>
 (ix v4 v1).bind λv5=>
 jn (λ(j19:List e6)=>
  (dS (v4.set ((v1).toNat) j19)).bind λv20=>
  if (!v20) then
   (B8 13).bind λv21=>
   some (a0,v21)
  else
  some ((⟨a0.g,a0.begun,(v4.set ((v1).toNat) j19)⟩:c4),(p8 [111,107]))) (λκ18=>
  (cut a1 1 (a1.length:Int)).bind λv22=>
  (lp (S:=(List Int) × (List e6)) (E:=(List e6)) (λ((s24,s25):(List Int) × (List e6))=>
   if (decide ((s24.length:Int) > 0)) then
    (ix s24 0).bind λv28=>
    (ix s24 1).bind λv29=>
    (ix s24 2).bind λv30=>
    (ix s24 3).bind λv31=>
    (app 32 s25 [(⟨v28,v29,v30,v31⟩:e6)]).bind λv32=>
    (cut s24 4 (s24.length:Int)).bind λv33=>
    some (.inl (v33,v32))
   else
   some (.inr s25)) (v22,[])).bind λe23=>
  κ18 e23)
def Y6(a0:Int)(a1:Int):Option c5:=
 if ((((decide (a0<0))||(decide (a0 > 24)))||(decide (a1<0)))||(decide (a1 > 9))) then
  some (⟨[],0⟩:c5)
 else
 (mk 80 a0 (⟨0,0,⟨0,0,0,0,false,[]⟩⟩:b7)).bind λv1=>
 some (⟨v1,a1⟩:c5)
def gw(a0:Int)(a1:Int):Option a7:=
 (Y6 a0 a1).bind λv1=>
 some (⟨v1,0⟩:a7)
def Em(a0:Int):Option (List j5):=
 if ((decide (a0<0))||(decide (a0 > 6))) then
  some []
 else
 (mk 24 a0 (⟨0,false,0⟩:j5)).bind λv1=>
 jn (λ(j9:List j5)=>
  some j9) (λκ8=>
  (lp (S:=Int × (List j5)) (E:=(List j5)) (λ((s11,s12):Int × (List j5))=>
   if (decide (s11<(v1.length:Int))) then
    (ix s12 s11).bind λv15=>
    some (.inl (z6 (s11+1),(s12.set (s11).toNat (⟨v15.Target,v15.Intact,(-1)⟩:j5))))
   else
   some (.inr s12)) (0,v1)).bind λe10=>
  κ8 e10)
def rq(a0:Int):Option (List b8):=
 if ((decide (a0<1))||(decide (a0 > 8))) then
  some []
 else
 (mk 24 a0 (⟨0,0,0⟩:b8)).bind λv1=>
 some v1
def bt(a0:Int):Option k7:=
 some (⟨[],a0⟩:k7)
def Ea:Option k7:=
 (bt 30).bind λv1=>
 some v1
def jP(a0:Int)(a1:Int)(a2:Int):Option b6:=
 if ((((((decide (a0<1))||(decide (a0 > 24)))||(decide (a1<0)))||(decide (a1 > 9)))||(decide (a2<1)))||(decide (a2 > 8))) then
  some (⟨⟨⟨[],0⟩,0⟩,[],[],[],⟨[],0⟩⟩:b6)
 else
 (gw a0 a1).bind λv1=>
 (mk 8 6 (0:Int)).bind λv2=>
 (Em 6).bind λv3=>
 (rq a2).bind λv4=>
 (Ea).bind λv5=>
 some (⟨v1,v2,v3,v4,v5⟩:b6)
def H0(a0:Int)(a1:Int)(a2:Int)(a3:List (List e6)):Option (s6 × Int):=
 (dS a3).bind λv1=>
 if (!v1) then
  some ((⟨⟨⟨⟨[],0⟩,0⟩,[],[],[],⟨[],0⟩⟩,[]⟩:s6),13)
 else
 (jP a0 a1 a2).bind λv2=>
 if ((v2.Roots.length:Int)==0) then
  some ((⟨⟨⟨⟨[],0⟩,0⟩,[],[],[],⟨[],0⟩⟩,[]⟩:s6),1)
 else
 some ((⟨v2,a3⟩:s6),0)
def M5(a0:c4)(a1:List Int):Option (c4 × ByteArray):=
 (ix a1 0).bind λv1=>
 (ix a1 1).bind λv2=>
 (ix a1 2).bind λv3=>
 (H0 v1 v2 v3 a0.progs).bind λv4=>
 if (v4.2 != 0) then
  (B8 v4.2).bind λv5=>
  some (a0,v5)
 else
 some ((⟨v4.1,true,a0.progs⟩:c4),(p8 [111,107]))
def cr(a0:Int)(a1:Int):Option Int:=
 if ((((decide (a0<0))||(decide (a0>=24)))||(decide (a1<0)))||(decide (a1 > 9))) then
  some 0
 else
 some (z6 ((z6 (1+(z6 (a0*1))))+(z6 (a1*32))))
def cmp_isNaN_int(a0:Int):Option Bool:=
 some (a0 != a0)
def bK(a0:Int)(a1:Int):Option Int:=
 (cmp_isNaN_int a0).bind λv1=>
 (cmp_isNaN_int a1).bind λv2=>
 if v1 then
  if v2 then
   some 0
  else
  some (-1)
 else
 if v2 then
  some 1
 else
 if (decide (a0<a1)) then
  some (-1)
 else
 if (decide (a0 > a1)) then
  some 1
 else
 some 0
def dC(a0:Int)(a1:Int)(a2:List (Int × Int)):Option Int:=
 (bK ((z7 a2 a0).getD (0:Int)) ((z7 a2 a1).getD (0:Int))).bind λv1=>
 some v1
def E3(a0:a7):Option (List Int):=
 jn (λ((j18,j19):(List (Int × Int)) × (List Int))=>
  (nX (λp q=>dC p q j18) j19).bind λv21=>
  some v21) (λκ17=>
  (lp (S:=Int × (List (Int × Int)) × (List Int)) (E:=((List (Int × Int)) × (List Int))) (λ((s23,s24,s25):Int × (List (Int × Int)) × (List Int))=>
   if (decide (s23<(a0.S.a8.length:Int))) then
    jn (λ((j32,j33):(List (Int × Int)) × (List Int))=>
     some (.inl (z6 (s23+1),j32,j33))) (λκ31=>
     (ix a0.S.a8 s23).bind λv35=>
     if (v35.State==1) then
      (cr s23 v35.Gen).bind λv36=>
      (app 8 s25 [v36]).bind λv37=>
      κ31 ((o5 s24 v36 v35.Val.Serial),v37)
     else
     κ31 (s24,s25))
   else
   some (.inr (s24,s25))) (0,[],[])).bind λe22=>
  κ17 e22)
def dc(a0:Int):Option (Int × Int × Bool):=
 if (decide (a0<1)) then
  some ((-1),(-1),false)
 else
 (rem (z6 (a0-1)) 32).bind λv1=>
 (quo .i64 v1 1).bind λv2=>
 (quo .i64 (z6 (a0-1)) 32).bind λv3=>
 if ((decide (v2>=24))||(decide (v3 > 9))) then
  some ((-1),(-1),false)
 else
 some (v2,v3,true)
def eX(a0:Int):Option Int:=
 (dc a0).bind λv1=>
 some v1.1
def gJ(a0:Int):Option Int:=
 (dc a0).bind λv1=>
 some v1.2.1
def w7(a0:c5)(a1:Int):Option (Int × Int):=
 if (a1==0) then
  some ((-1),2)
 else
 (eX a1).bind λv1=>
 if ((decide (v1<0))||(decide (v1>=(a0.a8.length:Int)))) then
  some ((-1),3)
 else
 (ix a0.a8 v1).bind λv2=>
 (gJ a1).bind λv3=>
 if ((v2.Gen != v3)||((v2.State != 1)&&(v2.State != 2))) then
  some ((-1),3)
 else
 some (v1,0)
def C5(a0:c5)(a1:Int):Option (p7 × Int):=
 (w7 a0 a1).bind λv1=>
 if (v1.2 != 0) then
  some ((⟨0,0,0,0,false,[]⟩:p7),v1.2)
 else
 (ix a0.a8 v1.1).bind λv2=>
 if (v2.State==2) then
  some ((⟨0,0,0,0,false,[]⟩:p7),3)
 else
 some (v2.Val,0)
def y4(a0:a7)(a1:Int):Option (p7 × Int):=
 (C5 a0.S a1).bind λv1=>
 some (v1.1,v1.2)
def aM(a0:b6)(a1:Int):Option Int:=
 (y4 a0.S a1).bind λv1=>
 some v1.1.Serial
def fS(a0:s6):Option (List Int):=
 jn (λ(j11:List Int)=>
  (oY j11).bind λv12=>
  some v12) (λκ10=>
  (E3 a0.X.S).bind λv13=>
  (lp (S:=Int × (List Int)) (E:=(List Int)) (λ((s15,s16):Int × (List Int))=>
   if (decide (s15<(v13.length:Int))) then
    (ix v13 s15).bind λv19=>
    (aM a0.X v19).bind λv20=>
    (app 8 s16 [v20]).bind λv21=>
    some (.inl (z6 (s15+1),v21))
   else
   some (.inr s16)) (0,[])).bind λe14=>
  κ10 e14)
def W0(a0:ByteArray)(a1:List Int):Option ByteArray:=
 jn (λ(j11:ByteArray)=>
  some j11) (λκ10=>
  (lp (S:=ByteArray × Int) (E:=ByteArray) (λ((s13,s14):ByteArray × Int)=>
   if (decide (s14<(a1.length:Int))) then
    (ix a1 s14).bind λv17=>
    (nV v17).bind λv18=>
    (kq (p8 [32]) v18).bind λv19=>
    (kq s13 v19).bind λv20=>
    some (.inl (v20,z6 (s14+1)))
   else
   some (.inr s13)) (a0,0)).bind λe12=>
  κ10 e12)
def K1(a0:c4)(a1:List Int):Option (c4 × ByteArray):=
 (fS a0.g).bind λv1=>
 (W0 (p8 [108,105,118,101,115]) v1).bind λv2=>
 some (a0,v2)
def L9(a0:b6)(a1:Int):Option Int:=
 if ((decide (a1<0))||(decide (a1>=(a0.Roots.length:Int)))) then
  some 0
 else
 (ix a0.Roots a1).bind λv1=>
 some v1
def aL(a0:b6)(a1:Int):Option Int:=
 (L9 a0 a1).bind λv1=>
 (aM a0 v1).bind λv2=>
 some v2
def K2(a0:c4)(a1:List Int):Option (c4 × ByteArray):=
 (mk 8 6 (0:Int)).bind λv1=>
 jn (λ(j10:List Int)=>
  (W0 (p8 [114,111,111,116,115]) j10).bind λv11=>
  some (a0,v11)) (λκ9=>
  (lp (S:=Int × (List Int)) (E:=(List Int)) (λ((s13,s14):Int × (List Int))=>
   if (decide (s13<(v1.length:Int))) then
    (aL a0.g.X s13).bind λv17=>
    (ix s14 s13).bind λv18=>
    some (.inl (z6 (s13+1),(s14.set (s13).toNat v17)))
   else
   some (.inr s14)) (0,v1)).bind λe12=>
  κ9 e12)
def T6(a0:c5):Option A4:=
 jn (λ(j9:A4)=>
  some j9) (λκ8=>
  (lp (S:=Int × A4) (E:=A4) (λ((s11,s12):Int × A4)=>
   if (decide (s11<(a0.a8.length:Int))) then
    (ix a0.a8 s11).bind λv15=>
    (A4.ix s12 v15.State).bind λv16=>
    some (.inl (z6 (s11+1),(A4.st s12 v15.State (z6 (v16+1)))))
   else
   some (.inr s12)) (0,(⟨0,0,0,0⟩:A4))).bind λe10=>
  κ8 e10)
def fT(a0:s6):Option A4:=
 (T6 a0.X.S.S).bind λv1=>
 some v1
def R3(a0:c4)(a1:List Int):Option (c4 × ByteArray):=
 (fT a0.g).bind λv1=>
 (W0 (p8 [116,97,108,108,121]) [v1.a,v1.b,v1.c,v1.d]).bind λv2=>
 some (a0,v2)
def X6(a0:List Int):Option (e6 × Int):=
 if ((a0.length:Int) != 4) then
  some ((⟨0,0,0,0⟩:e6),14)
 else
 (ix a0 0).bind λv1=>
 (ix a0 1).bind λv2=>
 (ix a0 2).bind λv3=>
 (ix a0 3).bind λv4=>
 (U2 (⟨v1,v2,v3,v4⟩:e6)).bind λv5=>
 if (v5 != 0) then
  some ((⟨0,0,0,0⟩:e6),v5)
 else
 some ((⟨v1,v2,v3,v4⟩:e6),0)
def ll(a0:e6):Option Ob:=
 if (a0.Kind==11) then
  some (⟨103,[]⟩:Ob)
 else
 if (a0.Kind==12) then
  some (⟨107,[a0.A]⟩:Ob)
 else
 some (⟨99,[a0.Kind,a0.A,a0.B,a0.C]⟩:Ob)
def eI:Option (List (Int × Fv)):=
 some (o5 (o5 (o5 (o5 (o5 (o5 (o5 (o5 (o5 (o5 [] 1 (some 97)) 2 (some 98)) 3 (some 99)) 4 (some 100)) 5 (some 101)) 6 (some 102)) 7 (some 103)) 8 (some 104)) 9 (some 105)) 10 (some 106))
def sH(a0:Int):Option ((List Int) × Int):=
 if ((decide (a0<0))||(decide (a0 > 4))) then
  some ([],1)
 else
 (mk 8 a0 (0:Int)).bind λv1=>
 some (v1,0)
def T9(a0:Int):Option Bool:=
 some ((decide (a0>=(-1)))&&(decide (a0<6)))
def P0(a0:c5):Option c5:=
 some a0
def y8(a0:List b7):Option (List b7):=
 app 80 [] a0
def D0(a0:c5)(a1:Int)(a2:b7):Option c5:=
 (y8 a0.a8).bind λv1=>
 (ix v1 a1).bind λv2=>
 some (⟨(v1.set (a1).toNat a2),a0.Last⟩:c5)
def E9(a0:c5)(a1:p7):Option (c5 × Int × Int):=
 jn (λ(_:Unit)=>
  some (a0,0,4)) (λκ9=>
  (P0 a0).bind λv11=>
  (lp (S:=Int) (E:=(c5 × Int × Int) ⊕ Unit) (λ(s13:Int)=>
   if (decide (s13<(v11.a8.length:Int))) then
    (ix v11.a8 s13).bind λv15=>
    if ((v15.State==0)==true) then
     (ix a0.a8 s13).bind λv16=>
     (D0 a0 s13 (⟨1,v16.Gen,a1⟩:b7)).bind λv17=>
     (cr s13 v16.Gen).bind λv18=>
     some (.inr (.inl (v17,v18,0)))
    else
    some (.inl (z6 (s13+1)))
   else
   some (.inr (.inr ()))) 0).bind λe12=>
  match e12 with
  | .inl w=>some w
  | .inr w=>κ9 w)
def O2(a0:a7)(a1:Int)(a2:Int):Option (a7 × Int × Int):=
 (sH a1).bind λv1=>
 if (v1.2 != 0) then
  some (a0,0,v1.2)
 else
 (T9 a2).bind λv2=>
 if (!v2) then
  some (a0,0,13)
 else
 (E9 a0.S (⟨z6 (a0.Serial+1),0,0,a2,false,v1.1⟩:p7)).bind λv3=>
 if (v3.2.2 != 0) then
  some (a0,0,v3.2.2)
 else
 some ((⟨v3.1,z6 (a0.Serial+1)⟩:a7),v3.2.1,0)
def iQ(a0:b6)(a1:Int):Option Bool:=
 (y4 a0.S a1).bind λv1=>
 some (v1.2==0)
def L6(a0:b6)(a1:Int):Option Bool:=
 (z8 ((a1==0)==false) false (iQ a0 a1)).bind λv1=>
 some ((a1==0)||v1)
def G2(a0:Int):Option Bool:=
 some (decide (a0>=12))
def gC(a0:Int):Option (Int × Int):=
 (G2 a0).bind λv1=>
 if v1 then
  some (12,0)
 else
 some (z6 ((if 0 > a0 then 0 else a0)+1),0)
def oy(a0:Int):Option Int:=
 (gC a0).bind λv1=>
 some v1.1
def K7(a0:c5)(a1:Int)(a2:p7):Option (c5 × Int):=
 (w7 a0 a1).bind λv1=>
 if (v1.2 != 0) then
  some (a0,v1.2)
 else
 (ix a0.a8 v1.1).bind λv2=>
 (D0 a0 v1.1 (⟨v2.State,v2.Gen,a2⟩:b7)).bind λv3=>
 some (v3,0)
def K8(a0:a7)(a1:Int)(a2:p7):Option (a7 × Int):=
 (K7 a0.S a1 a2).bind λv1=>
 some ((⟨v1.1,a0.Serial⟩:a7),v1.2)
def W3(a0:b6)(a1:Int):Option b6:=
 (y4 a0.S a1).bind λv1=>
 if (v1.2==0) then
  (oy v1.1.Strong).bind λv2=>
  (K8 a0.S a1 (⟨v1.1.Serial,v2,v1.1.Weak,v1.1.Prog,v1.1.Started,v1.1.Fields⟩:p7)).bind λv3=>
  some (⟨v3.1,a0.Roots,a0.a8,a0.T,a0.Q⟩:b6)
 else
 some a0
def aK(a0:b6)(a1:Int):Option b6:=
 (W3 a0 a1).bind λv1=>
 some v1
def N2(a0:List Int):Option (List Int):=
 app 8 [] a0
def Q6(a0:I1)(a1:b6):Option b6:=
 (N2 a1.Roots).bind λv1=>
 (ix v1 a0.r).bind λv2=>
 some (⟨a1.S,(v1.set (a0.r).toNat a0.h),a1.a8,a1.T,a1.Q⟩:b6)
def dV(a0:Int):Option (Int × Int):=
 (G2 a0).bind λv1=>
 if v1 then
  some (12,0)
 else
 if (decide (a0<1)) then
  some (0,11)
 else
 some (z6 (a0-1),0)
def sU(a0:Int):Option (Int × Int):=
 (dV a0).bind λv1=>
 some (v1.1,v1.2)
def dd(a0:Int):Option Int:=
 (sU a0).bind λv1=>
 if (v1.2 != 0) then
  some a0
 else
 some v1.1
def O0(a0:b6)(a1:Int):Option b6:=
 (y4 a0.S a1).bind λv1=>
 if (v1.2==0) then
  (dd v1.1.Strong).bind λv2=>
  (K8 a0.S a1 (⟨v1.1.Serial,v2,v1.1.Weak,v1.1.Prog,v1.1.Started,v1.1.Fields⟩:p7)).bind λv3=>
  some (⟨v3.1,a0.Roots,a0.a8,a0.T,a0.Q⟩:b6)
 else
 some a0
def C9(a0:b6)(a1:Int):Option b6:=
 (O0 a0 a1).bind λv1=>
 some v1
def F4(a0:b6)(a1:Int)(a2:Int)(a3:I1):Option b6:=
 (aK a0 a2).bind λv1=>
 (Q6 a3 v1).bind λv2=>
 (C9 v2 a1).bind λv3=>
 some v3
def ba(a0:b6)(a1:Int)(a2:Int):Option (b6 × Int):=
 if ((decide (a1<0))||(decide (a1>=(a0.Roots.length:Int)))) then
  some (a0,6)
 else
 (L6 a0 a2).bind λv1=>
 if (!v1) then
  some (a0,3)
 else
 (ix a0.Roots a1).bind λv2=>
 (F4 a0 v2 a2 (⟨a1,a2⟩:I1)).bind λv3=>
 some (v3,0)
def B7(a0:u7)(a1:Int)(a2:Int):Option (b6 × Int):=
 if (a2 != 0) then
  some (a0.x,a2)
 else
 (ba a0.x a0.o.A a1).bind λv1=>
 some (v1.1,v1.2)
def V2(a0:u7):Option (b6 × Int):=
 (O2 a0.x.S a0.o.B a0.o.C).bind λv1=>
 if (v1.2.2 != 0) then
  some (a0.x,v1.2.2)
 else
 (B7 (⟨⟨v1.1,a0.x.Roots,a0.x.a8,a0.x.T,a0.x.Q⟩,a0.o⟩:u7) v1.2.1 0).bind λv2=>
 some (v2.1,v2.2)
def I4(a0:u7):Option (b6 × Int):=
 (L9 a0.x a0.o.B).bind λv1=>
 (B7 a0 v1 0).bind λv2=>
 some (v2.1,v2.2)
def aA(a0:u7):Option (b6 × Int):=
 (B7 a0 0 0).bind λv1=>
 some (v1.1,v1.2)
def M8(a0:b6)(a1:Int):Option (Int × Int):=
 (L9 a0 a1).bind λv1=>
 if (v1==0) then
  some (0,2)
 else
 some (v1,0)
def mz(a0:List Int)(a1:Int):Option Bool:=
 some ((decide (a1>=0))&&(decide (a1<(a0.length:Int))))
def oe(a0:List Int)(a1:Int):Option (Int × Int):=
 (mz a0 a1).bind λv1=>
 if (!v1) then
  some (0,5)
 else
 (ix a0 a1).bind λv2=>
 some (v2,0)
def T8(a0:a7)(a1:Int)(a2:Int):Option (Int × Int):=
 (y4 a0 a1).bind λv1=>
 if (v1.2 != 0) then
  some (0,v1.2)
 else
 (oe v1.1.Fields a2).bind λv2=>
 some (v2.1,v2.2)
def aB(a0:u7):Option (b6 × Int):=
 (M8 a0.x a0.o.B).bind λv1=>
 if (v1.2 != 0) then
  some (a0.x,v1.2)
 else
 (T8 a0.x.S v1.1 a0.o.C).bind λv2=>
 (B7 a0 v2.1 v2.2).bind λv3=>
 some (v3.1,v3.2)
def xD(a0:List Int)(a1:Int)(a2:Int):Option ((List Int) × Int):=
 (mz a0 a1).bind λv1=>
 if (!v1) then
  some (a0,5)
 else
 (mk 8 (a0.length:Int) (0:Int)).bind λv2=>
 (uG v2 a0).bind λv3=>
 (ix v3 a1).bind λv4=>
 some ((v3.set (a1).toNat a2),0)
def oZ(a0:a7)(a1:Int)(a2:Int)(a3:Int):Option (a7 × Int):=
 (y4 a0 a1).bind λv1=>
 if (v1.2 != 0) then
  some (a0,v1.2)
 else
 (xD v1.1.Fields a2 a3).bind λv2=>
 if (v2.2 != 0) then
  some (a0,v2.2)
 else
 (K8 a0 a1 (⟨v1.1.Serial,v1.1.Strong,v1.1.Weak,v1.1.Prog,v1.1.Started,v2.1⟩:p7)).bind λv3=>
 some (v3.1,v3.2)
def bp(a0:G8)(a1:b6):Option b6:=
 (oZ a1.S a0.h a0.k a0.v).bind λv1=>
 some (⟨v1.1,a1.Roots,a1.a8,a1.T,a1.Q⟩:b6)
def I2(a0:b6)(a1:Int)(a2:Int)(a3:G8):Option b6:=
 (aK a0 a2).bind λv1=>
 (bp a3 v1).bind λv2=>
 (C9 v2 a1).bind λv3=>
 some v3
def aJ(a0:b6)(a1:Int)(a2:Int)(a3:Int):Option (b6 × Int):=
 (T8 a0.S a1 a2).bind λv1=>
 if (v1.2 != 0) then
  some (a0,v1.2)
 else
 (L6 a0 a3).bind λv2=>
 if (!v2) then
  some (a0,3)
 else
 (I2 a0 v1.1 a3 (⟨a1,a2,a3⟩:G8)).bind λv3=>
 some (v3,0)
def Y3(a0:u7):Option (b6 × Int):=
 (M8 a0.x a0.o.A).bind λv1=>
 if (v1.2 != 0) then
  some (a0.x,v1.2)
 else
 (L9 a0.x a0.o.C).bind λv2=>
 (aJ a0.x v1.1 a0.o.B v2).bind λv3=>
 some (v3.1,v3.2)
def vz(a0:k7)(a1:Int):Option (k7 × Int):=
 some (a0,a1)
def iq(a0:k7)(a1:Int):Option Bool:=
 jn (λ(_:Unit)=>
  some false) (λκ6=>
  (vz a0 2).bind λv8=>
  (lp (S:=Int) (E:=Bool ⊕ Unit) (λ(s10:Int)=>
   if (decide (s10<(v8.1.L.length:Int))) then
    (ix v8.1.L s10).bind λv12=>
    if ((v12.Kind==v8.2)==true) then
     if (v12.At==a1) then
      some (.inr (.inl true))
     else
     some (.inl (z6 (s10+1)))
    else
    some (.inl (z6 (s10+1)))
   else
   some (.inr (.inr ()))) 0).bind λe9=>
  match e9 with
  | .inl w=>some w
  | .inr w=>κ6 w)
def kJ(a0:List j5)(a1:Int):Option Bool:=
 some ((decide (a1>=0))&&(decide (a1<(a0.length:Int))))
def aU(a0:List j5):Option (List j5):=
 (mk 24 (a0.length:Int) (⟨0,false,0⟩:j5)).bind λv1=>
 (uG v1 a0).bind λv2=>
 some v2
def sJ(a0:List j5)(a1:Int)(a2:Int)(a3:Int):Option ((List j5) × Int × Int):=
 (kJ a0 a1).bind λv1=>
 if (!v1) then
  some (a0,0,7)
 else
 (aU a0).bind λv2=>
 (ix v2 a1).bind λv3=>
 (ix a0 a1).bind λv4=>
 some ((v2.set (a1).toNat (⟨a2,(a2 != 0),a3⟩:j5)),v4.Target,0)
def cy(a0:b6)(a1:Int)(a2:Int):Option b6:=
 (w7 a0.S.S a1).bind λv1=>
 if (v1.2==0) then
  (ix a0.S.S.a8 v1.1).bind λv2=>
  (K8 a0.S a1 (⟨v2.Val.Serial,v2.Val.Strong,z6 (v2.Val.Weak+a2),v2.Val.Prog,v2.Val.Started,v2.Val.Fields⟩:p7)).bind λv3=>
  some (⟨v3.1,a0.Roots,a0.a8,a0.T,a0.Q⟩:b6)
 else
 some a0
def O9(a0:c5)(a1:Int):Option (c5 × Int):=
 (w7 a0 a1).bind λv1=>
 if (v1.2 != 0) then
  some (a0,v1.2)
 else
 (ix a0.a8 v1.1).bind λv2=>
 if (v2.Gen==a0.Last) then
  (D0 a0 v1.1 (⟨3,v2.Gen,⟨0,0,0,0,false,[]⟩⟩:b7)).bind λv3=>
  some (v3,0)
 else
 (D0 a0 v1.1 (⟨0,z6 (v2.Gen+1),⟨0,0,0,0,false,[]⟩⟩:b7)).bind λv4=>
 some (v4,0)
def eF(a0:b6)(a1:Int):Option b6:=
 (cy a0 a1 (-1)).bind λv1=>
 (w7 v1.S.S a1).bind λv2=>
 if (v2.2 != 0) then
  some v1
 else
 (ix v1.S.S.a8 v2.1).bind λv3=>
 if ((v3.State==2)&&(v3.Val.Weak==0)) then
  (O9 v1.S.S a1).bind λv4=>
  some (⟨⟨v4.1,v1.S.Serial⟩,v1.Roots,v1.a8,v1.T,v1.Q⟩:b6)
 else
 some v1
def W2(a0:b6)(a1:Int)(a2:Int)(a3:Int):Option (b6 × Int):=
 (z8 (((decide (a1<0))||(decide (a1>=(a0.a8.length:Int))))==false) false (iq a0.Q a1)).bind λv1=>
 if (((decide (a1<0))||(decide (a1>=(a0.a8.length:Int))))||v1) then
  some (a0,7)
 else
 (L6 a0 a2).bind λv2=>
 if (!v2) then
  some (a0,3)
 else
 (sJ a0.a8 a1 a2 a3).bind λv3=>
 (cy (⟨a0.S,a0.Roots,v3.1,a0.T,a0.Q⟩:b6) a2 1).bind λv4=>
 (eF v4 v3.2.1).bind λv5=>
 some (v5,0)
def V3(a0:u7):Option (b6 × Int):=
 if (a0.o.B==(-1)) then
  (W2 a0.x a0.o.A 0 a0.o.C).bind λv1=>
  some (v1.1,v1.2)
 else
 (M8 a0.x a0.o.B).bind λv2=>
 if (v2.2 != 0) then
  some (a0.x,v2.2)
 else
 (W2 a0.x a0.o.A v2.1 a0.o.C).bind λv3=>
 some (v3.1,v3.2)
def kI(a0:List j5)(a1:Int):Option (Int × Int):=
 (kJ a0 a1).bind λv1=>
 if (!v1) then
  some (0,7)
 else
 (ix a0 a1).bind λv2=>
 if ((v2.Target==0)||(!v2.Intact)) then
  some (0,9)
 else
 some (v2.Target,0)
def Z3(a0:u7):Option (b6 × Int):=
 (kI a0.x.a8 a0.o.B).bind λv1=>
 (B7 a0 v1.1 v1.2).bind λv2=>
 some (v2.1,v2.2)
def gm(a0:Int)(a1:Int):Option (Int × Int):=
 some (a0,a1)
def aZ(a0:Int)(a1:Int):Option Int:=
 if (decide (a0<1)) then
  some 0
 else
 (rem (z6 ((z6 (5*a1))+1)) a0).bind λv1=>
 if (decide (v1<0)) then
  some (z6 (v1+a0))
 else
 some v1
def aa(a0:List b8)(a1:Int):Option Int:=
 jn (λ(_:Unit)=>
  some (-1)) (λκ8=>
  (gm (a0.length:Int) a1).bind λv10=>
  (lp (S:=Int) (E:=Int ⊕ Unit) (λ(s12:Int)=>
   if (decide (s12<v10.1)) then
    (aZ v10.1 v10.2).bind λv14=>
    (rem (z6 (v14+s12)) v10.1).bind λv15=>
    (ix a0 v15).bind λv16=>
    if (v16.State==0) then
     some (.inr (.inr ()))
    else
    if ((v16.State==1)&&(v16.Key==a1)) then
     some (.inr (.inl v15))
    else
    some (.inl (z6 (s12+1)))
   else
   some (.inr (.inr ()))) 0).bind λe11=>
  match e11 with
  | .inl w=>some w
  | .inr w=>κ8 w)
def M6(a0:List b8)(a1:Int):Option (Int × Int):=
 (aa a0 a1).bind λv1=>
 if (decide (v1<0)) then
  some (0,9)
 else
 (ix a0 v1).bind λv2=>
 some (v2.Val,0)
def E2(a0:List b8):Option (List b8):=
 app 24 [] a0
def cu(a0:List b8)(a1:Int)(a2:b8):Option (List b8):=
 (E2 a0).bind λv1=>
 (ix v1 a1).bind λv2=>
 some (v1.set (a1).toNat a2)
def Z9(a0:List b8)(a1:Int):Option ((List b8) × Int × Int):=
 (aa a0 a1).bind λv1=>
 if (decide (v1<0)) then
  some (a0,0,9)
 else
 (cu a0 v1 (⟨2,0,0⟩:b8)).bind λv2=>
 (ix a0 v1).bind λv3=>
 some (v2,v3.Val,0)
def gL(a0:List b8)(a1:Int)(a2:Int):Option ((List b8) × Int):=
 (aa a0 a1).bind λv1=>
 if (decide (v1>=0)) then
  (cu a0 v1 (⟨1,a1,a2⟩:b8)).bind λv2=>
  some (v2,0)
 else
 jn (λ(_:Unit)=>
  some (a0,8)) (λκ11=>
  (gm (a0.length:Int) a1).bind λv13=>
  (lp (S:=Int) (E:=((List b8) × Int) ⊕ Unit) (λ(s15:Int)=>
   if (decide (s15<v13.1)) then
    (aZ v13.1 v13.2).bind λv17=>
    (rem (z6 (v17+s15)) v13.1).bind λv18=>
    (ix a0 v18).bind λv19=>
    if (v19.State != 1) then
     (cu a0 v18 (⟨1,a1,a2⟩:b8)).bind λv20=>
     some (.inr (.inl (v20,0)))
    else
    some (.inl (z6 (s15+1)))
   else
   some (.inr (.inr ()))) 0).bind λe14=>
  match e14 with
  | .inl w=>some w
  | .inr w=>κ11 w)
def P9(a0:List b8)(a1:Int)(a2:Int):Option ((List b8) × Int × Int):=
 if (a1==0) then
  some (a0,0,2)
 else
 (M6 a0 a1).bind λv1=>
 if (a2==0) then
  (Z9 a0 a1).bind λv2=>
  some (v2.1,v1.1,0)
 else
 (gL a0 a1 a2).bind λv3=>
 if (v3.2 != 0) then
  some (a0,0,v3.2)
 else
 some (v3.1,v1.1,0)
def Y1(a0:I0)(a1:b6):Option b6:=
 some (⟨a1.S,a1.Roots,a1.a8,a0.t,a1.Q⟩:b6)
def J4(a0:b6)(a1:Int)(a2:Int)(a3:I0):Option b6:=
 (aK a0 a2).bind λv1=>
 (Y1 a3 v1).bind λv2=>
 (C9 v2 a1).bind λv3=>
 some v3
def cv(a0:b6)(a1:Int)(a2:Int):Option (b6 × Int):=
 if (a1==0) then
  some (a0,2)
 else
 (L6 a0 a1).bind λv1=>
 (z8 ((!v1)==false) false (L6 a0 a2)).bind λv2=>
 if ((!v1)||(!v2)) then
  some (a0,3)
 else
 (P9 a0.T a1 a2).bind λv3=>
 if (v3.2.2 != 0) then
  some (a0,v3.2.2)
 else
 (J4 a0 v3.2.1 a2 (⟨v3.1⟩:I0)).bind λv4=>
 some (v4,0)
def aC(a0:u7):Option (b6 × Int):=
 (M8 a0.x a0.o.A).bind λv1=>
 if (v1.2 != 0) then
  some (a0.x,v1.2)
 else
 (L9 a0.x a0.o.B).bind λv2=>
 (cv a0.x v1.1 v2).bind λv3=>
 some (v3.1,v3.2)
def sW(a0:List b8)(a1:Int):Option (Int × Int):=
 (M6 a0 a1).bind λv1=>
 some (v1.1,v1.2)
def bc(a0:u7):Option (b6 × Int):=
 (M8 a0.x a0.o.B).bind λv1=>
 if (v1.2 != 0) then
  some (a0.x,v1.2)
 else
 (sW a0.x.T v1.1).bind λv2=>
 (B7 a0 v2.1 v2.2).bind λv3=>
 some (v3.1,v3.2)
def Q7(a0:u7):Option (b6 × Int):=
 some (a0.x,0)
def ve(f:Fv)(a0:u7):Option (b6 × Int):=
 if f=some 97 then V2 a0 else
 if f=some 98 then I4 a0 else
 if f=some 99 then aA a0 else
 if f=some 100 then aB a0 else
 if f=some 101 then Y3 a0 else
 if f=some 102 then V3 a0 else
 if f=some 103 then Z3 a0 else
 if f=some 104 then aC a0 else
 if f=some 105 then bc a0 else
 if f=some 106 then Q7 a0 else
 none
def cI(a0:b6):Option (List Int):=
 jn (λ(j16:List Int)=>
  some j16) (λκ15=>
  (E3 a0.S).bind λv17=>
  (lp (S:=Int × (List Int)) (E:=(List Int)) (λ((s19,s20):Int × (List Int))=>
   if (decide (s19<(v17.length:Int))) then
    jn (λ(j27:List Int)=>
     some (.inl (z6 (s19+1),j27))) (λκ26=>
     (ix v17 s19).bind λv28=>
     (y4 a0.S v28).bind λv29=>
     if (v29.1.Strong==0) then
      (app 8 s20 [v28]).bind λv30=>
      κ26 v30
     else
     κ26 s20)
   else
   some (.inr s20)) (0,[])).bind λe18=>
  κ15 e18)
def M9(a0:p7):Option Bool:=
 some ((decide (a0.Prog>=0))&&(!a0.Started))
def J0(a0:k7):Option Int:=
 some (a0.L.length:Int)
def F8(a0:List n0)(a1:Int)(a2:Int):Option (List n0):=
 (cut a0 a1 a2).bind λv1=>
 some v1
def T4(a0:k7)(a1:n0):Option (k7 × Int):=
 (J0 a0).bind λv1=>
 if (decide (v1>=a0.Cap)) then
  some (a0,4)
 else
 (F8 a0.L 0 v1).bind λv2=>
 (app 24 v2 [a1]).bind λv3=>
 some ((⟨v3,a0.Cap⟩:k7),0)
def oc(a0:k7)(a1:n0):Option (k7 × Int):=
 (T4 a0 a1).bind λv1=>
 some (v1.1,v1.2)
def U8(a0:b6)(a1:Int):Option b6:=
 (y4 a0.S a1).bind λv1=>
 (z8 ((v1.2 != 0)==false) false (M9 v1.1)).bind λv2=>
 if ((v1.2 != 0)||(!v2)) then
  some a0
 else
 (K8 a0.S a1 (⟨v1.1.Serial,v1.1.Strong,v1.1.Weak,v1.1.Prog,true,v1.1.Fields⟩:p7)).bind λv3=>
 (oc a0.Q (⟨1,a1,v1.1.Prog⟩:n0)).bind λv4=>
 (aK (⟨v3.1,a0.Roots,a0.a8,a0.T,v4.1⟩:b6) a1).bind λv5=>
 some v5
def X0(a0:b6)(a1:List Int):Option (List Int):=
 jn (λ(j18:List Int)=>
  some j18) (λκ17=>
  (lp (S:=Int × (List (Int × Bool)) × (List Int)) (E:=(List Int)) (λ((s20,s21,s22):Int × (List (Int × Bool)) × (List Int))=>
   if (decide (s20<(a1.length:Int))) then
    jn (λ((j29,j30):(List Int) × (List (Int × Bool)))=>
     some (.inl (z6 (s20+1),j30,j29))) (λκ28=>
     (ix a1 s20).bind λv32=>
     (y4 a0.S v32).bind λv33=>
     if ((v33.2==0)==true) then
      if (!((z7 s21 v32).getD (false:Bool))) then
       (app 8 s22 [v32]).bind λv34=>
       κ28 (v34,(o5 s21 v32 true))
      else
      κ28 (s22,s21)
     else
     κ28 (s22,s21))
   else
   some (.inr s22)) (0,[],[])).bind λe19=>
  κ17 e19)
def T7(a0:List Int)(a1:Int):Option Int:=
 jn (λ(_:Unit)=>
  some (-1)) (λκ5=>
  (lp (S:=Int) (E:=Int ⊕ Unit) (λ(s8:Int)=>
   if (decide (s8<(a0.length:Int))) then
    (ix a0 s8).bind λv10=>
    if (a1==v10) then
     some (.inr (.inl s8))
    else
    some (.inl (z6 (s8+1)))
   else
   some (.inr (.inr ()))) 0).bind λe7=>
  match e7 with
  | .inl w=>some w
  | .inr w=>κ5 w)
def F3(a0:List Int)(a1:Int):Option Bool:=
 (T7 a0 a1).bind λv1=>
 some (decide (v1>=0))
def bl(a0:j5)(a1:List Int):Option Bool:=
 (z8 ((a0.Intact&&(a0.Target != 0))==true) false (F3 a1 a0.Target)).bind λv1=>
 some ((a0.Intact&&(a0.Target != 0))&&v1)
def J8(a0:List j5)(a1:List Int):Option (List Int):=
 jn (λ(j15:List Int)=>
  some j15) (λκ14=>
  (lp (S:=Int × (List Int)) (E:=(List Int)) (λ((s17,s18):Int × (List Int))=>
   if (decide (s17<(a0.length:Int))) then
    jn (λ(j25:List Int)=>
     some (.inl (z6 (s17+1),j25))) (λκ24=>
     (ix a0 s17).bind λv26=>
     (bl v26 a1).bind λv27=>
     if v27 then
      (app 8 s18 [s17]).bind λv28=>
      κ24 v28
     else
     κ24 s18)
   else
   some (.inr s18)) (0,[])).bind λe16=>
  κ14 e16)
def iu(a0:List j5)(a1:List Int):Option ((List j5) × (List Int)):=
 (J8 a0 a1).bind λv1=>
 (aU a0).bind λv2=>
 jn (λ((j22,j23):(List Int) × (List j5))=>
  some (j23,j22)) (λκ21=>
  (lp (S:=Int × (List j5) × (List Int)) (E:=((List Int) × (List j5))) (λ((s26,s27,s28):Int × (List j5) × (List Int))=>
   if (decide (s26<(v1.length:Int))) then
    jn (λ((j36,j37):(List Int) × (List j5))=>
     some (.inl (z6 (s26+1),j37,j36))) (λκ35=>
     (ix v1 s26).bind λv39=>
     (ix s27 v39).bind λv40=>
     (ix (s27.set (v39).toNat (⟨v40.Target,false,v40.Call⟩:j5)) v39).bind λv41=>
     if (decide (v41.Call>=0)) then
      (app 8 s28 [v39]).bind λv42=>
      κ35 (v42,(s27.set (v39).toNat (⟨v40.Target,false,v40.Call⟩:j5)))
     else
     κ35 (s28,(s27.set (v39).toNat (⟨v40.Target,false,v40.Call⟩:j5))))
   else
   some (.inr (s28,s27))) (0,v2,[])).bind λe25=>
  κ21 e25)
def dz(a0:b6)(a1:List Int):Option b6:=
 (iu a0.a8 a1).bind λv1=>
 jn (λ(j11:k7)=>
  some (⟨a0.S,a0.Roots,v1.1,a0.T,j11⟩:b6)) (λκ10=>
  (lp (S:=Int × k7) (E:=k7) (λ((s13,s14):Int × k7)=>
   if (decide (s13<(v1.2.length:Int))) then
    (ix v1.2 s13).bind λv17=>
    (ix v1.1 v17).bind λv18=>
    (oc s14 (⟨2,v17,v18.Call⟩:n0)).bind λv19=>
    some (.inl (z6 (s13+1),v19.1))
   else
   some (.inr s14)) (0,a0.Q)).bind λe12=>
  κ10 e12)
def pd(a0:List Int):Option (List Int):=
 some a0
def gx(a0:List Int):Option (List Int):=
 jn (λ(j10:List Int)=>
  some j10) (λκ9=>
  (pd a0).bind λv11=>
  (lp (S:=Int × (List Int)) (E:=(List Int)) (λ((s13,s14):Int × (List Int))=>
   if (decide (s13<(v11.length:Int))) then
    (ix v11 s13).bind λv17=>
    if ((v17 != 0)==true) then
     (app 8 s14 [v17]).bind λv18=>
     some (.inl (z6 (s13+1),v18))
    else
    some (.inl (z6 (s13+1),s14))
   else
   some (.inr s14)) (0,[])).bind λe12=>
  κ9 e12)
def Z8(a0:List b8)(a1:List Int):Option ((List b8) × (List Int)):=
 jn (λ((j18,j19):(List b8) × (List Int))=>
  some (j18,j19)) (λκ17=>
  (lp (S:=(List b8) × Int × (List Int)) (E:=((List b8) × (List Int))) (λ((s22,s23,s24):(List b8) × Int × (List Int))=>
   if (decide (s23<(a1.length:Int))) then
    jn (λ((j31,j32):(List b8) × (List Int))=>
     some (.inl (j31,z6 (s23+1),j32))) (λκ30=>
     (ix a1 s23).bind λv34=>
     (Z9 s22 v34).bind λv35=>
     if (v35.2.2==0) then
      (app 8 s24 [v35.2.1]).bind λv36=>
      κ30 (v35.1,v36)
     else
     κ30 (s22,s24))
   else
   some (.inr (s22,s24))) (a0,0,[])).bind λe21=>
  κ17 e21)
def V4(a0:c5)(a1:Int):Option (c5 × Int):=
 (C5 a0 a1).bind λv1=>
 if (v1.2 != 0) then
  some (a0,v1.2)
 else
 (eX a1).bind λv2=>
 (gJ a1).bind λv3=>
 (D0 a0 v2 (⟨2,v3,v1.1⟩:b7)).bind λv4=>
 some (v4,0)
def af(a0:b6)(a1:Int):Option b6:=
 (y4 a0.S a1).bind λv1=>
 (K8 a0.S a1 (⟨v1.1.Serial,0,v1.1.Weak,v1.1.Prog,v1.1.Started,[]⟩:p7)).bind λv2=>
 (V4 v2.1.S a1).bind λv3=>
 if (v1.1.Weak==0) then
  (O9 v3.1 a1).bind λv4=>
  some (⟨⟨v4.1,v2.1.Serial⟩,a0.Roots,a0.a8,a0.T,a0.Q⟩:b6)
 else
 some (⟨⟨v3.1,v2.1.Serial⟩,a0.Roots,a0.a8,a0.T,a0.Q⟩:b6)
def aP(a0:b6)(a1:List Int):Option b6:=
 (X0 a0 a1).bind λv1=>
 (dz a0 v1).bind λv2=>
 jn (λ(j13:List Int)=>
  (Z8 v2.T v1).bind λv14=>
  (app 8 j13 v14.2).bind λv15=>
  jn (λ(j24:b6)=>
   jn (λ(j33:b6)=>
    some j33) (λκ32=>
    (lp (S:=Int × b6) (E:=b6) (λ((s35,s36):Int × b6)=>
     if (decide (s35<(v15.length:Int))) then
      (ix v15 s35).bind λv39=>
      (C9 s36 v39).bind λv40=>
      some (.inl (z6 (s35+1),v40))
     else
     some (.inr s36)) (0,j24)).bind λe34=>
    κ32 e34)) (λκ23=>
   (lp (S:=Int × b6) (E:=b6) (λ((s42,s43):Int × b6)=>
    if (decide (s42<(v1.length:Int))) then
     (ix v1 s42).bind λv46=>
     (af s43 v46).bind λv47=>
     some (.inl (z6 (s42+1),v47))
    else
    some (.inr s43)) (0,(⟨v2.S,v2.Roots,v2.a8,v14.1,v2.Q⟩:b6))).bind λe41=>
   κ23 e41)) (λκ12=>
  (lp (S:=Int × (List Int)) (E:=(List Int)) (λ((s49,s50):Int × (List Int))=>
   if (decide (s49<(v1.length:Int))) then
    (ix v1 s49).bind λv53=>
    (y4 v2.S v53).bind λv54=>
    (gx v54.1.Fields).bind λv55=>
    (app 8 s50 v55).bind λv56=>
    some (.inl (z6 (s49+1),v56))
   else
   some (.inr s50)) (0,[])).bind λe48=>
  κ12 e48)
def P8(a0:b6):Option b6:=
 (lp (S:=b6) (E:=b6) (λ(s2:b6)=>
  (cI s2).bind λv4=>
  if ((v4.length:Int)==0) then
   some (.inr s2)
  else
  (ix v4 0).bind λv5=>
  (y4 s2.S v5).bind λv6=>
  (M9 v6.1).bind λv7=>
  if v7 then
   (U8 s2 v5).bind λv8=>
   some (.inl v8)
  else
  (cut v4 0 1).bind λv9=>
  (aP s2 v9).bind λv10=>
  some (.inl v10)) a0).bind λe1=>
 some e1
def W6(a0:b6)(a1:b6)(a2:e6):Option Int:=
 if (a2.Kind==5) then
  (aL a0 a2.C).bind λv1=>
  some v1
 else
 jn (λ(j3:Bool)=>
  if j3 then
   (aL a0 a2.B).bind λv4=>
   some v4
  else
  if (a2.Kind==10) then
   (L9 a0 a2.A).bind λv5=>
   (L9 a0 a2.B).bind λv6=>
   if (v5==v6) then
    some 1
   else
   some 0
  else
  (aL a1 a2.A).bind λv7=>
  some v7) (λκ2=>
  if (a2.Kind==6) then
   κ2 (a2.Kind==6)
  else
  κ2 (a2.Kind==8))
def y2(a0:b6)(a1:e6):Option (b6 × Int × Int):=
 (U2 a1).bind λv1=>
 if (v1 != 0) then
  some (a0,0,v1)
 else
 (eI).bind λv2=>
 if (!((z7 v2 a1.Kind).isSome)) then
  some (a0,0,14)
 else
 (ve ((z7 v2 a1.Kind).getD (none:Fv)) (⟨a0,a1⟩:u7)).bind λv3=>
 if (v3.2 != 0) then
  some (a0,0,v3.2)
 else
 (P8 v3.1).bind λv5=>
 (W6 v3.1 v5 a1).bind λv6=>
 some (v5,v6,0)
def lX(a0:a7):Option a7:=
 some a0
def ki(a0:a7)(a1:Int):Option (List Int):=
 (y4 a0 a1).bind λv1=>
 (gx v1.1.Fields).bind λv2=>
 some v2
def vx(a0:a7)(a1:Int):Option Int:=
 jn (λ(j31:Int)=>
  some j31) (λκ30=>
  (lX a0).bind λv32=>
  (E3 v32).bind λv33=>
  (lp (S:=Int × Int) (E:=Int) (λ((s35,s36):Int × Int)=>
   if (decide (s35<(v33.length:Int))) then
    jn (λ(j50:Int)=>
     some (.inl (z6 (s35+1),j50))) (λκ49=>
     (ix v33 s35).bind λv51=>
     (ki v32 v51).bind λv52=>
     (lp (S:=Int × Int) (E:=Int) (λ((s54,s55):Int × Int)=>
      if (decide (s54<(v52.length:Int))) then
       (ix v52 s54).bind λv58=>
       jn (λ(j60:Int)=>
        some (.inl (z6 (s54+1),j60))) (λκ59=>
        if (v58==a1) then
         κ59 (z6 (s55+1))
        else
        κ59 s55)
      else
      some (.inr s55)) (0,s36)).bind λe53=>
     κ49 e53)
   else
   some (.inr s36)) (0,0)).bind λe34=>
  κ30 e34)
def cp(a0:List b8):Option (List b8):=
 some a0
def jM(a0:List b8):Option (List Int):=
 jn (λ(j13:List Int)=>
  some j13) (λκ12=>
  (lp (S:=Int × (List Int)) (E:=(List Int)) (λ((s15,s16):Int × (List Int))=>
   if (decide (s15<(a0.length:Int))) then
    jn (λ(j22:List Int)=>
     some (.inl (z6 (s15+1),j22))) (λκ21=>
     (ix a0 s15).bind λv23=>
     if (v23.State==1) then
      (app 8 s16 [v23.Key]).bind λv24=>
      κ21 v24
     else
     κ21 s16)
   else
   some (.inr s16)) (0,[])).bind λe14=>
  κ12 e14)
def eC(a0:r9)(a1:Int):Option Bool:=
 some ((a1 != 0)&&(a0.Val==a1))
def B3(a0:List b8)(a1:Int):Option (List r9):=
 jn (λ(j16:List r9)=>
  some j16) (λκ15=>
  (jM a0).bind λv17=>
  (lp (S:=Int × (List r9)) (E:=(List r9)) (λ((s19,s20):Int × (List r9))=>
   if (decide (s19<(v17.length:Int))) then
    (ix v17 s19).bind λv23=>
    (M6 a0 v23).bind λv24=>
    jn (λ(j28:List r9)=>
     some (.inl (z6 (s19+1),j28))) (λκ27=>
     (eC (⟨v23,v24.1⟩:r9) a1).bind λv29=>
     if v29 then
      (app 16 s20 [(⟨v23,v24.1⟩:r9)]).bind λv30=>
      κ27 v30
     else
     κ27 s20)
   else
   some (.inr s20)) (0,[])).bind λe18=>
  κ15 e18)
def iM(a0:List b8)(a1:Int):Option Int:=
 (cp a0).bind λv1=>
 (B3 v1 a1).bind λv2=>
 some (v2.length:Int)
def je(a0:a7)(a1:List b8)(a2:Int):Option Int:=
 (vx a0 a2).bind λv1=>
 (iM a1 a2).bind λv2=>
 some (z6 (v1+v2))
def mr(a0:a7)(a1:List b8)(a2:Int):Option Int:=
 (y4 a0 a2).bind λv1=>
 if (v1.2 != 0) then
  some 0
 else
 (je a0 a1 a2).bind λv2=>
 some (z6 (v1.1.Strong-v2))
def ni(a0:Int):Option Bool:=
 (G2 a0).bind λv1=>
 some v1
def mq(a0:Int)(a1:p7)(a2:a7)(a3:List b8):Option Bool:=
 (mr a2 a3 a0).bind λv1=>
 (z8 ((decide (v1 > 0))==false) false (ni a1.Strong)).bind λv2=>
 some ((decide (v1 > 0))||v2)
def mo(a0:a7)(a1:List b8):Option (List Int):=
 jn (λ(j36:List Int)=>
  some j36) (λκ35=>
  jn (λ(j54:List Int)=>
   κ35 j54) (λκ53=>
   (E3 a0).bind λv55=>
   (lp (S:=Int × (List Int)) (E:=(List Int)) (λ((s57,s58):Int × (List Int))=>
    if (decide (s57<(v55.length:Int))) then
     jn (λ(j66:List Int)=>
      some (.inl (z6 (s57+1),j66))) (λκ65=>
      (ix v55 s57).bind λv67=>
      (y4 a0 v67).bind λv68=>
      (mq v67 v68.1 a0 a1).bind λv69=>
      if v69 then
       (app 8 s58 [v67]).bind λv70=>
       κ65 v70
      else
      κ65 s58)
    else
    some (.inr s58)) (0,[])).bind λe56=>
   κ53 e56))
def eM(a0:Int):Option l7:=
 some (⟨[],a0⟩:l7)
def bg(a0:a7)(a1:Int):Option Bool:=
 (y4 a0 a1).bind λv1=>
 some (v1.2==0)
def M0(a0:l7):Option Int:=
 some (a0.L.length:Int)
def Q9(a0:List Int)(a1:Int)(a2:Int):Option (List Int):=
 (cut a0 a1 a2).bind λv1=>
 some v1
def Q8(a0:l7)(a1:Int):Option (l7 × Int):=
 (M0 a0).bind λv1=>
 if (decide (v1>=a0.Cap)) then
  some (a0,4)
 else
 (Q9 a0.L 0 v1).bind λv2=>
 (app 8 v2 [a1]).bind λv3=>
 some ((⟨v3,a0.Cap⟩:l7),0)
def fG(a0:l7)(a1:Int):Option (l7 × (List Int)):=
 (M0 a0).bind λv1=>
 (Q9 a0.L 0 (if (if v1<a1 then v1 else a1) > 0 then (if v1<a1 then v1 else a1) else 0)).bind λv2=>
 (Q9 a0.L (if (if v1<a1 then v1 else a1) > 0 then (if v1<a1 then v1 else a1) else 0) v1).bind λv3=>
 some ((⟨v3,a0.Cap⟩:l7),v2)
def bE(a0:l7):Option (l7 × Int × Int):=
 (fG a0 1).bind λv1=>
 if ((v1.2.length:Int)==0) then
  some (a0,0,10)
 else
 (ix v1.2 0).bind λv2=>
 some (v1.1,v2,0)
def dw(a0:a7)(a1:List Int):Option (List (Int × Bool)):=
 (E3 a0).bind λv1=>
 (eM (v1.length:Int)).bind λv2=>
 jn (λ((j20,j21):l7 × (List (Int × Bool)))=>
  jn (λ(j68:List (Int × Bool))=>
   some j68) (λκ67=>
   (lp (S:=l7 × (List (Int × Bool))) (E:=(List (Int × Bool))) (λ((s70,s71):l7 × (List (Int × Bool)))=>
    (M0 s70).bind λv74=>
    if (decide (v74 > 0)) then
     (bE s70).bind λv75=>
     (ki a0 v75.2.1).bind λv76=>
     jn (λ((j94,j95):l7 × (List (Int × Bool)))=>
      some (.inl (j94,j95))) (λκ93=>
      (lp (S:=Int × l7 × (List (Int × Bool))) (E:=(l7 × (List (Int × Bool)))) (λ((s98,s99,s100):Int × l7 × (List (Int × Bool)))=>
       if (decide (s98<(v76.length:Int))) then
        jn (λ((j107,j108):l7 × (List (Int × Bool)))=>
         some (.inl (z6 (s98+1),j107,j108))) (λκ106=>
         (ix v76 s98).bind λv110=>
         (bg a0 v110).bind λv111=>
         if (v111==true) then
          if (!((z7 s100 v110).getD (false:Bool))) then
           (Q8 s99 v110).bind λv112=>
           κ106 (v112.1,(o5 s100 v110 true))
          else
          κ106 (s99,s100)
         else
         κ106 (s99,s100))
       else
       some (.inr (s99,s100))) (0,v75.1,s71)).bind λe97=>
      κ93 e97)
    else
    some (.inr s71)) (j20,j21)).bind λe69=>
   κ67 e69)) (λκ19=>
  (lp (S:=Int × l7 × (List (Int × Bool))) (E:=(l7 × (List (Int × Bool)))) (λ((s114,s115,s116):Int × l7 × (List (Int × Bool)))=>
   if (decide (s114<(a1.length:Int))) then
    jn (λ((j123,j124):l7 × (List (Int × Bool)))=>
     some (.inl (z6 (s114+1),j123,j124))) (λκ122=>
     (ix a1 s114).bind λv126=>
     (bg a0 v126).bind λv127=>
     if (v127==true) then
      if (!((z7 s116 v126).getD (false:Bool))) then
       (Q8 s115 v126).bind λv128=>
       κ122 (v128.1,(o5 s116 v126 true))
      else
      κ122 (s115,s116)
     else
     κ122 (s115,s116))
   else
   some (.inr (s115,s116))) (0,v2,[])).bind λe113=>
  κ19 e113)
def fZ(a0:Int)(a1:List (Int × Bool)):Option Bool:=
 some ((z7 a1 a0).getD (false:Bool))
def U6(a0:a7)(a1:List (Int × Bool)):Option (List Int):=
 jn (λ(j16:List Int)=>
  some j16) (λκ15=>
  (E3 a0).bind λv17=>
  (lp (S:=Int × (List Int)) (E:=(List Int)) (λ((s19,s20):Int × (List Int))=>
   if (decide (s19<(v17.length:Int))) then
    jn (λ(j27:List Int)=>
     some (.inl (z6 (s19+1),j27))) (λκ26=>
     (ix v17 s19).bind λv28=>
     (fZ v28 a1).bind λv29=>
     if v29 then
      (app 8 s20 [v28]).bind λv30=>
      κ26 v30
     else
     κ26 s20)
   else
   some (.inr s20)) (0,[])).bind λe18=>
  κ15 e18)
def gY(a0:a7)(a1:List Int):Option (List Int):=
 (dw a0 a1).bind λv1=>
 (U6 a0 v1).bind λv2=>
 some v2
def eD(a0:r9):Option Bool:=
 some true
def B4(a0:List b8):Option (List r9):=
 jn (λ(j16:List r9)=>
  some j16) (λκ15=>
  (jM a0).bind λv17=>
  (lp (S:=Int × (List r9)) (E:=(List r9)) (λ((s19,s20):Int × (List r9))=>
   if (decide (s19<(v17.length:Int))) then
    (ix v17 s19).bind λv23=>
    (M6 a0 v23).bind λv24=>
    jn (λ(j28:List r9)=>
     some (.inl (z6 (s19+1),j28))) (λκ27=>
     (eD (⟨v23,v24.1⟩:r9)).bind λv29=>
     if v29 then
      (app 16 s20 [(⟨v23,v24.1⟩:r9)]).bind λv30=>
      κ27 v30
     else
     κ27 s20)
   else
   some (.inr s20)) (0,[])).bind λe18=>
  κ15 e18)
def iN(a0:List b8):Option (List r9):=
 (cp a0).bind λv1=>
 (B4 v1).bind λv2=>
 some v2
def gF(a0:Int)(a1:a7):Option Bool:=
 (y4 a1 a0).bind λv1=>
 some (v1.2==0)
def ra(a0:a7)(a1:List b8)(a2:List Int):Option (List Int):=
 jn (λ(j20:List Int)=>
  some j20) (λκ19=>
  (iN a1).bind λv21=>
  (lp (S:=Int × (List Int)) (E:=(List Int)) (λ((s23,s24):Int × (List Int))=>
   if (decide (s23<(v21.length:Int))) then
    jn (λ(j33:List Int)=>
     some (.inl (z6 (s23+1),j33))) (λκ32=>
     (ix v21 s23).bind λv34=>
     (F3 a2 v34.Key).bind λv35=>
     (z8 (v35==true) false (gF v34.Key a0)).bind λv36=>
     (z8 ((v35&&v36)==true) false (gF v34.Val a0)).bind λv37=>
     if ((v35&&v36)&&v37) then
      (app 8 s24 [v34.Val]).bind λv38=>
      κ32 v38
     else
     κ32 s24)
   else
   some (.inr s24)) (0,[])).bind λe22=>
  κ19 e22)
def oD(a0:a7)(a1:List b8)(a2:List Int):Option ((List Int) × Int):=
 (gY a0 a2).bind λv1=>
 (lp (S:=(List Int) × Int) (E:=((List Int) × Int)) (λ((s3,s4):(List Int) × Int)=>
  (ra a0 a1 s3).bind λv7=>
  jn (λ(_:Unit)=>
   some (.inr (s3,s4))) (λκ15=>
   (lp (S:=Int) (E:=((List Int) × Int) ⊕ Unit) (λ(s18:Int)=>
    if (decide (s18<(v7.length:Int))) then
     (ix v7 s18).bind λv20=>
     (F3 s3 v20).bind λv21=>
     if (!v21) then
      (app 8 v7 s3).bind λv22=>
      (gY a0 v22).bind λv23=>
      some (.inr (.inl (v23,z6 (s4+1))))
     else
     some (.inl (z6 (s18+1)))
    else
    some (.inr (.inr ()))) 0).bind λe17=>
   match e17 with
   | .inl w=>some (.inl w)
   | .inr w=>κ15 w)) (v1,0)).bind λe2=>
 some e2
def qZ(a0:a7)(a1:List b8)(a2:List Int):Option (List Int):=
 (oD a0 a1 a2).bind λv1=>
 some v1.1
def ga(a0:Int)(a1:List (Int × Bool)):Option Bool:=
 some (!((z7 a1 a0).getD (false:Bool)))
def U7(a0:a7)(a1:List (Int × Bool)):Option (List Int):=
 jn (λ(j16:List Int)=>
  some j16) (λκ15=>
  (E3 a0).bind λv17=>
  (lp (S:=Int × (List Int)) (E:=(List Int)) (λ((s19,s20):Int × (List Int))=>
   if (decide (s19<(v17.length:Int))) then
    jn (λ(j27:List Int)=>
     some (.inl (z6 (s19+1),j27))) (λκ26=>
     (ix v17 s19).bind λv28=>
     (ga v28 a1).bind λv29=>
     if v29 then
      (app 8 s20 [v28]).bind λv30=>
      κ26 v30
     else
     κ26 s20)
   else
   some (.inr s20)) (0,[])).bind λe18=>
  κ15 e18)
def lW(a0:a7)(a1:List Int):Option (List Int):=
 (dw a0 a1).bind λv1=>
 (U7 a0 v1).bind λv2=>
 some v2
def np(a0:a7)(a1:List b8)(a2:List Int):Option (List Int):=
 (qZ a0 a1 a2).bind λv1=>
 (lW a0 v1).bind λv2=>
 some v2
def bH(a0:a7)(a1:List b8):Option (List Int):=
 (mo a0 a1).bind λv1=>
 (np a0 a1 v1).bind λv2=>
 some v2
def S0(a0:b6):Option (List Int):=
 (bH a0.S a0.T).bind λv1=>
 some v1
def fw(a0:Int)(a1:b6):Option Bool:=
 (y4 a1.S a0).bind λv1=>
 some ((decide (v1.1.Prog>=0))&&(!v1.1.Started))
def H6(a0:List Int)(a1:b6):Option (List Int):=
 jn (λ(j15:List Int)=>
  some j15) (λκ14=>
  (lp (S:=Int × (List Int)) (E:=(List Int)) (λ((s17,s18):Int × (List Int))=>
   if (decide (s17<(a0.length:Int))) then
    jn (λ(j25:List Int)=>
     some (.inl (z6 (s17+1),j25))) (λκ24=>
     (ix a0 s17).bind λv26=>
     (fw v26 a1).bind λv27=>
     if v27 then
      (app 8 s18 [v26]).bind λv28=>
      κ24 v28
     else
     κ24 s18)
   else
   some (.inr s18)) (0,[])).bind λe16=>
  κ14 e16)
def ez(a0:b6):Option (List Int):=
 (S0 a0).bind λv1=>
 (H6 v1 a0).bind λv2=>
 some v2
def Y9(a0:b6):Option (b6 × Int × Int):=
 (ez a0).bind λv1=>
 jn (λ(j10:b6)=>
  if (decide ((v1.length:Int) > 0)) then
   some (j10,(v1.length:Int),0)
  else
  (S0 j10).bind λv11=>
  (aP j10 v11).bind λv12=>
  (P8 v12).bind λv13=>
  (E3 j10.S).bind λv14=>
  (E3 v13.S).bind λv15=>
  some (v13,0,z6 ((v14.length:Int)-(v15.length:Int)))) (λκ9=>
  (lp (S:=Int × b6) (E:=b6) (λ((s17,s18):Int × b6)=>
   if (decide (s17<(v1.length:Int))) then
    (ix v1 s17).bind λv21=>
    (U8 s18 v21).bind λv22=>
    some (.inl (z6 (s17+1),v22))
   else
   some (.inr s18)) (0,a0)).bind λe16=>
  κ9 e16)
def ar(a0:k7)(a1:Int):Option (k7 × (List n0)):=
 (J0 a0).bind λv1=>
 (F8 a0.L 0 (if (if v1<a1 then v1 else a1) > 0 then (if v1<a1 then v1 else a1) else 0)).bind λv2=>
 (F8 a0.L (if (if v1<a1 then v1 else a1) > 0 then (if v1<a1 then v1 else a1) else 0) v1).bind λv3=>
 some ((⟨v3,a0.Cap⟩:k7),v2)
def bu(a0:k7):Option (k7 × n0 × Int):=
 (ar a0 1).bind λv1=>
 if ((v1.2.length:Int)==0) then
  some (a0,(⟨0,0,0⟩:n0),10)
 else
 (ix v1.2 0).bind λv2=>
 some (v1.1,v2,0)
def cJ(a0:k7):Option (k7 × n0 × Int):=
 (bu a0).bind λv1=>
 some (v1.1,v1.2.1,v1.2.2)
def eU(a0:b6):Option Bool:=
 (cJ a0.Q).bind λv1=>
 some (v1.2.2 != 0)
def gD(a0:List (List e6))(a1:Int):Option (List e6):=
 if ((decide (a1<0))||(decide (a1>=(a0.length:Int)))) then
  some []
 else
 (ix a0 a1).bind λv1=>
 some v1
def lj(a0:List (List e6))(a1:n0):Option Int:=
 (gD a0 a1.Prog).bind λv1=>
 some (z6 (1+(v1.length:Int)))
def eY(a0:b6)(a1:List e6):Option (b6 × (List Int)):=
 jn (λ((j11,j12):b6 × (List Int))=>
  some (j11,j12)) (λκ10=>
  (lp (S:=Int × b6 × (List Int)) (E:=(b6 × (List Int))) (λ((s15,s16,s17):Int × b6 × (List Int))=>
   if (decide (s15<(a1.length:Int))) then
    (ix a1 s15).bind λv20=>
    (y2 s16 v20).bind λv21=>
    (app 8 s17 [v21.2.1]).bind λv22=>
    some (.inl (z6 (s15+1),v21.1,v22))
   else
   some (.inr (s16,s17))) (0,a0,[])).bind λe14=>
  κ10 e14)
def lk(a0:b6)(a1:List (List e6)):Option (b6 × n0 × Int):=
 (cJ a0.Q).bind λv1=>
 if (v1.2.2 != 0) then
  some (a0,(⟨0,0,0⟩:n0),v1.2.2)
 else
 jn (λ(j6:b6)=>
  (gD a1 v1.2.1.Prog).bind λv7=>
  (eY j6 v7).bind λv8=>
  if (v1.2.1.Kind==1) then
   (ba v8.1 5 0).bind λv9=>
   (P8 v9.1).bind λv10=>
   some (v10,v1.2.1,0)
  else
  some (v8.1,v1.2.1,0)) (λκ5=>
  if (v1.2.1.Kind==1) then
   (ba (⟨a0.S,a0.Roots,a0.a8,a0.T,v1.1⟩:b6) 5 v1.2.1.At).bind λv11=>
   (C9 v11.1 v1.2.1.At).bind λv12=>
   (P8 v12).bind λv13=>
   κ5 v13
  else
  κ5 (⟨a0.S,a0.Roots,a0.a8,a0.T,v1.1⟩:b6))
def eT(a0:b6)(a1:List (List e6))(a2:Int):Option (b6 × Int × Int × Int):=
 jn (λ((j14,j15,j16):Int × Int × b6)=>
  (eU j16).bind λv18=>
  if (!v18) then
   some (j16,j14,j15,12)
  else
  some (j16,j14,j15,0)) (λκ13=>
  (lp (S:=Int × b6 × Int × Int × b6) (E:=(Int × Int × b6)) (λ((s20,s21,s22,s23,s24):Int × b6 × Int × Int × b6)=>
   (eU s21).bind λv27=>
   if (!v27) then
    (cJ s21.Q).bind λv28=>
    (lj a1 v28.2.1).bind λv29=>
    if (decide (v29 > s20)) then
     some (.inr (s22,s23,s24))
    else
    (lk s21 a1).bind λv30=>
    some (.inl (z6 (s20-v29),v30.1,z6 (s22+1),z6 (s20-v29),v30.1))
   else
   some (.inr (s22,s23,s24))) (a2,a0,0,a2,a0)).bind λe19=>
  κ13 e19)
def jJ(a0:s6)(a1:List Int):Option (s6 × D5):=
 (X6 a1).bind λv1=>
 if (v1.2 != 0) then
  some (a0,(⟨0,v1.2⟩:D5))
 else
 (ll v1.1).bind λv2=>
 if (decide (v2.t=99)) then
  (y2 a0.X (⟨(Et v2 99 0),(Et v2 99 1),(Et v2 99 2),(Et v2 99 3)⟩:e6)).bind λv3=>
  some ((⟨v3.1,a0.Progs⟩:s6),(⟨v3.2.1,v3.2.2⟩:D5))
 else
 if (decide (v2.t=103)) then
  (Y9 a0.X).bind λv4=>
  some ((⟨v4.1,a0.Progs⟩:s6),(⟨z6 (v4.2.2-v4.2.1),0⟩:D5))
 else
 if (decide (v2.t=107)) then
  (eT a0.X a0.Progs (Et v2 107 0)).bind λv5=>
  some ((⟨v5.1,a0.Progs⟩:s6),(⟨v5.2.1,v5.2.2.2⟩:D5))
 else
 some (a0,(⟨0,0⟩:D5))
def cW(a0:D5):Option ByteArray:=
 if (a0.E != 0) then
  (B8 a0.E).bind λv1=>
  some v1
 else
 (nV a0.V).bind λv2=>
 some v2
def V1(a0:c4)(a1:Int)(a2:List Int):Option (c4 × ByteArray):=
 (mk 8 4 (0:Int)).bind λv1=>
 (ix v1 0).bind λv2=>
 (CL (v1.set (0:Int).toNat a1) 1 a2).bind λv3=>
 (jJ a0.g v3).bind λv4=>
 (cW v4.2).bind λv5=>
 some ((⟨v4.1,a0.begun,a0.progs⟩:c4),v5)
def O5(a0:c4)(a1:List Int)(a2:Int):Option (c4 × ByteArray):=
 (V1 a0 a2 a1).bind λv1=>
 some (v1.1,v1.2)
def oI(f:Fw)(a0:c4)(a1:List Int):Option (c4 × ByteArray):=
 match f with
 | none=>none
 | some (n,none)=>
  if n=76 then N6 a0 a1 else
  if n=78 then M5 a0 a1 else
  if n=80 then K1 a0 a1 else
  if n=81 then K2 a0 a1 else
  if n=82 then R3 a0 a1 else
  none
 | some (n,some c)=>
  if n=138 then O5 a0 a1 c else
  none
def D2(a0:c4)(a1:List ByteArray):Option (c4 × ByteArray):=
 (dU).bind λv1=>
 (ix a1 0).bind λv2=>
 (cut a1 1 (a1.length:Int)).bind λv3=>
 (ay v3).bind λv4=>
 if (((!((z7 v1 v2).isSome))||(!v4.2))==false) then
  (oH (((z7 v1 v2).getD (⟨none,none,false⟩:c8)).takes) (v4.1.length:Int)).bind λv5=>
  if (!v5) then
   (B8 33).bind λv8=>
   some (a0,v8)
  else
  if ((!a0.begun)&&(!(((z7 v1 v2).getD (⟨none,none,false⟩:c8)).early))) then
   some (a0,(p8 [110,111,32,104,101,97,112]))
  else
  (oI (((z7 v1 v2).getD (⟨none,none,false⟩:c8)).run) a0 v4.1).bind λv9=>
  some (v9.1,v9.2)
 else
 (B8 33).bind λv12=>
 some (a0,v12)
def Z7(a0:ByteArray):Option (List ByteArray):=
 jn (λ(j21:List ByteArray)=>
  some j21) (λκ20=>
  (tT a0 (p8 [10])).bind λv22=>
  (lp (S:=Int × c4 × (List ByteArray)) (E:=(List ByteArray)) (λ((s24,s25,s26):Int × c4 × (List ByteArray))=>
   if (decide (s24<(v22.length:Int))) then
    jn (λ((j34,j35):c4 × (List ByteArray))=>
     some (.inl (z6 (s24+1),j34,j35))) (λκ33=>
     (ix v22 s24).bind λv37=>
     (D6 v37).bind λv38=>
     if ((v38.length:Int)==0) then
      κ33 (s25,s26)
     else
     (D2 s25 v38).bind λv39=>
     (app 16 s26 [v39.2]).bind λv40=>
     κ33 (v39.1,v40))
   else
   some (.inr s26)) (0,(⟨⟨⟨⟨⟨[],0⟩,0⟩,[],[],[],⟨[],0⟩⟩,[]⟩,false,[]⟩:c4),[])).bind λe23=>
  κ20 e23)
def pf:Option Bool:=
 (Z7 (p8 [108,105,118,101,115,10,112,114,111,103,32,48,32,50,32,50,32,53,32,48,10,104,101,97,112,32,51,32,53,32,56,10,110,101,119,32,48,32,49,32,48,10,115,116,111,114,101,32,48,32,48,32,48,10,10,119,101,97,107,32,49,32,48,32,45,49,10,32,100,114,111,112,32,48,32,10,99,111,108,108,101,99,116,10,100,114,97,105,110,32,57,10,114,111,111,116,115,10,108,105,118,101,115,10,100,114,111,112,32,50,10,99,111,108,108,101,99,116,10,116,97,108,108,121,10,117,112,32,48,32,49,10,104,101,97,112,32,48,32,48,32,48,10,112,114,111,103,32,54,10,110,101,119,32,48,10,102,108,121])).bind λv1=>
 (z8 (((v1.length:Int)==19)==true) (ByteArray.empty:ByteArray) (ix v1 0)).bind λv2=>
 (z8 ((((v1.length:Int)==19)&&(v2.toList==(p8 [110,111,32,104,101,97,112]).toList))==true) (ByteArray.empty:ByteArray) (ix v1 1)).bind λv3=>
 (z8 (((((v1.length:Int)==19)&&(v2.toList==(p8 [110,111,32,104,101,97,112]).toList))&&(v3.toList==(p8 [111,107]).toList))==true) (ByteArray.empty:ByteArray) (ix v1 2)).bind λv4=>
 (z8 ((((((v1.length:Int)==19)&&(v2.toList==(p8 [110,111,32,104,101,97,112]).toList))&&(v3.toList==(p8 [111,107]).toList))&&(v4.toList==(p8 [111,107]).toList))==true) (ByteArray.empty:ByteArray) (ix v1 3)).bind λv5=>
 (z8 (((((((v1.length:Int)==19)&&(v2.toList==(p8 [110,111,32,104,101,97,112]).toList))&&(v3.toList==(p8 [111,107]).toList))&&(v4.toList==(p8 [111,107]).toList))&&(v5.toList==(p8 [49]).toList))==true) (ByteArray.empty:ByteArray) (ix v1 4)).bind λv6=>
 (z8 ((((((((v1.length:Int)==19)&&(v2.toList==(p8 [110,111,32,104,101,97,112]).toList))&&(v3.toList==(p8 [111,107]).toList))&&(v4.toList==(p8 [111,107]).toList))&&(v5.toList==(p8 [49]).toList))&&(v6.toList==(p8 [49]).toList))==true) (ByteArray.empty:ByteArray) (ix v1 5)).bind λv7=>
 (z8 (((((((((v1.length:Int)==19)&&(v2.toList==(p8 [110,111,32,104,101,97,112]).toList))&&(v3.toList==(p8 [111,107]).toList))&&(v4.toList==(p8 [111,107]).toList))&&(v5.toList==(p8 [49]).toList))&&(v6.toList==(p8 [49]).toList))&&(v7.toList==(p8 [49]).toList))==true) (ByteArray.empty:ByteArray) (ix v1 6)).bind λv8=>
 (z8 ((((((((((v1.length:Int)==19)&&(v2.toList==(p8 [110,111,32,104,101,97,112]).toList))&&(v3.toList==(p8 [111,107]).toList))&&(v4.toList==(p8 [111,107]).toList))&&(v5.toList==(p8 [49]).toList))&&(v6.toList==(p8 [49]).toList))&&(v7.toList==(p8 [49]).toList))&&(v8.toList==(p8 [48]).toList))==true) (ByteArray.empty:ByteArray) (ix v1 7)).bind λv9=>
 (z8 (((((((((((v1.length:Int)==19)&&(v2.toList==(p8 [110,111,32,104,101,97,112]).toList))&&(v3.toList==(p8 [111,107]).toList))&&(v4.toList==(p8 [111,107]).toList))&&(v5.toList==(p8 [49]).toList))&&(v6.toList==(p8 [49]).toList))&&(v7.toList==(p8 [49]).toList))&&(v8.toList==(p8 [48]).toList))&&(v9.toList==(p8 [45,49]).toList))==true) (ByteArray.empty:ByteArray) (ix v1 8)).bind λv10=>
 (z8 ((((((((((((v1.length:Int)==19)&&(v2.toList==(p8 [110,111,32,104,101,97,112]).toList))&&(v3.toList==(p8 [111,107]).toList))&&(v4.toList==(p8 [111,107]).toList))&&(v5.toList==(p8 [49]).toList))&&(v6.toList==(p8 [49]).toList))&&(v7.toList==(p8 [49]).toList))&&(v8.toList==(p8 [48]).toList))&&(v9.toList==(p8 [45,49]).toList))&&(v10.toList==(p8 [49]).toList))==true) (ByteArray.empty:ByteArray) (ix v1 9)).bind λv11=>
 (z8 (((((((((((((v1.length:Int)==19)&&(v2.toList==(p8 [110,111,32,104,101,97,112]).toList))&&(v3.toList==(p8 [111,107]).toList))&&(v4.toList==(p8 [111,107]).toList))&&(v5.toList==(p8 [49]).toList))&&(v6.toList==(p8 [49]).toList))&&(v7.toList==(p8 [49]).toList))&&(v8.toList==(p8 [48]).toList))&&(v9.toList==(p8 [45,49]).toList))&&(v10.toList==(p8 [49]).toList))&&(v11.toList==(p8 [114,111,111,116,115,32,48,32,48,32,49,32,48,32,48,32,48]).toList))==true) (ByteArray.empty:ByteArray) (ix v1 10)).bind λv12=>
 (z8 ((((((((((((((v1.length:Int)==19)&&(v2.toList==(p8 [110,111,32,104,101,97,112]).toList))&&(v3.toList==(p8 [111,107]).toList))&&(v4.toList==(p8 [111,107]).toList))&&(v5.toList==(p8 [49]).toList))&&(v6.toList==(p8 [49]).toList))&&(v7.toList==(p8 [49]).toList))&&(v8.toList==(p8 [48]).toList))&&(v9.toList==(p8 [45,49]).toList))&&(v10.toList==(p8 [49]).toList))&&(v11.toList==(p8 [114,111,111,116,115,32,48,32,48,32,49,32,48,32,48,32,48]).toList))&&(v12.toList==(p8 [108,105,118,101,115,32,49]).toList))==true) (ByteArray.empty:ByteArray) (ix v1 11)).bind λv13=>
 (z8 (((((((((((((((v1.length:Int)==19)&&(v2.toList==(p8 [110,111,32,104,101,97,112]).toList))&&(v3.toList==(p8 [111,107]).toList))&&(v4.toList==(p8 [111,107]).toList))&&(v5.toList==(p8 [49]).toList))&&(v6.toList==(p8 [49]).toList))&&(v7.toList==(p8 [49]).toList))&&(v8.toList==(p8 [48]).toList))&&(v9.toList==(p8 [45,49]).toList))&&(v10.toList==(p8 [49]).toList))&&(v11.toList==(p8 [114,111,111,116,115,32,48,32,48,32,49,32,48,32,48,32,48]).toList))&&(v12.toList==(p8 [108,105,118,101,115,32,49]).toList))&&(v13.toList==(p8 [48]).toList))==true) (ByteArray.empty:ByteArray) (ix v1 12)).bind λv14=>
 (z8 ((((((((((((((((v1.length:Int)==19)&&(v2.toList==(p8 [110,111,32,104,101,97,112]).toList))&&(v3.toList==(p8 [111,107]).toList))&&(v4.toList==(p8 [111,107]).toList))&&(v5.toList==(p8 [49]).toList))&&(v6.toList==(p8 [49]).toList))&&(v7.toList==(p8 [49]).toList))&&(v8.toList==(p8 [48]).toList))&&(v9.toList==(p8 [45,49]).toList))&&(v10.toList==(p8 [49]).toList))&&(v11.toList==(p8 [114,111,111,116,115,32,48,32,48,32,49,32,48,32,48,32,48]).toList))&&(v12.toList==(p8 [108,105,118,101,115,32,49]).toList))&&(v13.toList==(p8 [48]).toList))&&(v14.toList==(p8 [49]).toList))==true) (ByteArray.empty:ByteArray) (ix v1 13)).bind λv15=>
 (z8 (((((((((((((((((v1.length:Int)==19)&&(v2.toList==(p8 [110,111,32,104,101,97,112]).toList))&&(v3.toList==(p8 [111,107]).toList))&&(v4.toList==(p8 [111,107]).toList))&&(v5.toList==(p8 [49]).toList))&&(v6.toList==(p8 [49]).toList))&&(v7.toList==(p8 [49]).toList))&&(v8.toList==(p8 [48]).toList))&&(v9.toList==(p8 [45,49]).toList))&&(v10.toList==(p8 [49]).toList))&&(v11.toList==(p8 [114,111,111,116,115,32,48,32,48,32,49,32,48,32,48,32,48]).toList))&&(v12.toList==(p8 [108,105,118,101,115,32,49]).toList))&&(v13.toList==(p8 [48]).toList))&&(v14.toList==(p8 [49]).toList))&&(v15.toList==(p8 [116,97,108,108,121,32,50,32,48,32,49,32,48]).toList))==true) (ByteArray.empty:ByteArray) (ix v1 14)).bind λv16=>
 (z8 ((((((((((((((((((v1.length:Int)==19)&&(v2.toList==(p8 [110,111,32,104,101,97,112]).toList))&&(v3.toList==(p8 [111,107]).toList))&&(v4.toList==(p8 [111,107]).toList))&&(v5.toList==(p8 [49]).toList))&&(v6.toList==(p8 [49]).toList))&&(v7.toList==(p8 [49]).toList))&&(v8.toList==(p8 [48]).toList))&&(v9.toList==(p8 [45,49]).toList))&&(v10.toList==(p8 [49]).toList))&&(v11.toList==(p8 [114,111,111,116,115,32,48,32,48,32,49,32,48,32,48,32,48]).toList))&&(v12.toList==(p8 [108,105,118,101,115,32,49]).toList))&&(v13.toList==(p8 [48]).toList))&&(v14.toList==(p8 [49]).toList))&&(v15.toList==(p8 [116,97,108,108,121,32,50,32,48,32,49,32,48]).toList))&&(v16.toList==(p8 [101,114,114,111,114,32,57]).toList))==true) (ByteArray.empty:ByteArray) (ix v1 15)).bind λv17=>
 (z8 (((((((((((((((((((v1.length:Int)==19)&&(v2.toList==(p8 [110,111,32,104,101,97,112]).toList))&&(v3.toList==(p8 [111,107]).toList))&&(v4.toList==(p8 [111,107]).toList))&&(v5.toList==(p8 [49]).toList))&&(v6.toList==(p8 [49]).toList))&&(v7.toList==(p8 [49]).toList))&&(v8.toList==(p8 [48]).toList))&&(v9.toList==(p8 [45,49]).toList))&&(v10.toList==(p8 [49]).toList))&&(v11.toList==(p8 [114,111,111,116,115,32,48,32,48,32,49,32,48,32,48,32,48]).toList))&&(v12.toList==(p8 [108,105,118,101,115,32,49]).toList))&&(v13.toList==(p8 [48]).toList))&&(v14.toList==(p8 [49]).toList))&&(v15.toList==(p8 [116,97,108,108,121,32,50,32,48,32,49,32,48]).toList))&&(v16.toList==(p8 [101,114,114,111,114,32,57]).toList))&&(v17.toList==(p8 [101,114,114,111,114,32,49]).toList))==true) (ByteArray.empty:ByteArray) (ix v1 16)).bind λv18=>
 (z8 ((((((((((((((((((((v1.length:Int)==19)&&(v2.toList==(p8 [110,111,32,104,101,97,112]).toList))&&(v3.toList==(p8 [111,107]).toList))&&(v4.toList==(p8 [111,107]).toList))&&(v5.toList==(p8 [49]).toList))&&(v6.toList==(p8 [49]).toList))&&(v7.toList==(p8 [49]).toList))&&(v8.toList==(p8 [48]).toList))&&(v9.toList==(p8 [45,49]).toList))&&(v10.toList==(p8 [49]).toList))&&(v11.toList==(p8 [114,111,111,116,115,32,48,32,48,32,49,32,48,32,48,32,48]).toList))&&(v12.toList==(p8 [108,105,118,101,115,32,49]).toList))&&(v13.toList==(p8 [48]).toList))&&(v14.toList==(p8 [49]).toList))&&(v15.toList==(p8 [116,97,108,108,121,32,50,32,48,32,49,32,48]).toList))&&(v16.toList==(p8 [101,114,114,111,114,32,57]).toList))&&(v17.toList==(p8 [101,114,114,111,114,32,49]).toList))&&(v18.toList==(p8 [101,114,114,111,114,32,49,51]).toList))==true) (ByteArray.empty:ByteArray) (ix v1 17)).bind λv19=>
 (z8 (((((((((((((((((((((v1.length:Int)==19)&&(v2.toList==(p8 [110,111,32,104,101,97,112]).toList))&&(v3.toList==(p8 [111,107]).toList))&&(v4.toList==(p8 [111,107]).toList))&&(v5.toList==(p8 [49]).toList))&&(v6.toList==(p8 [49]).toList))&&(v7.toList==(p8 [49]).toList))&&(v8.toList==(p8 [48]).toList))&&(v9.toList==(p8 [45,49]).toList))&&(v10.toList==(p8 [49]).toList))&&(v11.toList==(p8 [114,111,111,116,115,32,48,32,48,32,49,32,48,32,48,32,48]).toList))&&(v12.toList==(p8 [108,105,118,101,115,32,49]).toList))&&(v13.toList==(p8 [48]).toList))&&(v14.toList==(p8 [49]).toList))&&(v15.toList==(p8 [116,97,108,108,121,32,50,32,48,32,49,32,48]).toList))&&(v16.toList==(p8 [101,114,114,111,114,32,57]).toList))&&(v17.toList==(p8 [101,114,114,111,114,32,49]).toList))&&(v18.toList==(p8 [101,114,114,111,114,32,49,51]).toList))&&(v19.toList==(p8 [101,114,114,111,114,32,51,51]).toList))==true) (ByteArray.empty:ByteArray) (ix v1 18)).bind λv20=>
 some (((((((((((((((((((((v1.length:Int)==19)&&(v2.toList==(p8 [110,111,32,104,101,97,112]).toList))&&(v3.toList==(p8 [111,107]).toList))&&(v4.toList==(p8 [111,107]).toList))&&(v5.toList==(p8 [49]).toList))&&(v6.toList==(p8 [49]).toList))&&(v7.toList==(p8 [49]).toList))&&(v8.toList==(p8 [48]).toList))&&(v9.toList==(p8 [45,49]).toList))&&(v10.toList==(p8 [49]).toList))&&(v11.toList==(p8 [114,111,111,116,115,32,48,32,48,32,49,32,48,32,48,32,48]).toList))&&(v12.toList==(p8 [108,105,118,101,115,32,49]).toList))&&(v13.toList==(p8 [48]).toList))&&(v14.toList==(p8 [49]).toList))&&(v15.toList==(p8 [116,97,108,108,121,32,50,32,48,32,49,32,48]).toList))&&(v16.toList==(p8 [101,114,114,111,114,32,57]).toList))&&(v17.toList==(p8 [101,114,114,111,114,32,49]).toList))&&(v18.toList==(p8 [101,114,114,111,114,32,49,51]).toList))&&(v19.toList==(p8 [101,114,114,111,114,32,51,51]).toList))&&(v20.toList==(p8 [101,114,114,111,114,32,51,51]).toList))
def aT(a0:Int):Option ByteArray:=
 jn (λ((j2,j3):Int × ByteArray)=>
  if ((decide (j2<10))||(decide (j2 > 99))) then
   (rem j2 10).bind λv5=>
   (yg (p8 [48,49,50,51,52,53,54,55,56,57]) v5 (z6 (v5+1))).bind λv6=>
   (kq j3 v6).bind λv7=>
   some v7
  else
  (quo .i64 j2 10).bind λv8=>
  (yg (p8 [48,49,50,51,52,53,54,55,56,57]) v8 (z6 (v8+1))).bind λv9=>
  (kq j3 v9).bind λv10=>
  (rem j2 10).bind λv11=>
  (yg (p8 [48,49,50,51,52,53,54,55,56,57]) v11 (z6 (v11+1))).bind λv12=>
  (kq v10 v12).bind λv13=>
  some v13) (λκ1=>
  if (decide (a0<0)) then
   κ1 (z6 (0-a0),(p8 [45]))
  else
  κ1 (a0,ByteArray.empty))
def ph(a0:List ByteArray)(a1:List ByteArray):Option Bool:=
 if ((a0.length:Int) != (a1.length:Int)) then
  some false
 else
 jn (λ(_:Unit)=>
  some true) (λκ6=>
  (lp (S:=Int) (E:=Bool ⊕ Unit) (λ(s9:Int)=>
   if (decide (s9<(a0.length:Int))) then
    (ix a0 s9).bind λv11=>
    (ix a1 s9).bind λv12=>
    if (!(v11.toList==v12.toList)) then
     some (.inr (.inl false))
    else
    some (.inl (z6 (s9+1)))
   else
   some (.inr (.inr ()))) 0).bind λe8=>
  match e8 with
  | .inl w=>some w
  | .inr w=>κ6 w)
def bN(a0:Int)(a1:List (List Int)):Option Bool:=
 (z8 ((decide ((a1.length:Int) > 20))==false) false pf).bind λv1=>
 if ((decide ((a1.length:Int) > 20))||(!v1)) then
  (pf).bind λv2=>
  some v2
 else
 (rem (z6 a0) 24).bind λv3=>
 (H0 (z6 (1+v3)) 3 8 []).bind λv4=>
 (aT (z6 (1+v3))).bind λv5=>
 (kq (p8 [104,101,97,112,32]) v5).bind λv6=>
 (kq v6 (p8 [32,51,32,56])).bind λv7=>
 jn (λ((j105,j106):ByteArray × (List ByteArray))=>
  (z8 ((v4.2==0)==true) [] (Z7 j105)).bind λv108=>
  (z8 ((v4.2==0)==true) false (ph v108 j106)).bind λv109=>
  some ((v4.2==0)&&v109)) (λκ104=>
  (lp (S:=ByteArray × Int × s6 × (List ByteArray)) (E:=(ByteArray × (List ByteArray))) (λ((s111,s112,s113,s114):ByteArray × Int × s6 × (List ByteArray))=>
   if (decide (s112<(a1.length:Int))) then
    jn (λ((j160,j161,j162):ByteArray × s6 × (List ByteArray))=>
     some (.inl (j160,z6 (s112+1),j161,j162))) (λκ159=>
     (ix a1 s112).bind λv164=>
     (z8 (((v164.length:Int) != 4)==false) (0:Int) (ix v164 0)).bind λv165=>
     (z8 ((((v164.length:Int) != 4)||(decide (v165<1)))==false) (0:Int) (ix v164 0)).bind λv166=>
     if ((((v164.length:Int) != 4)||(decide (v165<1)))||(decide (v166 > 10))) then
      κ159 (s111,s113,s114)
     else
     (ix v164 0).bind λv167=>
     (ix [ByteArray.empty,(p8 [110,101,119]),(p8 [99,111,112,121]),(p8 [100,114,111,112]),(p8 [108,111,97,100]),(p8 [115,116,111,114,101]),(p8 [119,101,97,107]),(p8 [117,112]),(p8 [112,97,105,114]),(p8 [103,101,116]),(p8 [115,97,109,101])] v167).bind λv168=>
     jn (λ((j184,j185):ByteArray × (List Int))=>
      (jJ s113 j185).bind λv187=>
      (kq s111 (p8 [10])).bind λv188=>
      (kq v188 j184).bind λv189=>
      (cW v187.2).bind λv190=>
      (app 16 s114 [v190]).bind λv191=>
      κ159 (v189,v187.1,v191)) (λκ183=>
      (lp (S:=ByteArray × Int × (List Int)) (E:=(ByteArray × (List Int))) (λ((s193,s194,s195):ByteArray × Int × (List Int))=>
       (ix [0,3,2,1,3,3,3,2,2,2,2] v167).bind λv198=>
       if (decide (s194<=v198)) then
        (ix v164 s194).bind λv199=>
        (rem v199 10).bind λv200=>
        (ix s195 s194).bind λv201=>
        (kq s193 (p8 [32])).bind λv202=>
        (ix (s195.set (s194).toNat v200) s194).bind λv203=>
        (aT v203).bind λv204=>
        (kq v202 v204).bind λv205=>
        some (.inl (v205,z6 (s194+1),(s195.set (s194).toNat v200)))
       else
       some (.inr (s193,s195))) (v168,1,[v167,0,0,0])).bind λe192=>
      κ183 e192))
   else
   some (.inr (s111,s114))) (v7,0,v4.1,[(p8 [111,107])])).bind λe110=>
  κ104 e110)
structure R4 where
 Serial:Int
 Strong:Int
 Weak:Int
 Prog:Int
 Started:Bool
 Fields:List Int
structure I6 where
 State:Int
 Gen:Int
 Val:R4
structure H5 where
 Target:Int
 Intact:Bool
 Call:Int
structure B6 where
 State:Int
 Key:Int
 Val:Int
structure du where
 Kind:Int
 At:Int
 Prog:Int
structure au where
 Kind:Int
 A:Int
 B:Int
 C:Int
structure y9 where
 a8:List I6
 Last:Int
 Serial:Int
structure G4 where
 L:List du
 Cap:Int
structure o6 where
 S:y9
 Roots:List Int
 a8:List H5
 T:List B6
 Q:G4
structure lV where
 X:o6
 Progs:List (List au)
structure O8 where
 State:Int
 Gen:Int
 Val:Int
structure H4 where
 a8:List O8
 Last:Int
def ab(a0:au):Option Bool:=
 some ((decide (a0.Kind>=1))&&(decide (a0.Kind<=10)))
def cc(a0:Int)(a1:Int)(a2:Int)(a3:Int):Option Int:=
 if ((decide (a0<a1))||(decide (a0 > a2))) then
  some a3
 else
 some 0
def bf(a0:Int)(a1:Int)(a2:Int):Option Int:=
 if (a0 != 0) then
  some a0
 else
 if (a1 != 0) then
  some a1
 else
 some a2
def cE(a0:au):Option Int:=
 (cc a0.A 0 5 6).bind λv1=>
 (cc a0.B 0 5 6).bind λv2=>
 if (a0.Kind==1) then
  (cc a0.B 0 4 1).bind λv3=>
  (cc a0.C (-1) 5 13).bind λv4=>
  (bf v1 v3 v4).bind λv5=>
  some v5
 else
 jn (λ(j7:Bool)=>
  if j7 then
   (bf v1 v2 0).bind λv8=>
   some v8
  else
  if (a0.Kind==3) then
   some v1
  else
  if (a0.Kind==4) then
   (cc a0.C 0 3 5).bind λv9=>
   (bf v1 v2 v9).bind λv10=>
   some v10
  else
  if (a0.Kind==5) then
   (cc a0.B 0 3 5).bind λv11=>
   (cc a0.C (-1) 5 6).bind λv12=>
   (bf v1 v11 v12).bind λv13=>
   some v13
  else
  if (a0.Kind==6) then
   (cc a0.A 0 5 7).bind λv14=>
   (cc a0.B (-1) 5 6).bind λv15=>
   (cc a0.C (-1) 5 13).bind λv16=>
   (bf v14 v15 v16).bind λv17=>
   some v17
  else
  if (a0.Kind==7) then
   (cc a0.B 0 5 7).bind λv18=>
   (bf v1 v18 0).bind λv19=>
   some v19
  else
  if (a0.Kind==8) then
   (cc a0.B (-1) 5 6).bind λv20=>
   (bf v1 v20 0).bind λv21=>
   some v21
  else
  if (a0.Kind==11) then
   some 0
  else
  if (a0.Kind==12) then
   (cc a0.A 0 200 12).bind λv22=>
   some v22
  else
  some 14) (λκ6=>
  if (a0.Kind==2) then
   κ6 (a0.Kind==2)
  else
  if (a0.Kind==9) then
   κ6 (a0.Kind==9)
  else
  κ6 (a0.Kind==10))
def oT(a0:List (List au)):Option Bool:=
 if (decide ((a0.length:Int) > 6)) then
  some false
 else
 jn (λ(_:Unit)=>
  some true) (λκ20=>
  (lp (S:=Int) (E:=Bool ⊕ Unit) (λ(s23:Int)=>
   if (decide (s23<(a0.length:Int))) then
    jn (λ(_:Unit)=>
     some (.inl (z6 (s23+1)))) (λκ32=>
     (ix a0 s23).bind λv34=>
     if (decide ((v34.length:Int) > 6)) then
      some (.inr (.inl false))
     else
     (lp (S:=Int) (E:=Bool ⊕ Unit) (λ(s36:Int)=>
      if (decide (s36<(v34.length:Int))) then
       (ix v34 s36).bind λv38=>
       (ab v38).bind λv39=>
       (z8 ((!v39)==false) 0 (cE v38)).bind λv40=>
       if ((!v39)||(v40 != 0)) then
        some (.inr (.inl false))
       else
       some (.inl (z6 (s36+1)))
      else
      some (.inr (.inr ()))) 0).bind λe35=>
     match e35 with
     | .inl w=>some (.inr (.inl w))
     | .inr w=>κ32 w)
   else
   some (.inr (.inr ()))) 0).bind λe22=>
  match e22 with
  | .inl w=>some w
  | .inr w=>κ20 w)
def HG(a0:Int)(a1:Int):Option H4:=
 if ((((decide (a0<0))||(decide (a0 > 24)))||(decide (a1<0)))||(decide (a1 > 9))) then
  some (⟨[],0⟩:H4)
 else
 (mk 24 a0 (⟨0,0,0⟩:O8)).bind λv1=>
 some (⟨v1,a1⟩:H4)
def BF(a0:Int)(a1:Int):Option y9:=
 (HG a0 a1).bind λv1=>
 (mk 80 (v1.a8.length:Int) (⟨0,0,⟨0,0,0,0,false,[]⟩⟩:I6)).bind λv2=>
 some (⟨v2,v1.Last,0⟩:y9)
def QE(a0:Int):Option (List H5):=
 jn (λ(j8:List H5)=>
  some j8) (λκ7=>
  (lp (S:=Int × (List H5)) (E:=(List H5)) (λ((s10,s11):Int × (List H5))=>
   if ((decide (s10<a0))&&(decide (a0<=6))) then
    (app 24 s11 [(⟨0,false,(-1)⟩:H5)]).bind λv14=>
    some (.inl (z6 (s10+1),v14))
   else
   some (.inr s11)) (0,[])).bind λe9=>
  κ7 e9)
def HH(a0:Int):Option (List B6):=
 if ((decide (a0<1))||(decide (a0 > 8))) then
  some []
 else
 (mk 24 a0 (⟨0,0,0⟩:B6)).bind λv1=>
 some v1
def QF:Option G4:=
 some (⟨[],30⟩:G4)
def rV(a0:Int)(a1:Int)(a2:Int):Option o6:=
 if ((((((decide (a0<1))||(decide (a0 > 24)))||(decide (a1<0)))||(decide (a1 > 9)))||(decide (a2<1)))||(decide (a2 > 8))) then
  some (⟨⟨[],0,0⟩,[],[],[],⟨[],0⟩⟩:o6)
 else
 (BF a0 a1).bind λv1=>
 (mk 8 6 (0:Int)).bind λv2=>
 (QE 6).bind λv3=>
 (HH a2).bind λv4=>
 (QF).bind λv5=>
 some (⟨v1,v2,v3,v4,v5⟩:o6)
def BL(a0:Int)(a1:Int)(a2:Int)(a3:List (List au)):Option (lV × Int):=
 (oT a3).bind λv1=>
 if (!v1) then
  some ((⟨⟨⟨[],0,0⟩,[],[],[],⟨[],0⟩⟩,[]⟩:lV),13)
 else
 (rV a0 a1 a2).bind λv2=>
 if ((v2.Roots.length:Int)==0) then
  some ((⟨⟨⟨[],0,0⟩,[],[],[],⟨[],0⟩⟩,[]⟩:lV),1)
 else
 some ((⟨v2,a3⟩:lV),0)
def jZ(a0:Int)(a1:Int):Option Int:=
 if ((((decide (a0<0))||(decide (a0 > 23)))||(decide (a1<0)))||(decide (a1 > 9))) then
  some 0
 else
 some (z6 ((z6 (1+a0))+(z6 (32*a1))))
def W9(a0:y9):Option H4:=
 jn (λ(j9:List O8)=>
  some (⟨j9,a0.Last⟩:H4)) (λκ8=>
  (lp (S:=Int × (List O8)) (E:=(List O8)) (λ((s11,s12):Int × (List O8))=>
   if (decide (s11<(a0.a8.length:Int))) then
    (ix a0.a8 s11).bind λv15=>
    (app 24 s12 [(⟨v15.State,v15.Gen,s11⟩:O8)]).bind λv16=>
    some (.inl (z6 (s11+1),v16))
   else
   some (.inr s12)) (0,[])).bind λe10=>
  κ8 e10)
def oQ(a0:Int):Option Bool:=
 if ((decide (a0<1))||(decide (a0 > 400))) then
  some false
 else
 (rem (z6 (a0-1)) 32).bind λv1=>
 (quo .i64 (z6 (a0-1)) 32).bind λv2=>
 (jZ v1 v2).bind λv3=>
 some (v3==a0)
def nD(a0:Int):Option Int:=
 (oQ a0).bind λv1=>
 if (!v1) then
  some (-1)
 else
 (rem (z6 (a0-1)) 32).bind λv2=>
 some v2
def BD(a0:Int):Option Int:=
 (oQ a0).bind λv1=>
 if (!v1) then
  some (-1)
 else
 (quo .i64 (z6 (a0-1)) 32).bind λv2=>
 some v2
def T5(a0:H4)(a1:Int):Option (Int × Int):=
 if (a1==0) then
  some ((-1),2)
 else
 (nD a1).bind λv1=>
 if ((decide (v1<0))||(decide (v1>=(a0.a8.length:Int)))) then
  some ((-1),3)
 else
 (ix a0.a8 v1).bind λv2=>
 (BD a1).bind λv3=>
 if ((v2.Gen != v3)||((v2.State != 1)&&(v2.State != 2))) then
  some ((-1),3)
 else
 some (v1,0)
def qy(a0:y9)(a1:List Int):Option (List Int):=
 (app 8 [] a1).bind λv1=>
 jn (λ(j36:List Int)=>
  some j36) (λκ35=>
  (lp (S:=Int × (List Int)) (E:=(List Int)) (λ((s38,s39):Int × (List Int))=>
   if (decide (s38<(s39.length:Int))) then
    jn (λ(j56:List Int)=>
     some (.inl (z6 (s38+1),j56))) (λκ55=>
     (lp (S:=Int × (List Int)) (E:=(List Int)) (λ((s58,s59):Int × (List Int))=>
      if (decide (s58 > 0)) then
       (W9 a0).bind λv62=>
       (ix s59 (z6 (s58-1))).bind λv63=>
       (T5 v62 v63).bind λv64=>
       (ix s59 s58).bind λv65=>
       (T5 v62 v65).bind λv66=>
       (z8 (((decide (v64.1<0))||(decide (v66.1<0)))==false) (⟨0,0,⟨0,0,0,0,false,[]⟩⟩:I6) (ix a0.a8 v64.1)).bind λv67=>
       (z8 (((decide (v64.1<0))||(decide (v66.1<0)))==false) (⟨0,0,⟨0,0,0,0,false,[]⟩⟩:I6) (ix a0.a8 v66.1)).bind λv68=>
       if (((decide (v64.1<0))||(decide (v66.1<0)))||(decide (v67.Val.Serial<=v68.Val.Serial))) then
        some (.inr s59)
       else
       (ix (s59.set (s58).toNat v63) (z6 (s58-1))).bind λv69=>
       some (.inl (z6 (s58-1),((s59.set (s58).toNat v63).set (z6 (s58-1)).toNat v65)))
      else
      some (.inr s59)) (s38,s39)).bind λe57=>
     κ55 e57)
   else
   some (.inr s39)) (1,v1)).bind λe37=>
  κ35 e37)
def xf(a0:y9):Option (List Int):=
 jn (λ(j15:List Int)=>
  (qy a0 j15).bind λv16=>
  some v16) (λκ14=>
  (lp (S:=Int × (List Int)) (E:=(List Int)) (λ((s18,s19):Int × (List Int))=>
   if (decide (s18<(a0.a8.length:Int))) then
    jn (λ(j26:List Int)=>
     some (.inl (z6 (s18+1),j26))) (λκ25=>
     (ix a0.a8 s18).bind λv27=>
     if (v27.State==1) then
      (jZ s18 v27.Gen).bind λv28=>
      (app 8 s19 [v28]).bind λv29=>
      κ25 v29
     else
     κ25 s19)
   else
   some (.inr s19)) (0,[])).bind λe17=>
  κ14 e17)
def vp(a0:H4)(a1:Int):Option (Int × Int):=
 (T5 a0 a1).bind λv1=>
 if (v1.2 != 0) then
  some (0,v1.2)
 else
 (ix a0.a8 v1.1).bind λv2=>
 if (v2.State==2) then
  some (0,3)
 else
 some (v2.Val,0)
def M1(a0:y9)(a1:Int):Option (R4 × Int):=
 (W9 a0).bind λv1=>
 (vp v1 a1).bind λv2=>
 if (v2.2 != 0) then
  some ((⟨0,0,0,0,false,[]⟩:R4),v2.2)
 else
 (ix a0.a8 v2.1).bind λv3=>
 some (v3.Val,0)
def gX(a0:o6)(a1:Int):Option Int:=
 (M1 a0.S a1).bind λv1=>
 some v1.1.Serial
def tJ(a0:o6)(a1:Int):Option Int:=
 if ((decide (a1<0))||(decide (a1 > 5))) then
  some 0
 else
 (ix a0.Roots a1).bind λv1=>
 (gX a0 v1).bind λv2=>
 some v2
def gW(a0:List Int):Option (au × Int):=
 if ((a0.length:Int) != 4) then
  some ((⟨0,0,0,0⟩:au),14)
 else
 (ix a0 0).bind λv1=>
 (ix a0 1).bind λv2=>
 (ix a0 2).bind λv3=>
 (ix a0 3).bind λv4=>
 (cE (⟨v1,v2,v3,v4⟩:au)).bind λv5=>
 if (v5 != 0) then
  some ((⟨0,0,0,0⟩:au),v5)
 else
 some ((⟨v1,v2,v3,v4⟩:au),0)
def ke(a0:List Int):Option (List Int):=
 jn (λ(j13:List Int)=>
  some j13) (λκ12=>
  (lp (S:=Int × (List Int)) (E:=(List Int)) (λ((s15,s16):Int × (List Int))=>
   if (decide (s15<(a0.length:Int))) then
    jn (λ(j22:List Int)=>
     some (.inl (z6 (s15+1),j22))) (λκ21=>
     (ix a0 s15).bind λv23=>
     if (v23 != 0) then
      (app 8 s16 [v23]).bind λv24=>
      κ21 v24
     else
     κ21 s16)
   else
   some (.inr s16)) (0,[])).bind λe14=>
  κ12 e14)
def kf(a0:List Int)(a1:Int):Option Int:=
 jn (λ(j11:Int)=>
  some j11) (λκ10=>
  (lp (S:=Int × Int) (E:=Int) (λ((s13,s14):Int × Int)=>
   if (decide (s14<(a0.length:Int))) then
    jn (λ(j19:Int)=>
     some (.inl (j19,z6 (s14+1)))) (λκ18=>
     (ix a0 s14).bind λv20=>
     if ((v20==a1)&&(a1 != 0)) then
      κ18 (z6 (s13+1))
     else
     κ18 s13)
   else
   some (.inr s13)) (0,0)).bind λe12=>
  κ10 e12)
def fm(a0:List B6)(a1:Int):Option Int:=
 jn (λ(_:Unit)=>
  some (-1)) (λκ5=>
  (lp (S:=Int) (E:=Int ⊕ Unit) (λ(s8:Int)=>
   if (decide (s8<(a0.length:Int))) then
    (ix a0 s8).bind λv10=>
    if ((v10.State==1)&&(v10.Key==a1)) then
     some (.inr (.inl s8))
    else
    some (.inl (z6 (s8+1)))
   else
   some (.inr (.inr ()))) 0).bind λe7=>
  match e7 with
  | .inl w=>some w
  | .inr w=>κ5 w)
def vt(a0:List B6)(a1:Int):Option (Int × Int):=
 (fm a0 a1).bind λv1=>
 if (decide (v1<0)) then
  some (0,9)
 else
 (ix a0 v1).bind λv2=>
 some (v2.Val,0)
def kc(a0:Int):Option Bool:=
 some (decide (a0>=12))
def BH(a0:List Int)(a1:Int):Option Bool:=
 (kf a0 a1).bind λv1=>
 some (decide (v1 > 0))
def gr(a0:o6)(a1:Int):Option Bool:=
 (M1 a0.S a1).bind λv1=>
 some (v1.2==0)
def rX(a0:o6)(a1:Int):Option Bool:=
 (M1 a0.S a1).bind λv1=>
 (gr a0 a1).bind λv2=>
 some ((v2&&(decide (v1.1.Prog>=0)))&&(!v1.1.Started))
def fk(a0:y9)(a1:Int)(a2:R4):Option y9:=
 (app 80 [] a0.a8).bind λv1=>
 (ix v1 a1).bind λv2=>
 some (⟨(v1.set (a1).toNat (⟨v2.State,v2.Gen,a2⟩:I6)),a0.Last,a0.Serial⟩:y9)
def P5(a0:y9)(a1:Int)(a2:R4):Option (y9 × Int):=
 (W9 a0).bind λv1=>
 (T5 v1 a1).bind λv2=>
 if (v2.2 != 0) then
  some (a0,v2.2)
 else
 (fk a0 v2.1 a2).bind λv3=>
 some (v3,0)
def lS(a0:G4)(a1:du):Option (G4 × Int):=
 if (decide ((a0.L.length:Int)>=a0.Cap)) then
  some (a0,4)
 else
 (app 24 [] a0.L).bind λv1=>
 (app 24 v1 [a1]).bind λv2=>
 some ((⟨v2,a0.Cap⟩:G4),0)
def vq(a0:Int):Option Int:=
 (kc a0).bind λv1=>
 if v1 then
  some 12
 else
 if (decide (a0<0)) then
  some 1
 else
 some (z6 (a0+1))
def lT(a0:o6)(a1:Int)(a2:Int):Option o6:=
 (M1 a0.S a1).bind λv1=>
 if (v1.2 != 0) then
  some a0
 else
 (P5 a0.S a1 (⟨v1.1.Serial,a2,v1.1.Weak,v1.1.Prog,v1.1.Started,v1.1.Fields⟩:R4)).bind λv2=>
 some (⟨v2.1,a0.Roots,a0.a8,a0.T,a0.Q⟩:o6)
def ca(a0:o6)(a1:Int):Option o6:=
 (M1 a0.S a1).bind λv1=>
 (vq v1.1.Strong).bind λv2=>
 (lT a0 a1 v2).bind λv3=>
 some v3
def lU(a0:o6)(a1:Int):Option o6:=
 (rX a0 a1).bind λv1=>
 if (!v1) then
  some a0
 else
 (M1 a0.S a1).bind λv2=>
 (P5 a0.S a1 (⟨v2.1.Serial,v2.1.Strong,v2.1.Weak,v2.1.Prog,true,v2.1.Fields⟩:R4)).bind λv3=>
 (lS a0.Q (⟨1,a1,v2.1.Prog⟩:du)).bind λv4=>
 (ca (⟨v3.1,a0.Roots,a0.a8,a0.T,v4.1⟩:o6) a1).bind λv5=>
 some v5
def rZ(a0:o6)(a1:List Int):Option (List Int):=
 jn (λ(j17:List Int)=>
  some j17) (λκ16=>
  (lp (S:=Int × (List Int)) (E:=(List Int)) (λ((s19,s20):Int × (List Int))=>
   if (decide (s19<(a1.length:Int))) then
    jn (λ(j28:List Int)=>
     some (.inl (z6 (s19+1),j28))) (λκ27=>
     (ix a1 s19).bind λv29=>
     (gr a0 v29).bind λv30=>
     (z8 (v30==true) false (BH s20 v29)).bind λv31=>
     if (v30&&(!v31)) then
      (app 8 s20 [v29]).bind λv32=>
      κ27 v32
     else
     κ27 s20)
   else
   some (.inr s20)) (0,[])).bind λe18=>
  κ16 e18)
def tI(a0:List H5)(a1:List Int):Option ((List H5) × (List Int)):=
 jn (λ((j18,j19):(List Int) × (List H5))=>
  some (j19,j18)) (λκ17=>
  (lp (S:=Int × (List H5) × (List Int)) (E:=((List Int) × (List H5))) (λ((s22,s23,s24):Int × (List H5) × (List Int))=>
   if (decide (s22<(a0.length:Int))) then
    (ix a0 s22).bind λv27=>
    jn (λ((j31,j32):Bool × (List Int))=>
     (app 24 s23 [(⟨v27.Target,j31,v27.Call⟩:H5)]).bind λv34=>
     some (.inl (z6 (s22+1),v34,j32))) (λκ30=>
     (z8 (v27.Intact==true) 0 (kf a1 v27.Target)).bind λv35=>
     if (v27.Intact&&(decide (v35 > 0))) then
      if (decide (v27.Call>=0)) then
       (app 8 s24 [s22]).bind λv36=>
       κ30 (false,v36)
      else
      κ30 (false,s24)
     else
     κ30 (v27.Intact,s24))
   else
   some (.inr (s24,s23))) (0,[],[])).bind λe21=>
  κ17 e21)
def fp(a0:List B6)(a1:Int)(a2:B6):Option (List B6):=
 (app 24 [] a0).bind λv1=>
 (ix v1 a1).bind λv2=>
 some (v1.set (a1).toNat a2)
def nG(a0:List B6)(a1:Int):Option ((List B6) × Int × Int):=
 (fm a0 a1).bind λv1=>
 if (decide (v1<0)) then
  some (a0,0,9)
 else
 (fp a0 v1 (⟨2,0,0⟩:B6)).bind λv2=>
 (ix a0 v1).bind λv3=>
 some (v2,v3.Val,0)
def ja(a0:List B6)(a1:List Int):Option ((List B6) × (List Int)):=
 jn (λ((j18,j19):(List B6) × (List Int))=>
  some (j18,j19)) (λκ17=>
  (lp (S:=(List B6) × Int × (List Int)) (E:=((List B6) × (List Int))) (λ((s22,s23,s24):(List B6) × Int × (List Int))=>
   if (decide (s23<(a1.length:Int))) then
    jn (λ((j31,j32):(List B6) × (List Int))=>
     some (.inl (j31,z6 (s23+1),j32))) (λκ30=>
     (ix a1 s23).bind λv34=>
     (nG s22 v34).bind λv35=>
     if (v35.2.2==0) then
      (app 8 s24 [v35.2.1]).bind λv36=>
      κ30 (v35.1,v36)
     else
     κ30 (s22,s24))
   else
   some (.inr (s22,s24))) (a0,0,[])).bind λe21=>
  κ17 e21)
def bF(a0:H4)(a1:Int)(a2:O8):Option H4:=
 (app 24 [] a0.a8).bind λv1=>
 (ix v1 a1).bind λv2=>
 some (⟨(v1.set (a1).toNat a2),a0.Last⟩:H4)
def DE(a0:H4)(a1:Int):Option (H4 × Int):=
 (vp a0 a1).bind λv1=>
 if (v1.2 != 0) then
  some (a0,v1.2)
 else
 (T5 a0 a1).bind λv2=>
 (ix a0.a8 v2.1).bind λv3=>
 (bF a0 v2.1 (⟨2,v3.Gen,v3.Val⟩:O8)).bind λv4=>
 some (v4,0)
def bZ(a0:y9)(a1:H4):Option y9:=
 jn (λ(j10:List I6)=>
  some (⟨j10,a0.Last,a0.Serial⟩:y9)) (λκ9=>
  (lp (S:=Int × (List I6)) (E:=(List I6)) (λ((s12,s13):Int × (List I6))=>
   if (decide (s12<(a0.a8.length:Int))) then
    (ix a1.a8 s12).bind λv16=>
    (ix a0.a8 s12).bind λv17=>
    (app 80 s13 [(⟨v16.State,v16.Gen,v17.Val⟩:I6)]).bind λv18=>
    some (.inl (z6 (s12+1),v18))
   else
   some (.inr s13)) (0,[])).bind λe11=>
  κ9 e11)
def xe(a0:y9)(a1:Int):Option y9:=
 (W9 a0).bind λv1=>
 (DE v1 a1).bind λv2=>
 (bZ a0 v2.1).bind λv3=>
 some v3
def DD(a0:H4)(a1:Int):Option (H4 × Int):=
 (T5 a0 a1).bind λv1=>
 if (v1.2 != 0) then
  some (a0,v1.2)
 else
 (ix a0.a8 v1.1).bind λv2=>
 if (decide (v2.Gen>=a0.Last)) then
  (bF a0 v1.1 (⟨3,v2.Gen,0⟩:O8)).bind λv3=>
  some (v3,0)
 else
 (bF a0 v1.1 (⟨0,z6 (v2.Gen+1),0⟩:O8)).bind λv4=>
 some (v4,0)
def rR(a0:y9)(a1:Int):Option y9:=
 (W9 a0).bind λv1=>
 (DD v1 a1).bind λv2=>
 if (v2.2 != 0) then
  some a0
 else
 (bZ a0 v2.1).bind λv3=>
 (nD a1).bind λv4=>
 (fk v3 v4 (⟨0,0,0,0,false,[]⟩:R4)).bind λv5=>
 some v5
def nI(a0:o6)(a1:Int):Option o6:=
 (M1 a0.S a1).bind λv1=>
 (P5 a0.S a1 (⟨v1.1.Serial,0,v1.1.Weak,v1.1.Prog,v1.1.Started,[]⟩:R4)).bind λv2=>
 (xe v2.1 a1).bind λv3=>
 if (v1.1.Weak==0) then
  (rR v3 a1).bind λv4=>
  some (⟨v4,a0.Roots,a0.a8,a0.T,a0.Q⟩:o6)
 else
 some (⟨v3,a0.Roots,a0.a8,a0.T,a0.Q⟩:o6)
def BE(a0:Int):Option (Int × Int):=
 (kc a0).bind λv1=>
 if v1 then
  some (12,0)
 else
 if (decide (a0<1)) then
  some (0,11)
 else
 some (z6 (a0-1),0)
def J3(a0:o6)(a1:Int):Option o6:=
 (M1 a0.S a1).bind λv1=>
 (BE v1.1.Strong).bind λv2=>
 if (v2.2 != 0) then
  some a0
 else
 (lT a0 a1 v2.1).bind λv3=>
 some v3
def rW(a0:o6)(a1:List Int):Option o6:=
 (rZ a0 a1).bind λv1=>
 (tI a0.a8 v1).bind λv2=>
 jn (λ(j12:G4)=>
  jn (λ(j23:List Int)=>
   (ja a0.T v1).bind λv24=>
   (app 8 j23 v24.2).bind λv25=>
   jn (λ(j34:o6)=>
    jn (λ(j43:o6)=>
     some j43) (λκ42=>
     (lp (S:=Int × o6) (E:=o6) (λ((s45,s46):Int × o6)=>
      if (decide (s45<(v25.length:Int))) then
       (ix v25 s45).bind λv49=>
       (J3 s46 v49).bind λv50=>
       some (.inl (z6 (s45+1),v50))
      else
      some (.inr s46)) (0,j34)).bind λe44=>
     κ42 e44)) (λκ33=>
    (lp (S:=Int × o6) (E:=o6) (λ((s52,s53):Int × o6)=>
     if (decide (s52<(v1.length:Int))) then
      (ix v1 s52).bind λv56=>
      (nI s53 v56).bind λv57=>
      some (.inl (z6 (s52+1),v57))
     else
     some (.inr s53)) (0,(⟨a0.S,a0.Roots,v2.1,v24.1,j12⟩:o6))).bind λe51=>
    κ33 e51)) (λκ22=>
   (lp (S:=Int × (List Int)) (E:=(List Int)) (λ((s59,s60):Int × (List Int))=>
    if (decide (s59<(v1.length:Int))) then
     (ix v1 s59).bind λv63=>
     (M1 a0.S v63).bind λv64=>
     (ke v64.1.Fields).bind λv65=>
     (app 8 s60 v65).bind λv66=>
     some (.inl (z6 (s59+1),v66))
    else
    some (.inr s60)) (0,[])).bind λe58=>
   κ22 e58)) (λκ11=>
  (lp (S:=Int × G4) (E:=G4) (λ((s68,s69):Int × G4)=>
   if (decide (s68<(v2.2.length:Int))) then
    (ix v2.2 s68).bind λv72=>
    (ix v2.1 v72).bind λv73=>
    (lS s69 (⟨2,v72,v73.Call⟩:du)).bind λv74=>
    some (.inl (z6 (s68+1),v74.1))
   else
   some (.inr s69)) (0,a0.Q)).bind λe67=>
  κ11 e67)
def rY(a0:o6):Option (List Int):=
 (xf a0.S).bind λv1=>
 jn (λ(j16:List Int)=>
  some j16) (λκ15=>
  (lp (S:=Int × (List Int)) (E:=(List Int)) (λ((s18,s19):Int × (List Int))=>
   if (decide (s18<(v1.length:Int))) then
    jn (λ(j26:List Int)=>
     some (.inl (z6 (s18+1),j26))) (λκ25=>
     (ix v1 s18).bind λv27=>
     (M1 a0.S v27).bind λv28=>
     if (v28.1.Strong==0) then
      (app 8 s19 [v27]).bind λv29=>
      κ25 v29
     else
     κ25 s19)
   else
   some (.inr s19)) (0,[])).bind λe17=>
  κ15 e17)
def aN(a0:o6):Option o6:=
 jn (λ(j21:o6)=>
  some j21) (λκ20=>
  (lp (S:=Int × o6) (E:=o6 ⊕ o6) (λ((s23,s24):Int × o6)=>
   if (decide (s23<100)) then
    jn (λ(j34:o6)=>
     some (.inl (z6 (s23+1),j34))) (λκ33=>
     (rY s24).bind λv35=>
     if ((v35.length:Int)==0) then
      some (.inr (.inl s24))
     else
     (ix v35 0).bind λv36=>
     (rX s24 v36).bind λv37=>
     if v37 then
      (lU s24 v36).bind λv38=>
      κ33 v38
     else
     (cut v35 0 1).bind λv39=>
     (rW s24 v39).bind λv40=>
     κ33 v40)
   else
   some (.inr (.inr s24))) (0,a0)).bind λe22=>
  match e22 with
  | .inl w=>some w
  | .inr w=>κ20 w)
def gu(a0:o6)(a1:Int):Option Bool:=
 (z8 ((a1==0)==false) false (gr a0 a1)).bind λv1=>
 some ((a1==0)||v1)
def gU(a0:o6)(a1:Int)(a2:Int):Option (o6 × Int):=
 if ((decide (a1<0))||(decide (a1 > 5))) then
  some (a0,6)
 else
 (gu a0 a2).bind λv1=>
 if (!v1) then
  some (a0,3)
 else
 (ix a0.Roots a1).bind λv2=>
 (ca a0 a2).bind λv3=>
 (app 8 [] a0.Roots).bind λv4=>
 (ix v4 a1).bind λv5=>
 (J3 (⟨v3.S,(v4.set (a1).toNat a2),v3.a8,v3.T,v3.Q⟩:o6) v2).bind λv6=>
 some (v6,0)
def oR(a0:G4)(a1:Int):Option Bool:=
 jn (λ(_:Unit)=>
  some false) (λκ5=>
  (lp (S:=Int) (E:=Bool ⊕ Unit) (λ(s8:Int)=>
   if (decide (s8<(a0.L.length:Int))) then
    (ix a0.L s8).bind λv10=>
    if ((v10.Kind==2)&&(v10.At==a1)) then
     some (.inr (.inl true))
    else
    some (.inl (z6 (s8+1)))
   else
   some (.inr (.inr ()))) 0).bind λe7=>
  match e7 with
  | .inl w=>some w
  | .inr w=>κ5 w)
def BI(a0:List H5)(a1:Int)(a2:Int)(a3:Int):Option ((List H5) × Int × Int):=
 if ((decide (a1<0))||(decide (a1>=(a0.length:Int)))) then
  some (a0,0,7)
 else
 (app 24 [] a0).bind λv1=>
 (ix v1 a1).bind λv2=>
 (ix a0 a1).bind λv3=>
 some ((v1.set (a1).toNat (⟨a2,(a2 != 0),a3⟩:H5)),v3.Target,0)
def cD(a0:o6)(a1:Int):Option o6:=
 (W9 a0.S).bind λv1=>
 (T5 v1 a1).bind λv2=>
 if (v2.2 != 0) then
  some a0
 else
 (ix a0.S.a8 v2.1).bind λv3=>
 (P5 a0.S a1 (⟨v3.Val.Serial,v3.Val.Strong,z6 (v3.Val.Weak-1),v3.Val.Prog,v3.Val.Started,v3.Val.Fields⟩:R4)).bind λv4=>
 (ix v4.1.a8 v2.1).bind λv5=>
 if ((v5.State==2)&&(decide ((z6 (v3.Val.Weak-1))<1))) then
  (rR v4.1 a1).bind λv6=>
  some (⟨v6,a0.Roots,a0.a8,a0.T,a0.Q⟩:o6)
 else
 some (⟨v4.1,a0.Roots,a0.a8,a0.T,a0.Q⟩:o6)
def gV(a0:o6)(a1:Int)(a2:Int)(a3:Int):Option (o6 × Int):=
 (z8 (((decide (a1<0))||(decide (a1 > 5)))==false) false (oR a0.Q a1)).bind λv1=>
 if (((decide (a1<0))||(decide (a1 > 5)))||v1) then
  some (a0,7)
 else
 (gu a0 a2).bind λv2=>
 if (!v2) then
  some (a0,3)
 else
 (BI a0.a8 a1 a2 a3).bind λv3=>
 if (a2 != 0) then
  (M1 a0.S a2).bind λv4=>
  (P5 a0.S a2 (⟨v4.1.Serial,v4.1.Strong,z6 (v4.1.Weak+1),v4.1.Prog,v4.1.Started,v4.1.Fields⟩:R4)).bind λv5=>
  (cD (⟨v5.1,a0.Roots,v3.1,a0.T,a0.Q⟩:o6) v3.2.1).bind λv6=>
  some (v6,0)
 else
 (cD (⟨a0.S,a0.Roots,v3.1,a0.T,a0.Q⟩:o6) v3.2.1).bind λv7=>
 some (v7,0)
def ae(a0:o6)(a1:Int):Option (Int × Int):=
 (ix a0.Roots a1).bind λv1=>
 if (v1==0) then
  some (0,2)
 else
 some (v1,0)
def kh(a0:o6)(a1:Int):Option Int:=
 if (decide (a1<0)) then
  some 0
 else
 (ix a0.Roots a1).bind λv1=>
 some v1
def xd(a0:List Int)(a1:Int):Option (Int × Int):=
 if ((decide (a1<0))||(decide (a1>=(a0.length:Int)))) then
  some (0,5)
 else
 (ix a0 a1).bind λv1=>
 some (v1,0)
def gq(a0:y9)(a1:Int)(a2:Int):Option (Int × Int):=
 (M1 a0 a1).bind λv1=>
 if (v1.2 != 0) then
  some (0,v1.2)
 else
 (xd v1.1.Fields a2).bind λv2=>
 some (v2.1,v2.2)
def DF(a0:List Int)(a1:Int)(a2:Int):Option ((List Int) × Int):=
 if ((decide (a1<0))||(decide (a1>=(a0.length:Int)))) then
  some (a0,5)
 else
 (app 8 [] a0).bind λv1=>
 (ix v1 a1).bind λv2=>
 some ((v1.set (a1).toNat a2),0)
def BG(a0:y9)(a1:Int)(a2:Int)(a3:Int):Option (y9 × Int):=
 (M1 a0 a1).bind λv1=>
 if (v1.2 != 0) then
  some (a0,v1.2)
 else
 (DF v1.1.Fields a2 a3).bind λv2=>
 if (v2.2 != 0) then
  some (a0,v2.2)
 else
 (P5 a0 a1 (⟨v1.1.Serial,v1.1.Strong,v1.1.Weak,v1.1.Prog,v1.1.Started,v2.1⟩:R4)).bind λv3=>
 some (v3.1,v3.2)
def kg(a0:o6)(a1:Int)(a2:Int)(a3:Int):Option (o6 × Int):=
 (gq a0.S a1 a2).bind λv1=>
 if (v1.2 != 0) then
  some (a0,v1.2)
 else
 (gu a0 a3).bind λv2=>
 if (!v2) then
  some (a0,3)
 else
 (ca a0 a3).bind λv3=>
 (BG v3.S a1 a2 a3).bind λv4=>
 (J3 (⟨v4.1,v3.Roots,v3.a8,v3.T,v3.Q⟩:o6) v1.1).bind λv5=>
 some (v5,0)
def DG(a0:Int)(a1:Int):Option Int:=
 if (decide (a0<1)) then
  some 0
 else
 (rem (z6 ((z6 (5*a1))+1)) a0).bind λv1=>
 if (decide (v1<0)) then
  some (z6 (v1+a0))
 else
 some v1
def BJ(a0:List B6)(a1:Int)(a2:Int):Option ((List B6) × Int):=
 (fm a0 a1).bind λv1=>
 if (decide (v1>=0)) then
  (fp a0 v1 (⟨1,a1,a2⟩:B6)).bind λv2=>
  some (v2,0)
 else
 (DG (a0.length:Int) a1).bind λv3=>
 jn (λ(_:Unit)=>
  some (a0,8)) (λκ12=>
  (lp (S:=Int × Int) (E:=((List B6) × Int) ⊕ Unit) (λ((s15,s16):Int × Int)=>
   if (decide (s16<(a0.length:Int))) then
    (ix a0 s15).bind λv19=>
    if (v19.State != 1) then
     (fp a0 s15 (⟨1,a1,a2⟩:B6)).bind λv20=>
     some (.inr (.inl (v20,0)))
    else
    (rem (z6 (s15+1)) (a0.length:Int)).bind λv21=>
    some (.inl (v21,z6 (s16+1)))
   else
   some (.inr (.inr ()))) (v3,0)).bind λe14=>
  match e14 with
  | .inl w=>some w
  | .inr w=>κ12 w)
def BK(a0:List B6)(a1:Int)(a2:Int):Option ((List B6) × Int × Int):=
 if (a1==0) then
  some (a0,0,2)
 else
 (vt a0 a1).bind λv1=>
 if (a2==0) then
  (nG a0 a1).bind λv2=>
  some (v2.1,v1.1,0)
 else
 (BJ a0 a1 a2).bind λv3=>
 if (v3.2 != 0) then
  some (a0,0,v3.2)
 else
 some (v3.1,v1.1,0)
def nH(a0:o6)(a1:Int)(a2:Int):Option (o6 × Int):=
 if (a1==0) then
  some (a0,2)
 else
 (gr a0 a1).bind λv1=>
 (z8 ((!v1)==false) false (gu a0 a2)).bind λv2=>
 if ((!v1)||(!v2)) then
  some (a0,3)
 else
 (BK a0.T a1 a2).bind λv3=>
 if (v3.2.2 != 0) then
  some (a0,v3.2.2)
 else
 (ca a0 a2).bind λv4=>
 (J3 (⟨v4.S,v4.Roots,v4.a8,v3.1,v4.Q⟩:o6) v3.2.1).bind λv5=>
 some (v5,0)
def cG(a0:o6)(a1:au):Option (o6 × Int × Int):=
 if ((a1.Kind==6)&&(decide (a1.B<0))) then
  (gV a0 a1.A 0 a1.C).bind λv1=>
  some (v1.1,0,v1.2)
 else
 jn (λ(j3:Int)=>
  (ae a0 j3).bind λv4=>
  if (v4.2 != 0) then
   some (a0,0,v4.2)
  else
  if (a1.Kind==5) then
   (kh a0 a1.C).bind λv5=>
   (kg a0 v4.1 a1.B v5).bind λv6=>
   some (v6.1,v5,v6.2)
  else
  if (a1.Kind==6) then
   (gV a0 a1.A v4.1 a1.C).bind λv7=>
   some (v7.1,v4.1,v7.2)
  else
  (kh a0 a1.B).bind λv8=>
  (nH a0 v4.1 v8).bind λv9=>
  some (v9.1,v8,v9.2)) (λκ2=>
  if (a1.Kind==6) then
   κ2 a1.B
  else
  κ2 a1.A)
def vr(a0:Int):Option ((List Int) × Int):=
 if ((decide (a0<0))||(decide (a0 > 4))) then
  some ([],1)
 else
 (mk 8 a0 (0:Int)).bind λv1=>
 some (v1,0)
def nF(a0:H4)(a1:Int):Option (H4 × Int × Int):=
 jn (λ(_:Unit)=>
  some (a0,0,4)) (λκ7=>
  (lp (S:=Int) (E:=(H4 × Int × Int) ⊕ Unit) (λ(s10:Int)=>
   if (decide (s10<(a0.a8.length:Int))) then
    (ix a0.a8 s10).bind λv12=>
    if (v12.State==0) then
     (bF a0 s10 (⟨1,v12.Gen,a1⟩:O8)).bind λv13=>
     (jZ s10 v12.Gen).bind λv14=>
     some (.inr (.inl (v13,v14,0)))
    else
    some (.inl (z6 (s10+1)))
   else
   some (.inr (.inr ()))) 0).bind λe9=>
  match e9 with
  | .inl w=>some w
  | .inr w=>κ7 w)
def fi(a0:y9)(a1:Int)(a2:Int):Option (y9 × Int × Int):=
 (vr a1).bind λv1=>
 if (v1.2 != 0) then
  some (a0,0,v1.2)
 else
 if ((decide (a2<(-1)))||(decide (a2 > 5))) then
  some (a0,0,13)
 else
 (W9 a0).bind λv2=>
 (nF v2 0).bind λv3=>
 if (v3.2.2 != 0) then
  some (a0,0,v3.2.2)
 else
 (bZ a0 v3.1).bind λv4=>
 (nD v3.2.1).bind λv5=>
 (fk v4 v5 (⟨z6 (a0.Serial+1),0,0,a2,false,v1.1⟩:R4)).bind λv6=>
 some ((⟨v6.a8,v6.Last,z6 (a0.Serial+1)⟩:y9),v3.2.1,0)
def rU(a0:List H5)(a1:Int):Option (Int × Int):=
 if ((decide (a1<0))||(decide (a1>=(a0.length:Int)))) then
  some (0,7)
 else
 (ix a0 a1).bind λv1=>
 if ((v1.Target==0)||(!v1.Intact)) then
  some (0,9)
 else
 some (v1.Target,0)
def vu(a0:List B6)(a1:Int):Option (Int × Int):=
 (vt a0 a1).bind λv1=>
 some (v1.1,v1.2)
def ed(a0:o6)(a1:au):Option (Int × Int):=
 if (a1.Kind==2) then
  (ix a0.Roots a1.B).bind λv1=>
  some (v1,0)
 else
 if (a1.Kind==4) then
  (ae a0 a1.B).bind λv2=>
  if (v2.2 != 0) then
   some (0,v2.2)
  else
  (gq a0.S v2.1 a1.C).bind λv3=>
  some (v3.1,v3.2)
 else
 if (a1.Kind==7) then
  (rU a0.a8 a1.B).bind λv4=>
  some (v4.1,v4.2)
 else
 if (a1.Kind==9) then
  (ae a0 a1.B).bind λv5=>
  if (v5.2 != 0) then
   some (0,v5.2)
  else
  (vu a0.T v5.1).bind λv6=>
  some (v6.1,v6.2)
 else
 some (0,0)
def E1(a0:o6)(a1:au):Option (o6 × Int × Int):=
 (cE a1).bind λv1=>
 if (v1 != 0) then
  some (a0,0,v1)
 else
 (ab a1).bind λv2=>
 if (!v2) then
  some (a0,0,14)
 else
 if (a1.Kind==10) then
  (ix a0.Roots a1.A).bind λv3=>
  (ix a0.Roots a1.B).bind λv4=>
  if (v3==v4) then
   some (a0,1,0)
  else
  some (a0,0,0)
 else
 jn (λ(j6:Bool)=>
  if j6 then
   (cG a0 a1).bind λv7=>
   if (v7.2.2 != 0) then
    some (a0,0,v7.2.2)
   else
   (aN v7.1).bind λv8=>
   (gX a0 v7.2.1).bind λv9=>
   some (v8,v9,0)
  else
  if (a1.Kind==1) then
   (fi a0.S a1.B a1.C).bind λv10=>
   if (v10.2.2 != 0) then
    some (a0,0,v10.2.2)
   else
   (gU (⟨v10.1,a0.Roots,a0.a8,a0.T,a0.Q⟩:o6) a1.A v10.2.1).bind λv11=>
   (aN v11.1).bind λv12=>
   (tJ v12 a1.A).bind λv13=>
   some (v12,v13,0)
  else
  (ed a0 a1).bind λv14=>
  if (v14.2 != 0) then
   some (a0,0,v14.2)
  else
  (gU a0 a1.A v14.1).bind λv15=>
  (aN v15.1).bind λv16=>
  (tJ v16 a1.A).bind λv17=>
  some (v16,v17,0)) (λκ5=>
  if (a1.Kind==5) then
   κ5 (a1.Kind==5)
  else
  if (a1.Kind==6) then
   κ5 (a1.Kind==6)
  else
  κ5 (a1.Kind==8))
def HI(a0:o6)(a1:List au):Option (o6 × (List Int)):=
 jn (λ((j11,j12):o6 × (List Int))=>
  some (j11,j12)) (λκ10=>
  (lp (S:=Int × o6 × (List Int)) (E:=(o6 × (List Int))) (λ((s15,s16,s17):Int × o6 × (List Int))=>
   if (decide (s15<(a1.length:Int))) then
    (ix a1 s15).bind λv20=>
    (E1 s16 v20).bind λv21=>
    (app 8 s17 [v21.2.1]).bind λv22=>
    some (.inl (z6 (s15+1),v21.1,v22))
   else
   some (.inr (s16,s17))) (0,a0,[])).bind λe14=>
  κ10 e14)
end
end Go.Sh
