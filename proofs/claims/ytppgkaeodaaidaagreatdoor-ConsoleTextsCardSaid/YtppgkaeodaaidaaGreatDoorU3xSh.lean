/-
 Plain functions: what the functions of the program come to.
-/
import Derived.Test.YtppgkaeodaaidaaGreatDoorU3xSh0
import Derived.Test.YtppgkaeodaaidaaGreatDoorU3xPwD
import Derived.Test.YtppgkaeodaaidaaGreatDoorU3xPwC
import Derived.Test.YtppgkaeodaaidaaGreatDoorU3xPwE
set_option linter.unusedVariables false
set_option linter.unusedSimpArgs false
set_option linter.unusedSectionVars false
namespace Go.Sh
set_option maxRecDepth 100000
noncomputable section
structure r6 where
 V:Int
 E:Int
structure r4 where
 Serial:Int
 Strong:Int
 Weak:Int
 Prog:Int
 Started:Bool
 Fields:List Int
structure b4 where
 State:Int
 Gen:Int
 Val:r4
structure c8 where
 Target:Int
 Intact:Bool
 Call:Int
structure a8 where
 State:Int
 Key:Int
 Val:Int
structure l5 where
 Kind:Int
 At:Int
 Prog:Int
structure j8 where
 Kind:Int
 A:Int
 B:Int
 C:Int
structure o5 where
 start:Int
 end_:Int
structure b7 where
 p7:List b4
 Last:Int
structure b6 where
 S:b7
 Serial:Int
structure b5 where
 L:List l5
 Cap:Int
structure a6 where
 S:b6
 Roots:List Int
 p7:List c8
 T:List a8
 Q:b5
structure o8 where
 X:a6
 Progs:List (List j8)
structure b9 where
 g:o8
 begun:Bool
 progs:List (List j8)
structure b1 where
 takes:Fw
 run:Fw
 early:Bool
structure c6 where
 part:Fv
 least:Int
 most:Int
 e:Int
structure o0 where
 x:a6
 o:j8
structure B4 where
 r:Int
 h:Int
structure A5 where
 h:Int
 k:Int
 v:Int
structure B3 where
 t:List a8
structure l4 where
 Key:Int
 Val:Int
structure e6 where
 L:List Int
 Cap:Int
structure Q8 where
 V:Int
 E:Int
def Y7(a0:Int):Option Bool:=
 some (((a0==9)||(a0==13))||(a0==32))
def F4(a0:ByteArray):Option (List ByteArray):=
 jn (λ((j10,j11):Int × (List o5))=>
  jn (λ(j15:List o5)=>
   (mk 16 (j15.length:Int) (ByteArray.empty:ByteArray)).bind λv16=>
   jn (λ(j26:List ByteArray)=>
    some j26) (λκ25=>
    (lp (S:=Int × (List ByteArray)) (E:=(List ByteArray)) (λ((s28,s29):Int × (List ByteArray))=>
     if (decide (s28<(j15.length:Int))) then
      (ix j15 s28).bind λv32=>
      (a6K a0 v32.start v32.end_).bind λv33=>
      (ix s29 s28).bind λv34=>
      some (.inl (C6 (s28+1),(s29.set (s28).toNat v33)))
     else
     some (.inr s29)) (0,v16)).bind λe27=>
    κ25 e27)) (λκ14=>
   if (decide (j10≥0)) then
    (app 16 j11 [(⟨j10,(a0.size:Int)⟩:o5)]).bind λv35=>
    κ14 v35
   else
   κ14 j11)) (λκ9=>
  (lp (S:=Int × Nat × (List o5)) (E:=(Int × (List o5))) (λ((s37,s38,s39):Int × Nat × (List o5))=>
   if (decide (s38<a0.size)) then
    (Y7 ((dec a0 s38).1:Int)).bind λv42=>
    if v42 then
     if (decide (s37≥0)) then
      (app 16 s39 [(⟨s37,((s38:Nat):Int)⟩:o5)]).bind λv43=>
      some (.inl (b0O .i64 s37,(s38+(dec a0 s38).2),v43))
     else
     some (.inl (s37,(s38+(dec a0 s38).2),s39))
    else
    if (decide (s37<0)) then
     some (.inl (((s38:Nat):Int),(s38+(dec a0 s38).2),s39))
    else
    some (.inl (s37,(s38+(dec a0 s38).2),s39))
   else
   some (.inr (s37,s39))) ((-1),0,[])).bind λe36=>
  κ9 e36)
def K2(a0:Int):Option Int:=
 some a0
def u3(a0:Int)(a1:Int):Option b1:=
 (K2 a1).bind λv1=>
 some (⟨(some (137,some v1)),(some (138,some a0)),false⟩:b1)
def a1t:Option (List (ByteArray × b1)):=
 (K2 3).bind λv1=>
 (u3 1 3).bind λv2=>
 (u3 2 2).bind λv3=>
 (u3 3 1).bind λv4=>
 (u3 4 3).bind λv5=>
 (u3 5 3).bind λv6=>
 (u3 6 3).bind λv7=>
 (u3 7 2).bind λv8=>
 (u3 8 2).bind λv9=>
 (u3 9 2).bind λv10=>
 (u3 10 2).bind λv11=>
 (u3 11 0).bind λv12=>
 (u3 12 1).bind λv13=>
 (K2 0).bind λv14=>
 some (e8 (e8 (e8 (e8 (e8 (e8 (e8 (e8 (e8 (e8 (e8 (e8 (e8 (e8 (e8 (e8 (e8 [] (l6 [112,114,111,103]) (⟨(some (75,none)),(some (76,none)),true⟩:b1)) (l6 [104,101,97,112]) (⟨(some (137,some v1)),(some (78,none)),true⟩:b1)) (l6 [110,101,119]) v2) (l6 [99,111,112,121]) v3) (l6 [100,114,111,112]) v4) (l6 [108,111,97,100]) v5) (l6 [115,116,111,114,101]) v6) (l6 [119,101,97,107]) v7) (l6 [117,112]) v8) (l6 [112,97,105,114]) v9) (l6 [103,101,116]) v10) (l6 [115,97,109,101]) v11) (l6 [99,111,108,108,101,99,116]) v12) (l6 [100,114,97,105,110]) v13) (l6 [108,105,118,101,115]) (⟨(some (137,some v14)),(some (80,none)),false⟩:b1)) (l6 [114,111,111,116,115]) (⟨(some (137,some v14)),(some (81,none)),false⟩:b1)) (l6 [116,97,108,108,121]) (⟨(some (137,some v14)),(some (82,none)),false⟩:b1))
def L5(a0:ByteArray):Option (Int × Bool):=
 jn (λ((j9,j10,j11):Int × Int × Int)=>
  if (j10==0) then
   some (0,false)
  else
  some (C6 (j11*j9),true)) (λκ8=>
  (lp (S:=Int × Int × Int × Nat) (E:=(Int × Int × Int)) (λ((s14,s15,s16,s17):Int × Int × Int × Nat)=>
   if (decide (s17<a0.size)) then
    if ((((s17:Nat):Int)==0)&&(((dec a0 s17).1:Int)==45)) then
     some (.inl (s14,s15,(-1),(s17+(dec a0 s17).2)))
    else
    if (((decide (((dec a0 s17).1:Int)<48))||(decide (((dec a0 s17).1:Int) > 57)))||(s15==9)) then
     some (.inr (s14,0,s16))
    else
    some (.inl (C6 ((C6 (s14*10))+(C6 (IntKind.i32.wrap (((dec a0 s17).1:Int)-48)))),C6 (s15+1),s16,(s17+(dec a0 s17).2)))
   else
   some (.inr (s14,s15,s16))) (0,0,1,0)).bind λe13=>
  κ8 e13)
def a0S(a0:List ByteArray):Option ((List Int) × Bool):=
 jn (λ(j10:List Int)=>
  some (j10,true)) (λκ9=>
  (lp (S:=Int × (List Int)) (E:=((List Int) × Bool) ⊕ (List Int)) (λ((s12,s13):Int × (List Int))=>
   if (decide (s12<(a0.length:Int))) then
    (ix a0 s12).bind λv16=>
    (L5 v16).bind λv17=>
    if (!v17.2) then
     some (.inr (.inl ([],false)))
    else
    (app 8 s13 [v17.1]).bind λv18=>
    some (.inl (C6 (s12+1),v18))
   else
   some (.inr (.inr s13))) (0,[])).bind λe11=>
  match e11 with
  | .inl w=>some w
  | .inr w=>κ9 w)
def Q1(a0:Int):Option Bool:=
 (rem a0 4).bind λv1=>
 some (v1==1)
def T8(a0:Int)(a1:Int):Option Bool:=
 some (a0==a1)
def a9s(f:Fw)(a0:Int):Option Bool:=
 match f with
 | none=>none
 | some (n,none)=>
  if n=75 then Q1 a0 else
  none
 | some (n,some c)=>
  if n=137 then T8 a0 c else
  none
def A3(a0:Int):Option ByteArray:=
 (a4o a0).bind λv1=>
 (a52 (l6 [101,114,114,111,114,32]) v1).bind λv2=>
 some v2
def a4u(a0:j8):Option Bool:=
 some ((decide (a0.Kind≥1))&&(decide (a0.Kind≤10)))
def K8:Option c6:=
 some (⟨(some 169),0,5,6⟩:c6)
def H0:Option c6:=
 some (⟨(some 172),(-1),5,13⟩:c6)
def C3(a0:List c6):Option (List c6):=
 some a0
def K9:Option c6:=
 some (⟨(some 170),0,5,6⟩:c6)
def J5:Option c6:=
 some (⟨(some 172),0,3,5⟩:c6)
def J4:Option c6:=
 some (⟨(some 170),0,3,5⟩:c6)
def F0:Option c6:=
 some (⟨(some 172),(-1),5,6⟩:c6)
def K6:Option c6:=
 some (⟨(some 169),0,5,7⟩:c6)
def E9:Option c6:=
 some (⟨(some 170),(-1),5,6⟩:c6)
def K7:Option c6:=
 some (⟨(some 170),0,5,7⟩:c6)
def a4Y:Option (List (Int × (List c6))):=
 (K8).bind λv1=>
 (H0).bind λv2=>
 (C3 [v1,(⟨(some 170),0,4,1⟩:c6),v2]).bind λv3=>
 (K9).bind λv4=>
 (C3 [v1,v4]).bind λv5=>
 (C3 [v1]).bind λv6=>
 (J5).bind λv7=>
 (C3 [v1,v4,v7]).bind λv8=>
 (J4).bind λv9=>
 (F0).bind λv10=>
 (C3 [v1,v9,v10]).bind λv11=>
 (K6).bind λv12=>
 (E9).bind λv13=>
 (C3 [v12,v13,v2]).bind λv14=>
 (K7).bind λv15=>
 (C3 [v1,v15]).bind λv16=>
 (C3 [v1,v13]).bind λv17=>
 (C3 []).bind λv18=>
 (C3 [(⟨(some 169),0,200,12⟩:c6)]).bind λv19=>
 some (e8 (e8 (e8 (e8 (e8 (e8 (e8 (e8 (e8 (e8 (e8 (e8 [] 1 v3) 2 v5) 3 v6) 4 v8) 5 v11) 6 v14) 7 v16) 8 v17) 9 v5) 10 v5) 11 v18) 12 v19)
def a4w(a0:j8):Option Int:=
 some a0.A
def a4x(a0:j8):Option Int:=
 some a0.B
def a4y(a0:j8):Option Int:=
 some a0.C
def a9p(f:Fv)(a0:j8):Option Int:=
 if f=some 169 then a4w a0 else
 if f=some 170 then a4x a0 else
 if f=some 172 then a4y a0 else
 none
def a0r(a0:j8):Option Int:=
 (a4Y).bind λv1=>
 if (!((F9 v1 a0.Kind).isSome)) then
  some 14
 else
 jn (λ(_:Unit)=>
  some 0) (λκ8=>
  (lp (S:=Int) (E:=Int ⊕ Unit) (λ(s11:Int)=>
   if (decide (s11<(((F9 v1 a0.Kind).getD ([]:List c6)).length:Int))) then
    (ix ((F9 v1 a0.Kind).getD ([]:List c6)) s11).bind λv13=>
    (a9p v13.part a0).bind λv14=>
    if ((decide (v14<v13.least))||(decide (v14 > v13.most))) then
     some (.inr (.inl v13.e))
    else
    some (.inl (C6 (s11+1)))
   else
   some (.inr (.inr ()))) 0).bind λe10=>
  match e10 with
  | .inl w=>some w
  | .inr w=>κ8 w)
def a4v(a0:List (List j8)):Option Bool:=
 if (decide ((a0.length:Int) > 6)) then
  some false
 else
 jn (λ(_:Unit)=>
  some true) (λκ20=>
  (lp (S:=Int) (E:=Bool ⊕ Unit) (λ(s23:Int)=>
   if (decide (s23<(a0.length:Int))) then
    jn (λ(_:Unit)=>
     some (.inl (C6 (s23+1)))) (λκ32=>
     (ix a0 s23).bind λv34=>
     if (decide ((v34.length:Int) > 6)) then
      some (.inr (.inl false))
     else
     (lp (S:=Int) (E:=Bool ⊕ Unit) (λ(s36:Int)=>
      if (decide (s36<(v34.length:Int))) then
       (ix v34 s36).bind λv38=>
       (a4u v38).bind λv39=>
       (y7 ((!v39)==false) 0 (a0r v38)).bind λv40=>
       if ((!v39)||(v40 != 0)) then
        some (.inr (.inl false))
       else
       some (.inl (C6 (s36+1)))
      else
      some (.inr (.inr ()))) 0).bind λe35=>
     match e35 with
     | .inl w=>some (.inr (.inl w))
     | .inr w=>κ32 w)
   else
   some (.inr (.inr ()))) 0).bind λe22=>
  match e22 with
  | .inl w=>some w
  | .inr w=>κ20 w)
def R2(a0:b9)(a1:List Int):Option (b9 × ByteArray):=
 (ix a1 0).bind λv1=>
 if ((decide (v1<0))||(decide (v1≥6))) then
  (A3 13).bind λv2=>
  some (a0,v2)
 else
 (mk 24 (if (a0.progs.length:Int) > (C6 (v1+1)) then (a0.progs.length:Int) else C6 (v1+1)) ([]:List j8)).bind λv3=>
 (cpy v3 a0.progs).bind λv4=>
 (ix v4 v1).bind λv5=>
 jn (λ(j19:List j8)=>
  (a4v (v4.set ((v1).toNat) j19)).bind λv20=>
  if (!v20) then
   (A3 13).bind λv21=>
   some (a0,v21)
  else
  some ((⟨a0.g,a0.begun,(v4.set ((v1).toNat) j19)⟩:b9),(l6 [111,107]))) (λκ18=>
  (cut a1 1 (a1.length:Int)).bind λv22=>
  (lp (S:=(List Int) × (List j8)) (E:=(List j8)) (λ((s24,s25):(List Int) × (List j8))=>
   if (decide ((s24.length:Int) > 0)) then
    (ix s24 0).bind λv28=>
    (ix s24 1).bind λv29=>
    (ix s24 2).bind λv30=>
    (ix s24 3).bind λv31=>
    (app 32 s25 [(⟨v28,v29,v30,v31⟩:j8)]).bind λv32=>
    (cut s24 4 (s24.length:Int)).bind λv33=>
    some (.inl (v33,v32))
   else
   some (.inr s25)) (v22,[])).bind λe23=>
  κ18 e23)
def a0E(a0:Int)(a1:Int):Option b7:=
 if ((((decide (a0<0))||(decide (a0 > 24)))||(decide (a1<0)))||(decide (a1 > 9))) then
  some (⟨[],0⟩:b7)
 else
 (mk 80 a0 (⟨0,0,⟨0,0,0,0,false,[]⟩⟩:b4)).bind λv1=>
 some (⟨v1,a1⟩:b7)
def a8X(a0:Int)(a1:Int):Option b6:=
 (a0E a0 a1).bind λv1=>
 some (⟨v1,0⟩:b6)
def b0A(a0:Int):Option (List c8):=
 if ((decide (a0<0))||(decide (a0 > 6))) then
  some []
 else
 (mk 24 a0 (⟨0,false,0⟩:c8)).bind λv1=>
 jn (λ(j9:List c8)=>
  some j9) (λκ8=>
  (lp (S:=Int × (List c8)) (E:=(List c8)) (λ((s11,s12):Int × (List c8))=>
   if (decide (s11<(v1.length:Int))) then
    (ix s12 s11).bind λv15=>
    some (.inl (C6 (s11+1),(s12.set (s11).toNat (⟨v15.Target,v15.Intact,(-1)⟩:c8))))
   else
   some (.inr s12)) (0,v1)).bind λe10=>
  κ8 e10)
def a99(a0:Int):Option (List a8):=
 if ((decide (a0<1))||(decide (a0 > 8))) then
  some []
 else
 (mk 24 a0 (⟨0,0,0⟩:a8)).bind λv1=>
 some v1
def O1(a0:Int):Option b5:=
 some (⟨[],a0⟩:b5)
def b0v:Option b5:=
 (O1 30).bind λv1=>
 some v1
def b0d(a0:Int)(a1:Int)(a2:Int):Option a6:=
 if ((((((decide (a0<1))||(decide (a0 > 24)))||(decide (a1<0)))||(decide (a1 > 9)))||(decide (a2<1)))||(decide (a2 > 8))) then
  some (⟨⟨⟨[],0⟩,0⟩,[],[],[],⟨[],0⟩⟩:a6)
 else
 (a8X a0 a1).bind λv1=>
 (mk 8 6 (0:Int)).bind λv2=>
 (b0A 6).bind λv3=>
 (a99 a2).bind λv4=>
 (b0v).bind λv5=>
 some (⟨v1,v2,v3,v4,v5⟩:a6)
def a7l(a0:Int)(a1:Int)(a2:Int)(a3:List (List j8)):Option (o8 × Int):=
 (a4v a3).bind λv1=>
 if (!v1) then
  some ((⟨⟨⟨⟨[],0⟩,0⟩,[],[],[],⟨[],0⟩⟩,[]⟩:o8),13)
 else
 (b0d a0 a1 a2).bind λv2=>
 if ((v2.Roots.length:Int)==0) then
  some ((⟨⟨⟨⟨[],0⟩,0⟩,[],[],[],⟨[],0⟩⟩,[]⟩:o8),1)
 else
 some ((⟨v2,a3⟩:o8),0)
def L6(a0:b9)(a1:List Int):Option (b9 × ByteArray):=
 (ix a1 0).bind λv1=>
 (ix a1 1).bind λv2=>
 (ix a1 2).bind λv3=>
 (a7l v1 v2 v3 a0.progs).bind λv4=>
 if (v4.2 != 0) then
  (A3 v4.2).bind λv5=>
  some (a0,v5)
 else
 some ((⟨v4.1,true,a0.progs⟩:b9),(l6 [111,107]))
def a3c(a0:Int)(a1:Int):Option Int:=
 if ((((decide (a0<0))||(decide (a0≥24)))||(decide (a1<0)))||(decide (a1 > 9))) then
  some 0
 else
 some (C6 ((C6 (1+(C6 (a0*1))))+(C6 (a1*32))))
def cmp_isNaN_int(a0:Int):Option Bool:=
 some (a0 != a0)
def Y5(a0:Int)(a1:Int):Option Int:=
 (cmp_isNaN_int a0).bind λv1=>
 (cmp_isNaN_int a1).bind λv2=>
 if v1 then
  if v2 then
   some 0
  else
  some (-1)
 else
 if v2 then
  some 1
 else
 if (decide (a0<a1)) then
  some (-1)
 else
 if (decide (a0 > a1)) then
  some 1
 else
 some 0
def a2q(a0:Int)(a1:Int)(a2:List (Int × Int)):Option Int:=
 (Y5 ((F9 a2 a0).getD (0:Int)) ((F9 a2 a1).getD (0:Int))).bind λv1=>
 some v1
def H3(a0:b6):Option (List Int):=
 jn (λ((j18,j19):(List (Int × Int)) × (List Int))=>
  (a7U (λp q=>a2q p q j18) j19).bind λv21=>
  some v21) (λκ17=>
  (lp (S:=Int × (List (Int × Int)) × (List Int)) (E:=((List (Int × Int)) × (List Int))) (λ((s23,s24,s25):Int × (List (Int × Int)) × (List Int))=>
   if (decide (s23<(a0.S.p7.length:Int))) then
    jn (λ((j32,j33):(List (Int × Int)) × (List Int))=>
     some (.inl (C6 (s23+1),j32,j33))) (λκ31=>
     (ix a0.S.p7 s23).bind λv35=>
     if (v35.State==1) then
      (a3c s23 v35.Gen).bind λv36=>
      (app 8 s25 [v36]).bind λv37=>
      κ31 ((e8 s24 v36 v35.Val.Serial),v37)
     else
     κ31 (s24,s25))
   else
   some (.inr (s24,s25))) (0,[],[])).bind λe22=>
  κ17 e22)
def a10(a0:Int):Option (Int × Int × Bool):=
 if (decide (a0<1)) then
  some ((-1),(-1),false)
 else
 (rem (C6 (a0-1)) 32).bind λv1=>
 (quo .i64 v1 1).bind λv2=>
 (quo .i64 (C6 (a0-1)) 32).bind λv3=>
 if ((decide (v2≥24))||(decide (v3 > 9))) then
  some ((-1),(-1),false)
 else
 some (v2,v3,true)
def a3e(a0:Int):Option Int:=
 (a10 a0).bind λv1=>
 some v1.1
def a4E(a0:Int):Option Int:=
 (a10 a0).bind λv1=>
 some v1.2.1
def C1(a0:b7)(a1:Int):Option (Int × Int):=
 if (a1==0) then
  some ((-1),2)
 else
 (a3e a1).bind λv1=>
 if ((decide (v1<0))||(decide (v1≥(a0.p7.length:Int)))) then
  some ((-1),3)
 else
 (ix a0.p7 v1).bind λv2=>
 (a4E a1).bind λv3=>
 if ((v2.Gen != v3)||((v2.State != 1)&&(v2.State != 2))) then
  some ((-1),3)
 else
 some (v1,0)
def Q9(a0:b7)(a1:Int):Option (r4 × Int):=
 (C1 a0 a1).bind λv1=>
 if (v1.2 != 0) then
  some ((⟨0,0,0,0,false,[]⟩:r4),v1.2)
 else
 (ix a0.p7 v1.1).bind λv2=>
 if (v2.State==2) then
  some ((⟨0,0,0,0,false,[]⟩:r4),3)
 else
 some (v2.Val,0)
def z6(a0:b6)(a1:Int):Option (r4 × Int):=
 (Q9 a0.S a1).bind λv1=>
 some (v1.1,v1.2)
def a0x(a0:a6)(a1:Int):Option Int:=
 (z6 a0.S a1).bind λv1=>
 some v1.1.Serial
def a43(a0:o8):Option (List Int):=
 jn (λ(j11:List Int)=>
  (a6Z j11).bind λv12=>
  some v12) (λκ10=>
  (H3 a0.X.S).bind λv13=>
  (lp (S:=Int × (List Int)) (E:=(List Int)) (λ((s15,s16):Int × (List Int))=>
   if (decide (s15<(v13.length:Int))) then
    (ix v13 s15).bind λv19=>
    (a0x a0.X v19).bind λv20=>
    (app 8 s16 [v20]).bind λv21=>
    some (.inl (C6 (s15+1),v21))
   else
   some (.inr s16)) (0,[])).bind λe14=>
  κ10 e14)
def T9(a0:ByteArray)(a1:List Int):Option ByteArray:=
 jn (λ(j11:ByteArray)=>
  some j11) (λκ10=>
  (lp (S:=ByteArray × Int) (E:=ByteArray) (λ((s13,s14):ByteArray × Int)=>
   if (decide (s14<(a1.length:Int))) then
    (ix a1 s14).bind λv17=>
    (a4o v17).bind λv18=>
    (a52 (l6 [32]) v18).bind λv19=>
    (a52 s13 v19).bind λv20=>
    some (.inl (v20,C6 (s14+1)))
   else
   some (.inr s13)) (a0,0)).bind λe12=>
  κ10 e12)
def L0(a0:b9)(a1:List Int):Option (b9 × ByteArray):=
 (a43 a0.g).bind λv1=>
 (T9 (l6 [108,105,118,101,115]) v1).bind λv2=>
 some (a0,v2)
def G6(a0:a6)(a1:Int):Option Int:=
 if ((decide (a1<0))||(decide (a1≥(a0.Roots.length:Int)))) then
  some 0
 else
 (ix a0.Roots a1).bind λv1=>
 some v1
def W3(a0:a6)(a1:Int):Option Int:=
 (G6 a0 a1).bind λv1=>
 (a0x a0 v1).bind λv2=>
 some v2
def L1(a0:b9)(a1:List Int):Option (b9 × ByteArray):=
 (mk 8 6 (0:Int)).bind λv1=>
 jn (λ(j10:List Int)=>
  (T9 (l6 [114,111,111,116,115]) j10).bind λv11=>
  some (a0,v11)) (λκ9=>
  (lp (S:=Int × (List Int)) (E:=(List Int)) (λ((s13,s14):Int × (List Int))=>
   if (decide (s13<(v1.length:Int))) then
    (W3 a0.g.X s13).bind λv17=>
    (ix s14 s13).bind λv18=>
    some (.inl (C6 (s13+1),(s14.set (s13).toNat v17)))
   else
   some (.inr s14)) (0,v1)).bind λe12=>
  κ9 e12)
def Y1(a0:b7):Option A4:=
 jn (λ(j9:A4)=>
  some j9) (λκ8=>
  (lp (S:=Int × A4) (E:=A4) (λ((s11,s12):Int × A4)=>
   if (decide (s11<(a0.p7.length:Int))) then
    (ix a0.p7 s11).bind λv15=>
    (A4.ix s12 v15.State).bind λv16=>
    some (.inl (C6 (s11+1),(A4.st s12 v15.State (C6 (v16+1)))))
   else
   some (.inr s12)) (0,(⟨0,0,0,0⟩:A4))).bind λe10=>
  κ8 e10)
def a47(a0:o8):Option A4:=
 (Y1 a0.X.S.S).bind λv1=>
 some v1
def V7(a0:b9)(a1:List Int):Option (b9 × ByteArray):=
 (a47 a0.g).bind λv1=>
 (T9 (l6 [116,97,108,108,121]) [v1.a,v1.b,v1.c,v1.d]).bind λv2=>
 some (a0,v2)
def a6f(a0:List Int):Option (j8 × Int):=
 if ((a0.length:Int) != 4) then
  some ((⟨0,0,0,0⟩:j8),14)
 else
 (ix a0 0).bind λv1=>
 (ix a0 1).bind λv2=>
 (ix a0 2).bind λv3=>
 (ix a0 3).bind λv4=>
 (a0r (⟨v1,v2,v3,v4⟩:j8)).bind λv5=>
 if (v5 != 0) then
  some ((⟨0,0,0,0⟩:j8),v5)
 else
 some ((⟨v1,v2,v3,v4⟩:j8),0)
def a48(a0:j8):Option Ifc:=
 if (a0.Kind==11) then
  some (⟨103,[]⟩:Ifc)
 else
 if (a0.Kind==12) then
  some (⟨107,[a0.A]⟩:Ifc)
 else
 some (⟨99,[a0.Kind,a0.A,a0.B,a0.C]⟩:Ifc)
def a1j:Option (List (Int × Fv)):=
 some (e8 (e8 (e8 (e8 (e8 (e8 (e8 (e8 (e8 (e8 [] 1 (some 97)) 2 (some 98)) 3 (some 99)) 4 (some 100)) 5 (some 101)) 6 (some 102)) 7 (some 103)) 8 (some 104)) 9 (some 105)) 10 (some 106))
def b1W(a0:Int):Option ((List Int) × Int):=
 if ((decide (a0<0))||(decide (a0 > 4))) then
  some ([],1)
 else
 (mk 8 a0 (0:Int)).bind λv1=>
 some (v1,0)
def V2(a0:Int):Option Bool:=
 some ((decide (a0≥(-1)))&&(decide (a0<6)))
def O4(a0:b7):Option b7:=
 some a0
def u5(a0:List b4):Option (List b4):=
 app 80 [] a0
def A0(a0:b7)(a1:Int)(a2:b4):Option b7:=
 (u5 a0.p7).bind λv1=>
 (ix v1 a1).bind λv2=>
 some (⟨(v1.set (a1).toNat a2),a0.Last⟩:b7)
def a0c(a0:b7)(a1:r4):Option (b7 × Int × Int):=
 jn (λ(_:Unit)=>
  some (a0,0,4)) (λκ9=>
  (O4 a0).bind λv11=>
  (lp (S:=Int) (E:=(b7 × Int × Int) ⊕ Unit) (λ(s13:Int)=>
   if (decide (s13<(v11.p7.length:Int))) then
    (ix v11.p7 s13).bind λv15=>
    if ((v15.State==0)==true) then
     (ix a0.p7 s13).bind λv16=>
     (A0 a0 s13 (⟨1,v16.Gen,a1⟩:b4)).bind λv17=>
     (a3c s13 v16.Gen).bind λv18=>
     some (.inr (.inl (v17,v18,0)))
    else
    some (.inl (C6 (s13+1)))
   else
   some (.inr (.inr ()))) 0).bind λe12=>
  match e12 with
  | .inl w=>some w
  | .inr w=>κ9 w)
def a7V(a0:b6)(a1:Int)(a2:Int):Option (b6 × Int × Int):=
 (b1W a1).bind λv1=>
 if (v1.2 != 0) then
  some (a0,0,v1.2)
 else
 (V2 a2).bind λv2=>
 if (!v2) then
  some (a0,0,13)
 else
 (a0c a0.S (⟨C6 (a0.Serial+1),0,0,a2,false,v1.1⟩:r4)).bind λv3=>
 if (v3.2.2 != 0) then
  some (a0,0,v3.2.2)
 else
 some ((⟨v3.1,C6 (a0.Serial+1)⟩:b6),v3.2.1,0)
def a6p(a0:a6)(a1:Int):Option Bool:=
 (z6 a0.S a1).bind λv1=>
 some (v1.2==0)
def H2(a0:a6)(a1:Int):Option Bool:=
 (y7 ((a1==0)==false) false (a6p a0 a1)).bind λv1=>
 some ((a1==0)||v1)
def G3(a0:Int):Option Bool:=
 some (decide (a0≥12))
def a2W(a0:Int):Option (Int × Int):=
 (G3 a0).bind λv1=>
 if v1 then
  some (12,0)
 else
 some (C6 ((if 0 > a0 then 0 else a0)+1),0)
def a8D(a0:Int):Option Int:=
 (a2W a0).bind λv1=>
 some v1.1
def a0F(a0:b7)(a1:Int)(a2:r4):Option (b7 × Int):=
 (C1 a0 a1).bind λv1=>
 if (v1.2 != 0) then
  some (a0,v1.2)
 else
 (ix a0.p7 v1.1).bind λv2=>
 (A0 a0 v1.1 (⟨v2.State,v2.Gen,a2⟩:b4)).bind λv3=>
 some (v3,0)
def W6(a0:b6)(a1:Int)(a2:r4):Option (b6 × Int):=
 (a0F a0.S a1 a2).bind λv1=>
 some ((⟨v1.1,a0.Serial⟩:b6),v1.2)
def R5(a0:a6)(a1:Int):Option a6:=
 (z6 a0.S a1).bind λv1=>
 if (v1.2==0) then
  (a8D v1.1.Strong).bind λv2=>
  (W6 a0.S a1 (⟨v1.1.Serial,v2,v1.1.Weak,v1.1.Prog,v1.1.Started,v1.1.Fields⟩:r4)).bind λv3=>
  some (⟨v3.1,a0.Roots,a0.p7,a0.T,a0.Q⟩:a6)
 else
 some a0
def X6(a0:a6)(a1:Int):Option a6:=
 (R5 a0 a1).bind λv1=>
 some v1
def M4(a0:List Int):Option (List Int):=
 app 8 [] a0
def Q3(a0:B4)(a1:a6):Option a6:=
 (M4 a1.Roots).bind λv1=>
 (ix v1 a0.r).bind λv2=>
 some (⟨a1.S,(v1.set (a0.r).toNat a0.h),a1.p7,a1.T,a1.Q⟩:a6)
def a1v(a0:Int):Option (Int × Int):=
 (G3 a0).bind λv1=>
 if v1 then
  some (12,0)
 else
 if (decide (a0<1)) then
  some (0,11)
 else
 some (C6 (a0-1),0)
def a8C(a0:Int):Option (Int × Int):=
 (a1v a0).bind λv1=>
 some (v1.1,v1.2)
def a3h(a0:Int):Option Int:=
 (a8C a0).bind λv1=>
 if (v1.2 != 0) then
  some a0
 else
 some v1.1
def K4(a0:a6)(a1:Int):Option a6:=
 (z6 a0.S a1).bind λv1=>
 if (v1.2==0) then
  (a3h v1.1.Strong).bind λv2=>
  (W6 a0.S a1 (⟨v1.1.Serial,v2,v1.1.Weak,v1.1.Prog,v1.1.Started,v1.1.Fields⟩:r4)).bind λv3=>
  some (⟨v3.1,a0.Roots,a0.p7,a0.T,a0.Q⟩:a6)
 else
 some a0
def M9(a0:a6)(a1:Int):Option a6:=
 (K4 a0 a1).bind λv1=>
 some v1
def H6(a0:a6)(a1:Int)(a2:Int)(a3:B4):Option a6:=
 (X6 a0 a2).bind λv1=>
 (Q3 a3 v1).bind λv2=>
 (M9 v2 a1).bind λv3=>
 some v3
def a3I(a0:a6)(a1:Int)(a2:Int):Option (a6 × Int):=
 if ((decide (a1<0))||(decide (a1≥(a0.Roots.length:Int)))) then
  some (a0,6)
 else
 (H2 a0 a2).bind λv1=>
 if (!v1) then
  some (a0,3)
 else
 (ix a0.Roots a1).bind λv2=>
 (H6 a0 v2 a2 (⟨a1,a2⟩:B4)).bind λv3=>
 some (v3,0)
def B6(a0:o0)(a1:Int)(a2:Int):Option (a6 × Int):=
 if (a2 != 0) then
  some (a0.x,a2)
 else
 (a3I a0.x a0.o.A a1).bind λv1=>
 some (v1.1,v1.2)
def Z6(a0:o0):Option (a6 × Int):=
 (a7V a0.x.S a0.o.B a0.o.C).bind λv1=>
 if (v1.2.2 != 0) then
  some (a0.x,v1.2.2)
 else
 (B6 (⟨⟨v1.1,a0.x.Roots,a0.x.p7,a0.x.T,a0.x.Q⟩,a0.o⟩:o0) v1.2.1 0).bind λv2=>
 some (v2.1,v2.2)
def J7(a0:o0):Option (a6 × Int):=
 (G6 a0.x a0.o.B).bind λv1=>
 (B6 a0 v1 0).bind λv2=>
 some (v2.1,v2.2)
def a0X(a0:o0):Option (a6 × Int):=
 (B6 a0 0 0).bind λv1=>
 some (v1.1,v1.2)
def I8(a0:a6)(a1:Int):Option (Int × Int):=
 (G6 a0 a1).bind λv1=>
 if (v1==0) then
  some (0,2)
 else
 some (v1,0)
def a68(a0:List Int)(a1:Int):Option Bool:=
 some ((decide (a1≥0))&&(decide (a1<(a0.length:Int))))
def b3F(a0:List Int)(a1:Int):Option (Int × Int):=
 (a68 a0 a1).bind λv1=>
 if (!v1) then
  some (0,5)
 else
 (ix a0 a1).bind λv2=>
 some (v2,0)
def a3y(a0:b6)(a1:Int)(a2:Int):Option (Int × Int):=
 (z6 a0 a1).bind λv1=>
 if (v1.2 != 0) then
  some (0,v1.2)
 else
 (b3F v1.1.Fields a2).bind λv2=>
 some (v2.1,v2.2)
def a0Y(a0:o0):Option (a6 × Int):=
 (I8 a0.x a0.o.B).bind λv1=>
 if (v1.2 != 0) then
  some (a0.x,v1.2)
 else
 (a3y a0.x.S v1.1 a0.o.C).bind λv2=>
 (B6 a0 v2.1 v2.2).bind λv3=>
 some (v3.1,v3.2)
def b0y(a0:List Int)(a1:Int)(a2:Int):Option ((List Int) × Int):=
 (a68 a0 a1).bind λv1=>
 if (!v1) then
  some (a0,5)
 else
 (mk 8 (a0.length:Int) (0:Int)).bind λv2=>
 (cpy v2 a0).bind λv3=>
 (ix v3 a1).bind λv4=>
 some ((v3.set (a1).toNat a2),0)
def a8Y(a0:b6)(a1:Int)(a2:Int)(a3:Int):Option (b6 × Int):=
 (z6 a0 a1).bind λv1=>
 if (v1.2 != 0) then
  some (a0,v1.2)
 else
 (b0y v1.1.Fields a2 a3).bind λv2=>
 if (v2.2 != 0) then
  some (a0,v2.2)
 else
 (W6 a0 a1 (⟨v1.1.Serial,v1.1.Strong,v1.1.Weak,v1.1.Prog,v1.1.Started,v2.1⟩:r4)).bind λv3=>
 some (v3.1,v3.2)
def Z5(a0:A5)(a1:a6):Option a6:=
 (a8Y a1.S a0.h a0.k a0.v).bind λv1=>
 some (⟨v1.1,a1.Roots,a1.p7,a1.T,a1.Q⟩:a6)
def G4(a0:a6)(a1:Int)(a2:Int)(a3:A5):Option a6:=
 (X6 a0 a2).bind λv1=>
 (Z5 a3 v1).bind λv2=>
 (M9 v2 a1).bind λv3=>
 some v3
def a7w(a0:a6)(a1:Int)(a2:Int)(a3:Int):Option (a6 × Int):=
 (a3y a0.S a1 a2).bind λv1=>
 if (v1.2 != 0) then
  some (a0,v1.2)
 else
 (H2 a0 a3).bind λv2=>
 if (!v2) then
  some (a0,3)
 else
 (G4 a0 v1.1 a3 (⟨a1,a2,a3⟩:A5)).bind λv3=>
 some (v3,0)
def a0y(a0:o0):Option (a6 × Int):=
 (I8 a0.x a0.o.A).bind λv1=>
 if (v1.2 != 0) then
  some (a0.x,v1.2)
 else
 (G6 a0.x a0.o.C).bind λv2=>
 (a7w a0.x v1.1 a0.o.B v2).bind λv3=>
 some (v3.1,v3.2)
def a9K(a0:b5)(a1:Int):Option (b5 × Int):=
 some (a0,a1)
def a7X(a0:b5)(a1:Int):Option Bool:=
 jn (λ(_:Unit)=>
  some false) (λκ6=>
  (a9K a0 2).bind λv8=>
  (lp (S:=Int) (E:=Bool ⊕ Unit) (λ(s10:Int)=>
   if (decide (s10<(v8.1.L.length:Int))) then
    (ix v8.1.L s10).bind λv12=>
    if ((v12.Kind==v8.2)==true) then
     if (v12.At==a1) then
      some (.inr (.inl true))
     else
     some (.inl (C6 (s10+1)))
    else
    some (.inl (C6 (s10+1)))
   else
   some (.inr (.inr ()))) 0).bind λe9=>
  match e9 with
  | .inl w=>some w
  | .inr w=>κ6 w)
def a5w(a0:List c8)(a1:Int):Option Bool:=
 some ((decide (a1≥0))&&(decide (a1<(a0.length:Int))))
def a05(a0:List c8):Option (List c8):=
 (mk 24 (a0.length:Int) (⟨0,false,0⟩:c8)).bind λv1=>
 (cpy v1 a0).bind λv2=>
 some v2
def b0C(a0:List c8)(a1:Int)(a2:Int)(a3:Int):Option ((List c8) × Int × Int):=
 (a5w a0 a1).bind λv1=>
 if (!v1) then
  some (a0,0,7)
 else
 (a05 a0).bind λv2=>
 (ix v2 a1).bind λv3=>
 (ix a0 a1).bind λv4=>
 some ((v2.set (a1).toNat (⟨a2,(a2 != 0),a3⟩:c8)),v4.Target,0)
def a3i(a0:a6)(a1:Int)(a2:Int):Option a6:=
 (C1 a0.S.S a1).bind λv1=>
 if (v1.2==0) then
  (ix a0.S.S.p7 v1.1).bind λv2=>
  (W6 a0.S a1 (⟨v2.Val.Serial,v2.Val.Strong,C6 (v2.Val.Weak+a2),v2.Val.Prog,v2.Val.Started,v2.Val.Fields⟩:r4)).bind λv3=>
  some (⟨v3.1,a0.Roots,a0.p7,a0.T,a0.Q⟩:a6)
 else
 some a0
def O3(a0:b7)(a1:Int):Option (b7 × Int):=
 (C1 a0 a1).bind λv1=>
 if (v1.2 != 0) then
  some (a0,v1.2)
 else
 (ix a0.p7 v1.1).bind λv2=>
 if (v2.Gen==a0.Last) then
  (A0 a0 v1.1 (⟨3,v2.Gen,⟨0,0,0,0,false,[]⟩⟩:b4)).bind λv3=>
  some (v3,0)
 else
 (A0 a0 v1.1 (⟨0,C6 (v2.Gen+1),⟨0,0,0,0,false,[]⟩⟩:b4)).bind λv4=>
 some (v4,0)
def a4e(a0:a6)(a1:Int):Option a6:=
 (a3i a0 a1 (-1)).bind λv1=>
 (C1 v1.S.S a1).bind λv2=>
 if (v2.2 != 0) then
  some v1
 else
 (ix v1.S.S.p7 v2.1).bind λv3=>
 if ((v3.State==2)&&(v3.Val.Weak==0)) then
  (O3 v1.S.S a1).bind λv4=>
  some (⟨⟨v4.1,v1.S.Serial⟩,v1.Roots,v1.p7,v1.T,v1.Q⟩:a6)
 else
 some v1
def a3J(a0:a6)(a1:Int)(a2:Int)(a3:Int):Option (a6 × Int):=
 (y7 (((decide (a1<0))||(decide (a1≥(a0.p7.length:Int))))==false) false (a7X a0.Q a1)).bind λv1=>
 if (((decide (a1<0))||(decide (a1≥(a0.p7.length:Int))))||v1) then
  some (a0,7)
 else
 (H2 a0 a2).bind λv2=>
 if (!v2) then
  some (a0,3)
 else
 (b0C a0.p7 a1 a2 a3).bind λv3=>
 (a3i (⟨a0.S,a0.Roots,v3.1,a0.T,a0.Q⟩:a6) a2 1).bind λv4=>
 (a4e v4 v3.2.1).bind λv5=>
 some (v5,0)
def Z8(a0:o0):Option (a6 × Int):=
 if (a0.o.B==(-1)) then
  (a3J a0.x a0.o.A 0 a0.o.C).bind λv1=>
  some (v1.1,v1.2)
 else
 (I8 a0.x a0.o.B).bind λv2=>
 if (v2.2 != 0) then
  some (a0.x,v2.2)
 else
 (a3J a0.x a0.o.A v2.1 a0.o.C).bind λv3=>
 some (v3.1,v3.2)
def a8Z(a0:List c8)(a1:Int):Option (Int × Int):=
 (a5w a0 a1).bind λv1=>
 if (!v1) then
  some (0,7)
 else
 (ix a0 a1).bind λv2=>
 if ((v2.Target==0)||(!v2.Intact)) then
  some (0,9)
 else
 some (v2.Target,0)
def Z0(a0:o0):Option (a6 × Int):=
 (a8Z a0.x.p7 a0.o.B).bind λv1=>
 (B6 a0 v1.1 v1.2).bind λv2=>
 some (v2.1,v2.2)
def a3H(a0:Int)(a1:Int):Option (Int × Int):=
 some (a0,a1)
def a5I(a0:Int)(a1:Int):Option Int:=
 if (decide (a0<1)) then
  some 0
 else
 (rem (C6 ((C6 (5*a1))+1)) a0).bind λv1=>
 if (decide (v1<0)) then
  some (C6 (v1+a0))
 else
 some v1
def a3G(a0:List a8)(a1:Int):Option Int:=
 jn (λ(_:Unit)=>
  some (-1)) (λκ8=>
  (a3H (a0.length:Int) a1).bind λv10=>
  (lp (S:=Int) (E:=Int ⊕ Unit) (λ(s12:Int)=>
   if (decide (s12<v10.1)) then
    (a5I v10.1 v10.2).bind λv14=>
    (rem (C6 (v14+s12)) v10.1).bind λv15=>
    (ix a0 v15).bind λv16=>
    if (v16.State==0) then
     some (.inr (.inr ()))
    else
    if ((v16.State==1)&&(v16.Key==a1)) then
     some (.inr (.inl v15))
    else
    some (.inl (C6 (s12+1)))
   else
   some (.inr (.inr ()))) 0).bind λe11=>
  match e11 with
  | .inl w=>some w
  | .inr w=>κ8 w)
def a3g(a0:List a8)(a1:Int):Option (Int × Int):=
 (a3G a0 a1).bind λv1=>
 if (decide (v1<0)) then
  some (0,9)
 else
 (ix a0 v1).bind λv2=>
 some (v2.Val,0)
def A9(a0:List a8):Option (List a8):=
 app 24 [] a0
def a1x(a0:List a8)(a1:Int)(a2:a8):Option (List a8):=
 (A9 a0).bind λv1=>
 (ix v1 a1).bind λv2=>
 some (v1.set (a1).toNat a2)
def a5H(a0:List a8)(a1:Int):Option ((List a8) × Int × Int):=
 (a3G a0 a1).bind λv1=>
 if (decide (v1<0)) then
  some (a0,0,9)
 else
 (a1x a0 v1 (⟨2,0,0⟩:a8)).bind λv2=>
 (ix a0 v1).bind λv3=>
 some (v2,v3.Val,0)
def b0b(a0:List a8)(a1:Int)(a2:Int):Option ((List a8) × Int):=
 (a3G a0 a1).bind λv1=>
 if (decide (v1≥0)) then
  (a1x a0 v1 (⟨1,a1,a2⟩:a8)).bind λv2=>
  some (v2,0)
 else
 jn (λ(_:Unit)=>
  some (a0,8)) (λκ11=>
  (a3H (a0.length:Int) a1).bind λv13=>
  (lp (S:=Int) (E:=((List a8) × Int) ⊕ Unit) (λ(s15:Int)=>
   if (decide (s15<v13.1)) then
    (a5I v13.1 v13.2).bind λv17=>
    (rem (C6 (v17+s15)) v13.1).bind λv18=>
    (ix a0 v18).bind λv19=>
    if (v19.State != 1) then
     (a1x a0 v18 (⟨1,a1,a2⟩:a8)).bind λv20=>
     some (.inr (.inl (v20,0)))
    else
    some (.inl (C6 (s15+1)))
   else
   some (.inr (.inr ()))) 0).bind λe14=>
  match e14 with
  | .inl w=>some w
  | .inr w=>κ11 w)
def a8G(a0:List a8)(a1:Int)(a2:Int):Option ((List a8) × Int × Int):=
 if (a1==0) then
  some (a0,0,2)
 else
 (a3g a0 a1).bind λv1=>
 if (a2==0) then
  (a5H a0 a1).bind λv2=>
  some (v2.1,v1.1,0)
 else
 (b0b a0 a1 a2).bind λv3=>
 if (v3.2 != 0) then
  some (a0,0,v3.2)
 else
 some (v3.1,v1.1,0)
def Q2(a0:B3)(a1:a6):Option a6:=
 some (⟨a1.S,a1.Roots,a1.p7,a0.t,a1.Q⟩:a6)
def H5(a0:a6)(a1:Int)(a2:Int)(a3:B3):Option a6:=
 (X6 a0 a2).bind λv1=>
 (Q2 a3 v1).bind λv2=>
 (M9 v2 a1).bind λv3=>
 some v3
def a8L(a0:a6)(a1:Int)(a2:Int):Option (a6 × Int):=
 if (a1==0) then
  some (a0,2)
 else
 (H2 a0 a1).bind λv1=>
 (y7 ((!v1)==false) false (H2 a0 a2)).bind λv2=>
 if ((!v1)||(!v2)) then
  some (a0,3)
 else
 (a8G a0.T a1 a2).bind λv3=>
 if (v3.2.2 != 0) then
  some (a0,v3.2.2)
 else
 (H5 a0 v3.2.1 a2 (⟨v3.1⟩:B3)).bind λv4=>
 some (v4,0)
def a0Z(a0:o0):Option (a6 × Int):=
 (I8 a0.x a0.o.A).bind λv1=>
 if (v1.2 != 0) then
  some (a0.x,v1.2)
 else
 (G6 a0.x a0.o.B).bind λv2=>
 (a8L a0.x v1.1 v2).bind λv3=>
 some (v3.1,v3.2)
def a8F(a0:List a8)(a1:Int):Option (Int × Int):=
 (a3g a0 a1).bind λv1=>
 some (v1.1,v1.2)
def a1z(a0:o0):Option (a6 × Int):=
 (I8 a0.x a0.o.B).bind λv1=>
 if (v1.2 != 0) then
  some (a0.x,v1.2)
 else
 (a8F a0.x.T v1.1).bind λv2=>
 (B6 a0 v2.1 v2.2).bind λv3=>
 some (v3.1,v3.2)
def Q7(a0:o0):Option (a6 × Int):=
 some (a0.x,0)
def a9q(f:Fv)(a0:o0):Option (a6 × Int):=
 if f=some 97 then Z6 a0 else
 if f=some 98 then J7 a0 else
 if f=some 99 then a0X a0 else
 if f=some 100 then a0Y a0 else
 if f=some 101 then a0y a0 else
 if f=some 102 then Z8 a0 else
 if f=some 103 then Z0 a0 else
 if f=some 104 then a0Z a0 else
 if f=some 105 then a1z a0 else
 if f=some 106 then Q7 a0 else
 none
def a6w(a0:a6):Option (List Int):=
 jn (λ(j16:List Int)=>
  some j16) (λκ15=>
  (H3 a0.S).bind λv17=>
  (lp (S:=Int × (List Int)) (E:=(List Int)) (λ((s19,s20):Int × (List Int))=>
   if (decide (s19<(v17.length:Int))) then
    jn (λ(j27:List Int)=>
     some (.inl (C6 (s19+1),j27))) (λκ26=>
     (ix v17 s19).bind λv28=>
     (z6 a0.S v28).bind λv29=>
     if (v29.1.Strong==0) then
      (app 8 s20 [v28]).bind λv30=>
      κ26 v30
     else
     κ26 s20)
   else
   some (.inr s20)) (0,[])).bind λe18=>
  κ15 e18)
def U9(a0:r4):Option Bool:=
 some ((decide (a0.Prog≥0))&&(!a0.Started))
def H8(a0:b5):Option Int:=
 some (a0.L.length:Int)
def E0(a0:List l5)(a1:Int)(a2:Int):Option (List l5):=
 (cut a0 a1 a2).bind λv1=>
 some v1
def M0(a0:b5)(a1:l5):Option (b5 × Int):=
 (H8 a0).bind λv1=>
 if (decide (v1≥a0.Cap)) then
  some (a0,4)
 else
 (E0 a0.L 0 v1).bind λv2=>
 (app 24 v2 [a1]).bind λv3=>
 some ((⟨v3,a0.Cap⟩:b5),0)
def a7W(a0:b5)(a1:l5):Option (b5 × Int):=
 (M0 a0 a1).bind λv1=>
 some (v1.1,v1.2)
def a1m(a0:a6)(a1:Int):Option a6:=
 (z6 a0.S a1).bind λv1=>
 (y7 ((v1.2 != 0)==false) false (U9 v1.1)).bind λv2=>
 if ((v1.2 != 0)||(!v2)) then
  some a0
 else
 (W6 a0.S a1 (⟨v1.1.Serial,v1.1.Strong,v1.1.Weak,v1.1.Prog,true,v1.1.Fields⟩:r4)).bind λv3=>
 (a7W a0.Q (⟨1,a1,v1.1.Prog⟩:l5)).bind λv4=>
 (X6 (⟨v3.1,a0.Roots,a0.p7,a0.T,v4.1⟩:a6) a1).bind λv5=>
 some v5
def a1E(a0:a6)(a1:List Int):Option (List Int):=
 jn (λ(j18:List Int)=>
  some j18) (λκ17=>
  (lp (S:=Int × (List (Int × Bool)) × (List Int)) (E:=(List Int)) (λ((s20,s21,s22):Int × (List (Int × Bool)) × (List Int))=>
   if (decide (s20<(a1.length:Int))) then
    jn (λ((j29,j30):(List Int) × (List (Int × Bool)))=>
     some (.inl (C6 (s20+1),j30,j29))) (λκ28=>
     (ix a1 s20).bind λv32=>
     (z6 a0.S v32).bind λv33=>
     if ((v33.2==0)==true) then
      if (!((F9 s21 v32).getD (false:Bool))) then
       (app 8 s22 [v32]).bind λv34=>
       κ28 (v34,(e8 s21 v32 true))
      else
      κ28 (s22,s21)
     else
     κ28 (s22,s21))
   else
   some (.inr s22)) (0,[],[])).bind λe19=>
  κ17 e19)
def Y2(a0:List Int)(a1:Int):Option Int:=
 jn (λ(_:Unit)=>
  some (-1)) (λκ5=>
  (lp (S:=Int) (E:=Int ⊕ Unit) (λ(s8:Int)=>
   if (decide (s8<(a0.length:Int))) then
    (ix a0 s8).bind λv10=>
    if (a1==v10) then
     some (.inr (.inl s8))
    else
    some (.inl (C6 (s8+1)))
   else
   some (.inr (.inr ()))) 0).bind λe7=>
  match e7 with
  | .inl w=>some w
  | .inr w=>κ5 w)
def E5(a0:List Int)(a1:Int):Option Bool:=
 (Y2 a0 a1).bind λv1=>
 some (decide (v1≥0))
def a2t(a0:c8)(a1:List Int):Option Bool:=
 (y7 ((a0.Intact&&(a0.Target != 0))==true) false (E5 a1 a0.Target)).bind λv1=>
 some ((a0.Intact&&(a0.Target != 0))&&v1)
def N6(a0:List c8)(a1:List Int):Option (List Int):=
 jn (λ(j15:List Int)=>
  some j15) (λκ14=>
  (lp (S:=Int × (List Int)) (E:=(List Int)) (λ((s17,s18):Int × (List Int))=>
   if (decide (s17<(a0.length:Int))) then
    jn (λ(j25:List Int)=>
     some (.inl (C6 (s17+1),j25))) (λκ24=>
     (ix a0 s17).bind λv26=>
     (a2t v26 a1).bind λv27=>
     if v27 then
      (app 8 s18 [s17]).bind λv28=>
      κ24 v28
     else
     κ24 s18)
   else
   some (.inr s18)) (0,[])).bind λe16=>
  κ14 e16)
def a4P(a0:List c8)(a1:List Int):Option ((List c8) × (List Int)):=
 (N6 a0 a1).bind λv1=>
 (a05 a0).bind λv2=>
 jn (λ((j22,j23):(List Int) × (List c8))=>
  some (j23,j22)) (λκ21=>
  (lp (S:=Int × (List c8) × (List Int)) (E:=((List Int) × (List c8))) (λ((s26,s27,s28):Int × (List c8) × (List Int))=>
   if (decide (s26<(v1.length:Int))) then
    jn (λ((j36,j37):(List Int) × (List c8))=>
     some (.inl (C6 (s26+1),j37,j36))) (λκ35=>
     (ix v1 s26).bind λv39=>
     (ix s27 v39).bind λv40=>
     (ix (s27.set (v39).toNat (⟨v40.Target,false,v40.Call⟩:c8)) v39).bind λv41=>
     if (decide (v41.Call≥0)) then
      (app 8 s28 [v39]).bind λv42=>
      κ35 (v42,(s27.set (v39).toNat (⟨v40.Target,false,v40.Call⟩:c8)))
     else
     κ35 (s28,(s27.set (v39).toNat (⟨v40.Target,false,v40.Call⟩:c8))))
   else
   some (.inr (s28,s27))) (0,v2,[])).bind λe25=>
  κ21 e25)
def a3w(a0:a6)(a1:List Int):Option a6:=
 (a4P a0.p7 a1).bind λv1=>
 jn (λ(j11:b5)=>
  some (⟨a0.S,a0.Roots,v1.1,a0.T,j11⟩:a6)) (λκ10=>
  (lp (S:=Int × b5) (E:=b5) (λ((s13,s14):Int × b5)=>
   if (decide (s13<(v1.2.length:Int))) then
    (ix v1.2 s13).bind λv17=>
    (ix v1.1 v17).bind λv18=>
    (a7W s14 (⟨2,v17,v18.Call⟩:l5)).bind λv19=>
    some (.inl (C6 (s13+1),v19.1))
   else
   some (.inr s14)) (0,a0.Q)).bind λe12=>
  κ10 e12)
def a6e(a0:List Int):Option (List Int):=
 some a0
def a6d(a0:List Int):Option (List Int):=
 jn (λ(j10:List Int)=>
  some j10) (λκ9=>
  (a6e a0).bind λv11=>
  (lp (S:=Int × (List Int)) (E:=(List Int)) (λ((s13,s14):Int × (List Int))=>
   if (decide (s13<(v11.length:Int))) then
    (ix v11 s13).bind λv17=>
    if ((v17 != 0)==true) then
     (app 8 s14 [v17]).bind λv18=>
     some (.inl (C6 (s13+1),v18))
    else
    some (.inl (C6 (s13+1),s14))
   else
   some (.inr s14)) (0,[])).bind λe12=>
  κ9 e12)
def a4b(a0:List a8)(a1:List Int):Option ((List a8) × (List Int)):=
 jn (λ((j18,j19):(List a8) × (List Int))=>
  some (j18,j19)) (λκ17=>
  (lp (S:=(List a8) × Int × (List Int)) (E:=((List a8) × (List Int))) (λ((s22,s23,s24):(List a8) × Int × (List Int))=>
   if (decide (s23<(a1.length:Int))) then
    jn (λ((j31,j32):(List a8) × (List Int))=>
     some (.inl (j31,C6 (s23+1),j32))) (λκ30=>
     (ix a1 s23).bind λv34=>
     (a5H s22 v34).bind λv35=>
     if (v35.2.2==0) then
      (app 8 s24 [v35.2.1]).bind λv36=>
      κ30 (v35.1,v36)
     else
     κ30 (s22,s24))
   else
   some (.inr (s22,s24))) (a0,0,[])).bind λe21=>
  κ17 e21)
def a0b(a0:b7)(a1:Int):Option (b7 × Int):=
 (Q9 a0 a1).bind λv1=>
 if (v1.2 != 0) then
  some (a0,v1.2)
 else
 (a3e a1).bind λv2=>
 (a4E a1).bind λv3=>
 (A0 a0 v2 (⟨2,v3,v1.1⟩:b4)).bind λv4=>
 some (v4,0)
def a4n(a0:a6)(a1:Int):Option a6:=
 (z6 a0.S a1).bind λv1=>
 (W6 a0.S a1 (⟨v1.1.Serial,0,v1.1.Weak,v1.1.Prog,v1.1.Started,[]⟩:r4)).bind λv2=>
 (a0b v2.1.S a1).bind λv3=>
 if (v1.1.Weak==0) then
  (O3 v3.1 a1).bind λv4=>
  some (⟨⟨v4.1,v2.1.Serial⟩,a0.Roots,a0.p7,a0.T,a0.Q⟩:a6)
 else
 some (⟨⟨v3.1,v2.1.Serial⟩,a0.Roots,a0.p7,a0.T,a0.Q⟩:a6)
def a3u(a0:a6)(a1:List Int):Option a6:=
 (a1E a0 a1).bind λv1=>
 (a3w a0 v1).bind λv2=>
 jn (λ(j13:List Int)=>
  (a4b v2.T v1).bind λv14=>
  (app 8 j13 v14.2).bind λv15=>
  jn (λ(j24:a6)=>
   jn (λ(j33:a6)=>
    some j33) (λκ32=>
    (lp (S:=Int × a6) (E:=a6) (λ((s35,s36):Int × a6)=>
     if (decide (s35<(v15.length:Int))) then
      (ix v15 s35).bind λv39=>
      (M9 s36 v39).bind λv40=>
      some (.inl (C6 (s35+1),v40))
     else
     some (.inr s36)) (0,j24)).bind λe34=>
    κ32 e34)) (λκ23=>
   (lp (S:=Int × a6) (E:=a6) (λ((s42,s43):Int × a6)=>
    if (decide (s42<(v1.length:Int))) then
     (ix v1 s42).bind λv46=>
     (a4n s43 v46).bind λv47=>
     some (.inl (C6 (s42+1),v47))
    else
    some (.inr s43)) (0,(⟨v2.S,v2.Roots,v2.p7,v14.1,v2.Q⟩:a6))).bind λe41=>
   κ23 e41)) (λκ12=>
  (lp (S:=Int × (List Int)) (E:=(List Int)) (λ((s49,s50):Int × (List Int))=>
   if (decide (s49<(v1.length:Int))) then
    (ix v1 s49).bind λv53=>
    (z6 v2.S v53).bind λv54=>
    (a6d v54.1.Fields).bind λv55=>
    (app 8 s50 v55).bind λv56=>
    some (.inl (C6 (s49+1),v56))
   else
   some (.inr s50)) (0,[])).bind λe48=>
  κ12 e48)
def P2(a0:a6):Option a6:=
 (lp (S:=a6) (E:=a6) (λ(s2:a6)=>
  (a6w s2).bind λv4=>
  if ((v4.length:Int)==0) then
   some (.inr s2)
  else
  (ix v4 0).bind λv5=>
  (z6 s2.S v5).bind λv6=>
  (U9 v6.1).bind λv7=>
  if v7 then
   (a1m s2 v5).bind λv8=>
   some (.inl v8)
  else
  (cut v4 0 1).bind λv9=>
  (a3u s2 v9).bind λv10=>
  some (.inl v10)) a0).bind λe1=>
 some e1
def a3m(a0:a6)(a1:a6)(a2:j8):Option Int:=
 if (a2.Kind==5) then
  (W3 a0 a2.C).bind λv1=>
  some v1
 else
 jn (λ(j3:Bool)=>
  if j3 then
   (W3 a0 a2.B).bind λv4=>
   some v4
  else
  if (a2.Kind==10) then
   (G6 a0 a2.A).bind λv5=>
   (G6 a0 a2.B).bind λv6=>
   if (v5==v6) then
    some 1
   else
   some 0
  else
  (W3 a1 a2.A).bind λv7=>
  some v7) (λκ2=>
  if (a2.Kind==6) then
   κ2 (a2.Kind==6)
  else
  κ2 (a2.Kind==8))
def a4G(a0:a6)(a1:j8):Option (a6 × Int × Int):=
 (a0r a1).bind λv1=>
 if (v1 != 0) then
  some (a0,0,v1)
 else
 (a1j).bind λv2=>
 if (!((F9 v2 a1.Kind).isSome)) then
  some (a0,0,14)
 else
 (a9q ((F9 v2 a1.Kind).getD (none:Fv)) (⟨a0,a1⟩:o0)).bind λv3=>
 if (v3.2 != 0) then
  some (a0,0,v3.2)
 else
 (P2 v3.1).bind λv5=>
 (a3m v3.1 v5 a1).bind λv6=>
 some (v5,v6,0)
def a4M(a0:b6):Option b6:=
 some a0
def a7N(a0:b6)(a1:Int):Option (List Int):=
 (z6 a0 a1).bind λv1=>
 (a6d v1.1.Fields).bind λv2=>
 some v2
def b1Q(a0:b6)(a1:Int):Option Int:=
 jn (λ(j31:Int)=>
  some j31) (λκ30=>
  (a4M a0).bind λv32=>
  (H3 v32).bind λv33=>
  (lp (S:=Int × Int) (E:=Int) (λ((s35,s36):Int × Int)=>
   if (decide (s35<(v33.length:Int))) then
    jn (λ(j50:Int)=>
     some (.inl (C6 (s35+1),j50))) (λκ49=>
     (ix v33 s35).bind λv51=>
     (a7N v32 v51).bind λv52=>
     (lp (S:=Int × Int) (E:=Int) (λ((s54,s55):Int × Int)=>
      if (decide (s54<(v52.length:Int))) then
       (ix v52 s54).bind λv58=>
       jn (λ(j60:Int)=>
        some (.inl (C6 (s54+1),j60))) (λκ59=>
        if (v58==a1) then
         κ59 (C6 (s55+1))
        else
        κ59 s55)
      else
      some (.inr s55)) (0,s36)).bind λe53=>
     κ49 e53)
   else
   some (.inr s36)) (0,0)).bind λe34=>
  κ30 e34)
def a0T(a0:List a8):Option (List a8):=
 some a0
def a5J(a0:List a8):Option (List Int):=
 jn (λ(j13:List Int)=>
  some j13) (λκ12=>
  (lp (S:=Int × (List Int)) (E:=(List Int)) (λ((s15,s16):Int × (List Int))=>
   if (decide (s15<(a0.length:Int))) then
    jn (λ(j22:List Int)=>
     some (.inl (C6 (s15+1),j22))) (λκ21=>
     (ix a0 s15).bind λv23=>
     if (v23.State==1) then
      (app 8 s16 [v23.Key]).bind λv24=>
      κ21 v24
     else
     κ21 s16)
   else
   some (.inr s16)) (0,[])).bind λe14=>
  κ12 e14)
def a1f(a0:l4)(a1:Int):Option Bool:=
 some ((a1 != 0)&&(a0.Val==a1))
def x6(a0:List a8)(a1:Int):Option (List l4):=
 jn (λ(j16:List l4)=>
  some j16) (λκ15=>
  (a5J a0).bind λv17=>
  (lp (S:=Int × (List l4)) (E:=(List l4)) (λ((s19,s20):Int × (List l4))=>
   if (decide (s19<(v17.length:Int))) then
    (ix v17 s19).bind λv23=>
    (a3g a0 v23).bind λv24=>
    jn (λ(j28:List l4)=>
     some (.inl (C6 (s19+1),j28))) (λκ27=>
     (a1f (⟨v23,v24.1⟩:l4) a1).bind λv29=>
     if v29 then
      (app 16 s20 [(⟨v23,v24.1⟩:l4)]).bind λv30=>
      κ27 v30
     else
     κ27 s20)
   else
   some (.inr s20)) (0,[])).bind λe18=>
  κ15 e18)
def a6k(a0:List a8)(a1:Int):Option Int:=
 (a0T a0).bind λv1=>
 (x6 v1 a1).bind λv2=>
 some (v2.length:Int)
def a6y(a0:b6)(a1:List a8)(a2:Int):Option Int:=
 (b1Q a0 a2).bind λv1=>
 (a6k a1 a2).bind λv2=>
 some (C6 (v1+v2))
def a71(a0:b6)(a1:List a8)(a2:Int):Option Int:=
 (z6 a0 a2).bind λv1=>
 if (v1.2 != 0) then
  some 0
 else
 (a6y a0 a1 a2).bind λv2=>
 some (C6 (v1.1.Strong-v2))
def a6g(a0:Int):Option Bool:=
 (G3 a0).bind λv1=>
 some v1
def a5q(a0:Int)(a1:r4)(a2:b6)(a3:List a8):Option Bool:=
 (a71 a2 a3 a0).bind λv1=>
 (y7 ((decide (v1 > 0))==false) false (a6g a1.Strong)).bind λv2=>
 some ((decide (v1 > 0))||v2)
def a7Y(a0:b6)(a1:List a8):Option (List Int):=
 jn (λ(j36:List Int)=>
  some j36) (λκ35=>
  jn (λ(j54:List Int)=>
   κ35 j54) (λκ53=>
   (H3 a0).bind λv55=>
   (lp (S:=Int × (List Int)) (E:=(List Int)) (λ((s57,s58):Int × (List Int))=>
    if (decide (s57<(v55.length:Int))) then
     jn (λ(j66:List Int)=>
      some (.inl (C6 (s57+1),j66))) (λκ65=>
      (ix v55 s57).bind λv67=>
      (z6 a0 v67).bind λv68=>
      (a5q v67 v68.1 a0 a1).bind λv69=>
      if v69 then
       (app 8 s58 [v67]).bind λv70=>
       κ65 v70
      else
      κ65 s58)
    else
    some (.inr s58)) (0,[])).bind λe56=>
   κ53 e56))
def a1l(a0:Int):Option e6:=
 some (⟨[],a0⟩:e6)
def a2h(a0:b6)(a1:Int):Option Bool:=
 (z6 a0 a1).bind λv1=>
 some (v1.2==0)
def O8(a0:e6):Option Int:=
 some (a0.L.length:Int)
def M1(a0:List Int)(a1:Int)(a2:Int):Option (List Int):=
 (cut a0 a1 a2).bind λv1=>
 some v1
def U7(a0:e6)(a1:Int):Option (e6 × Int):=
 (O8 a0).bind λv1=>
 if (decide (v1≥a0.Cap)) then
  some (a0,4)
 else
 (M1 a0.L 0 v1).bind λv2=>
 (app 8 v2 [a1]).bind λv3=>
 some ((⟨v3,a0.Cap⟩:e6),0)
def a2D(a0:e6)(a1:Int):Option (e6 × (List Int)):=
 (O8 a0).bind λv1=>
 (M1 a0.L 0 (if (if v1<a1 then v1 else a1) > 0 then (if v1<a1 then v1 else a1) else 0)).bind λv2=>
 (M1 a0.L (if (if v1<a1 then v1 else a1) > 0 then (if v1<a1 then v1 else a1) else 0) v1).bind λv3=>
 some ((⟨v3,a0.Cap⟩:e6),v2)
def a4i(a0:e6):Option (e6 × Int × Int):=
 (a2D a0 1).bind λv1=>
 if ((v1.2.length:Int)==0) then
  some (a0,0,10)
 else
 (ix v1.2 0).bind λv2=>
 some (v1.1,v2,0)
def a2i(a0:b6)(a1:List Int):Option (List (Int × Bool)):=
 (H3 a0).bind λv1=>
 (a1l (v1.length:Int)).bind λv2=>
 jn (λ((j20,j21):e6 × (List (Int × Bool)))=>
  jn (λ(j68:List (Int × Bool))=>
   some j68) (λκ67=>
   (lp (S:=e6 × (List (Int × Bool))) (E:=(List (Int × Bool))) (λ((s70,s71):e6 × (List (Int × Bool)))=>
    (O8 s70).bind λv74=>
    if (decide (v74 > 0)) then
     (a4i s70).bind λv75=>
     (a7N a0 v75.2.1).bind λv76=>
     jn (λ((j94,j95):e6 × (List (Int × Bool)))=>
      some (.inl (j94,j95))) (λκ93=>
      (lp (S:=Int × e6 × (List (Int × Bool))) (E:=(e6 × (List (Int × Bool)))) (λ((s98,s99,s100):Int × e6 × (List (Int × Bool)))=>
       if (decide (s98<(v76.length:Int))) then
        jn (λ((j107,j108):e6 × (List (Int × Bool)))=>
         some (.inl (C6 (s98+1),j107,j108))) (λκ106=>
         (ix v76 s98).bind λv110=>
         (a2h a0 v110).bind λv111=>
         if (v111==true) then
          if (!((F9 s100 v110).getD (false:Bool))) then
           (U7 s99 v110).bind λv112=>
           κ106 (v112.1,(e8 s100 v110 true))
          else
          κ106 (s99,s100)
         else
         κ106 (s99,s100))
       else
       some (.inr (s99,s100))) (0,v75.1,s71)).bind λe97=>
      κ93 e97)
    else
    some (.inr s71)) (j20,j21)).bind λe69=>
   κ67 e69)) (λκ19=>
  (lp (S:=Int × e6 × (List (Int × Bool))) (E:=(e6 × (List (Int × Bool)))) (λ((s114,s115,s116):Int × e6 × (List (Int × Bool)))=>
   if (decide (s114<(a1.length:Int))) then
    jn (λ((j123,j124):e6 × (List (Int × Bool)))=>
     some (.inl (C6 (s114+1),j123,j124))) (λκ122=>
     (ix a1 s114).bind λv126=>
     (a2h a0 v126).bind λv127=>
     if (v127==true) then
      if (!((F9 s116 v126).getD (false:Bool))) then
       (U7 s115 v126).bind λv128=>
       κ122 (v128.1,(e8 s116 v126 true))
      else
      κ122 (s115,s116)
     else
     κ122 (s115,s116))
   else
   some (.inr (s115,s116))) (0,v2,[])).bind λe113=>
  κ19 e113)
def a2f(a0:Int)(a1:List (Int × Bool)):Option Bool:=
 some ((F9 a1 a0).getD (false:Bool))
def O9(a0:b6)(a1:List (Int × Bool)):Option (List Int):=
 jn (λ(j16:List Int)=>
  some j16) (λκ15=>
  (H3 a0).bind λv17=>
  (lp (S:=Int × (List Int)) (E:=(List Int)) (λ((s19,s20):Int × (List Int))=>
   if (decide (s19<(v17.length:Int))) then
    jn (λ(j27:List Int)=>
     some (.inl (C6 (s19+1),j27))) (λκ26=>
     (ix v17 s19).bind λv28=>
     (a2f v28 a1).bind λv29=>
     if v29 then
      (app 8 s20 [v28]).bind λv30=>
      κ26 v30
     else
     κ26 s20)
   else
   some (.inr s20)) (0,[])).bind λe18=>
  κ15 e18)
def a4K(a0:b6)(a1:List Int):Option (List Int):=
 (a2i a0 a1).bind λv1=>
 (O9 a0 v1).bind λv2=>
 some v2
def a1g(a0:l4):Option Bool:=
 some true
def x8(a0:List a8):Option (List l4):=
 jn (λ(j16:List l4)=>
  some j16) (λκ15=>
  (a5J a0).bind λv17=>
  (lp (S:=Int × (List l4)) (E:=(List l4)) (λ((s19,s20):Int × (List l4))=>
   if (decide (s19<(v17.length:Int))) then
    (ix v17 s19).bind λv23=>
    (a3g a0 v23).bind λv24=>
    jn (λ(j28:List l4)=>
     some (.inl (C6 (s19+1),j28))) (λκ27=>
     (a1g (⟨v23,v24.1⟩:l4)).bind λv29=>
     if v29 then
      (app 16 s20 [(⟨v23,v24.1⟩:l4)]).bind λv30=>
      κ27 v30
     else
     κ27 s20)
   else
   some (.inr s20)) (0,[])).bind λe18=>
  κ15 e18)
def a6l(a0:List a8):Option (List l4):=
 (a0T a0).bind λv1=>
 (x8 v1).bind λv2=>
 some v2
def a4D(a0:Int)(a1:b6):Option Bool:=
 (z6 a1 a0).bind λv1=>
 some (v1.2==0)
def a97(a0:b6)(a1:List a8)(a2:List Int):Option (List Int):=
 jn (λ(j20:List Int)=>
  some j20) (λκ19=>
  (a6l a1).bind λv21=>
  (lp (S:=Int × (List Int)) (E:=(List Int)) (λ((s23,s24):Int × (List Int))=>
   if (decide (s23<(v21.length:Int))) then
    jn (λ(j33:List Int)=>
     some (.inl (C6 (s23+1),j33))) (λκ32=>
     (ix v21 s23).bind λv34=>
     (E5 a2 v34.Key).bind λv35=>
     (y7 (v35==true) false (a4D v34.Key a0)).bind λv36=>
     (y7 ((v35&&v36)==true) false (a4D v34.Val a0)).bind λv37=>
     if ((v35&&v36)&&v37) then
      (app 8 s24 [v34.Val]).bind λv38=>
      κ32 v38
     else
     κ32 s24)
   else
   some (.inr s24)) (0,[])).bind λe22=>
  κ19 e22)
def a8H(a0:b6)(a1:List a8)(a2:List Int):Option ((List Int) × Int):=
 (a4K a0 a2).bind λv1=>
 (lp (S:=(List Int) × Int) (E:=((List Int) × Int)) (λ((s3,s4):(List Int) × Int)=>
  (a97 a0 a1 s3).bind λv7=>
  jn (λ(_:Unit)=>
   some (.inr (s3,s4))) (λκ15=>
   (lp (S:=Int) (E:=((List Int) × Int) ⊕ Unit) (λ(s18:Int)=>
    if (decide (s18<(v7.length:Int))) then
     (ix v7 s18).bind λv20=>
     (E5 s3 v20).bind λv21=>
     if (!v21) then
      (app 8 v7 s3).bind λv22=>
      (a4K a0 v22).bind λv23=>
      some (.inr (.inl (v23,C6 (s4+1))))
     else
     some (.inl (C6 (s18+1)))
    else
    some (.inr (.inr ()))) 0).bind λe17=>
   match e17 with
   | .inl w=>some (.inl w)
   | .inr w=>κ15 w)) (v1,0)).bind λe2=>
 some e2
def a94(a0:b6)(a1:List a8)(a2:List Int):Option (List Int):=
 (a8H a0 a1 a2).bind λv1=>
 some v1.1
def a2g(a0:Int)(a1:List (Int × Bool)):Option Bool:=
 some (!((F9 a1 a0).getD (false:Bool)))
def P0(a0:b6)(a1:List (Int × Bool)):Option (List Int):=
 jn (λ(j16:List Int)=>
  some j16) (λκ15=>
  (H3 a0).bind λv17=>
  (lp (S:=Int × (List Int)) (E:=(List Int)) (λ((s19,s20):Int × (List Int))=>
   if (decide (s19<(v17.length:Int))) then
    jn (λ(j27:List Int)=>
     some (.inl (C6 (s19+1),j27))) (λκ26=>
     (ix v17 s19).bind λv28=>
     (a2g v28 a1).bind λv29=>
     if v29 then
      (app 8 s20 [v28]).bind λv30=>
      κ26 v30
     else
     κ26 s20)
   else
   some (.inr s20)) (0,[])).bind λe18=>
  κ15 e18)
def a7M(a0:b6)(a1:List Int):Option (List Int):=
 (a2i a0 a1).bind λv1=>
 (P0 a0 v1).bind λv2=>
 some v2
def a7p(a0:b6)(a1:List a8)(a2:List Int):Option (List Int):=
 (a94 a0 a1 a2).bind λv1=>
 (a7M a0 v1).bind λv2=>
 some v2
def a1p(a0:b6)(a1:List a8):Option (List Int):=
 (a7Y a0 a1).bind λv1=>
 (a7p a0 a1 v1).bind λv2=>
 some v2
def Y6(a0:a6):Option (List Int):=
 (a1p a0.S a0.T).bind λv1=>
 some v1
def a2v(a0:Int)(a1:a6):Option Bool:=
 (z6 a1.S a0).bind λv1=>
 some ((decide (v1.1.Prog≥0))&&(!v1.1.Started))
def G2(a0:List Int)(a1:a6):Option (List Int):=
 jn (λ(j15:List Int)=>
  some j15) (λκ14=>
  (lp (S:=Int × (List Int)) (E:=(List Int)) (λ((s17,s18):Int × (List Int))=>
   if (decide (s17<(a0.length:Int))) then
    jn (λ(j25:List Int)=>
     some (.inl (C6 (s17+1),j25))) (λκ24=>
     (ix a0 s17).bind λv26=>
     (a2v v26 a1).bind λv27=>
     if v27 then
      (app 8 s18 [v26]).bind λv28=>
      κ24 v28
     else
     κ24 s18)
   else
   some (.inr s18)) (0,[])).bind λe16=>
  κ14 e16)
def a34(a0:a6):Option (List Int):=
 (Y6 a0).bind λv1=>
 (G2 v1 a0).bind λv2=>
 some v2
def a2w(a0:a6):Option (a6 × Int × Int):=
 (a34 a0).bind λv1=>
 jn (λ(j10:a6)=>
  if (decide ((v1.length:Int) > 0)) then
   some (j10,(v1.length:Int),0)
  else
  (Y6 j10).bind λv11=>
  (a3u j10 v11).bind λv12=>
  (P2 v12).bind λv13=>
  (H3 j10.S).bind λv14=>
  (H3 v13.S).bind λv15=>
  some (v13,0,C6 ((v14.length:Int)-(v15.length:Int)))) (λκ9=>
  (lp (S:=Int × a6) (E:=a6) (λ((s17,s18):Int × a6)=>
   if (decide (s17<(v1.length:Int))) then
    (ix v1 s17).bind λv21=>
    (a1m s18 v21).bind λv22=>
    some (.inl (C6 (s17+1),v22))
   else
   some (.inr s18)) (0,a0)).bind λe16=>
  κ9 e16)
def W0(a0:b5)(a1:Int):Option (b5 × (List l5)):=
 (H8 a0).bind λv1=>
 (E0 a0.L 0 (if (if v1<a1 then v1 else a1) > 0 then (if v1<a1 then v1 else a1) else 0)).bind λv2=>
 (E0 a0.L (if (if v1<a1 then v1 else a1) > 0 then (if v1<a1 then v1 else a1) else 0) v1).bind λv3=>
 some ((⟨v3,a0.Cap⟩:b5),v2)
def a0a(a0:b5):Option (b5 × l5 × Int):=
 (W0 a0 1).bind λv1=>
 if ((v1.2.length:Int)==0) then
  some (a0,(⟨0,0,0⟩:l5),10)
 else
 (ix v1.2 0).bind λv2=>
 some (v1.1,v2,0)
def a3N(a0:b5):Option (b5 × l5 × Int):=
 (a0a a0).bind λv1=>
 some (v1.1,v1.2.1,v1.2.2)
def a2X(a0:a6):Option Bool:=
 (a3N a0.Q).bind λv1=>
 some (v1.2.2 != 0)
def a4C(a0:List (List j8))(a1:Int):Option (List j8):=
 if ((decide (a1<0))||(decide (a1≥(a0.length:Int)))) then
  some []
 else
 (ix a0 a1).bind λv1=>
 some v1
def a7h(a0:List (List j8))(a1:l5):Option Int:=
 (a4C a0 a1.Prog).bind λv1=>
 some (C6 (1+(v1.length:Int)))
def a6r(a0:a6)(a1:List j8):Option (a6 × (List Int)):=
 jn (λ((j11,j12):a6 × (List Int))=>
  some (j11,j12)) (λκ10=>
  (lp (S:=Int × a6 × (List Int)) (E:=(a6 × (List Int))) (λ((s15,s16,s17):Int × a6 × (List Int))=>
   if (decide (s15<(a1.length:Int))) then
    (ix a1 s15).bind λv20=>
    (a4G s16 v20).bind λv21=>
    (app 8 s17 [v21.2.1]).bind λv22=>
    some (.inl (C6 (s15+1),v21.1,v22))
   else
   some (.inr (s16,s17))) (0,a0,[])).bind λe14=>
  κ10 e14)
def a7j(a0:a6)(a1:List (List j8)):Option (a6 × l5 × Int):=
 (a3N a0.Q).bind λv1=>
 if (v1.2.2 != 0) then
  some (a0,(⟨0,0,0⟩:l5),v1.2.2)
 else
 jn (λ(j6:a6)=>
  (a4C a1 v1.2.1.Prog).bind λv7=>
  (a6r j6 v7).bind λv8=>
  if (v1.2.1.Kind==1) then
   (a3I v8.1 5 0).bind λv9=>
   (P2 v9.1).bind λv10=>
   some (v10,v1.2.1,0)
  else
  some (v8.1,v1.2.1,0)) (λκ5=>
  if (v1.2.1.Kind==1) then
   (a3I (⟨a0.S,a0.Roots,a0.p7,a0.T,v1.1⟩:a6) 5 v1.2.1.At).bind λv11=>
   (M9 v11.1 v1.2.1.At).bind λv12=>
   (P2 v12).bind λv13=>
   κ5 v13
  else
  κ5 (⟨a0.S,a0.Roots,a0.p7,a0.T,v1.1⟩:a6))
def a6j(a0:a6)(a1:List (List j8))(a2:Int):Option (a6 × Int × Int × Int):=
 jn (λ((j14,j15,j16):Int × Int × a6)=>
  (a2X j16).bind λv18=>
  if (!v18) then
   some (j16,j14,j15,12)
  else
  some (j16,j14,j15,0)) (λκ13=>
  (lp (S:=Int × a6 × Int × Int × a6) (E:=(Int × Int × a6)) (λ((s20,s21,s22,s23,s24):Int × a6 × Int × Int × a6)=>
   (a2X s21).bind λv27=>
   if (!v27) then
    (a3N s21.Q).bind λv28=>
    (a7h a1 v28.2.1).bind λv29=>
    if (decide (v29 > s20)) then
     some (.inr (s22,s23,s24))
    else
    (a7j s21 a1).bind λv30=>
    some (.inl (C6 (s20-v29),v30.1,C6 (s22+1),C6 (s20-v29),v30.1))
   else
   some (.inr (s22,s23,s24))) (a2,a0,0,a2,a0)).bind λe19=>
  κ13 e19)
def a8E(a0:o8)(a1:List Int):Option (o8 × r6):=
 (a6f a1).bind λv1=>
 if (v1.2 != 0) then
  some (a0,(⟨0,v1.2⟩:r6))
 else
 (a48 v1.1).bind λv2=>
 if (decide (v2.t=99)) then
  (a4G a0.X (⟨(ifG v2 99 0),(ifG v2 99 1),(ifG v2 99 2),(ifG v2 99 3)⟩:j8)).bind λv3=>
  some ((⟨v3.1,a0.Progs⟩:o8),(⟨v3.2.1,v3.2.2⟩:r6))
 else
 if (decide (v2.t=103)) then
  (a2w a0.X).bind λv4=>
  some ((⟨v4.1,a0.Progs⟩:o8),(⟨C6 (v4.2.2-v4.2.1),0⟩:r6))
 else
 if (decide (v2.t=107)) then
  (a6j a0.X a0.Progs (ifG v2 107 0)).bind λv5=>
  some ((⟨v5.1,a0.Progs⟩:o8),(⟨v5.2.1,v5.2.2.2⟩:r6))
 else
 some (a0,(⟨0,0⟩:r6))
def T7(a0:r6):Option ByteArray:=
 if (a0.E != 0) then
  (A3 a0.E).bind λv1=>
  some v1
 else
 (a4o a0.V).bind λv2=>
 some v2
def N8(a0:b9)(a1:Int)(a2:List Int):Option (b9 × ByteArray):=
 (mk 8 4 (0:Int)).bind λv1=>
 (ix v1 0).bind λv2=>
 (b2T (v1.set (0:Int).toNat a1) 1 a2).bind λv3=>
 (a8E a0.g v3).bind λv4=>
 (T7 v4.2).bind λv5=>
 some ((⟨v4.1,a0.begun,a0.progs⟩:b9),v5)
def Z4(a0:b9)(a1:List Int)(a2:Int):Option (b9 × ByteArray):=
 (N8 a0 a2 a1).bind λv1=>
 some (v1.1,v1.2)
def a9t(f:Fw)(a0:b9)(a1:List Int):Option (b9 × ByteArray):=
 match f with
 | none=>none
 | some (n,none)=>
  if n=76 then R2 a0 a1 else
  if n=78 then L6 a0 a1 else
  if n=80 then L0 a0 a1 else
  if n=81 then L1 a0 a1 else
  if n=82 then V7 a0 a1 else
  none
 | some (n,some c)=>
  if n=138 then Z4 a0 a1 c else
  none
def I5(a0:b9)(a1:List ByteArray):Option (b9 × ByteArray):=
 (a1t).bind λv1=>
 (ix a1 0).bind λv2=>
 (cut a1 1 (a1.length:Int)).bind λv3=>
 (a0S v3).bind λv4=>
 if (((!((F9 v1 v2).isSome))||(!v4.2))==false) then
  (a9s (((F9 v1 v2).getD (⟨none,none,false⟩:b1)).takes) (v4.1.length:Int)).bind λv5=>
  if (!v5) then
   (A3 33).bind λv8=>
   some (a0,v8)
  else
  if ((!a0.begun)&&(!(((F9 v1 v2).getD (⟨none,none,false⟩:b1)).early))) then
   some (a0,(l6 [110,111,32,104,101,97,112]))
  else
  (a9t (((F9 v1 v2).getD (⟨none,none,false⟩:b1)).run) a0 v4.1).bind λv9=>
  some (v9.1,v9.2)
 else
 (A3 33).bind λv12=>
 some (a0,v12)
def a38(a0:ByteArray):Option (List ByteArray):=
 jn (λ(j21:List ByteArray)=>
  some j21) (λκ20=>
  (a9G a0 (l6 [10])).bind λv22=>
  (lp (S:=Int × b9 × (List ByteArray)) (E:=(List ByteArray)) (λ((s24,s25,s26):Int × b9 × (List ByteArray))=>
   if (decide (s24<(v22.length:Int))) then
    jn (λ((j34,j35):b9 × (List ByteArray))=>
     some (.inl (C6 (s24+1),j34,j35))) (λκ33=>
     (ix v22 s24).bind λv37=>
     (F4 v37).bind λv38=>
     if ((v38.length:Int)==0) then
      κ33 (s25,s26)
     else
     (I5 s25 v38).bind λv39=>
     (app 16 s26 [v39.2]).bind λv40=>
     κ33 (v39.1,v40))
   else
   some (.inr s26)) (0,(⟨⟨⟨⟨⟨[],0⟩,0⟩,[],[],[],⟨[],0⟩⟩,[]⟩,false,[]⟩:b9),[])).bind λe23=>
  κ20 e23)
def a3Q:Option Bool:=
 (a38 (l6 [108,105,118,101,115,10,112,114,111,103,32,48,32,50,32,50,32,53,32,48,10,104,101,97,112,32,51,32,53,32,56,10,110,101,119,32,48,32,49,32,48,10,115,116,111,114,101,32,48,32,48,32,48,10,10,119,101,97,107,32,49,32,48,32,45,49,10,32,100,114,111,112,32,48,32,10,99,111,108,108,101,99,116,10,100,114,97,105,110,32,57,10,114,111,111,116,115,10,108,105,118,101,115,10,100,114,111,112,32,50,10,99,111,108,108,101,99,116,10,116,97,108,108,121,10,117,112,32,48,32,49,10,104,101,97,112,32,48,32,48,32,48,10,112,114,111,103,32,54,10,110,101,119,32,48,10,102,108,121])).bind λv1=>
 (y7 (((v1.length:Int)==19)==true) (ByteArray.empty:ByteArray) (ix v1 0)).bind λv2=>
 (y7 ((((v1.length:Int)==19)&&(v2.toList==(l6 [110,111,32,104,101,97,112]).toList))==true) (ByteArray.empty:ByteArray) (ix v1 1)).bind λv3=>
 (y7 (((((v1.length:Int)==19)&&(v2.toList==(l6 [110,111,32,104,101,97,112]).toList))&&(v3.toList==(l6 [111,107]).toList))==true) (ByteArray.empty:ByteArray) (ix v1 2)).bind λv4=>
 (y7 ((((((v1.length:Int)==19)&&(v2.toList==(l6 [110,111,32,104,101,97,112]).toList))&&(v3.toList==(l6 [111,107]).toList))&&(v4.toList==(l6 [111,107]).toList))==true) (ByteArray.empty:ByteArray) (ix v1 3)).bind λv5=>
 (y7 (((((((v1.length:Int)==19)&&(v2.toList==(l6 [110,111,32,104,101,97,112]).toList))&&(v3.toList==(l6 [111,107]).toList))&&(v4.toList==(l6 [111,107]).toList))&&(v5.toList==(l6 [49]).toList))==true) (ByteArray.empty:ByteArray) (ix v1 4)).bind λv6=>
 (y7 ((((((((v1.length:Int)==19)&&(v2.toList==(l6 [110,111,32,104,101,97,112]).toList))&&(v3.toList==(l6 [111,107]).toList))&&(v4.toList==(l6 [111,107]).toList))&&(v5.toList==(l6 [49]).toList))&&(v6.toList==(l6 [49]).toList))==true) (ByteArray.empty:ByteArray) (ix v1 5)).bind λv7=>
 (y7 (((((((((v1.length:Int)==19)&&(v2.toList==(l6 [110,111,32,104,101,97,112]).toList))&&(v3.toList==(l6 [111,107]).toList))&&(v4.toList==(l6 [111,107]).toList))&&(v5.toList==(l6 [49]).toList))&&(v6.toList==(l6 [49]).toList))&&(v7.toList==(l6 [49]).toList))==true) (ByteArray.empty:ByteArray) (ix v1 6)).bind λv8=>
 (y7 ((((((((((v1.length:Int)==19)&&(v2.toList==(l6 [110,111,32,104,101,97,112]).toList))&&(v3.toList==(l6 [111,107]).toList))&&(v4.toList==(l6 [111,107]).toList))&&(v5.toList==(l6 [49]).toList))&&(v6.toList==(l6 [49]).toList))&&(v7.toList==(l6 [49]).toList))&&(v8.toList==(l6 [48]).toList))==true) (ByteArray.empty:ByteArray) (ix v1 7)).bind λv9=>
 (y7 (((((((((((v1.length:Int)==19)&&(v2.toList==(l6 [110,111,32,104,101,97,112]).toList))&&(v3.toList==(l6 [111,107]).toList))&&(v4.toList==(l6 [111,107]).toList))&&(v5.toList==(l6 [49]).toList))&&(v6.toList==(l6 [49]).toList))&&(v7.toList==(l6 [49]).toList))&&(v8.toList==(l6 [48]).toList))&&(v9.toList==(l6 [45,49]).toList))==true) (ByteArray.empty:ByteArray) (ix v1 8)).bind λv10=>
 (y7 ((((((((((((v1.length:Int)==19)&&(v2.toList==(l6 [110,111,32,104,101,97,112]).toList))&&(v3.toList==(l6 [111,107]).toList))&&(v4.toList==(l6 [111,107]).toList))&&(v5.toList==(l6 [49]).toList))&&(v6.toList==(l6 [49]).toList))&&(v7.toList==(l6 [49]).toList))&&(v8.toList==(l6 [48]).toList))&&(v9.toList==(l6 [45,49]).toList))&&(v10.toList==(l6 [49]).toList))==true) (ByteArray.empty:ByteArray) (ix v1 9)).bind λv11=>
 (y7 (((((((((((((v1.length:Int)==19)&&(v2.toList==(l6 [110,111,32,104,101,97,112]).toList))&&(v3.toList==(l6 [111,107]).toList))&&(v4.toList==(l6 [111,107]).toList))&&(v5.toList==(l6 [49]).toList))&&(v6.toList==(l6 [49]).toList))&&(v7.toList==(l6 [49]).toList))&&(v8.toList==(l6 [48]).toList))&&(v9.toList==(l6 [45,49]).toList))&&(v10.toList==(l6 [49]).toList))&&(v11.toList==(l6 [114,111,111,116,115,32,48,32,48,32,49,32,48,32,48,32,48]).toList))==true) (ByteArray.empty:ByteArray) (ix v1 10)).bind λv12=>
 (y7 ((((((((((((((v1.length:Int)==19)&&(v2.toList==(l6 [110,111,32,104,101,97,112]).toList))&&(v3.toList==(l6 [111,107]).toList))&&(v4.toList==(l6 [111,107]).toList))&&(v5.toList==(l6 [49]).toList))&&(v6.toList==(l6 [49]).toList))&&(v7.toList==(l6 [49]).toList))&&(v8.toList==(l6 [48]).toList))&&(v9.toList==(l6 [45,49]).toList))&&(v10.toList==(l6 [49]).toList))&&(v11.toList==(l6 [114,111,111,116,115,32,48,32,48,32,49,32,48,32,48,32,48]).toList))&&(v12.toList==(l6 [108,105,118,101,115,32,49]).toList))==true) (ByteArray.empty:ByteArray) (ix v1 11)).bind λv13=>
 (y7 (((((((((((((((v1.length:Int)==19)&&(v2.toList==(l6 [110,111,32,104,101,97,112]).toList))&&(v3.toList==(l6 [111,107]).toList))&&(v4.toList==(l6 [111,107]).toList))&&(v5.toList==(l6 [49]).toList))&&(v6.toList==(l6 [49]).toList))&&(v7.toList==(l6 [49]).toList))&&(v8.toList==(l6 [48]).toList))&&(v9.toList==(l6 [45,49]).toList))&&(v10.toList==(l6 [49]).toList))&&(v11.toList==(l6 [114,111,111,116,115,32,48,32,48,32,49,32,48,32,48,32,48]).toList))&&(v12.toList==(l6 [108,105,118,101,115,32,49]).toList))&&(v13.toList==(l6 [48]).toList))==true) (ByteArray.empty:ByteArray) (ix v1 12)).bind λv14=>
 (y7 ((((((((((((((((v1.length:Int)==19)&&(v2.toList==(l6 [110,111,32,104,101,97,112]).toList))&&(v3.toList==(l6 [111,107]).toList))&&(v4.toList==(l6 [111,107]).toList))&&(v5.toList==(l6 [49]).toList))&&(v6.toList==(l6 [49]).toList))&&(v7.toList==(l6 [49]).toList))&&(v8.toList==(l6 [48]).toList))&&(v9.toList==(l6 [45,49]).toList))&&(v10.toList==(l6 [49]).toList))&&(v11.toList==(l6 [114,111,111,116,115,32,48,32,48,32,49,32,48,32,48,32,48]).toList))&&(v12.toList==(l6 [108,105,118,101,115,32,49]).toList))&&(v13.toList==(l6 [48]).toList))&&(v14.toList==(l6 [49]).toList))==true) (ByteArray.empty:ByteArray) (ix v1 13)).bind λv15=>
 (y7 (((((((((((((((((v1.length:Int)==19)&&(v2.toList==(l6 [110,111,32,104,101,97,112]).toList))&&(v3.toList==(l6 [111,107]).toList))&&(v4.toList==(l6 [111,107]).toList))&&(v5.toList==(l6 [49]).toList))&&(v6.toList==(l6 [49]).toList))&&(v7.toList==(l6 [49]).toList))&&(v8.toList==(l6 [48]).toList))&&(v9.toList==(l6 [45,49]).toList))&&(v10.toList==(l6 [49]).toList))&&(v11.toList==(l6 [114,111,111,116,115,32,48,32,48,32,49,32,48,32,48,32,48]).toList))&&(v12.toList==(l6 [108,105,118,101,115,32,49]).toList))&&(v13.toList==(l6 [48]).toList))&&(v14.toList==(l6 [49]).toList))&&(v15.toList==(l6 [116,97,108,108,121,32,50,32,48,32,49,32,48]).toList))==true) (ByteArray.empty:ByteArray) (ix v1 14)).bind λv16=>
 (y7 ((((((((((((((((((v1.length:Int)==19)&&(v2.toList==(l6 [110,111,32,104,101,97,112]).toList))&&(v3.toList==(l6 [111,107]).toList))&&(v4.toList==(l6 [111,107]).toList))&&(v5.toList==(l6 [49]).toList))&&(v6.toList==(l6 [49]).toList))&&(v7.toList==(l6 [49]).toList))&&(v8.toList==(l6 [48]).toList))&&(v9.toList==(l6 [45,49]).toList))&&(v10.toList==(l6 [49]).toList))&&(v11.toList==(l6 [114,111,111,116,115,32,48,32,48,32,49,32,48,32,48,32,48]).toList))&&(v12.toList==(l6 [108,105,118,101,115,32,49]).toList))&&(v13.toList==(l6 [48]).toList))&&(v14.toList==(l6 [49]).toList))&&(v15.toList==(l6 [116,97,108,108,121,32,50,32,48,32,49,32,48]).toList))&&(v16.toList==(l6 [101,114,114,111,114,32,57]).toList))==true) (ByteArray.empty:ByteArray) (ix v1 15)).bind λv17=>
 (y7 (((((((((((((((((((v1.length:Int)==19)&&(v2.toList==(l6 [110,111,32,104,101,97,112]).toList))&&(v3.toList==(l6 [111,107]).toList))&&(v4.toList==(l6 [111,107]).toList))&&(v5.toList==(l6 [49]).toList))&&(v6.toList==(l6 [49]).toList))&&(v7.toList==(l6 [49]).toList))&&(v8.toList==(l6 [48]).toList))&&(v9.toList==(l6 [45,49]).toList))&&(v10.toList==(l6 [49]).toList))&&(v11.toList==(l6 [114,111,111,116,115,32,48,32,48,32,49,32,48,32,48,32,48]).toList))&&(v12.toList==(l6 [108,105,118,101,115,32,49]).toList))&&(v13.toList==(l6 [48]).toList))&&(v14.toList==(l6 [49]).toList))&&(v15.toList==(l6 [116,97,108,108,121,32,50,32,48,32,49,32,48]).toList))&&(v16.toList==(l6 [101,114,114,111,114,32,57]).toList))&&(v17.toList==(l6 [101,114,114,111,114,32,49]).toList))==true) (ByteArray.empty:ByteArray) (ix v1 16)).bind λv18=>
 (y7 ((((((((((((((((((((v1.length:Int)==19)&&(v2.toList==(l6 [110,111,32,104,101,97,112]).toList))&&(v3.toList==(l6 [111,107]).toList))&&(v4.toList==(l6 [111,107]).toList))&&(v5.toList==(l6 [49]).toList))&&(v6.toList==(l6 [49]).toList))&&(v7.toList==(l6 [49]).toList))&&(v8.toList==(l6 [48]).toList))&&(v9.toList==(l6 [45,49]).toList))&&(v10.toList==(l6 [49]).toList))&&(v11.toList==(l6 [114,111,111,116,115,32,48,32,48,32,49,32,48,32,48,32,48]).toList))&&(v12.toList==(l6 [108,105,118,101,115,32,49]).toList))&&(v13.toList==(l6 [48]).toList))&&(v14.toList==(l6 [49]).toList))&&(v15.toList==(l6 [116,97,108,108,121,32,50,32,48,32,49,32,48]).toList))&&(v16.toList==(l6 [101,114,114,111,114,32,57]).toList))&&(v17.toList==(l6 [101,114,114,111,114,32,49]).toList))&&(v18.toList==(l6 [101,114,114,111,114,32,49,51]).toList))==true) (ByteArray.empty:ByteArray) (ix v1 17)).bind λv19=>
 (y7 (((((((((((((((((((((v1.length:Int)==19)&&(v2.toList==(l6 [110,111,32,104,101,97,112]).toList))&&(v3.toList==(l6 [111,107]).toList))&&(v4.toList==(l6 [111,107]).toList))&&(v5.toList==(l6 [49]).toList))&&(v6.toList==(l6 [49]).toList))&&(v7.toList==(l6 [49]).toList))&&(v8.toList==(l6 [48]).toList))&&(v9.toList==(l6 [45,49]).toList))&&(v10.toList==(l6 [49]).toList))&&(v11.toList==(l6 [114,111,111,116,115,32,48,32,48,32,49,32,48,32,48,32,48]).toList))&&(v12.toList==(l6 [108,105,118,101,115,32,49]).toList))&&(v13.toList==(l6 [48]).toList))&&(v14.toList==(l6 [49]).toList))&&(v15.toList==(l6 [116,97,108,108,121,32,50,32,48,32,49,32,48]).toList))&&(v16.toList==(l6 [101,114,114,111,114,32,57]).toList))&&(v17.toList==(l6 [101,114,114,111,114,32,49]).toList))&&(v18.toList==(l6 [101,114,114,111,114,32,49,51]).toList))&&(v19.toList==(l6 [101,114,114,111,114,32,51,51]).toList))==true) (ByteArray.empty:ByteArray) (ix v1 18)).bind λv20=>
 some (((((((((((((((((((((v1.length:Int)==19)&&(v2.toList==(l6 [110,111,32,104,101,97,112]).toList))&&(v3.toList==(l6 [111,107]).toList))&&(v4.toList==(l6 [111,107]).toList))&&(v5.toList==(l6 [49]).toList))&&(v6.toList==(l6 [49]).toList))&&(v7.toList==(l6 [49]).toList))&&(v8.toList==(l6 [48]).toList))&&(v9.toList==(l6 [45,49]).toList))&&(v10.toList==(l6 [49]).toList))&&(v11.toList==(l6 [114,111,111,116,115,32,48,32,48,32,49,32,48,32,48,32,48]).toList))&&(v12.toList==(l6 [108,105,118,101,115,32,49]).toList))&&(v13.toList==(l6 [48]).toList))&&(v14.toList==(l6 [49]).toList))&&(v15.toList==(l6 [116,97,108,108,121,32,50,32,48,32,49,32,48]).toList))&&(v16.toList==(l6 [101,114,114,111,114,32,57]).toList))&&(v17.toList==(l6 [101,114,114,111,114,32,49]).toList))&&(v18.toList==(l6 [101,114,114,111,114,32,49,51]).toList))&&(v19.toList==(l6 [101,114,114,111,114,32,51,51]).toList))&&(v20.toList==(l6 [101,114,114,111,114,32,51,51]).toList))
def a2e(a0:ByteArray):Option (Int × Bool):=
 jn (λ((j4,j5):ByteArray × Int)=>
  if ((decide ((j4.size:Int)<1))||(decide ((j4.size:Int) > 9))) then
   some (0,false)
  else
  jn (λ(j14:Int)=>
   some (C6 (j5*j14),true)) (λκ13=>
   (lp (S:=Int × Int) (E:=(Int × Bool) ⊕ Int) (λ((s16,s17):Int × Int)=>
    if (decide (s17<(j4.size:Int))) then
     (six j4 s17).bind λv20=>
     if ((decide (v20<48))||(decide (v20 > 57))) then
      some (.inr (.inl (0,false)))
     else
     some (.inl (C6 ((C6 (10*s16))+(C6 (w8 (v20-48)))),C6 (s17+1)))
    else
    some (.inr (.inr s16))) (0,0)).bind λe15=>
   match e15 with
   | .inl w=>some w
   | .inr w=>κ13 w)) (λκ3=>
  (y7 ((!(a0.toList==ByteArray.empty.toList))==true) 0 (six a0 0)).bind λv21=>
  if ((!(a0.toList==ByteArray.empty.toList))&&(v21==45)) then
   (a6K a0 1 (a0.size:Int)).bind λv22=>
   κ3 (v22,(-1))
  else
  κ3 (a0,1))
def a0B(a0:Int):Option ByteArray:=
 jn (λ(j2:ByteArray)=>
  jn (λ(j16:ByteArray)=>
   (a52 j2 j16).bind λv17=>
   some v17) (λκ15=>
   (lp (S:=Int × ByteArray × Int) (E:=ByteArray) (λ((s19,s20,s21):Int × ByteArray × Int)=>
    if (decide (s21<20)) then
     (rem s19 10).bind λv24=>
     jn (λ(j26:Int)=>
      (a6K (l6 [48,49,50,51,52,53,54,55,56,57]) j26 (C6 (j26+1))).bind λv27=>
      (a52 v27 s20).bind λv28=>
      (quo .i64 s19 10).bind λv29=>
      if (v29==0) then
       some (.inr v28)
      else
      some (.inl (v29,v28,C6 (s21+1)))) (λκ25=>
      if (decide (v24<0)) then
       κ25 (C6 (0-v24))
      else
      κ25 v24)
    else
    some (.inr s20)) (a0,ByteArray.empty,0)).bind λe18=>
   κ15 e18)) (λκ1=>
  if (decide (a0<0)) then
   κ1 (l6 [45])
  else
  κ1 ByteArray.empty)
def a5m(a0:Q8):Option ByteArray:=
 if (a0.E != 0) then
  (a0B a0.E).bind λv1=>
  (a52 (l6 [101,114,114,111,114,32]) v1).bind λv2=>
  some v2
 else
 (a0B a0.V).bind λv3=>
 some v3
def N4(a0:ByteArray)(a1:r6):Option Bool:=
 (y7 (((decide ((a0.size:Int) > 100))||(decide (a1.E<0)))==false) false a3Q).bind λv1=>
 if (((decide ((a0.size:Int) > 100))||(decide (a1.E<0)))||(!v1)) then
  (a3Q).bind λv2=>
  some v2
 else
 (L5 a0).bind λv3=>
 (a2e a0).bind λv4=>
 (y7 (((v3.1==v4.1)&&(v3.2==v4.2))==true) ByteArray.empty (T7 a1)).bind λv5=>
 (y7 (((v3.1==v4.1)&&(v3.2==v4.2))==true) ByteArray.empty (a5m (⟨a1.V,a1.E⟩:Q8))).bind λv6=>
 some (((v3.1==v4.1)&&(v3.2==v4.2))&&(v5.toList==v6.toList))
end
end Go.Sh
