/-
 Plain functions: what the functions of the program come to.
-/
import Derived.Test.YtppgkaeodaaidaaGreatDoorU3tSh0
import Derived.Test.YtppgkaeodaaidaaGreatDoorU3tPwD
import Derived.Test.YtppgkaeodaaidaaGreatDoorU3tPwC
import Derived.Test.YtppgkaeodaaidaaGreatDoorU3tPwE
set_option linter.unusedVariables false
set_option linter.unusedSimpArgs false
set_option linter.unusedSectionVars false
namespace Go.Sh
set_option maxRecDepth 100000
noncomputable section
structure p8 where
 Serial:Int
 Strong:Int
 Weak:Int
 Prog:Int
 Started:Bool
 Fields:List Int
structure b6 where
 State:Int
 Gen:Int
 Val:p8
structure c9 where
 Target:Int
 Intact:Bool
 Call:Int
structure a8 where
 State:Int
 Key:Int
 Val:Int
structure k8 where
 Kind:Int
 At:Int
 Prog:Int
structure j5 where
 Kind:Int
 A:Int
 B:Int
 C:Int
structure l9 where
 start:Int
 end_:Int
structure b9 where
 o8:List b6
 Last:Int
structure b8 where
 S:b9
 Serial:Int
structure b7 where
 L:List k8
 Cap:Int
structure a6 where
 S:b8
 Roots:List Int
 o8:List c9
 T:List a8
 Q:b7
structure l3 where
 X:a6
 Progs:List (List j5)
structure c3 where
 g:l3
 begun:Bool
 progs:List (List j5)
structure b4 where
 takes:Fw
 run:Fw
 early:Bool
structure c8 where
 part:Fv
 least:Int
 most:Int
 e:Int
structure l8 where
 x:a6
 o:j5
structure B2 where
 r:Int
 h:Int
structure z8 where
 h:Int
 k:Int
 v:Int
structure B1 where
 t:List a8
structure j8 where
 Key:Int
 Val:Int
structure e8 where
 L:List Int
 Cap:Int
structure k7 where
 V:Int
 E:Int
def Y7(a0:Int):Option Bool:=
 some (((a0==9)||(a0==13))||(a0==32))
def F2(a0:ByteArray):Option (List ByteArray):=
 jn (λ((j10,j11):Int × (List l9))=>
  jn (λ(j15:List l9)=>
   (mk 16 (j15.length:Int) (ByteArray.empty:ByteArray)).bind λv16=>
   jn (λ(j26:List ByteArray)=>
    some j26) (λκ25=>
    (lp (S:=Int × (List ByteArray)) (E:=(List ByteArray)) (λ((s28,s29):Int × (List ByteArray))=>
     if (decide (s28<(j15.length:Int))) then
      (ix j15 s28).bind λv32=>
      (b50 a0 v32.start v32.end_).bind λv33=>
      (ix s29 s28).bind λv34=>
      some (.inl (G2 (s28+1),(s29.set (s28).toNat v33)))
     else
     some (.inr s29)) (0,v16)).bind λe27=>
    κ25 e27)) (λκ14=>
   if (decide (j10≥0)) then
    (app 16 j11 [(⟨j10,(a0.size:Int)⟩:l9)]).bind λv35=>
    κ14 v35
   else
   κ14 j11)) (λκ9=>
  (lp (S:=Int × Nat × (List l9)) (E:=(Int × (List l9))) (λ((s37,s38,s39):Int × Nat × (List l9))=>
   if (decide (s38<a0.size)) then
    (Y7 ((dec a0 s38).1:Int)).bind λv42=>
    if v42 then
     if (decide (s37≥0)) then
      (app 16 s39 [(⟨s37,((s38:Nat):Int)⟩:l9)]).bind λv43=>
      some (.inl (b0I .i64 s37,(s38+(dec a0 s38).2),v43))
     else
     some (.inl (s37,(s38+(dec a0 s38).2),s39))
    else
    if (decide (s37<0)) then
     some (.inl (((s38:Nat):Int),(s38+(dec a0 s38).2),s39))
    else
    some (.inl (s37,(s38+(dec a0 s38).2),s39))
   else
   some (.inr (s37,s39))) ((-1),0,[])).bind λe36=>
  κ9 e36)
def K2(a0:Int):Option Int:=
 some a0
def s7(a0:Int)(a1:Int):Option b4:=
 (K2 a1).bind λv1=>
 some (⟨(some (137,some v1)),(some (138,some a0)),false⟩:b4)
def a1n:Option (List (ByteArray × b4)):=
 (K2 3).bind λv1=>
 (s7 1 3).bind λv2=>
 (s7 2 2).bind λv3=>
 (s7 3 1).bind λv4=>
 (s7 4 3).bind λv5=>
 (s7 5 3).bind λv6=>
 (s7 6 3).bind λv7=>
 (s7 7 2).bind λv8=>
 (s7 8 2).bind λv9=>
 (s7 9 2).bind λv10=>
 (s7 10 2).bind λv11=>
 (s7 11 0).bind λv12=>
 (s7 12 1).bind λv13=>
 (K2 0).bind λv14=>
 some (h9 (h9 (h9 (h9 (h9 (h9 (h9 (h9 (h9 (h9 (h9 (h9 (h9 (h9 (h9 (h9 (h9 [] (p5 [112,114,111,103]) (⟨(some (75,none)),(some (76,none)),true⟩:b4)) (p5 [104,101,97,112]) (⟨(some (137,some v1)),(some (78,none)),true⟩:b4)) (p5 [110,101,119]) v2) (p5 [99,111,112,121]) v3) (p5 [100,114,111,112]) v4) (p5 [108,111,97,100]) v5) (p5 [115,116,111,114,101]) v6) (p5 [119,101,97,107]) v7) (p5 [117,112]) v8) (p5 [112,97,105,114]) v9) (p5 [103,101,116]) v10) (p5 [115,97,109,101]) v11) (p5 [99,111,108,108,101,99,116]) v12) (p5 [100,114,97,105,110]) v13) (p5 [108,105,118,101,115]) (⟨(some (137,some v14)),(some (80,none)),false⟩:b4)) (p5 [114,111,111,116,115]) (⟨(some (137,some v14)),(some (81,none)),false⟩:b4)) (p5 [116,97,108,108,121]) (⟨(some (137,some v14)),(some (82,none)),false⟩:b4))
def a2M(a0:ByteArray):Option (Int × Bool):=
 jn (λ((j9,j10,j11):Int × Int × Int)=>
  if (j10==0) then
   some (0,false)
  else
  some (G2 (j11*j9),true)) (λκ8=>
  (lp (S:=Int × Int × Int × Nat) (E:=(Int × Int × Int)) (λ((s14,s15,s16,s17):Int × Int × Int × Nat)=>
   if (decide (s17<a0.size)) then
    if ((((s17:Nat):Int)==0)&&(((dec a0 s17).1:Int)==45)) then
     some (.inl (s14,s15,(-1),(s17+(dec a0 s17).2)))
    else
    if (((decide (((dec a0 s17).1:Int)<48))||(decide (((dec a0 s17).1:Int) > 57)))||(s15==9)) then
     some (.inr (s14,0,s16))
    else
    some (.inl (G2 ((G2 (s14*10))+(G2 (IntKind.i32.wrap (((dec a0 s17).1:Int)-48)))),G2 (s15+1),s16,(s17+(dec a0 s17).2)))
   else
   some (.inr (s14,s15,s16))) (0,0,1,0)).bind λe13=>
  κ8 e13)
def a0M(a0:List ByteArray):Option ((List Int) × Bool):=
 jn (λ(j10:List Int)=>
  some (j10,true)) (λκ9=>
  (lp (S:=Int × (List Int)) (E:=((List Int) × Bool) ⊕ (List Int)) (λ((s12,s13):Int × (List Int))=>
   if (decide (s12<(a0.length:Int))) then
    (ix a0 s12).bind λv16=>
    (a2M v16).bind λv17=>
    if (!v17.2) then
     some (.inr (.inl ([],false)))
    else
    (app 8 s13 [v17.1]).bind λv18=>
    some (.inl (G2 (s12+1),v18))
   else
   some (.inr (.inr s13))) (0,[])).bind λe11=>
  match e11 with
  | .inl w=>some w
  | .inr w=>κ9 w)
def Q2(a0:Int):Option Bool:=
 (rem a0 4).bind λv1=>
 some (v1==1)
def T6(a0:Int)(a1:Int):Option Bool:=
 some (a0==a1)
def a9g(f:Fw)(a0:Int):Option Bool:=
 match f with
 | none=>none
 | some (n,none)=>
  if n=75 then Q2 a0 else
  none
 | some (n,some c)=>
  if n=137 then T6 a0 c else
  none
def D6(a0:Int):Option ByteArray:=
 (a8L a0).bind λv1=>
 (a2f (p5 [101,114,114,111,114,32]) v1).bind λv2=>
 some v2
def a4l(a0:j5):Option Bool:=
 some ((decide (a0.Kind≥1))&&(decide (a0.Kind≤10)))
def K9:Option c8:=
 some (⟨(some 169),0,5,6⟩:c8)
def H0:Option c8:=
 some (⟨(some 172),(-1),5,13⟩:c8)
def C1(a0:List c8):Option (List c8):=
 some a0
def L0:Option c8:=
 some (⟨(some 170),0,5,6⟩:c8)
def J6:Option c8:=
 some (⟨(some 172),0,3,5⟩:c8)
def J5:Option c8:=
 some (⟨(some 170),0,3,5⟩:c8)
def E9:Option c8:=
 some (⟨(some 172),(-1),5,6⟩:c8)
def K7:Option c8:=
 some (⟨(some 169),0,5,7⟩:c8)
def E8:Option c8:=
 some (⟨(some 170),(-1),5,6⟩:c8)
def K8:Option c8:=
 some (⟨(some 170),0,5,7⟩:c8)
def a4R:Option (List (Int × (List c8))):=
 (K9).bind λv1=>
 (H0).bind λv2=>
 (C1 [v1,(⟨(some 170),0,4,1⟩:c8),v2]).bind λv3=>
 (L0).bind λv4=>
 (C1 [v1,v4]).bind λv5=>
 (C1 [v1]).bind λv6=>
 (J6).bind λv7=>
 (C1 [v1,v4,v7]).bind λv8=>
 (J5).bind λv9=>
 (E9).bind λv10=>
 (C1 [v1,v9,v10]).bind λv11=>
 (K7).bind λv12=>
 (E8).bind λv13=>
 (C1 [v12,v13,v2]).bind λv14=>
 (K8).bind λv15=>
 (C1 [v1,v15]).bind λv16=>
 (C1 [v1,v13]).bind λv17=>
 (C1 []).bind λv18=>
 (C1 [(⟨(some 169),0,200,12⟩:c8)]).bind λv19=>
 some (h9 (h9 (h9 (h9 (h9 (h9 (h9 (h9 (h9 (h9 (h9 (h9 [] 1 v3) 2 v5) 3 v6) 4 v8) 5 v11) 6 v14) 7 v16) 8 v17) 9 v5) 10 v5) 11 v18) 12 v19)
def a4n(a0:j5):Option Int:=
 some a0.A
def a4o(a0:j5):Option Int:=
 some a0.B
def a4p(a0:j5):Option Int:=
 some a0.C
def a9d(f:Fv)(a0:j5):Option Int:=
 if f=some 169 then a4n a0 else
 if f=some 170 then a4o a0 else
 if f=some 172 then a4p a0 else
 none
def a0m(a0:j5):Option Int:=
 (a4R).bind λv1=>
 if (!((F7 v1 a0.Kind).isSome)) then
  some 14
 else
 jn (λ(_:Unit)=>
  some 0) (λκ8=>
  (lp (S:=Int) (E:=Int ⊕ Unit) (λ(s11:Int)=>
   if (decide (s11<(((F7 v1 a0.Kind).getD ([]:List c8)).length:Int))) then
    (ix ((F7 v1 a0.Kind).getD ([]:List c8)) s11).bind λv13=>
    (a9d v13.part a0).bind λv14=>
    if ((decide (v14<v13.least))||(decide (v14 > v13.most))) then
     some (.inr (.inl v13.e))
    else
    some (.inl (G2 (s11+1)))
   else
   some (.inr (.inr ()))) 0).bind λe10=>
  match e10 with
  | .inl w=>some w
  | .inr w=>κ8 w)
def a4m(a0:List (List j5)):Option Bool:=
 if (decide ((a0.length:Int) > 6)) then
  some false
 else
 jn (λ(_:Unit)=>
  some true) (λκ20=>
  (lp (S:=Int) (E:=Bool ⊕ Unit) (λ(s23:Int)=>
   if (decide (s23<(a0.length:Int))) then
    jn (λ(_:Unit)=>
     some (.inl (G2 (s23+1)))) (λκ32=>
     (ix a0 s23).bind λv34=>
     if (decide ((v34.length:Int) > 6)) then
      some (.inr (.inl false))
     else
     (lp (S:=Int) (E:=Bool ⊕ Unit) (λ(s36:Int)=>
      if (decide (s36<(v34.length:Int))) then
       (ix v34 s36).bind λv38=>
       (a4l v38).bind λv39=>
       (D7 ((!v39)==false) 0 (a0m v38)).bind λv40=>
       if ((!v39)||(v40 != 0)) then
        some (.inr (.inl false))
       else
       some (.inl (G2 (s36+1)))
      else
      some (.inr (.inr ()))) 0).bind λe35=>
     match e35 with
     | .inl w=>some (.inr (.inl w))
     | .inr w=>κ32 w)
   else
   some (.inr (.inr ()))) 0).bind λe22=>
  match e22 with
  | .inl w=>some w
  | .inr w=>κ20 w)
def R2(a0:c3)(a1:List Int):Option (c3 × ByteArray):=
 (ix a1 0).bind λv1=>
 if ((decide (v1<0))||(decide (v1≥6))) then
  (D6 13).bind λv2=>
  some (a0,v2)
 else
 (mk 24 (if (a0.progs.length:Int) > (G2 (v1+1)) then (a0.progs.length:Int) else G2 (v1+1)) ([]:List j5)).bind λv3=>
 (cpy v3 a0.progs).bind λv4=>
 (ix v4 v1).bind λv5=>
 jn (λ(j19:List j5)=>
  (a4m (v4.set ((v1).toNat) j19)).bind λv20=>
  if (!v20) then
   (D6 13).bind λv21=>
   some (a0,v21)
  else
  some ((⟨a0.g,a0.begun,(v4.set ((v1).toNat) j19)⟩:c3),(p5 [111,107]))) (λκ18=>
  (cut a1 1 (a1.length:Int)).bind λv22=>
  (lp (S:=(List Int) × (List j5)) (E:=(List j5)) (λ((s24,s25):(List Int) × (List j5))=>
   if (decide ((s24.length:Int) > 0)) then
    (ix s24 0).bind λv28=>
    (ix s24 1).bind λv29=>
    (ix s24 2).bind λv30=>
    (ix s24 3).bind λv31=>
    (app 32 s25 [(⟨v28,v29,v30,v31⟩:j5)]).bind λv32=>
    (cut s24 4 (s24.length:Int)).bind λv33=>
    some (.inl (v33,v32))
   else
   some (.inr s25)) (v22,[])).bind λe23=>
  κ18 e23)
def a0A(a0:Int)(a1:Int):Option b9:=
 if ((((decide (a0<0))||(decide (a0 > 24)))||(decide (a1<0)))||(decide (a1 > 9))) then
  some (⟨[],0⟩:b9)
 else
 (mk 80 a0 (⟨0,0,⟨0,0,0,0,false,[]⟩⟩:b6)).bind λv1=>
 some (⟨v1,a1⟩:b9)
def a8M(a0:Int)(a1:Int):Option b8:=
 (a0A a0 a1).bind λv1=>
 some (⟨v1,0⟩:b8)
def b0p(a0:Int):Option (List c9):=
 if ((decide (a0<0))||(decide (a0 > 6))) then
  some []
 else
 (mk 24 a0 (⟨0,false,0⟩:c9)).bind λv1=>
 jn (λ(j9:List c9)=>
  some j9) (λκ8=>
  (lp (S:=Int × (List c9)) (E:=(List c9)) (λ((s11,s12):Int × (List c9))=>
   if (decide (s11<(v1.length:Int))) then
    (ix s12 s11).bind λv15=>
    some (.inl (G2 (s11+1),(s12.set (s11).toNat (⟨v15.Target,v15.Intact,(-1)⟩:c9))))
   else
   some (.inr s12)) (0,v1)).bind λe10=>
  κ8 e10)
def a9X(a0:Int):Option (List a8):=
 if ((decide (a0<1))||(decide (a0 > 8))) then
  some []
 else
 (mk 24 a0 (⟨0,0,0⟩:a8)).bind λv1=>
 some v1
def O5(a0:Int):Option b7:=
 some (⟨[],a0⟩:b7)
def b0k:Option b7:=
 (O5 30).bind λv1=>
 some v1
def a92(a0:Int)(a1:Int)(a2:Int):Option a6:=
 if ((((((decide (a0<1))||(decide (a0 > 24)))||(decide (a1<0)))||(decide (a1 > 9)))||(decide (a2<1)))||(decide (a2 > 8))) then
  some (⟨⟨⟨[],0⟩,0⟩,[],[],[],⟨[],0⟩⟩:a6)
 else
 (a8M a0 a1).bind λv1=>
 (mk 8 6 (0:Int)).bind λv2=>
 (b0p 6).bind λv3=>
 (a9X a2).bind λv4=>
 (b0k).bind λv5=>
 some (⟨v1,v2,v3,v4,v5⟩:a6)
def a4u(a0:Int)(a1:Int)(a2:Int)(a3:List (List j5)):Option (l3 × Int):=
 (a4m a3).bind λv1=>
 if (!v1) then
  some ((⟨⟨⟨⟨[],0⟩,0⟩,[],[],[],⟨[],0⟩⟩,[]⟩:l3),13)
 else
 (a92 a0 a1 a2).bind λv2=>
 if ((v2.Roots.length:Int)==0) then
  some ((⟨⟨⟨⟨[],0⟩,0⟩,[],[],[],⟨[],0⟩⟩,[]⟩:l3),1)
 else
 some ((⟨v2,a3⟩:l3),0)
def L8(a0:c3)(a1:List Int):Option (c3 × ByteArray):=
 (ix a1 0).bind λv1=>
 (ix a1 1).bind λv2=>
 (ix a1 2).bind λv3=>
 (a4u v1 v2 v3 a0.progs).bind λv4=>
 if (v4.2 != 0) then
  (D6 v4.2).bind λv5=>
  some (a0,v5)
 else
 some ((⟨v4.1,true,a0.progs⟩:c3),(p5 [111,107]))
def a2V(a0:Int)(a1:Int):Option Int:=
 if ((((decide (a0<0))||(decide (a0≥24)))||(decide (a1<0)))||(decide (a1 > 9))) then
  some 0
 else
 some (G2 ((G2 (1+(G2 (a0*1))))+(G2 (a1*32))))
def cmp_isNaN_int(a0:Int):Option Bool:=
 some (a0 != a0)
def Y5(a0:Int)(a1:Int):Option Int:=
 (cmp_isNaN_int a0).bind λv1=>
 (cmp_isNaN_int a1).bind λv2=>
 if v1 then
  if v2 then
   some 0
  else
  some (-1)
 else
 if v2 then
  some 1
 else
 if (decide (a0<a1)) then
  some (-1)
 else
 if (decide (a0 > a1)) then
  some 1
 else
 some 0
def a2k(a0:Int)(a1:Int)(a2:List (Int × Int)):Option Int:=
 (Y5 ((F7 a2 a0).getD (0:Int)) ((F7 a2 a1).getD (0:Int))).bind λv1=>
 some v1
def H4(a0:b8):Option (List Int):=
 jn (λ((j18,j19):(List (Int × Int)) × (List Int))=>
  (a7I (λp q=>a2k p q j18) j19).bind λv21=>
  some v21) (λκ17=>
  (lp (S:=Int × (List (Int × Int)) × (List Int)) (E:=((List (Int × Int)) × (List Int))) (λ((s23,s24,s25):Int × (List (Int × Int)) × (List Int))=>
   if (decide (s23<(a0.S.o8.length:Int))) then
    jn (λ((j32,j33):(List (Int × Int)) × (List Int))=>
     some (.inl (G2 (s23+1),j32,j33))) (λκ31=>
     (ix a0.S.o8 s23).bind λv35=>
     if (v35.State==1) then
      (a2V s23 v35.Gen).bind λv36=>
      (app 8 s25 [v36]).bind λv37=>
      κ31 ((h9 s24 v36 v35.Val.Serial),v37)
     else
     κ31 (s24,s25))
   else
   some (.inr (s24,s25))) (0,[],[])).bind λe22=>
  κ17 e22)
def a1U(a0:Int):Option (Int × Int × Bool):=
 if (decide (a0<1)) then
  some ((-1),(-1),false)
 else
 (rem (G2 (a0-1)) 32).bind λv1=>
 (quo .i64 v1 1).bind λv2=>
 (quo .i64 (G2 (a0-1)) 32).bind λv3=>
 if ((decide (v2≥24))||(decide (v3 > 9))) then
  some ((-1),(-1),false)
 else
 some (v2,v3,true)
def a2X(a0:Int):Option Int:=
 (a1U a0).bind λv1=>
 some v1.1
def a4x(a0:Int):Option Int:=
 (a1U a0).bind λv1=>
 some v1.2.1
def B9(a0:b9)(a1:Int):Option (Int × Int):=
 if (a1==0) then
  some ((-1),2)
 else
 (a2X a1).bind λv1=>
 if ((decide (v1<0))||(decide (v1≥(a0.o8.length:Int)))) then
  some ((-1),3)
 else
 (ix a0.o8 v1).bind λv2=>
 (a4x a1).bind λv3=>
 if ((v2.Gen != v3)||((v2.State != 1)&&(v2.State != 2))) then
  some ((-1),3)
 else
 some (v1,0)
def Q9(a0:b9)(a1:Int):Option (p8 × Int):=
 (B9 a0 a1).bind λv1=>
 if (v1.2 != 0) then
  some ((⟨0,0,0,0,false,[]⟩:p8),v1.2)
 else
 (ix a0.o8 v1.1).bind λv2=>
 if (v2.State==2) then
  some ((⟨0,0,0,0,false,[]⟩:p8),3)
 else
 some (v2.Val,0)
def z1(a0:b8)(a1:Int):Option (p8 × Int):=
 (Q9 a0.S a1).bind λv1=>
 some (v1.1,v1.2)
def a0t(a0:a6)(a1:Int):Option Int:=
 (z1 a0.S a1).bind λv1=>
 some v1.1.Serial
def a4Y(a0:l3):Option (List Int):=
 jn (λ(j11:List Int)=>
  (a6N j11).bind λv12=>
  some v12) (λκ10=>
  (H4 a0.X.S).bind λv13=>
  (lp (S:=Int × (List Int)) (E:=(List Int)) (λ((s15,s16):Int × (List Int))=>
   if (decide (s15<(v13.length:Int))) then
    (ix v13 s15).bind λv19=>
    (a0t a0.X v19).bind λv20=>
    (app 8 s16 [v20]).bind λv21=>
    some (.inl (G2 (s15+1),v21))
   else
   some (.inr s16)) (0,[])).bind λe14=>
  κ10 e14)
def T7(a0:ByteArray)(a1:List Int):Option ByteArray:=
 jn (λ(j11:ByteArray)=>
  some j11) (λκ10=>
  (lp (S:=ByteArray × Int) (E:=ByteArray) (λ((s13,s14):ByteArray × Int)=>
   if (decide (s14<(a1.length:Int))) then
    (ix a1 s14).bind λv17=>
    (a8L v17).bind λv18=>
    (a2f (p5 [32]) v18).bind λv19=>
    (a2f s13 v19).bind λv20=>
    some (.inl (v20,G2 (s14+1)))
   else
   some (.inr s13)) (a0,0)).bind λe12=>
  κ10 e12)
def L1(a0:c3)(a1:List Int):Option (c3 × ByteArray):=
 (a4Y a0.g).bind λv1=>
 (T7 (p5 [108,105,118,101,115]) v1).bind λv2=>
 some (a0,v2)
def G6(a0:a6)(a1:Int):Option Int:=
 if ((decide (a1<0))||(decide (a1≥(a0.Roots.length:Int)))) then
  some 0
 else
 (ix a0.Roots a1).bind λv1=>
 some v1
def W3(a0:a6)(a1:Int):Option Int:=
 (G6 a0 a1).bind λv1=>
 (a0t a0 v1).bind λv2=>
 some v2
def L2(a0:c3)(a1:List Int):Option (c3 × ByteArray):=
 (mk 8 6 (0:Int)).bind λv1=>
 jn (λ(j10:List Int)=>
  (T7 (p5 [114,111,111,116,115]) j10).bind λv11=>
  some (a0,v11)) (λκ9=>
  (lp (S:=Int × (List Int)) (E:=(List Int)) (λ((s13,s14):Int × (List Int))=>
   if (decide (s13<(v1.length:Int))) then
    (W3 a0.g.X s13).bind λv17=>
    (ix s14 s13).bind λv18=>
    some (.inl (G2 (s13+1),(s14.set (s13).toNat v17)))
   else
   some (.inr s14)) (0,v1)).bind λe12=>
  κ9 e12)
def Y1(a0:b9):Option A4:=
 jn (λ(j9:A4)=>
  some j9) (λκ8=>
  (lp (S:=Int × A4) (E:=A4) (λ((s11,s12):Int × A4)=>
   if (decide (s11<(a0.o8.length:Int))) then
    (ix a0.o8 s11).bind λv15=>
    (A4.ix s12 v15.State).bind λv16=>
    some (.inl (G2 (s11+1),(A4.st s12 v15.State (G2 (v16+1)))))
   else
   some (.inr s12)) (0,(⟨0,0,0,0⟩:A4))).bind λe10=>
  κ8 e10)
def a1S(a0:l3):Option A4:=
 (Y1 a0.X.S.S).bind λv1=>
 some v1
def V7(a0:c3)(a1:List Int):Option (c3 × ByteArray):=
 (a1S a0.g).bind λv1=>
 (T7 (p5 [116,97,108,108,121]) [v1.a,v1.b,v1.c,v1.d]).bind λv2=>
 some (a0,v2)
def a5Z(a0:List Int):Option (j5 × Int):=
 if ((a0.length:Int) != 4) then
  some ((⟨0,0,0,0⟩:j5),14)
 else
 (ix a0 0).bind λv1=>
 (ix a0 1).bind λv2=>
 (ix a0 2).bind λv3=>
 (ix a0 3).bind λv4=>
 (a0m (⟨v1,v2,v3,v4⟩:j5)).bind λv5=>
 if (v5 != 0) then
  some ((⟨0,0,0,0⟩:j5),v5)
 else
 some ((⟨v1,v2,v3,v4⟩:j5),0)
def a4Z(a0:j5):Option Ifc:=
 if (a0.Kind==11) then
  some (⟨103,[]⟩:Ifc)
 else
 if (a0.Kind==12) then
  some (⟨107,[a0.A]⟩:Ifc)
 else
 some (⟨99,[a0.Kind,a0.A,a0.B,a0.C]⟩:Ifc)
def a1d:Option (List (Int × Fv)):=
 some (h9 (h9 (h9 (h9 (h9 (h9 (h9 (h9 (h9 (h9 [] 1 (some 97)) 2 (some 98)) 3 (some 99)) 4 (some 100)) 5 (some 101)) 6 (some 102)) 7 (some 103)) 8 (some 104)) 9 (some 105)) 10 (some 106))
def b1G(a0:Int):Option ((List Int) × Int):=
 if ((decide (a0<0))||(decide (a0 > 4))) then
  some ([],1)
 else
 (mk 8 a0 (0:Int)).bind λv1=>
 some (v1,0)
def V0(a0:Int):Option Bool:=
 some ((decide (a0≥(-1)))&&(decide (a0<6)))
def O8(a0:b9):Option b9:=
 some a0
def u4(a0:List b6):Option (List b6):=
 app 80 [] a0
def z6(a0:b9)(a1:Int)(a2:b6):Option b9:=
 (u4 a0.o8).bind λv1=>
 (ix v1 a1).bind λv2=>
 some (⟨(v1.set (a1).toNat a2),a0.Last⟩:b9)
def a0a(a0:b9)(a1:p8):Option (b9 × Int × Int):=
 jn (λ(_:Unit)=>
  some (a0,0,4)) (λκ9=>
  (O8 a0).bind λv11=>
  (lp (S:=Int) (E:=(b9 × Int × Int) ⊕ Unit) (λ(s13:Int)=>
   if (decide (s13<(v11.o8.length:Int))) then
    (ix v11.o8 s13).bind λv15=>
    if ((v15.State==0)==true) then
     (ix a0.o8 s13).bind λv16=>
     (z6 a0 s13 (⟨1,v16.Gen,a1⟩:b6)).bind λv17=>
     (a2V s13 v16.Gen).bind λv18=>
     some (.inr (.inl (v17,v18,0)))
    else
    some (.inl (G2 (s13+1)))
   else
   some (.inr (.inr ()))) 0).bind λe12=>
  match e12 with
  | .inl w=>some w
  | .inr w=>κ9 w)
def a7J(a0:b8)(a1:Int)(a2:Int):Option (b8 × Int × Int):=
 (b1G a1).bind λv1=>
 if (v1.2 != 0) then
  some (a0,0,v1.2)
 else
 (V0 a2).bind λv2=>
 if (!v2) then
  some (a0,0,13)
 else
 (a0a a0.S (⟨G2 (a0.Serial+1),0,0,a2,false,v1.1⟩:p8)).bind λv3=>
 if (v3.2.2 != 0) then
  some (a0,0,v3.2.2)
 else
 some ((⟨v3.1,G2 (a0.Serial+1)⟩:b8),v3.2.1,0)
def a6g(a0:a6)(a1:Int):Option Bool:=
 (z1 a0.S a1).bind λv1=>
 some (v1.2==0)
def H2(a0:a6)(a1:Int):Option Bool:=
 (D7 ((a1==0)==false) false (a6g a0 a1)).bind λv1=>
 some ((a1==0)||v1)
def G3(a0:Int):Option Bool:=
 some (decide (a0≥12))
def a2P(a0:Int):Option (Int × Int):=
 (G3 a0).bind λv1=>
 if v1 then
  some (12,0)
 else
 some (G2 ((if 0 > a0 then 0 else a0)+1),0)
def a8r(a0:Int):Option Int:=
 (a2P a0).bind λv1=>
 some v1.1
def a0B(a0:b9)(a1:Int)(a2:p8):Option (b9 × Int):=
 (B9 a0 a1).bind λv1=>
 if (v1.2 != 0) then
  some (a0,v1.2)
 else
 (ix a0.o8 v1.1).bind λv2=>
 (z6 a0 v1.1 (⟨v2.State,v2.Gen,a2⟩:b6)).bind λv3=>
 some (v3,0)
def W6(a0:b8)(a1:Int)(a2:p8):Option (b8 × Int):=
 (a0B a0.S a1 a2).bind λv1=>
 some ((⟨v1.1,a0.Serial⟩:b8),v1.2)
def R5(a0:a6)(a1:Int):Option a6:=
 (z1 a0.S a1).bind λv1=>
 if (v1.2==0) then
  (a8r v1.1.Strong).bind λv2=>
  (W6 a0.S a1 (⟨v1.1.Serial,v2,v1.1.Weak,v1.1.Prog,v1.1.Started,v1.1.Fields⟩:p8)).bind λv3=>
  some (⟨v3.1,a0.Roots,a0.o8,a0.T,a0.Q⟩:a6)
 else
 some a0
def X6(a0:a6)(a1:Int):Option a6:=
 (R5 a0 a1).bind λv1=>
 some v1
def M5(a0:List Int):Option (List Int):=
 app 8 [] a0
def Q4(a0:B2)(a1:a6):Option a6:=
 (M5 a1.Roots).bind λv1=>
 (ix v1 a0.r).bind λv2=>
 some (⟨a1.S,(v1.set (a0.r).toNat a0.h),a1.o8,a1.T,a1.Q⟩:a6)
def a1p(a0:Int):Option (Int × Int):=
 (G3 a0).bind λv1=>
 if v1 then
  some (12,0)
 else
 if (decide (a0<1)) then
  some (0,11)
 else
 some (G2 (a0-1),0)
def a8q(a0:Int):Option (Int × Int):=
 (a1p a0).bind λv1=>
 some (v1.1,v1.2)
def a3a(a0:Int):Option Int:=
 (a8q a0).bind λv1=>
 if (v1.2 != 0) then
  some a0
 else
 some v1.1
def K4(a0:a6)(a1:Int):Option a6:=
 (z1 a0.S a1).bind λv1=>
 if (v1.2==0) then
  (a3a v1.1.Strong).bind λv2=>
  (W6 a0.S a1 (⟨v1.1.Serial,v2,v1.1.Weak,v1.1.Prog,v1.1.Started,v1.1.Fields⟩:p8)).bind λv3=>
  some (⟨v3.1,a0.Roots,a0.o8,a0.T,a0.Q⟩:a6)
 else
 some a0
def N3(a0:a6)(a1:Int):Option a6:=
 (K4 a0 a1).bind λv1=>
 some v1
def H6(a0:a6)(a1:Int)(a2:Int)(a3:B2):Option a6:=
 (X6 a0 a2).bind λv1=>
 (Q4 a3 v1).bind λv2=>
 (N3 v2 a1).bind λv3=>
 some v3
def a3B(a0:a6)(a1:Int)(a2:Int):Option (a6 × Int):=
 if ((decide (a1<0))||(decide (a1≥(a0.Roots.length:Int)))) then
  some (a0,6)
 else
 (H2 a0 a2).bind λv1=>
 if (!v1) then
  some (a0,3)
 else
 (ix a0.Roots a1).bind λv2=>
 (H6 a0 v2 a2 (⟨a1,a2⟩:B2)).bind λv3=>
 some (v3,0)
def B3(a0:l8)(a1:Int)(a2:Int):Option (a6 × Int):=
 if (a2 != 0) then
  some (a0.x,a2)
 else
 (a3B a0.x a0.o.A a1).bind λv1=>
 some (v1.1,v1.2)
def Z5(a0:l8):Option (a6 × Int):=
 (a7J a0.x.S a0.o.B a0.o.C).bind λv1=>
 if (v1.2.2 != 0) then
  some (a0.x,v1.2.2)
 else
 (B3 (⟨⟨v1.1,a0.x.Roots,a0.x.o8,a0.x.T,a0.x.Q⟩,a0.o⟩:l8) v1.2.1 0).bind λv2=>
 some (v2.1,v2.2)
def J8(a0:l8):Option (a6 × Int):=
 (G6 a0.x a0.o.B).bind λv1=>
 (B3 a0 v1 0).bind λv2=>
 some (v2.1,v2.2)
def a0R(a0:l8):Option (a6 × Int):=
 (B3 a0 0 0).bind λv1=>
 some (v1.1,v1.2)
def I7(a0:a6)(a1:Int):Option (Int × Int):=
 (G6 a0 a1).bind λv1=>
 if (v1==0) then
  some (0,2)
 else
 some (v1,0)
def a6R(a0:List Int)(a1:Int):Option Bool:=
 some ((decide (a1≥0))&&(decide (a1<(a0.length:Int))))
def b3d(a0:List Int)(a1:Int):Option (Int × Int):=
 (a6R a0 a1).bind λv1=>
 if (!v1) then
  some (0,5)
 else
 (ix a0 a1).bind λv2=>
 some (v2,0)
def a3r(a0:b8)(a1:Int)(a2:Int):Option (Int × Int):=
 (z1 a0 a1).bind λv1=>
 if (v1.2 != 0) then
  some (0,v1.2)
 else
 (b3d v1.1.Fields a2).bind λv2=>
 some (v2.1,v2.2)
def a0S(a0:l8):Option (a6 × Int):=
 (I7 a0.x a0.o.B).bind λv1=>
 if (v1.2 != 0) then
  some (a0.x,v1.2)
 else
 (a3r a0.x.S v1.1 a0.o.C).bind λv2=>
 (B3 a0 v2.1 v2.2).bind λv3=>
 some (v3.1,v3.2)
def b0n(a0:List Int)(a1:Int)(a2:Int):Option ((List Int) × Int):=
 (a6R a0 a1).bind λv1=>
 if (!v1) then
  some (a0,5)
 else
 (mk 8 (a0.length:Int) (0:Int)).bind λv2=>
 (cpy v2 a0).bind λv3=>
 (ix v3 a1).bind λv4=>
 some ((v3.set (a1).toNat a2),0)
def a8N(a0:b8)(a1:Int)(a2:Int)(a3:Int):Option (b8 × Int):=
 (z1 a0 a1).bind λv1=>
 if (v1.2 != 0) then
  some (a0,v1.2)
 else
 (b0n v1.1.Fields a2 a3).bind λv2=>
 if (v2.2 != 0) then
  some (a0,v2.2)
 else
 (W6 a0 a1 (⟨v1.1.Serial,v1.1.Strong,v1.1.Weak,v1.1.Prog,v1.1.Started,v2.1⟩:p8)).bind λv3=>
 some (v3.1,v3.2)
def Z4(a0:z8)(a1:a6):Option a6:=
 (a8N a1.S a0.h a0.k a0.v).bind λv1=>
 some (⟨v1.1,a1.Roots,a1.o8,a1.T,a1.Q⟩:a6)
def G4(a0:a6)(a1:Int)(a2:Int)(a3:z8):Option a6:=
 (X6 a0 a2).bind λv1=>
 (Z4 a3 v1).bind λv2=>
 (N3 v2 a1).bind λv3=>
 some v3
def a7n(a0:a6)(a1:Int)(a2:Int)(a3:Int):Option (a6 × Int):=
 (a3r a0.S a1 a2).bind λv1=>
 if (v1.2 != 0) then
  some (a0,v1.2)
 else
 (H2 a0 a3).bind λv2=>
 if (!v2) then
  some (a0,3)
 else
 (G4 a0 v1.1 a3 (⟨a1,a2,a3⟩:z8)).bind λv3=>
 some (v3,0)
def a0u(a0:l8):Option (a6 × Int):=
 (I7 a0.x a0.o.A).bind λv1=>
 if (v1.2 != 0) then
  some (a0.x,v1.2)
 else
 (G6 a0.x a0.o.C).bind λv2=>
 (a7n a0.x v1.1 a0.o.B v2).bind λv3=>
 some (v3.1,v3.2)
def a9y(a0:b7)(a1:Int):Option (b7 × Int):=
 some (a0,a1)
def a7L(a0:b7)(a1:Int):Option Bool:=
 jn (λ(_:Unit)=>
  some false) (λκ6=>
  (a9y a0 2).bind λv8=>
  (lp (S:=Int) (E:=Bool ⊕ Unit) (λ(s10:Int)=>
   if (decide (s10<(v8.1.L.length:Int))) then
    (ix v8.1.L s10).bind λv12=>
    if ((v12.Kind==v8.2)==true) then
     if (v12.At==a1) then
      some (.inr (.inl true))
     else
     some (.inl (G2 (s10+1)))
    else
    some (.inl (G2 (s10+1)))
   else
   some (.inr (.inr ()))) 0).bind λe9=>
  match e9 with
  | .inl w=>some w
  | .inr w=>κ6 w)
def a5q(a0:List c9)(a1:Int):Option Bool:=
 some ((decide (a1≥0))&&(decide (a1<(a0.length:Int))))
def a0Z(a0:List c9):Option (List c9):=
 (mk 24 (a0.length:Int) (⟨0,false,0⟩:c9)).bind λv1=>
 (cpy v1 a0).bind λv2=>
 some v2
def b0r(a0:List c9)(a1:Int)(a2:Int)(a3:Int):Option ((List c9) × Int × Int):=
 (a5q a0 a1).bind λv1=>
 if (!v1) then
  some (a0,0,7)
 else
 (a0Z a0).bind λv2=>
 (ix v2 a1).bind λv3=>
 (ix a0 a1).bind λv4=>
 some ((v2.set (a1).toNat (⟨a2,(a2 != 0),a3⟩:c9)),v4.Target,0)
def a3b(a0:a6)(a1:Int)(a2:Int):Option a6:=
 (B9 a0.S.S a1).bind λv1=>
 if (v1.2==0) then
  (ix a0.S.S.o8 v1.1).bind λv2=>
  (W6 a0.S a1 (⟨v2.Val.Serial,v2.Val.Strong,G2 (v2.Val.Weak+a2),v2.Val.Prog,v2.Val.Started,v2.Val.Fields⟩:p8)).bind λv3=>
  some (⟨v3.1,a0.Roots,a0.o8,a0.T,a0.Q⟩:a6)
 else
 some a0
def O7(a0:b9)(a1:Int):Option (b9 × Int):=
 (B9 a0 a1).bind λv1=>
 if (v1.2 != 0) then
  some (a0,v1.2)
 else
 (ix a0.o8 v1.1).bind λv2=>
 if (v2.Gen==a0.Last) then
  (z6 a0 v1.1 (⟨3,v2.Gen,⟨0,0,0,0,false,[]⟩⟩:b6)).bind λv3=>
  some (v3,0)
 else
 (z6 a0 v1.1 (⟨0,G2 (v2.Gen+1),⟨0,0,0,0,false,[]⟩⟩:b6)).bind λv4=>
 some (v4,0)
def a30(a0:a6)(a1:Int):Option a6:=
 (a3b a0 a1 (-1)).bind λv1=>
 (B9 v1.S.S a1).bind λv2=>
 if (v2.2 != 0) then
  some v1
 else
 (ix v1.S.S.o8 v2.1).bind λv3=>
 if ((v3.State==2)&&(v3.Val.Weak==0)) then
  (O7 v1.S.S a1).bind λv4=>
  some (⟨⟨v4.1,v1.S.Serial⟩,v1.Roots,v1.o8,v1.T,v1.Q⟩:a6)
 else
 some v1
def a3C(a0:a6)(a1:Int)(a2:Int)(a3:Int):Option (a6 × Int):=
 (D7 (((decide (a1<0))||(decide (a1≥(a0.o8.length:Int))))==false) false (a7L a0.Q a1)).bind λv1=>
 if (((decide (a1<0))||(decide (a1≥(a0.o8.length:Int))))||v1) then
  some (a0,7)
 else
 (H2 a0 a2).bind λv2=>
 if (!v2) then
  some (a0,3)
 else
 (b0r a0.o8 a1 a2 a3).bind λv3=>
 (a3b (⟨a0.S,a0.Roots,v3.1,a0.T,a0.Q⟩:a6) a2 1).bind λv4=>
 (a30 v4 v3.2.1).bind λv5=>
 some (v5,0)
def Z7(a0:l8):Option (a6 × Int):=
 if (a0.o.B==(-1)) then
  (a3C a0.x a0.o.A 0 a0.o.C).bind λv1=>
  some (v1.1,v1.2)
 else
 (I7 a0.x a0.o.B).bind λv2=>
 if (v2.2 != 0) then
  some (a0.x,v2.2)
 else
 (a3C a0.x a0.o.A v2.1 a0.o.C).bind λv3=>
 some (v3.1,v3.2)
def a8O(a0:List c9)(a1:Int):Option (Int × Int):=
 (a5q a0 a1).bind λv1=>
 if (!v1) then
  some (0,7)
 else
 (ix a0 a1).bind λv2=>
 if ((v2.Target==0)||(!v2.Intact)) then
  some (0,9)
 else
 some (v2.Target,0)
def Z0(a0:l8):Option (a6 × Int):=
 (a8O a0.x.o8 a0.o.B).bind λv1=>
 (B3 a0 v1.1 v1.2).bind λv2=>
 some (v2.1,v2.2)
def a3A(a0:Int)(a1:Int):Option (Int × Int):=
 some (a0,a1)
def a5E(a0:Int)(a1:Int):Option Int:=
 if (decide (a0<1)) then
  some 0
 else
 (rem (G2 ((G2 (5*a1))+1)) a0).bind λv1=>
 if (decide (v1<0)) then
  some (G2 (v1+a0))
 else
 some v1
def a3z(a0:List a8)(a1:Int):Option Int:=
 jn (λ(_:Unit)=>
  some (-1)) (λκ8=>
  (a3A (a0.length:Int) a1).bind λv10=>
  (lp (S:=Int) (E:=Int ⊕ Unit) (λ(s12:Int)=>
   if (decide (s12<v10.1)) then
    (a5E v10.1 v10.2).bind λv14=>
    (rem (G2 (v14+s12)) v10.1).bind λv15=>
    (ix a0 v15).bind λv16=>
    if (v16.State==0) then
     some (.inr (.inr ()))
    else
    if ((v16.State==1)&&(v16.Key==a1)) then
     some (.inr (.inl v15))
    else
    some (.inl (G2 (s12+1)))
   else
   some (.inr (.inr ()))) 0).bind λe11=>
  match e11 with
  | .inl w=>some w
  | .inr w=>κ8 w)
def a2Z(a0:List a8)(a1:Int):Option (Int × Int):=
 (a3z a0 a1).bind λv1=>
 if (decide (v1<0)) then
  some (0,9)
 else
 (ix a0 v1).bind λv2=>
 some (v2.Val,0)
def A5(a0:List a8):Option (List a8):=
 app 24 [] a0
def a1q(a0:List a8)(a1:Int)(a2:a8):Option (List a8):=
 (A5 a0).bind λv1=>
 (ix v1 a1).bind λv2=>
 some (v1.set (a1).toNat a2)
def a5D(a0:List a8)(a1:Int):Option ((List a8) × Int × Int):=
 (a3z a0 a1).bind λv1=>
 if (decide (v1<0)) then
  some (a0,0,9)
 else
 (a1q a0 v1 (⟨2,0,0⟩:a8)).bind λv2=>
 (ix a0 v1).bind λv3=>
 some (v2,v3.Val,0)
def a9Z(a0:List a8)(a1:Int)(a2:Int):Option ((List a8) × Int):=
 (a3z a0 a1).bind λv1=>
 if (decide (v1≥0)) then
  (a1q a0 v1 (⟨1,a1,a2⟩:a8)).bind λv2=>
  some (v2,0)
 else
 jn (λ(_:Unit)=>
  some (a0,8)) (λκ11=>
  (a3A (a0.length:Int) a1).bind λv13=>
  (lp (S:=Int) (E:=((List a8) × Int) ⊕ Unit) (λ(s15:Int)=>
   if (decide (s15<v13.1)) then
    (a5E v13.1 v13.2).bind λv17=>
    (rem (G2 (v17+s15)) v13.1).bind λv18=>
    (ix a0 v18).bind λv19=>
    if (v19.State != 1) then
     (a1q a0 v18 (⟨1,a1,a2⟩:a8)).bind λv20=>
     some (.inr (.inl (v20,0)))
    else
    some (.inl (G2 (s15+1)))
   else
   some (.inr (.inr ()))) 0).bind λe14=>
  match e14 with
  | .inl w=>some w
  | .inr w=>κ11 w)
def a8u(a0:List a8)(a1:Int)(a2:Int):Option ((List a8) × Int × Int):=
 if (a1==0) then
  some (a0,0,2)
 else
 (a2Z a0 a1).bind λv1=>
 if (a2==0) then
  (a5D a0 a1).bind λv2=>
  some (v2.1,v1.1,0)
 else
 (a9Z a0 a1 a2).bind λv3=>
 if (v3.2 != 0) then
  some (a0,0,v3.2)
 else
 some (v3.1,v1.1,0)
def Q3(a0:B1)(a1:a6):Option a6:=
 some (⟨a1.S,a1.Roots,a1.o8,a0.t,a1.Q⟩:a6)
def H5(a0:a6)(a1:Int)(a2:Int)(a3:B1):Option a6:=
 (X6 a0 a2).bind λv1=>
 (Q3 a3 v1).bind λv2=>
 (N3 v2 a1).bind λv3=>
 some v3
def a8A(a0:a6)(a1:Int)(a2:Int):Option (a6 × Int):=
 if (a1==0) then
  some (a0,2)
 else
 (H2 a0 a1).bind λv1=>
 (D7 ((!v1)==false) false (H2 a0 a2)).bind λv2=>
 if ((!v1)||(!v2)) then
  some (a0,3)
 else
 (a8u a0.T a1 a2).bind λv3=>
 if (v3.2.2 != 0) then
  some (a0,v3.2.2)
 else
 (H5 a0 v3.2.1 a2 (⟨v3.1⟩:B1)).bind λv4=>
 some (v4,0)
def a0T(a0:l8):Option (a6 × Int):=
 (I7 a0.x a0.o.A).bind λv1=>
 if (v1.2 != 0) then
  some (a0.x,v1.2)
 else
 (G6 a0.x a0.o.B).bind λv2=>
 (a8A a0.x v1.1 v2).bind λv3=>
 some (v3.1,v3.2)
def a8t(a0:List a8)(a1:Int):Option (Int × Int):=
 (a2Z a0 a1).bind λv1=>
 some (v1.1,v1.2)
def a1s(a0:l8):Option (a6 × Int):=
 (I7 a0.x a0.o.B).bind λv1=>
 if (v1.2 != 0) then
  some (a0.x,v1.2)
 else
 (a8t a0.x.T v1.1).bind λv2=>
 (B3 a0 v2.1 v2.2).bind λv3=>
 some (v3.1,v3.2)
def Q8(a0:l8):Option (a6 × Int):=
 some (a0.x,0)
def a9e(f:Fv)(a0:l8):Option (a6 × Int):=
 if f=some 97 then Z5 a0 else
 if f=some 98 then J8 a0 else
 if f=some 99 then a0R a0 else
 if f=some 100 then a0S a0 else
 if f=some 101 then a0u a0 else
 if f=some 102 then Z7 a0 else
 if f=some 103 then Z0 a0 else
 if f=some 104 then a0T a0 else
 if f=some 105 then a1s a0 else
 if f=some 106 then Q8 a0 else
 none
def a6n(a0:a6):Option (List Int):=
 jn (λ(j16:List Int)=>
  some j16) (λκ15=>
  (H4 a0.S).bind λv17=>
  (lp (S:=Int × (List Int)) (E:=(List Int)) (λ((s19,s20):Int × (List Int))=>
   if (decide (s19<(v17.length:Int))) then
    jn (λ(j27:List Int)=>
     some (.inl (G2 (s19+1),j27))) (λκ26=>
     (ix v17 s19).bind λv28=>
     (z1 a0.S v28).bind λv29=>
     if (v29.1.Strong==0) then
      (app 8 s20 [v28]).bind λv30=>
      κ26 v30
     else
     κ26 s20)
   else
   some (.inr s20)) (0,[])).bind λe18=>
  κ15 e18)
def U7(a0:p8):Option Bool:=
 some ((decide (a0.Prog≥0))&&(!a0.Started))
def H8(a0:b7):Option Int:=
 some (a0.L.length:Int)
def D9(a0:List k8)(a1:Int)(a2:Int):Option (List k8):=
 (cut a0 a1 a2).bind λv1=>
 some v1
def M1(a0:b7)(a1:k8):Option (b7 × Int):=
 (H8 a0).bind λv1=>
 if (decide (v1≥a0.Cap)) then
  some (a0,4)
 else
 (D9 a0.L 0 v1).bind λv2=>
 (app 24 v2 [a1]).bind λv3=>
 some ((⟨v3,a0.Cap⟩:b7),0)
def a7K(a0:b7)(a1:k8):Option (b7 × Int):=
 (M1 a0 a1).bind λv1=>
 some (v1.1,v1.2)
def a1g(a0:a6)(a1:Int):Option a6:=
 (z1 a0.S a1).bind λv1=>
 (D7 ((v1.2 != 0)==false) false (U7 v1.1)).bind λv2=>
 if ((v1.2 != 0)||(!v2)) then
  some a0
 else
 (W6 a0.S a1 (⟨v1.1.Serial,v1.1.Strong,v1.1.Weak,v1.1.Prog,true,v1.1.Fields⟩:p8)).bind λv3=>
 (a7K a0.Q (⟨1,a1,v1.1.Prog⟩:k8)).bind λv4=>
 (X6 (⟨v3.1,a0.Roots,a0.o8,a0.T,v4.1⟩:a6) a1).bind λv5=>
 some v5
def a1x(a0:a6)(a1:List Int):Option (List Int):=
 jn (λ(j18:List Int)=>
  some j18) (λκ17=>
  (lp (S:=Int × (List (Int × Bool)) × (List Int)) (E:=(List Int)) (λ((s20,s21,s22):Int × (List (Int × Bool)) × (List Int))=>
   if (decide (s20<(a1.length:Int))) then
    jn (λ((j29,j30):(List Int) × (List (Int × Bool)))=>
     some (.inl (G2 (s20+1),j30,j29))) (λκ28=>
     (ix a1 s20).bind λv32=>
     (z1 a0.S v32).bind λv33=>
     if ((v33.2==0)==true) then
      if (!((F7 s21 v32).getD (false:Bool))) then
       (app 8 s22 [v32]).bind λv34=>
       κ28 (v34,(h9 s21 v32 true))
      else
      κ28 (s22,s21)
     else
     κ28 (s22,s21))
   else
   some (.inr s22)) (0,[],[])).bind λe19=>
  κ17 e19)
def Y2(a0:List Int)(a1:Int):Option Int:=
 jn (λ(_:Unit)=>
  some (-1)) (λκ5=>
  (lp (S:=Int) (E:=Int ⊕ Unit) (λ(s8:Int)=>
   if (decide (s8<(a0.length:Int))) then
    (ix a0 s8).bind λv10=>
    if (a1==v10) then
     some (.inr (.inl s8))
    else
    some (.inl (G2 (s8+1)))
   else
   some (.inr (.inr ()))) 0).bind λe7=>
  match e7 with
  | .inl w=>some w
  | .inr w=>κ5 w)
def E4(a0:List Int)(a1:Int):Option Bool:=
 (Y2 a0 a1).bind λv1=>
 some (decide (v1≥0))
def a2n(a0:c9)(a1:List Int):Option Bool:=
 (D7 ((a0.Intact&&(a0.Target != 0))==true) false (E4 a1 a0.Target)).bind λv1=>
 some ((a0.Intact&&(a0.Target != 0))&&v1)
def N8(a0:List c9)(a1:List Int):Option (List Int):=
 jn (λ(j15:List Int)=>
  some j15) (λκ14=>
  (lp (S:=Int × (List Int)) (E:=(List Int)) (λ((s17,s18):Int × (List Int))=>
   if (decide (s17<(a0.length:Int))) then
    jn (λ(j25:List Int)=>
     some (.inl (G2 (s17+1),j25))) (λκ24=>
     (ix a0 s17).bind λv26=>
     (a2n v26 a1).bind λv27=>
     if v27 then
      (app 8 s18 [s17]).bind λv28=>
      κ24 v28
     else
     κ24 s18)
   else
   some (.inr s18)) (0,[])).bind λe16=>
  κ14 e16)
def a4I(a0:List c9)(a1:List Int):Option ((List c9) × (List Int)):=
 (N8 a0 a1).bind λv1=>
 (a0Z a0).bind λv2=>
 jn (λ((j22,j23):(List Int) × (List c9))=>
  some (j23,j22)) (λκ21=>
  (lp (S:=Int × (List c9) × (List Int)) (E:=((List Int) × (List c9))) (λ((s26,s27,s28):Int × (List c9) × (List Int))=>
   if (decide (s26<(v1.length:Int))) then
    jn (λ((j36,j37):(List Int) × (List c9))=>
     some (.inl (G2 (s26+1),j37,j36))) (λκ35=>
     (ix v1 s26).bind λv39=>
     (ix s27 v39).bind λv40=>
     (ix (s27.set (v39).toNat (⟨v40.Target,false,v40.Call⟩:c9)) v39).bind λv41=>
     if (decide (v41.Call≥0)) then
      (app 8 s28 [v39]).bind λv42=>
      κ35 (v42,(s27.set (v39).toNat (⟨v40.Target,false,v40.Call⟩:c9)))
     else
     κ35 (s28,(s27.set (v39).toNat (⟨v40.Target,false,v40.Call⟩:c9))))
   else
   some (.inr (s28,s27))) (0,v2,[])).bind λe25=>
  κ21 e25)
def a3p(a0:a6)(a1:List Int):Option a6:=
 (a4I a0.o8 a1).bind λv1=>
 jn (λ(j11:b7)=>
  some (⟨a0.S,a0.Roots,v1.1,a0.T,j11⟩:a6)) (λκ10=>
  (lp (S:=Int × b7) (E:=b7) (λ((s13,s14):Int × b7)=>
   if (decide (s13<(v1.2.length:Int))) then
    (ix v1.2 s13).bind λv17=>
    (ix v1.1 v17).bind λv18=>
    (a7K s14 (⟨2,v17,v18.Call⟩:k8)).bind λv19=>
    some (.inl (G2 (s13+1),v19.1))
   else
   some (.inr s14)) (0,a0.Q)).bind λe12=>
  κ10 e12)
def a5Y(a0:List Int):Option (List Int):=
 some a0
def a5X(a0:List Int):Option (List Int):=
 jn (λ(j10:List Int)=>
  some j10) (λκ9=>
  (a5Y a0).bind λv11=>
  (lp (S:=Int × (List Int)) (E:=(List Int)) (λ((s13,s14):Int × (List Int))=>
   if (decide (s13<(v11.length:Int))) then
    (ix v11 s13).bind λv17=>
    if ((v17 != 0)==true) then
     (app 8 s14 [v17]).bind λv18=>
     some (.inl (G2 (s13+1),v18))
    else
    some (.inl (G2 (s13+1),s14))
   else
   some (.inr s14)) (0,[])).bind λe12=>
  κ9 e12)
def a3X(a0:List a8)(a1:List Int):Option ((List a8) × (List Int)):=
 jn (λ((j18,j19):(List a8) × (List Int))=>
  some (j18,j19)) (λκ17=>
  (lp (S:=(List a8) × Int × (List Int)) (E:=((List a8) × (List Int))) (λ((s22,s23,s24):(List a8) × Int × (List Int))=>
   if (decide (s23<(a1.length:Int))) then
    jn (λ((j31,j32):(List a8) × (List Int))=>
     some (.inl (j31,G2 (s23+1),j32))) (λκ30=>
     (ix a1 s23).bind λv34=>
     (a5D s22 v34).bind λv35=>
     if (v35.2.2==0) then
      (app 8 s24 [v35.2.1]).bind λv36=>
      κ30 (v35.1,v36)
     else
     κ30 (s22,s24))
   else
   some (.inr (s22,s24))) (a0,0,[])).bind λe21=>
  κ17 e21)
def Z9(a0:b9)(a1:Int):Option (b9 × Int):=
 (Q9 a0 a1).bind λv1=>
 if (v1.2 != 0) then
  some (a0,v1.2)
 else
 (a2X a1).bind λv2=>
 (a4x a1).bind λv3=>
 (z6 a0 v2 (⟨2,v3,v1.1⟩:b6)).bind λv4=>
 some (v4,0)
def a4f(a0:a6)(a1:Int):Option a6:=
 (z1 a0.S a1).bind λv1=>
 (W6 a0.S a1 (⟨v1.1.Serial,0,v1.1.Weak,v1.1.Prog,v1.1.Started,[]⟩:p8)).bind λv2=>
 (Z9 v2.1.S a1).bind λv3=>
 if (v1.1.Weak==0) then
  (O7 v3.1 a1).bind λv4=>
  some (⟨⟨v4.1,v2.1.Serial⟩,a0.Roots,a0.o8,a0.T,a0.Q⟩:a6)
 else
 some (⟨⟨v3.1,v2.1.Serial⟩,a0.Roots,a0.o8,a0.T,a0.Q⟩:a6)
def a3n(a0:a6)(a1:List Int):Option a6:=
 (a1x a0 a1).bind λv1=>
 (a3p a0 v1).bind λv2=>
 jn (λ(j13:List Int)=>
  (a3X v2.T v1).bind λv14=>
  (app 8 j13 v14.2).bind λv15=>
  jn (λ(j24:a6)=>
   jn (λ(j33:a6)=>
    some j33) (λκ32=>
    (lp (S:=Int × a6) (E:=a6) (λ((s35,s36):Int × a6)=>
     if (decide (s35<(v15.length:Int))) then
      (ix v15 s35).bind λv39=>
      (N3 s36 v39).bind λv40=>
      some (.inl (G2 (s35+1),v40))
     else
     some (.inr s36)) (0,j24)).bind λe34=>
    κ32 e34)) (λκ23=>
   (lp (S:=Int × a6) (E:=a6) (λ((s42,s43):Int × a6)=>
    if (decide (s42<(v1.length:Int))) then
     (ix v1 s42).bind λv46=>
     (a4f s43 v46).bind λv47=>
     some (.inl (G2 (s42+1),v47))
    else
    some (.inr s43)) (0,(⟨v2.S,v2.Roots,v2.o8,v14.1,v2.Q⟩:a6))).bind λe41=>
   κ23 e41)) (λκ12=>
  (lp (S:=Int × (List Int)) (E:=(List Int)) (λ((s49,s50):Int × (List Int))=>
   if (decide (s49<(v1.length:Int))) then
    (ix v1 s49).bind λv53=>
    (z1 v2.S v53).bind λv54=>
    (a5X v54.1.Fields).bind λv55=>
    (app 8 s50 v55).bind λv56=>
    some (.inl (G2 (s49+1),v56))
   else
   some (.inr s50)) (0,[])).bind λe48=>
  κ12 e48)
def P6(a0:a6):Option a6:=
 (lp (S:=a6) (E:=a6) (λ(s2:a6)=>
  (a6n s2).bind λv4=>
  if ((v4.length:Int)==0) then
   some (.inr s2)
  else
  (ix v4 0).bind λv5=>
  (z1 s2.S v5).bind λv6=>
  (U7 v6.1).bind λv7=>
  if v7 then
   (a1g s2 v5).bind λv8=>
   some (.inl v8)
  else
  (cut v4 0 1).bind λv9=>
  (a3n s2 v9).bind λv10=>
  some (.inl v10)) a0).bind λe1=>
 some e1
def a3f(a0:a6)(a1:a6)(a2:j5):Option Int:=
 if (a2.Kind==5) then
  (W3 a0 a2.C).bind λv1=>
  some v1
 else
 jn (λ(j3:Bool)=>
  if j3 then
   (W3 a0 a2.B).bind λv4=>
   some v4
  else
  if (a2.Kind==10) then
   (G6 a0 a2.A).bind λv5=>
   (G6 a0 a2.B).bind λv6=>
   if (v5==v6) then
    some 1
   else
   some 0
  else
  (W3 a1 a2.A).bind λv7=>
  some v7) (λκ2=>
  if (a2.Kind==6) then
   κ2 (a2.Kind==6)
  else
  κ2 (a2.Kind==8))
def a4z(a0:a6)(a1:j5):Option (a6 × Int × Int):=
 (a0m a1).bind λv1=>
 if (v1 != 0) then
  some (a0,0,v1)
 else
 (a1d).bind λv2=>
 if (!((F7 v2 a1.Kind).isSome)) then
  some (a0,0,14)
 else
 (a9e ((F7 v2 a1.Kind).getD (none:Fv)) (⟨a0,a1⟩:l8)).bind λv3=>
 if (v3.2 != 0) then
  some (a0,0,v3.2)
 else
 (P6 v3.1).bind λv5=>
 (a3f v3.1 v5 a1).bind λv6=>
 some (v5,v6,0)
def a4F(a0:b8):Option b8:=
 some a0
def a7B(a0:b8)(a1:Int):Option (List Int):=
 (z1 a0 a1).bind λv1=>
 (a5X v1.1.Fields).bind λv2=>
 some v2
def b1C(a0:b8)(a1:Int):Option Int:=
 jn (λ(j31:Int)=>
  some j31) (λκ30=>
  (a4F a0).bind λv32=>
  (H4 v32).bind λv33=>
  (lp (S:=Int × Int) (E:=Int) (λ((s35,s36):Int × Int)=>
   if (decide (s35<(v33.length:Int))) then
    jn (λ(j50:Int)=>
     some (.inl (G2 (s35+1),j50))) (λκ49=>
     (ix v33 s35).bind λv51=>
     (a7B v32 v51).bind λv52=>
     (lp (S:=Int × Int) (E:=Int) (λ((s54,s55):Int × Int)=>
      if (decide (s54<(v52.length:Int))) then
       (ix v52 s54).bind λv58=>
       jn (λ(j60:Int)=>
        some (.inl (G2 (s54+1),j60))) (λκ59=>
        if (v58==a1) then
         κ59 (G2 (s55+1))
        else
        κ59 s55)
      else
      some (.inr s55)) (0,s36)).bind λe53=>
     κ49 e53)
   else
   some (.inr s36)) (0,0)).bind λe34=>
  κ30 e34)
def a0N(a0:List a8):Option (List a8):=
 some a0
def a5F(a0:List a8):Option (List Int):=
 jn (λ(j13:List Int)=>
  some j13) (λκ12=>
  (lp (S:=Int × (List Int)) (E:=(List Int)) (λ((s15,s16):Int × (List Int))=>
   if (decide (s15<(a0.length:Int))) then
    jn (λ(j22:List Int)=>
     some (.inl (G2 (s15+1),j22))) (λκ21=>
     (ix a0 s15).bind λv23=>
     if (v23.State==1) then
      (app 8 s16 [v23.Key]).bind λv24=>
      κ21 v24
     else
     κ21 s16)
   else
   some (.inr s16)) (0,[])).bind λe14=>
  κ12 e14)
def a09(a0:j8)(a1:Int):Option Bool:=
 some ((a1 != 0)&&(a0.Val==a1))
def x6(a0:List a8)(a1:Int):Option (List j8):=
 jn (λ(j16:List j8)=>
  some j16) (λκ15=>
  (a5F a0).bind λv17=>
  (lp (S:=Int × (List j8)) (E:=(List j8)) (λ((s19,s20):Int × (List j8))=>
   if (decide (s19<(v17.length:Int))) then
    (ix v17 s19).bind λv23=>
    (a2Z a0 v23).bind λv24=>
    jn (λ(j28:List j8)=>
     some (.inl (G2 (s19+1),j28))) (λκ27=>
     (a09 (⟨v23,v24.1⟩:j8) a1).bind λv29=>
     if v29 then
      (app 16 s20 [(⟨v23,v24.1⟩:j8)]).bind λv30=>
      κ27 v30
     else
     κ27 s20)
   else
   some (.inr s20)) (0,[])).bind λe18=>
  κ15 e18)
def a6b(a0:List a8)(a1:Int):Option Int:=
 (a0N a0).bind λv1=>
 (x6 v1 a1).bind λv2=>
 some (v2.length:Int)
def a6p(a0:b8)(a1:List a8)(a2:Int):Option Int:=
 (b1C a0 a2).bind λv1=>
 (a6b a1 a2).bind λv2=>
 some (G2 (v1+v2))
def a7O(a0:b8)(a1:List a8)(a2:Int):Option Int:=
 (z1 a0 a2).bind λv1=>
 if (v1.2 != 0) then
  some 0
 else
 (a6p a0 a1 a2).bind λv2=>
 some (G2 (v1.1.Strong-v2))
def a52(a0:Int):Option Bool:=
 (G3 a0).bind λv1=>
 some v1
def a5n(a0:Int)(a1:p8)(a2:b8)(a3:List a8):Option Bool:=
 (a7O a2 a3 a0).bind λv1=>
 (D7 ((decide (v1 > 0))==false) false (a52 a1.Strong)).bind λv2=>
 some ((decide (v1 > 0))||v2)
def a7M(a0:b8)(a1:List a8):Option (List Int):=
 jn (λ(j36:List Int)=>
  some j36) (λκ35=>
  jn (λ(j54:List Int)=>
   κ35 j54) (λκ53=>
   (H4 a0).bind λv55=>
   (lp (S:=Int × (List Int)) (E:=(List Int)) (λ((s57,s58):Int × (List Int))=>
    if (decide (s57<(v55.length:Int))) then
     jn (λ(j66:List Int)=>
      some (.inl (G2 (s57+1),j66))) (λκ65=>
      (ix v55 s57).bind λv67=>
      (z1 a0 v67).bind λv68=>
      (a5n v67 v68.1 a0 a1).bind λv69=>
      if v69 then
       (app 8 s58 [v67]).bind λv70=>
       κ65 v70
      else
      κ65 s58)
    else
    some (.inr s58)) (0,[])).bind λe56=>
   κ53 e56))
def a1f(a0:Int):Option e8:=
 some (⟨[],a0⟩:e8)
def a2a(a0:b8)(a1:Int):Option Bool:=
 (z1 a0 a1).bind λv1=>
 some (v1.2==0)
def P2(a0:e8):Option Int:=
 some (a0.L.length:Int)
def M2(a0:List Int)(a1:Int)(a2:Int):Option (List Int):=
 (cut a0 a1 a2).bind λv1=>
 some v1
def U5(a0:e8)(a1:Int):Option (e8 × Int):=
 (P2 a0).bind λv1=>
 if (decide (v1≥a0.Cap)) then
  some (a0,4)
 else
 (M2 a0.L 0 v1).bind λv2=>
 (app 8 v2 [a1]).bind λv3=>
 some ((⟨v3,a0.Cap⟩:e8),0)
def a2x(a0:e8)(a1:Int):Option (e8 × (List Int)):=
 (P2 a0).bind λv1=>
 (M2 a0.L 0 (if (if v1<a1 then v1 else a1) > 0 then (if v1<a1 then v1 else a1) else 0)).bind λv2=>
 (M2 a0.L (if (if v1<a1 then v1 else a1) > 0 then (if v1<a1 then v1 else a1) else 0) v1).bind λv3=>
 some ((⟨v3,a0.Cap⟩:e8),v2)
def a4b(a0:e8):Option (e8 × Int × Int):=
 (a2x a0 1).bind λv1=>
 if ((v1.2.length:Int)==0) then
  some (a0,0,10)
 else
 (ix v1.2 0).bind λv2=>
 some (v1.1,v2,0)
def a2b(a0:b8)(a1:List Int):Option (List (Int × Bool)):=
 (H4 a0).bind λv1=>
 (a1f (v1.length:Int)).bind λv2=>
 jn (λ((j20,j21):e8 × (List (Int × Bool)))=>
  jn (λ(j68:List (Int × Bool))=>
   some j68) (λκ67=>
   (lp (S:=e8 × (List (Int × Bool))) (E:=(List (Int × Bool))) (λ((s70,s71):e8 × (List (Int × Bool)))=>
    (P2 s70).bind λv74=>
    if (decide (v74 > 0)) then
     (a4b s70).bind λv75=>
     (a7B a0 v75.2.1).bind λv76=>
     jn (λ((j94,j95):e8 × (List (Int × Bool)))=>
      some (.inl (j94,j95))) (λκ93=>
      (lp (S:=Int × e8 × (List (Int × Bool))) (E:=(e8 × (List (Int × Bool)))) (λ((s98,s99,s100):Int × e8 × (List (Int × Bool)))=>
       if (decide (s98<(v76.length:Int))) then
        jn (λ((j107,j108):e8 × (List (Int × Bool)))=>
         some (.inl (G2 (s98+1),j107,j108))) (λκ106=>
         (ix v76 s98).bind λv110=>
         (a2a a0 v110).bind λv111=>
         if (v111==true) then
          if (!((F7 s100 v110).getD (false:Bool))) then
           (U5 s99 v110).bind λv112=>
           κ106 (v112.1,(h9 s100 v110 true))
          else
          κ106 (s99,s100)
         else
         κ106 (s99,s100))
       else
       some (.inr (s99,s100))) (0,v75.1,s71)).bind λe97=>
      κ93 e97)
    else
    some (.inr s71)) (j20,j21)).bind λe69=>
   κ67 e69)) (λκ19=>
  (lp (S:=Int × e8 × (List (Int × Bool))) (E:=(e8 × (List (Int × Bool)))) (λ((s114,s115,s116):Int × e8 × (List (Int × Bool)))=>
   if (decide (s114<(a1.length:Int))) then
    jn (λ((j123,j124):e8 × (List (Int × Bool)))=>
     some (.inl (G2 (s114+1),j123,j124))) (λκ122=>
     (ix a1 s114).bind λv126=>
     (a2a a0 v126).bind λv127=>
     if (v127==true) then
      if (!((F7 s116 v126).getD (false:Bool))) then
       (U5 s115 v126).bind λv128=>
       κ122 (v128.1,(h9 s116 v126 true))
      else
      κ122 (s115,s116)
     else
     κ122 (s115,s116))
   else
   some (.inr (s115,s116))) (0,v2,[])).bind λe113=>
  κ19 e113)
def a18(a0:Int)(a1:List (Int × Bool)):Option Bool:=
 some ((F7 a1 a0).getD (false:Bool))
def P3(a0:b8)(a1:List (Int × Bool)):Option (List Int):=
 jn (λ(j16:List Int)=>
  some j16) (λκ15=>
  (H4 a0).bind λv17=>
  (lp (S:=Int × (List Int)) (E:=(List Int)) (λ((s19,s20):Int × (List Int))=>
   if (decide (s19<(v17.length:Int))) then
    jn (λ(j27:List Int)=>
     some (.inl (G2 (s19+1),j27))) (λκ26=>
     (ix v17 s19).bind λv28=>
     (a18 v28 a1).bind λv29=>
     if v29 then
      (app 8 s20 [v28]).bind λv30=>
      κ26 v30
     else
     κ26 s20)
   else
   some (.inr s20)) (0,[])).bind λe18=>
  κ15 e18)
def a4D(a0:b8)(a1:List Int):Option (List Int):=
 (a2b a0 a1).bind λv1=>
 (P3 a0 v1).bind λv2=>
 some v2
def a1a(a0:j8):Option Bool:=
 some true
def x8(a0:List a8):Option (List j8):=
 jn (λ(j16:List j8)=>
  some j16) (λκ15=>
  (a5F a0).bind λv17=>
  (lp (S:=Int × (List j8)) (E:=(List j8)) (λ((s19,s20):Int × (List j8))=>
   if (decide (s19<(v17.length:Int))) then
    (ix v17 s19).bind λv23=>
    (a2Z a0 v23).bind λv24=>
    jn (λ(j28:List j8)=>
     some (.inl (G2 (s19+1),j28))) (λκ27=>
     (a1a (⟨v23,v24.1⟩:j8)).bind λv29=>
     if v29 then
      (app 16 s20 [(⟨v23,v24.1⟩:j8)]).bind λv30=>
      κ27 v30
     else
     κ27 s20)
   else
   some (.inr s20)) (0,[])).bind λe18=>
  κ15 e18)
def a6c(a0:List a8):Option (List j8):=
 (a0N a0).bind λv1=>
 (x8 v1).bind λv2=>
 some v2
def a4w(a0:Int)(a1:b8):Option Bool:=
 (z1 a1 a0).bind λv1=>
 some (v1.2==0)
def a9V(a0:b8)(a1:List a8)(a2:List Int):Option (List Int):=
 jn (λ(j20:List Int)=>
  some j20) (λκ19=>
  (a6c a1).bind λv21=>
  (lp (S:=Int × (List Int)) (E:=(List Int)) (λ((s23,s24):Int × (List Int))=>
   if (decide (s23<(v21.length:Int))) then
    jn (λ(j33:List Int)=>
     some (.inl (G2 (s23+1),j33))) (λκ32=>
     (ix v21 s23).bind λv34=>
     (E4 a2 v34.Key).bind λv35=>
     (D7 (v35==true) false (a4w v34.Key a0)).bind λv36=>
     (D7 ((v35&&v36)==true) false (a4w v34.Val a0)).bind λv37=>
     if ((v35&&v36)&&v37) then
      (app 8 s24 [v34.Val]).bind λv38=>
      κ32 v38
     else
     κ32 s24)
   else
   some (.inr s24)) (0,[])).bind λe22=>
  κ19 e22)
def a8v(a0:b8)(a1:List a8)(a2:List Int):Option ((List Int) × Int):=
 (a4D a0 a2).bind λv1=>
 (lp (S:=(List Int) × Int) (E:=((List Int) × Int)) (λ((s3,s4):(List Int) × Int)=>
  (a9V a0 a1 s3).bind λv7=>
  jn (λ(_:Unit)=>
   some (.inr (s3,s4))) (λκ15=>
   (lp (S:=Int) (E:=((List Int) × Int) ⊕ Unit) (λ(s18:Int)=>
    if (decide (s18<(v7.length:Int))) then
     (ix v7 s18).bind λv20=>
     (E4 s3 v20).bind λv21=>
     if (!v21) then
      (app 8 v7 s3).bind λv22=>
      (a4D a0 v22).bind λv23=>
      some (.inr (.inl (v23,G2 (s4+1))))
     else
     some (.inl (G2 (s18+1)))
    else
    some (.inr (.inr ()))) 0).bind λe17=>
   match e17 with
   | .inl w=>some (.inl w)
   | .inr w=>κ15 w)) (v1,0)).bind λe2=>
 some e2
def a9S(a0:b8)(a1:List a8)(a2:List Int):Option (List Int):=
 (a8v a0 a1 a2).bind λv1=>
 some v1.1
def a19(a0:Int)(a1:List (Int × Bool)):Option Bool:=
 some (!((F7 a1 a0).getD (false:Bool)))
def P4(a0:b8)(a1:List (Int × Bool)):Option (List Int):=
 jn (λ(j16:List Int)=>
  some j16) (λκ15=>
  (H4 a0).bind λv17=>
  (lp (S:=Int × (List Int)) (E:=(List Int)) (λ((s19,s20):Int × (List Int))=>
   if (decide (s19<(v17.length:Int))) then
    jn (λ(j27:List Int)=>
     some (.inl (G2 (s19+1),j27))) (λκ26=>
     (ix v17 s19).bind λv28=>
     (a19 v28 a1).bind λv29=>
     if v29 then
      (app 8 s20 [v28]).bind λv30=>
      κ26 v30
     else
     κ26 s20)
   else
   some (.inr s20)) (0,[])).bind λe18=>
  κ15 e18)
def a7A(a0:b8)(a1:List Int):Option (List Int):=
 (a2b a0 a1).bind λv1=>
 (P4 a0 v1).bind λv2=>
 some v2
def a7f(a0:b8)(a1:List a8)(a2:List Int):Option (List Int):=
 (a9S a0 a1 a2).bind λv1=>
 (a7A a0 v1).bind λv2=>
 some v2
def a1j(a0:b8)(a1:List a8):Option (List Int):=
 (a7M a0 a1).bind λv1=>
 (a7f a0 a1 v1).bind λv2=>
 some v2
def Y6(a0:a6):Option (List Int):=
 (a1j a0.S a0.T).bind λv1=>
 some v1
def a2q(a0:Int)(a1:a6):Option Bool:=
 (z1 a1.S a0).bind λv1=>
 some ((decide (v1.1.Prog≥0))&&(!v1.1.Started))
def G1(a0:List Int)(a1:a6):Option (List Int):=
 jn (λ(j15:List Int)=>
  some j15) (λκ14=>
  (lp (S:=Int × (List Int)) (E:=(List Int)) (λ((s17,s18):Int × (List Int))=>
   if (decide (s17<(a0.length:Int))) then
    jn (λ(j25:List Int)=>
     some (.inl (G2 (s17+1),j25))) (λκ24=>
     (ix a0 s17).bind λv26=>
     (a2q v26 a1).bind λv27=>
     if v27 then
      (app 8 s18 [v26]).bind λv28=>
      κ24 v28
     else
     κ24 s18)
   else
   some (.inr s18)) (0,[])).bind λe16=>
  κ14 e16)
def a3T(a0:a6):Option (List Int):=
 (Y6 a0).bind λv1=>
 (G1 v1 a0).bind λv2=>
 some v2
def a2r(a0:a6):Option (a6 × Int × Int):=
 (a3T a0).bind λv1=>
 jn (λ(j10:a6)=>
  if (decide ((v1.length:Int) > 0)) then
   some (j10,(v1.length:Int),0)
  else
  (Y6 j10).bind λv11=>
  (a3n j10 v11).bind λv12=>
  (P6 v12).bind λv13=>
  (H4 j10.S).bind λv14=>
  (H4 v13.S).bind λv15=>
  some (v13,0,G2 ((v14.length:Int)-(v15.length:Int)))) (λκ9=>
  (lp (S:=Int × a6) (E:=a6) (λ((s17,s18):Int × a6)=>
   if (decide (s17<(v1.length:Int))) then
    (ix v1 s17).bind λv21=>
    (a1g s18 v21).bind λv22=>
    some (.inl (G2 (s17+1),v22))
   else
   some (.inr s18)) (0,a0)).bind λe16=>
  κ9 e16)
def W0(a0:b7)(a1:Int):Option (b7 × (List k8)):=
 (H8 a0).bind λv1=>
 (D9 a0.L 0 (if (if v1<a1 then v1 else a1) > 0 then (if v1<a1 then v1 else a1) else 0)).bind λv2=>
 (D9 a0.L (if (if v1<a1 then v1 else a1) > 0 then (if v1<a1 then v1 else a1) else 0) v1).bind λv3=>
 some ((⟨v3,a0.Cap⟩:b7),v2)
def Z8(a0:b7):Option (b7 × k8 × Int):=
 (W0 a0 1).bind λv1=>
 if ((v1.2.length:Int)==0) then
  some (a0,(⟨0,0,0⟩:k8),10)
 else
 (ix v1.2 0).bind λv2=>
 some (v1.1,v2,0)
def a3H(a0:b7):Option (b7 × k8 × Int):=
 (Z8 a0).bind λv1=>
 some (v1.1,v1.2.1,v1.2.2)
def a2Q(a0:a6):Option Bool:=
 (a3H a0.Q).bind λv1=>
 some (v1.2.2 != 0)
def a4t(a0:List (List j5))(a1:Int):Option (List j5):=
 if ((decide (a1<0))||(decide (a1≥(a0.length:Int)))) then
  some []
 else
 (ix a0 a1).bind λv1=>
 some v1
def a65(a0:List (List j5))(a1:k8):Option Int:=
 (a4t a0 a1.Prog).bind λv1=>
 some (G2 (1+(v1.length:Int)))
def a6i(a0:a6)(a1:List j5):Option (a6 × (List Int)):=
 jn (λ((j11,j12):a6 × (List Int))=>
  some (j11,j12)) (λκ10=>
  (lp (S:=Int × a6 × (List Int)) (E:=(a6 × (List Int))) (λ((s15,s16,s17):Int × a6 × (List Int))=>
   if (decide (s15<(a1.length:Int))) then
    (ix a1 s15).bind λv20=>
    (a4z s16 v20).bind λv21=>
    (app 8 s17 [v21.2.1]).bind λv22=>
    some (.inl (G2 (s15+1),v21.1,v22))
   else
   some (.inr (s16,s17))) (0,a0,[])).bind λe14=>
  κ10 e14)
def a69(a0:a6)(a1:List (List j5)):Option (a6 × k8 × Int):=
 (a3H a0.Q).bind λv1=>
 if (v1.2.2 != 0) then
  some (a0,(⟨0,0,0⟩:k8),v1.2.2)
 else
 jn (λ(j6:a6)=>
  (a4t a1 v1.2.1.Prog).bind λv7=>
  (a6i j6 v7).bind λv8=>
  if (v1.2.1.Kind==1) then
   (a3B v8.1 5 0).bind λv9=>
   (P6 v9.1).bind λv10=>
   some (v10,v1.2.1,0)
  else
  some (v8.1,v1.2.1,0)) (λκ5=>
  if (v1.2.1.Kind==1) then
   (a3B (⟨a0.S,a0.Roots,a0.o8,a0.T,v1.1⟩:a6) 5 v1.2.1.At).bind λv11=>
   (N3 v11.1 v1.2.1.At).bind λv12=>
   (P6 v12).bind λv13=>
   κ5 v13
  else
  κ5 (⟨a0.S,a0.Roots,a0.o8,a0.T,v1.1⟩:a6))
def a6a(a0:a6)(a1:List (List j5))(a2:Int):Option (a6 × Int × Int × Int):=
 jn (λ((j14,j15,j16):Int × Int × a6)=>
  (a2Q j16).bind λv18=>
  if (!v18) then
   some (j16,j14,j15,12)
  else
  some (j16,j14,j15,0)) (λκ13=>
  (lp (S:=Int × a6 × Int × Int × a6) (E:=(Int × Int × a6)) (λ((s20,s21,s22,s23,s24):Int × a6 × Int × Int × a6)=>
   (a2Q s21).bind λv27=>
   if (!v27) then
    (a3H s21.Q).bind λv28=>
    (a65 a1 v28.2.1).bind λv29=>
    if (decide (v29 > s20)) then
     some (.inr (s22,s23,s24))
    else
    (a69 s21 a1).bind λv30=>
    some (.inl (G2 (s20-v29),v30.1,G2 (s22+1),G2 (s20-v29),v30.1))
   else
   some (.inr (s22,s23,s24))) (a2,a0,0,a2,a0)).bind λe19=>
  κ13 e19)
def a5x(a0:l3)(a1:List Int):Option (l3 × k7):=
 (a5Z a1).bind λv1=>
 if (v1.2 != 0) then
  some (a0,(⟨0,v1.2⟩:k7))
 else
 (a4Z v1.1).bind λv2=>
 if (decide (v2.t=99)) then
  (a4z a0.X (⟨(ifG v2 99 0),(ifG v2 99 1),(ifG v2 99 2),(ifG v2 99 3)⟩:j5)).bind λv3=>
  some ((⟨v3.1,a0.Progs⟩:l3),(⟨v3.2.1,v3.2.2⟩:k7))
 else
 if (decide (v2.t=103)) then
  (a2r a0.X).bind λv4=>
  some ((⟨v4.1,a0.Progs⟩:l3),(⟨G2 (v4.2.2-v4.2.1),0⟩:k7))
 else
 if (decide (v2.t=107)) then
  (a6a a0.X a0.Progs (ifG v2 107 0)).bind λv5=>
  some ((⟨v5.1,a0.Progs⟩:l3),(⟨v5.2.1,v5.2.2.2⟩:k7))
 else
 some (a0,(⟨0,0⟩:k7))
def a4T(a0:k7):Option ByteArray:=
 if (a0.E != 0) then
  (D6 a0.E).bind λv1=>
  some v1
 else
 (a8L a0.V).bind λv2=>
 some v2
def O1(a0:c3)(a1:Int)(a2:List Int):Option (c3 × ByteArray):=
 (mk 8 4 (0:Int)).bind λv1=>
 (ix v1 0).bind λv2=>
 (b2A (v1.set (0:Int).toNat a1) 1 a2).bind λv3=>
 (a5x a0.g v3).bind λv4=>
 (a4T v4.2).bind λv5=>
 some ((⟨v4.1,a0.begun,a0.progs⟩:c3),v5)
def Z3(a0:c3)(a1:List Int)(a2:Int):Option (c3 × ByteArray):=
 (O1 a0 a2 a1).bind λv1=>
 some (v1.1,v1.2)
def a9h(f:Fw)(a0:c3)(a1:List Int):Option (c3 × ByteArray):=
 match f with
 | none=>none
 | some (n,none)=>
  if n=76 then R2 a0 a1 else
  if n=78 then L8 a0 a1 else
  if n=80 then L1 a0 a1 else
  if n=81 then L2 a0 a1 else
  if n=82 then V7 a0 a1 else
  none
 | some (n,some c)=>
  if n=138 then Z3 a0 a1 c else
  none
def I4(a0:c3)(a1:List ByteArray):Option (c3 × ByteArray):=
 (a1n).bind λv1=>
 (ix a1 0).bind λv2=>
 (cut a1 1 (a1.length:Int)).bind λv3=>
 (a0M v3).bind λv4=>
 if (((!((F7 v1 v2).isSome))||(!v4.2))==false) then
  (a9g (((F7 v1 v2).getD (⟨none,none,false⟩:b4)).takes) (v4.1.length:Int)).bind λv5=>
  if (!v5) then
   (D6 33).bind λv8=>
   some (a0,v8)
  else
  if ((!a0.begun)&&(!(((F7 v1 v2).getD (⟨none,none,false⟩:b4)).early))) then
   some (a0,(p5 [110,111,32,104,101,97,112]))
  else
  (a9h (((F7 v1 v2).getD (⟨none,none,false⟩:b4)).run) a0 v4.1).bind λv9=>
  some (v9.1,v9.2)
 else
 (D6 33).bind λv12=>
 some (a0,v12)
def a3U(a0:ByteArray):Option (List ByteArray):=
 jn (λ(j21:List ByteArray)=>
  some j21) (λκ20=>
  (a9u a0 (p5 [10])).bind λv22=>
  (lp (S:=Int × c3 × (List ByteArray)) (E:=(List ByteArray)) (λ((s24,s25,s26):Int × c3 × (List ByteArray))=>
   if (decide (s24<(v22.length:Int))) then
    jn (λ((j34,j35):c3 × (List ByteArray))=>
     some (.inl (G2 (s24+1),j34,j35))) (λκ33=>
     (ix v22 s24).bind λv37=>
     (F2 v37).bind λv38=>
     if ((v38.length:Int)==0) then
      κ33 (s25,s26)
     else
     (I4 s25 v38).bind λv39=>
     (app 16 s26 [v39.2]).bind λv40=>
     κ33 (v39.1,v40))
   else
   some (.inr s26)) (0,(⟨⟨⟨⟨⟨[],0⟩,0⟩,[],[],[],⟨[],0⟩⟩,[]⟩,false,[]⟩:c3),[])).bind λe23=>
  κ20 e23)
def b0t(a0:Int)(a1:Int):Option l3:=
 (a4u a0 a1 8 []).bind λv1=>
 some v1.1
def a2o(a0:Int)(a1:Int)(a2:Int)(a3:Int):Option (List Int):=
 some [a0,a1,a2,a3]
def a7b(a0:l3)(a1:List (List Int)):Option (l3 × (List k7)):=
 jn (λ((j11,j12):l3 × (List k7))=>
  some (j11,j12)) (λκ10=>
  (lp (S:=Int × l3 × (List k7)) (E:=(l3 × (List k7))) (λ((s15,s16,s17):Int × l3 × (List k7))=>
   if (decide (s15<(a1.length:Int))) then
    (ix a1 s15).bind λv20=>
    (a5x s16 v20).bind λv21=>
    (app 16 s17 [v21.2]).bind λv22=>
    some (.inl (G2 (s15+1),v21.1,v22))
   else
   some (.inr (s16,s17))) (0,a0,[])).bind λe14=>
  κ10 e14)
def b0v:Option Bool:=
 (b0t 2 3).bind λv1=>
 (a2o 1 0 1 (-1)).bind λv2=>
 (a2o 5 0 0 0).bind λv3=>
 (a2o 3 0 0 0).bind λv4=>
 (a2o 11 0 0 0).bind λv5=>
 (a2o 1 0 0 (-1)).bind λv6=>
 (a2o 1 1 0 (-1)).bind λv7=>
 (a2o 1 2 0 (-1)).bind λv8=>
 (a7b v1 [v2,v3,v4,v5,v6,v7,v8]).bind λv9=>
 (D7 (((v9.2.length:Int)==7)==true) (⟨0,0⟩:k7) (ix v9.2 3)).bind λv10=>
 (D7 ((((v9.2.length:Int)==7)&&(v10.V==1))==true) (⟨0,0⟩:k7) (ix v9.2 4)).bind λv11=>
 (D7 (((((v9.2.length:Int)==7)&&(v10.V==1))&&(v11.V==2))==true) (⟨0,0⟩:k7) (ix v9.2 5)).bind λv12=>
 (D7 ((((((v9.2.length:Int)==7)&&(v10.V==1))&&(v11.V==2))&&(v12.V==3))==true) (⟨0,0⟩:k7) (ix v9.2 6)).bind λv13=>
 (D7 (((((((v9.2.length:Int)==7)&&(v10.V==1))&&(v11.V==2))&&(v12.V==3))&&(v13.E==4))==true) ⟨0,0,0,0⟩ (a1S v9.1)).bind λv14=>
 some (((((((v9.2.length:Int)==7)&&(v10.V==1))&&(v11.V==2))&&(v12.V==3))&&(v13.E==4))&&((v14.a==0)&&((v14.b==2)&&((v14.c==0)&&((v14.d==0)&&true)))))
def n0(a0:Int)(a1:Int):Option Bool:=
 (rem a0 4).bind λv1=>
 (rem a1 5).bind λv2=>
 (a2f (p5 [112,114,111,103,32,48,32,50,32,52,32,53,32,48,10,104,101,97,112,32,52,32,57,32,56,10,110,101,119,32]) (ofBytes [w8 (48+v1)])).bind λv3=>
 (a2f v3 (p5 [32])).bind λv4=>
 (a2f v4 (ofBytes [w8 (48+v2)])).bind λv5=>
 (a2f v5 (p5 [32,48,10,119,101,97,107,32,50,32])).bind λv6=>
 (a2f v6 (ofBytes [w8 (48+v1)])).bind λv7=>
 (a2f v7 (p5 [32,45,49,10,100,114,111,112,32])).bind λv8=>
 (a2f v8 (ofBytes [w8 (48+v1)])).bind λv9=>
 (a2f v9 (p5 [10,108,105,118,101,115,10,100,114,97,105,110,32,57,10,117,112,32])).bind λv10=>
 (a2f v10 (ofBytes [w8 (48+v1)])).bind λv11=>
 (a2f v11 (p5 [32,50,10,115,97,109,101,32])).bind λv12=>
 (a2f v12 (ofBytes [w8 (48+v1)])).bind λv13=>
 (a2f v13 (p5 [32,52,10,100,114,111,112,32])).bind λv14=>
 (a2f v14 (ofBytes [w8 (48+v1)])).bind λv15=>
 (a2f v15 (p5 [10,100,114,111,112,32,52,10,108,105,118,101,115,10,117,112,32,48,32,50,10,116,97,108,108,121])).bind λv16=>
 (a3U v16).bind λv17=>
 (D7 (((v17.length:Int)==14)==true) (ByteArray.empty:ByteArray) (ix v17 2)).bind λv18=>
 (D7 ((((v17.length:Int)==14)&&(v18.toList==(p5 [49]).toList))==true) (ByteArray.empty:ByteArray) (ix v17 4)).bind λv19=>
 (D7 (((((v17.length:Int)==14)&&(v18.toList==(p5 [49]).toList))&&(v19.toList==(p5 [48]).toList))==true) (ByteArray.empty:ByteArray) (ix v17 5)).bind λv20=>
 (D7 ((((((v17.length:Int)==14)&&(v18.toList==(p5 [49]).toList))&&(v19.toList==(p5 [48]).toList))&&(v20.toList==(p5 [108,105,118,101,115,32,49]).toList))==true) (ByteArray.empty:ByteArray) (ix v17 6)).bind λv21=>
 (D7 (((((((v17.length:Int)==14)&&(v18.toList==(p5 [49]).toList))&&(v19.toList==(p5 [48]).toList))&&(v20.toList==(p5 [108,105,118,101,115,32,49]).toList))&&(v21.toList==(p5 [49]).toList))==true) (ByteArray.empty:ByteArray) (ix v17 7)).bind λv22=>
 (D7 ((((((((v17.length:Int)==14)&&(v18.toList==(p5 [49]).toList))&&(v19.toList==(p5 [48]).toList))&&(v20.toList==(p5 [108,105,118,101,115,32,49]).toList))&&(v21.toList==(p5 [49]).toList))&&(v22.toList==(p5 [49]).toList))==true) (ByteArray.empty:ByteArray) (ix v17 8)).bind λv23=>
 (D7 (((((((((v17.length:Int)==14)&&(v18.toList==(p5 [49]).toList))&&(v19.toList==(p5 [48]).toList))&&(v20.toList==(p5 [108,105,118,101,115,32,49]).toList))&&(v21.toList==(p5 [49]).toList))&&(v22.toList==(p5 [49]).toList))&&(v23.toList==(p5 [49]).toList))==true) (ByteArray.empty:ByteArray) (ix v17 11)).bind λv24=>
 (D7 ((((((((((v17.length:Int)==14)&&(v18.toList==(p5 [49]).toList))&&(v19.toList==(p5 [48]).toList))&&(v20.toList==(p5 [108,105,118,101,115,32,49]).toList))&&(v21.toList==(p5 [49]).toList))&&(v22.toList==(p5 [49]).toList))&&(v23.toList==(p5 [49]).toList))&&(v24.toList==(p5 [108,105,118,101,115]).toList))==true) (ByteArray.empty:ByteArray) (ix v17 12)).bind λv25=>
 (D7 (((((((((((v17.length:Int)==14)&&(v18.toList==(p5 [49]).toList))&&(v19.toList==(p5 [48]).toList))&&(v20.toList==(p5 [108,105,118,101,115,32,49]).toList))&&(v21.toList==(p5 [49]).toList))&&(v22.toList==(p5 [49]).toList))&&(v23.toList==(p5 [49]).toList))&&(v24.toList==(p5 [108,105,118,101,115]).toList))&&(v25.toList==(p5 [101,114,114,111,114,32,57]).toList))==true) (ByteArray.empty:ByteArray) (ix v17 13)).bind λv26=>
 (D7 ((((((((((((v17.length:Int)==14)&&(v18.toList==(p5 [49]).toList))&&(v19.toList==(p5 [48]).toList))&&(v20.toList==(p5 [108,105,118,101,115,32,49]).toList))&&(v21.toList==(p5 [49]).toList))&&(v22.toList==(p5 [49]).toList))&&(v23.toList==(p5 [49]).toList))&&(v24.toList==(p5 [108,105,118,101,115]).toList))&&(v25.toList==(p5 [101,114,114,111,114,32,57]).toList))&&(v26.toList==(p5 [116,97,108,108,121,32,51,32,48,32,49,32,48]).toList))==true) false b0v).bind λv27=>
 some ((((((((((((v17.length:Int)==14)&&(v18.toList==(p5 [49]).toList))&&(v19.toList==(p5 [48]).toList))&&(v20.toList==(p5 [108,105,118,101,115,32,49]).toList))&&(v21.toList==(p5 [49]).toList))&&(v22.toList==(p5 [49]).toList))&&(v23.toList==(p5 [49]).toList))&&(v24.toList==(p5 [108,105,118,101,115]).toList))&&(v25.toList==(p5 [101,114,114,111,114,32,57]).toList))&&(v26.toList==(p5 [116,97,108,108,121,32,51,32,48,32,49,32,48]).toList))&&v27)
end
end Go.Sh
