/- A part. -/
import Derived.Test.YtmgbbnfgfmfgaaaGreatQ22dSh0
import Derived.Test.YtmgbbnfgfmfgaaaGreatQ22dPwD
import Derived.Test.YtmgbbnfgfmfgaaaGreatQ22dPwC
set_option linter.unusedVariables false
set_option linter.unusedSimpArgs false
set_option linter.unusedSectionVars false
namespace Go.Sh
set_option maxRecDepth 100000
noncomputable section
structure g8 where
 Kind:Int
 A:Int
 B:Int
 C:Int
structure b8 where
 Serial:Int
 Slot:Int
 Prog:Int
 Started:Bool
 Alive:Bool
 Stuck:Bool
 Fields:List Int
structure k7 where
 Target:Int
 Intact:Bool
 Call:Int
structure g7 where
 Key:Int
 Val:Int
structure e6 where
 Kind:Int
 At:Int
 Prog:Int
structure n7 where
 Serial:Int
 Strong:Int
 Weak:Int
 Prog:Int
 Started:Bool
 Fields:List Int
structure c8 where
 State:Int
 Gen:Int
 Val:n7
structure g5 where
 State:Int
 Key:Int
 Val:Int
structure l5 where
 part:Fv
 least:Int
 most:Int
 e:Int
structure l4 where
 b7:List c8
 Last:Int
structure b6 where
 S:l4
 Serial:Int
structure j5 where
 L:List e6
 Cap:Int
structure b9 where
 S:b6
 Roots:List Int
 b7:List k7
 T:List g5
 Q:j5
structure r8 where
 X:b9
 Progs:List (List g8)
structure a8 where
 Nodes:List b8
 Slots:List Int
 Gens:List Int
 Last:Int
 Places:Int
 Serial:Int
 Roots:List Int
 b7:List k7
 Pairs:List g7
 Tasks:List e6
 Progs:List (List g8)
structure g9 where
 V:Int
 E:Int
structure c9 where
 L:List Int
 Cap:Int
structure r7 where
 x:b9
 o:g8
structure K7 where
 r:Int
 h:Int
structure H2 where
 h:Int
 k:Int
 v:Int
structure K6 where
 t:List g5
structure y8 where
 V:Int
 E:Int
def gY(a0:List (List g8)):Option Bool:=
 jn (λ(_:Unit)=>
  some (decide ((a0.length:Int)<=10))) (λκ5=>
  (lp (S:=Int) (E:=Bool ⊕ Unit) (λ(s8:Int)=>
   if ((decide (s8<(a0.length:Int)))&&(decide (s8<10))) then
    (ix a0 s8).bind λv10=>
    if (decide ((v10.length:Int) > 10)) then
     some (.inr (.inl false))
    else
    some (.inl (w7 (s8+1)))
   else
   some (.inr (.inr ()))) 0).bind λe7=>
  match e7 with
  | .inl w=>some w
  | .inr w=>κ5 w)
def gi(a0:List (List Int))(a1:Int):Option Bool:=
 jn (λ(_:Unit)=>
  some (decide ((a0.length:Int)<=a1))) (λκ5=>
  (lp (S:=Int) (E:=Bool ⊕ Unit) (λ(s8:Int)=>
   if ((decide (s8<(a0.length:Int)))&&(decide (s8<200))) then
    (ix a0 s8).bind λv10=>
    if (decide ((v10.length:Int) > 10)) then
     some (.inr (.inl false))
    else
    some (.inl (w7 (s8+1)))
   else
   some (.inr (.inr ()))) 0).bind λe7=>
  match e7 with
  | .inl w=>some w
  | .inr w=>κ5 w)
def fM(a0:g8):Option Bool:=
 some ((decide (a0.Kind>=1))&&(decide (a0.Kind<=10)))
def bb:Option l5:=
 some (⟨(some 251),0,5,6⟩:l5)
def V9:Option l5:=
 some (⟨(some 254),(-1),5,13⟩:l5)
def L7(a0:List l5):Option (List l5):=
 some a0
def bc:Option l5:=
 some (⟨(some 252),0,5,6⟩:l5)
def aj:Option l5:=
 some (⟨(some 254),0,3,5⟩:l5)
def ai:Option l5:=
 some (⟨(some 252),0,3,5⟩:l5)
def Q4:Option l5:=
 some (⟨(some 254),(-1),5,6⟩:l5)
def aZ:Option l5:=
 some (⟨(some 251),0,5,7⟩:l5)
def Q3:Option l5:=
 some (⟨(some 252),(-1),5,6⟩:l5)
def ba:Option l5:=
 some (⟨(some 252),0,5,7⟩:l5)
def mF:Option (List (Int × (List l5))):=
 (bb).bind λv1=>
 (V9).bind λv2=>
 (L7 [v1,(⟨(some 252),0,4,1⟩:l5),v2]).bind λv3=>
 (bc).bind λv4=>
 (L7 [v1,v4]).bind λv5=>
 (L7 [v1]).bind λv6=>
 (aj).bind λv7=>
 (L7 [v1,v4,v7]).bind λv8=>
 (ai).bind λv9=>
 (Q4).bind λv10=>
 (L7 [v1,v9,v10]).bind λv11=>
 (aZ).bind λv12=>
 (Q3).bind λv13=>
 (L7 [v12,v13,v2]).bind λv14=>
 (ba).bind λv15=>
 (L7 [v1,v15]).bind λv16=>
 (L7 [v1,v13]).bind λv17=>
 (L7 []).bind λv18=>
 (L7 [(⟨(some 251),0,200,12⟩:l5)]).bind λv19=>
 some (o7 (o7 (o7 (o7 (o7 (o7 (o7 (o7 (o7 (o7 (o7 (o7 [] 1 v3) 2 v5) 3 v6) 4 v8) 5 v11) 6 v14) 7 v16) 8 v17) 9 v5) 10 v5) 11 v18) 12 v19)
def qZ(a0:g8):Option Int:=
 some a0.A
def ra(a0:g8):Option Int:=
 some a0.B
def re(a0:g8):Option Int:=
 some a0.C
def sQ(f:Fv)(a0:g8):Option Int:=
 if f=some 251 then qZ a0 else
 if f=some 252 then ra a0 else
 if f=some 254 then re a0 else
 none
def V8(a0:g8):Option Int:=
 (mF).bind λv1=>
 if (!((y9 v1 a0.Kind).isSome)) then
  some 14
 else
 jn (λ(_:Unit)=>
  some 0) (λκ8=>
  (lp (S:=Int) (E:=Int ⊕ Unit) (λ(s11:Int)=>
   if (decide (s11<(((y9 v1 a0.Kind).getD ([]:List l5)).length:Int))) then
    (ix ((y9 v1 a0.Kind).getD ([]:List l5)) s11).bind λv13=>
    (sQ v13.part a0).bind λv14=>
    if ((decide (v14<v13.least))||(decide (v14 > v13.most))) then
     some (.inr (.inl v13.e))
    else
    some (.inl (w7 (s11+1)))
   else
   some (.inr (.inr ()))) 0).bind λe10=>
  match e10 with
  | .inl w=>some w
  | .inr w=>κ8 w)
def fN(a0:List (List g8)):Option Bool:=
 if (decide ((a0.length:Int) > 6)) then
  some false
 else
 jn (λ(_:Unit)=>
  some true) (λκ20=>
  (lp (S:=Int) (E:=Bool ⊕ Unit) (λ(s23:Int)=>
   if (decide (s23<(a0.length:Int))) then
    jn (λ(_:Unit)=>
     some (.inl (w7 (s23+1)))) (λκ32=>
     (ix a0 s23).bind λv34=>
     if (decide ((v34.length:Int) > 6)) then
      some (.inr (.inl false))
     else
     (lp (S:=Int) (E:=Bool ⊕ Unit) (λ(s36:Int)=>
      if (decide (s36<(v34.length:Int))) then
       (ix v34 s36).bind λv38=>
       (fM v38).bind λv39=>
       (E1 ((!v39)==false) 0 (V8 v38)).bind λv40=>
       if ((!v39)||(v40 != 0)) then
        some (.inr (.inl false))
       else
       some (.inl (w7 (s36+1)))
      else
      some (.inr (.inr ()))) 0).bind λe35=>
     match e35 with
     | .inl w=>some (.inr (.inl w))
     | .inr w=>κ32 w)
   else
   some (.inr (.inr ()))) 0).bind λe22=>
  match e22 with
  | .inl w=>some w
  | .inr w=>κ20 w)
def ay(a0:Int)(a1:Int):Option l4:=
 if ((((decide (a0<0))||(decide (a0 > 24)))||(decide (a1<0)))||(decide (a1 > 9))) then
  some (⟨[],0⟩:l4)
 else
 (mk 80 a0 (⟨0,0,⟨0,0,0,0,false,[]⟩⟩:c8)).bind λv1=>
 some (⟨v1,a1⟩:l4)
def jh(a0:Int)(a1:Int):Option b6:=
 (ay a0 a1).bind λv1=>
 some (⟨v1,0⟩:b6)
def Ak(a0:Int):Option (List k7):=
 if ((decide (a0<0))||(decide (a0 > 6))) then
  some []
 else
 (mk 24 a0 (⟨0,false,0⟩:k7)).bind λv1=>
 jn (λ(j9:List k7)=>
  some j9) (λκ8=>
  (lp (S:=Int × (List k7)) (E:=(List k7)) (λ((s11,s12):Int × (List k7))=>
   if (decide (s11<(v1.length:Int))) then
    (ix s12 s11).bind λv15=>
    some (.inl (w7 (s11+1),(s12.set (s11).toNat (⟨v15.Target,v15.Intact,(-1)⟩:k7))))
   else
   some (.inr s12)) (0,v1)).bind λe10=>
  κ8 e10)
def sW(a0:Int):Option (List g5):=
 if ((decide (a0<1))||(decide (a0 > 8))) then
  some []
 else
 (mk 24 a0 (⟨0,0,0⟩:g5)).bind λv1=>
 some v1
def cL(a0:Int):Option j5:=
 some (⟨[],a0⟩:j5)
def yX:Option j5:=
 (cL 30).bind λv1=>
 some v1
def lA(a0:Int)(a1:Int)(a2:Int):Option b9:=
 if ((((((decide (a0<1))||(decide (a0 > 24)))||(decide (a1<0)))||(decide (a1 > 9)))||(decide (a2<1)))||(decide (a2 > 8))) then
  some (⟨⟨⟨[],0⟩,0⟩,[],[],[],⟨[],0⟩⟩:b9)
 else
 (jh a0 a1).bind λv1=>
 (mk 8 6 (0:Int)).bind λv2=>
 (Ak 6).bind λv3=>
 (sW a2).bind λv4=>
 (yX).bind λv5=>
 some (⟨v1,v2,v3,v4,v5⟩:b9)
def R6(a0:Int)(a1:Int)(a2:Int)(a3:List (List g8)):Option (r8 × Int):=
 (fN a3).bind λv1=>
 if (!v1) then
  some ((⟨⟨⟨⟨[],0⟩,0⟩,[],[],[],⟨[],0⟩⟩,[]⟩:r8),13)
 else
 (lA a0 a1 a2).bind λv2=>
 if ((v2.Roots.length:Int)==0) then
  some ((⟨⟨⟨⟨[],0⟩,0⟩,[],[],[],⟨[],0⟩⟩,[]⟩:r8),1)
 else
 some ((⟨v2,a3⟩:r8),0)
def aO(a0:Int)(a1:Int)(a2:Int)(a3:List (List g8)):Option (a8 × Int):=
 (R6 a0 a1 a2 a3).bind λv1=>
 if (v1.2 != 0) then
  some ((⟨[],[],[],0,0,0,[],[],[],[],[]⟩:a8),v1.2)
 else
 (mk 8 a0 (0:Int)).bind λv2=>
 (mk 8 6 (0:Int)).bind λv3=>
 (Ak 6).bind λv4=>
 some ((⟨[],v2,v2,a1,a2,0,v3,v4,[],[],a3⟩:a8),0)
def U3(a0:List Int):Option (g8 × Int):=
 if ((a0.length:Int) != 4) then
  some ((⟨0,0,0,0⟩:g8),14)
 else
 (ix a0 0).bind λv1=>
 (ix a0 1).bind λv2=>
 (ix a0 2).bind λv3=>
 (ix a0 3).bind λv4=>
 (V8 (⟨v1,v2,v3,v4⟩:g8)).bind λv5=>
 if (v5 != 0) then
  some ((⟨0,0,0,0⟩:g8),v5)
 else
 some ((⟨v1,v2,v3,v4⟩:g8),0)
def ir(a0:b8):Option Bool:=
 some a0.Stuck
def C4(a0:List b8):Option (List b8):=
 jn (λ(j15:List b8)=>
  some j15) (λκ14=>
  (lp (S:=Int × (List b8)) (E:=(List b8)) (λ((s17,s18):Int × (List b8))=>
   if (decide (s17<(a0.length:Int))) then
    jn (λ(j25:List b8)=>
     some (.inl (w7 (s17+1),j25))) (λκ24=>
     (ix a0 s17).bind λv26=>
     (ir v26).bind λv27=>
     if v27 then
      (app 56 s18 [v26]).bind λv28=>
      κ24 v28
     else
     κ24 s18)
   else
   some (.inr s18)) (0,[])).bind λe16=>
  κ14 e16)
def iv(a0:b8):Option Int:=
 some a0.Serial
def B5(a0:List b8):Option (List Int):=
 jn (λ(j10:List Int)=>
  some j10) (λκ9=>
  (lp (S:=Int × (List Int)) (E:=(List Int)) (λ((s12,s13):Int × (List Int))=>
   if (decide (s12<(a0.length:Int))) then
    (ix a0 s12).bind λv16=>
    (iv v16).bind λv17=>
    (app 8 s13 [v17]).bind λv18=>
    some (.inl (w7 (s12+1),v18))
   else
   some (.inr s13)) (0,[])).bind λe11=>
  κ9 e11)
def I5(a0:List b8):Option (List Int):=
 (B5 a0).bind λv1=>
 some v1
def aR(a0:Int):Option c9:=
 some (⟨[],a0⟩:c9)
def W1(a0:a8):Option j5:=
 (yX).bind λv1=>
 some (⟨a0.Tasks,v1.Cap⟩:j5)
def qd(a0:j5)(a1:Int):Option (j5 × Int):=
 some (a0,a1)
def gh(a0:j5):Option (List Int):=
 jn (λ(j10:List Int)=>
  some j10) (λκ9=>
  (qd a0 1).bind λv11=>
  (lp (S:=Int × (List Int)) (E:=(List Int)) (λ((s13,s14):Int × (List Int))=>
   if (decide (s13<(v11.1.L.length:Int))) then
    (ix v11.1.L s13).bind λv17=>
    if ((v17.Kind==v11.2)==true) then
     (app 8 s14 [v17.At]).bind λv18=>
     some (.inl (w7 (s13+1),v18))
    else
    some (.inl (w7 (s13+1),s14))
   else
   some (.inr s14)) (0,[])).bind λe12=>
  κ9 e12)
def F5(a0:List (List Int)):Option (List Int):=
 jn (λ(j11:Int)=>
  jn (λ(_:Unit)=>
   if (decide ((w7 (j11-(w7 (0-0)))) > 0)) then
    (mk 8 (w7 (j11-(w7 (0-0)))) (0:Int)).bind λv14=>
    jn (λ(j23:List Int)=>
     some j23) (λκ22=>
     (lp (S:=Int × (List Int)) (E:=(List Int)) (λ((s25,s26):Int × (List Int))=>
      if (decide (s25<(a0.length:Int))) then
       (ix a0 s25).bind λv29=>
       (app 8 s26 v29).bind λv30=>
       some (.inl (w7 (s25+1),v30))
      else
      some (.inr s26)) (0,[])).bind λe24=>
     κ22 e24)
   else
   jn (λ(j39:List Int)=>
    some j39) (λκ38=>
    (lp (S:=Int × (List Int)) (E:=(List Int)) (λ((s41,s42):Int × (List Int))=>
     if (decide (s41<(a0.length:Int))) then
      (ix a0 s41).bind λv45=>
      (app 8 s42 v45).bind λv46=>
      some (.inl (w7 (s41+1),v46))
     else
     some (.inr s42)) (0,[])).bind λe40=>
    κ38 e40)) (λκ12=>
   if (decide (j11<0)) then
    none
   else
   κ12 ())) (λκ10=>
  (lp (S:=Int × Int) (E:=Int) (λ((s48,s49):Int × Int)=>
   if (decide (s49<(a0.length:Int))) then
    jn (λ(j54:Int)=>
     some (.inl (j54,w7 (s49+1)))) (λκ53=>
     (ix a0 s49).bind λv55=>
     if (decide ((w7 (s48+(v55.length:Int)))<0)) then
      none
     else
     κ53 (w7 (s48+(v55.length:Int))))
   else
   some (.inr s48)) (0,0)).bind λe47=>
  κ10 e47)
def H4(a0:c9):Option Int:=
 some (a0.L.length:Int)
def T0(a0:List Int)(a1:Int)(a2:Int):Option (List Int):=
 (cut a0 a1 a2).bind λv1=>
 some v1
def D2(a0:c9)(a1:Int):Option (c9 × Int):=
 (H4 a0).bind λv1=>
 if (decide (v1>=a0.Cap)) then
  some (a0,4)
 else
 (T0 a0.L 0 v1).bind λv2=>
 (app 8 v2 [a1]).bind λv3=>
 some ((⟨v3,a0.Cap⟩:c9),0)
def iz(a0:c9)(a1:Int):Option (c9 × (List Int)):=
 (H4 a0).bind λv1=>
 (T0 a0.L 0 (if (if v1<a1 then v1 else a1) > 0 then (if v1<a1 then v1 else a1) else 0)).bind λv2=>
 (T0 a0.L (if (if v1<a1 then v1 else a1) > 0 then (if v1<a1 then v1 else a1) else 0) v1).bind λv3=>
 some ((⟨v3,a0.Cap⟩:c9),v2)
def W2(a0:c9):Option (c9 × Int × Int):=
 (iz a0 1).bind λv1=>
 if ((v1.2.length:Int)==0) then
  some (a0,0,10)
 else
 (ix v1.2 0).bind λv2=>
 some (v1.1,v2,0)
def fa(a0:b8)(a1:Int):Option Bool:=
 some (a0.Serial==a1)
def y7(a0:List b8)(a1:Int):Option Int:=
 jn (λ(_:Unit)=>
  some (-1)) (λκ6=>
  (lp (S:=Int) (E:=Int ⊕ Unit) (λ(s9:Int)=>
   if (decide (s9<(a0.length:Int))) then
    (ix a0 s9).bind λv11=>
    (fa v11 a1).bind λv12=>
    if v12 then
     some (.inr (.inl s9))
    else
    some (.inl (w7 (s9+1)))
   else
   some (.inr (.inr ()))) 0).bind λe8=>
  match e8 with
  | .inl w=>some w
  | .inr w=>κ6 w)
def I9(a0:a8)(a1:Int):Option Int:=
 (y7 a0.Nodes a1).bind λv1=>
 some v1
def ck(a0:g7)(a1:Int):Option Bool:=
 some (a0.Key==a1)
def C0(a0:List g7)(a1:Int):Option (List g7):=
 jn (λ(j15:List g7)=>
  some j15) (λκ14=>
  (lp (S:=Int × (List g7)) (E:=(List g7)) (λ((s17,s18):Int × (List g7))=>
   if (decide (s17<(a0.length:Int))) then
    jn (λ(j25:List g7)=>
     some (.inl (w7 (s17+1),j25))) (λκ24=>
     (ix a0 s17).bind λv26=>
     (ck v26 a1).bind λv27=>
     if v27 then
      (app 16 s18 [v26]).bind λv28=>
      κ24 v28
     else
     κ24 s18)
   else
   some (.inr s18)) (0,[])).bind λe16=>
  κ14 e16)
def fT(a0:g7):Option Int:=
 some a0.Val
def D8(a0:List g7):Option (List Int):=
 jn (λ(j10:List Int)=>
  some j10) (λκ9=>
  (lp (S:=Int × (List Int)) (E:=(List Int)) (λ((s12,s13):Int × (List Int))=>
   if (decide (s12<(a0.length:Int))) then
    (ix a0 s12).bind λv16=>
    (fT v16).bind λv17=>
    (app 8 s13 [v17]).bind λv18=>
    some (.inl (w7 (s12+1),v18))
   else
   some (.inr s13)) (0,[])).bind λe11=>
  κ9 e11)
def O5(a0:a8)(a1:Int):Option (List Int):=
 (C0 a0.Pairs a1).bind λv1=>
 (D8 v1).bind λv2=>
 some v2
def gB(a0:a8):Option (List (Int × Bool)):=
 (C4 a0.Nodes).bind λv1=>
 (I5 v1).bind λv2=>
 (aR (a0.Nodes.length:Int)).bind λv3=>
 (W1 a0).bind λv4=>
 (gh v4).bind λv5=>
 (F5 [a0.Roots,v5,v2]).bind λv6=>
 jn (λ((j22,j23):c9 × (List (Int × Bool)))=>
  jn (λ(j100:List (Int × Bool))=>
   some j100) (λκ99=>
   (lp (S:=c9 × (List (Int × Bool))) (E:=(List (Int × Bool))) (λ((s102,s103):c9 × (List (Int × Bool)))=>
    (H4 s102).bind λv106=>
    if (decide (v106 > 0)) then
     (W2 s102).bind λv107=>
     (I9 a0 v107.2.1).bind λv108=>
     (ix a0.Nodes v108).bind λv109=>
     jn (λ((j125,j126):c9 × (List (Int × Bool)))=>
      (O5 a0 v107.2.1).bind λv128=>
      jn (λ((j144,j145):c9 × (List (Int × Bool)))=>
       some (.inl (j144,j145))) (λκ143=>
       (lp (S:=Int × c9 × (List (Int × Bool))) (E:=(c9 × (List (Int × Bool)))) (λ((s148,s149,s150):Int × c9 × (List (Int × Bool)))=>
        if (decide (s148<(v128.length:Int))) then
         jn (λ((j156,j157):c9 × (List (Int × Bool)))=>
          some (.inl (w7 (s148+1),j156,j157))) (λκ155=>
          (ix v128 s148).bind λv159=>
          if (!((y9 s150 v159).getD (false:Bool))) then
           (D2 s149 v159).bind λv160=>
           κ155 (v160.1,(o7 s150 v159 true))
          else
          κ155 (s149,s150))
        else
        some (.inr (s149,s150))) (0,j125,j126)).bind λe147=>
       κ143 e147)) (λκ124=>
      (lp (S:=Int × c9 × (List (Int × Bool))) (E:=(c9 × (List (Int × Bool)))) (λ((s162,s163,s164):Int × c9 × (List (Int × Bool)))=>
       if (decide (s162<(v109.Fields.length:Int))) then
        jn (λ((j170,j171):c9 × (List (Int × Bool)))=>
         some (.inl (w7 (s162+1),j170,j171))) (λκ169=>
         (ix v109.Fields s162).bind λv173=>
         if (!((y9 s164 v173).getD (false:Bool))) then
          (D2 s163 v173).bind λv174=>
          κ169 (v174.1,(o7 s164 v173 true))
         else
         κ169 (s163,s164))
       else
       some (.inr (s163,s164))) (0,v107.1,s103)).bind λe161=>
      κ124 e161)
    else
    some (.inr s103)) (j22,j23)).bind λe101=>
   κ99 e101)) (λκ21=>
  (lp (S:=Int × c9 × (List (Int × Bool))) (E:=(c9 × (List (Int × Bool)))) (λ((s176,s177,s178):Int × c9 × (List (Int × Bool)))=>
   if (decide (s176<(v6.length:Int))) then
    jn (λ((j184,j185):c9 × (List (Int × Bool)))=>
     some (.inl (w7 (s176+1),j184,j185))) (λκ183=>
     (ix v6 s176).bind λv187=>
     if (!((y9 s178 v187).getD (false:Bool))) then
      (D2 s177 v187).bind λv188=>
      κ183 (v188.1,(o7 s178 v187 true))
     else
     κ183 (s177,s178))
   else
   some (.inr (s177,s178))) (0,v3,(o7 [] 0 true))).bind λe175=>
  κ21 e175)
def bq(a0:b8)(a1:List (Int × Bool)):Option Bool:=
 some (a0.Alive&&(!((y9 a1 a0.Serial).getD (false:Bool))))
def B8(a0:List b8)(a1:List (Int × Bool)):Option (List b8):=
 jn (λ(j15:List b8)=>
  some j15) (λκ14=>
  (lp (S:=Int × (List b8)) (E:=(List b8)) (λ((s17,s18):Int × (List b8))=>
   if (decide (s17<(a0.length:Int))) then
    jn (λ(j25:List b8)=>
     some (.inl (w7 (s17+1),j25))) (λκ24=>
     (ix a0 s17).bind λv26=>
     (bq v26 a1).bind λv27=>
     if v27 then
      (app 56 s18 [v26]).bind λv28=>
      κ24 v28
     else
     κ24 s18)
   else
   some (.inr s18)) (0,[])).bind λe16=>
  κ14 e16)
def cZ(a0:b8):Option Bool:=
 some ((decide (a0.Prog>=0))&&(!a0.Started))
def D0(a0:List b8):Option (List b8):=
 jn (λ(j15:List b8)=>
  some j15) (λκ14=>
  (lp (S:=Int × (List b8)) (E:=(List b8)) (λ((s17,s18):Int × (List b8))=>
   if (decide (s17<(a0.length:Int))) then
    jn (λ(j25:List b8)=>
     some (.inl (w7 (s17+1),j25))) (λκ24=>
     (ix a0 s17).bind λv26=>
     (cZ v26).bind λv27=>
     if v27 then
      (app 56 s18 [v26]).bind λv28=>
      κ24 v28
     else
     κ24 s18)
   else
   some (.inr s18)) (0,[])).bind λe16=>
  κ14 e16)
def kE(a0:a8):Option a8:=
 some a0
def iq(a0:g7):Option Int:=
 some a0.Val
def B4(a0:List g7):Option (List Int):=
 jn (λ(j10:List Int)=>
  some j10) (λκ9=>
  (lp (S:=Int × (List Int)) (E:=(List Int)) (λ((s12,s13):Int × (List Int))=>
   if (decide (s12<(a0.length:Int))) then
    (ix a0 s12).bind λv16=>
    (iq v16).bind λv17=>
    (app 8 s13 [v17]).bind λv18=>
    some (.inl (w7 (s12+1),v18))
   else
   some (.inr s13)) (0,[])).bind λe11=>
  κ9 e11)
def kW(a0:b8):Option Bool:=
 some a0.Alive
def A8(a0:List b8):Option (List b8):=
 jn (λ(j15:List b8)=>
  some j15) (λκ14=>
  (lp (S:=Int × (List b8)) (E:=(List b8)) (λ((s17,s18):Int × (List b8))=>
   if (decide (s17<(a0.length:Int))) then
    jn (λ(j25:List b8)=>
     some (.inl (w7 (s17+1),j25))) (λκ24=>
     (ix a0 s17).bind λv26=>
     (kW v26).bind λv27=>
     if v27 then
      (app 56 s18 [v26]).bind λv28=>
      κ24 v28
     else
     κ24 s18)
   else
   some (.inr s18)) (0,[])).bind λe16=>
  κ14 e16)
def bF(a0:a8)(a1:Int):Option Int:=
 jn (λ(j33:Int)=>
  some j33) (λκ32=>
  (kE a0).bind λv34=>
  (B4 v34.Pairs).bind λv35=>
  (W1 v34).bind λv36=>
  (gh v36).bind λv37=>
  jn (λ(j47:List (List Int))=>
   (F5 j47).bind λv48=>
   (lp (S:=Int × Int) (E:=Int) (λ((s50,s51):Int × Int)=>
    if (decide (s50<(v48.length:Int))) then
     (ix v48 s50).bind λv54=>
     jn (λ(j56:Int)=>
      some (.inl (w7 (s50+1),j56))) (λκ55=>
      if ((a1 != 0)&&(v54==a1)) then
       κ55 (w7 (s51+1))
      else
      κ55 s51)
    else
    some (.inr s51)) (0,0)).bind λe49=>
   κ32 e49) (λκ46=>
   (A8 v34.Nodes).bind λv57=>
   (lp (S:=Int × (List (List Int))) (E:=(List (List Int))) (λ((s59,s60):Int × (List (List Int)))=>
    if (decide (s59<(v57.length:Int))) then
     (ix v57 s59).bind λv63=>
     (app 24 s60 [v63.Fields]).bind λv64=>
     some (.inl (w7 (s59+1),v64))
    else
    some (.inr s60)) (0,[v34.Roots,v35,v37])).bind λe58=>
   κ46 e58))
def p8(a0:List b8):Option (List b8):=
 app 56 [] a0
def mY(a0:b8):Option b8:=
 some (⟨a0.Serial,a0.Slot,a0.Prog,a0.Started,a0.Alive,true,a0.Fields⟩:b8)
def Q5(a0:a8)(a1:Int):Option a8:=
 (I9 a0 a1).bind λv1=>
 (p8 a0.Nodes).bind λv2=>
 (ix v2 v1).bind λv3=>
 (mY v3).bind λv4=>
 some (⟨(v2.set (v1).toNat v4),a0.Slots,a0.Gens,a0.Last,a0.Places,a0.Serial,a0.Roots,a0.b7,a0.Pairs,a0.Tasks,a0.Progs⟩:a8)
def dF(a0:a8)(a1:Int):Option a8:=
 (bF a0 a1).bind λv1=>
 if (decide (v1<11)) then
  some a0
 else
 (Q5 a0 a1).bind λv2=>
 some v2
def iw(a0:b8):Option b8:=
 some (⟨a0.Serial,a0.Slot,a0.Prog,true,a0.Alive,a0.Stuck,a0.Fields⟩:b8)
def M6(a0:a8)(a1:Int):Option a8:=
 (I9 a0 a1).bind λv1=>
 (p8 a0.Nodes).bind λv2=>
 (ix v2 v1).bind λv3=>
 (iw v3).bind λv4=>
 some (⟨(v2.set (v1).toNat v4),a0.Slots,a0.Gens,a0.Last,a0.Places,a0.Serial,a0.Roots,a0.b7,a0.Pairs,a0.Tasks,a0.Progs⟩:a8)
def G2(a0:List e6):Option (List e6):=
 app 24 [] a0
def aQ(a0:a8)(a1:Int):Option a8:=
 (dF a0 a1).bind λv1=>
 (I9 v1 a1).bind λv2=>
 (ix v1.Nodes v2).bind λv3=>
 (M6 v1 a1).bind λv4=>
 (G2 v4.Tasks).bind λv5=>
 (app 24 v5 [(⟨1,a1,v3.Prog⟩:e6)]).bind λv6=>
 some (⟨v4.Nodes,v4.Slots,v4.Gens,v4.Last,v4.Places,v4.Serial,v4.Roots,v4.b7,v4.Pairs,v6,v4.Progs⟩:a8)
def H0(a0:List Int)(a1:Int):Option Int:=
 jn (λ(_:Unit)=>
  some (-1)) (λκ5=>
  (lp (S:=Int) (E:=Int ⊕ Unit) (λ(s8:Int)=>
   if (decide (s8<(a0.length:Int))) then
    (ix a0 s8).bind λv10=>
    if (a1==v10) then
     some (.inr (.inl s8))
    else
    some (.inl (w7 (s8+1)))
   else
   some (.inr (.inr ()))) 0).bind λe7=>
  match e7 with
  | .inl w=>some w
  | .inr w=>κ5 w)
def E2(a0:List Int)(a1:Int):Option Bool:=
 (H0 a0 a1).bind λv1=>
 some (decide (v1>=0))
def cv(a0:k7)(a1:List Int):Option Bool:=
 (E1 ((a0.Intact&&(a0.Target != 0))==true) false (E2 a1 a0.Target)).bind λv1=>
 some ((a0.Intact&&(a0.Target != 0))&&v1)
def M2(a0:List k7)(a1:List Int):Option (List Int):=
 jn (λ(j15:List Int)=>
  some j15) (λκ14=>
  (lp (S:=Int × (List Int)) (E:=(List Int)) (λ((s17,s18):Int × (List Int))=>
   if (decide (s17<(a0.length:Int))) then
    jn (λ(j25:List Int)=>
     some (.inl (w7 (s17+1),j25))) (λκ24=>
     (ix a0 s17).bind λv26=>
     (cv v26 a1).bind λv27=>
     if v27 then
      (app 8 s18 [s17]).bind λv28=>
      κ24 v28
     else
     κ24 s18)
   else
   some (.inr s18)) (0,[])).bind λe16=>
  κ14 e16)
def bR(a0:List k7):Option (List k7):=
 (mk 24 (a0.length:Int) (⟨0,false,0⟩:k7)).bind λv1=>
 (wZ v1 a0).bind λv2=>
 some v2
def gk(a0:List k7)(a1:List Int):Option ((List k7) × (List Int)):=
 (M2 a0 a1).bind λv1=>
 (bR a0).bind λv2=>
 jn (λ((j22,j23):(List Int) × (List k7))=>
  some (j23,j22)) (λκ21=>
  (lp (S:=Int × (List k7) × (List Int)) (E:=((List Int) × (List k7))) (λ((s26,s27,s28):Int × (List k7) × (List Int))=>
   if (decide (s26<(v1.length:Int))) then
    jn (λ((j36,j37):(List Int) × (List k7))=>
     some (.inl (w7 (s26+1),j37,j36))) (λκ35=>
     (ix v1 s26).bind λv39=>
     (ix s27 v39).bind λv40=>
     (ix (s27.set (v39).toNat (⟨v40.Target,false,v40.Call⟩:k7)) v39).bind λv41=>
     if (decide (v41.Call>=0)) then
      (app 8 s28 [v39]).bind λv42=>
      κ35 (v42,(s27.set (v39).toNat (⟨v40.Target,false,v40.Call⟩:k7)))
     else
     κ35 (s28,(s27.set (v39).toNat (⟨v40.Target,false,v40.Call⟩:k7))))
   else
   some (.inr (s28,s27))) (0,v2,[])).bind λe25=>
  κ21 e25)
def eW(a0:Int)(a1:List k7):Option e6:=
 (ix a1 a0).bind λv1=>
 some (⟨2,a0,v1.Call⟩:e6)
def B7(a0:List Int)(a1:List k7):Option (List e6):=
 jn (λ(j10:List e6)=>
  some j10) (λκ9=>
  (lp (S:=Int × (List e6)) (E:=(List e6)) (λ((s12,s13):Int × (List e6))=>
   if (decide (s12<(a0.length:Int))) then
    (ix a0 s12).bind λv16=>
    (eW v16 a1).bind λv17=>
    (app 24 s13 [v17]).bind λv18=>
    some (.inl (w7 (s12+1),v18))
   else
   some (.inr s13)) (0,[])).bind λe11=>
  κ9 e11)
def F2(a0:List (List e6)):Option (List e6):=
 jn (λ(j11:Int)=>
  jn (λ(_:Unit)=>
   if (decide ((w7 (j11-(w7 (0-0)))) > 0)) then
    (mk 24 (w7 (j11-(w7 (0-0)))) (⟨0,0,0⟩:e6)).bind λv14=>
    jn (λ(j23:List e6)=>
     some j23) (λκ22=>
     (lp (S:=Int × (List e6)) (E:=(List e6)) (λ((s25,s26):Int × (List e6))=>
      if (decide (s25<(a0.length:Int))) then
       (ix a0 s25).bind λv29=>
       (app 24 s26 v29).bind λv30=>
       some (.inl (w7 (s25+1),v30))
      else
      some (.inr s26)) (0,[])).bind λe24=>
     κ22 e24)
   else
   jn (λ(j39:List e6)=>
    some j39) (λκ38=>
    (lp (S:=Int × (List e6)) (E:=(List e6)) (λ((s41,s42):Int × (List e6))=>
     if (decide (s41<(a0.length:Int))) then
      (ix a0 s41).bind λv45=>
      (app 24 s42 v45).bind λv46=>
      some (.inl (w7 (s41+1),v46))
     else
     some (.inr s42)) (0,[])).bind λe40=>
    κ38 e40)) (λκ12=>
   if (decide (j11<0)) then
    none
   else
   κ12 ())) (λκ10=>
  (lp (S:=Int × Int) (E:=Int) (λ((s48,s49):Int × Int)=>
   if (decide (s49<(a0.length:Int))) then
    jn (λ(j54:Int)=>
     some (.inl (j54,w7 (s49+1)))) (λκ53=>
     (ix a0 s49).bind λv55=>
     if (decide ((w7 (s48+(v55.length:Int)))<0)) then
      none
     else
     κ53 (w7 (s48+(v55.length:Int))))
   else
   some (.inr s48)) (0,0)).bind λe47=>
  κ10 e47)
def eX(a0:g7)(a1:List Int):Option Bool:=
 (E2 a1 a0.Key).bind λv1=>
 some (!v1)
def C7(a0:List g7)(a1:List Int):Option (List g7):=
 jn (λ(j15:List g7)=>
  some j15) (λκ14=>
  (lp (S:=Int × (List g7)) (E:=(List g7)) (λ((s17,s18):Int × (List g7))=>
   if (decide (s17<(a0.length:Int))) then
    jn (λ(j25:List g7)=>
     some (.inl (w7 (s17+1),j25))) (λκ24=>
     (ix a0 s17).bind λv26=>
     (eX v26 a1).bind λv27=>
     if v27 then
      (app 16 s18 [v26]).bind λv28=>
      κ24 v28
     else
     κ24 s18)
   else
   some (.inr s18)) (0,[])).bind λe16=>
  κ14 e16)
def jE(a0:b8):Option b8:=
 some (⟨a0.Serial,a0.Slot,a0.Prog,a0.Started,false,a0.Stuck,[]⟩:b8)
def C6(a0:a8)(a1:Int):Option a8:=
 (I9 a0 a1).bind λv1=>
 (p8 a0.Nodes).bind λv2=>
 (ix v2 v1).bind λv3=>
 (jE v3).bind λv4=>
 some (⟨(v2.set (v1).toNat v4),a0.Slots,a0.Gens,a0.Last,a0.Places,a0.Serial,a0.Roots,a0.b7,a0.Pairs,a0.Tasks,a0.Progs⟩:a8)
def gF(a0:k7)(a1:Int):Option Bool:=
 some ((a1 != 0)&&(a0.Target==a1))
def T2(a0:List k7)(a1:Int):Option (List Int):=
 jn (λ(j15:List Int)=>
  some j15) (λκ14=>
  (lp (S:=Int × (List Int)) (E:=(List Int)) (λ((s17,s18):Int × (List Int))=>
   if (decide (s17<(a0.length:Int))) then
    jn (λ(j25:List Int)=>
     some (.inl (w7 (s17+1),j25))) (λκ24=>
     (ix a0 s17).bind λv26=>
     (gF v26 a1).bind λv27=>
     if v27 then
      (app 8 s18 [s17]).bind λv28=>
      κ24 v28
     else
     κ24 s18)
   else
   some (.inr s18)) (0,[])).bind λe16=>
  κ14 e16)
def dZ(a0:List k7)(a1:Int):Option Int:=
 (T2 a0 a1).bind λv1=>
 some (v1.length:Int)
def cd(a0:b8)(a1:Int):Option Bool:=
 some (a0.Serial != a1)
def C2(a0:List b8)(a1:Int):Option (List b8):=
 jn (λ(j15:List b8)=>
  some j15) (λκ14=>
  (lp (S:=Int × (List b8)) (E:=(List b8)) (λ((s17,s18):Int × (List b8))=>
   if (decide (s17<(a0.length:Int))) then
    jn (λ(j25:List b8)=>
     some (.inl (w7 (s17+1),j25))) (λκ24=>
     (ix a0 s17).bind λv26=>
     (cd v26 a1).bind λv27=>
     if v27 then
      (app 56 s18 [v26]).bind λv28=>
      κ24 v28
     else
     κ24 s18)
   else
   some (.inr s18)) (0,[])).bind λe16=>
  κ14 e16)
def y5(a0:List Int):Option (List Int):=
 app 8 [] a0
def O4(a0:a8)(a1:Int):Option a8:=
 (I9 a0 a1).bind λv1=>
 (E1 ((decide (v1<0))==false) (⟨0,0,0,false,false,false,[]⟩:b8) (ix a0.Nodes v1)).bind λv2=>
 (E1 (((decide (v1<0))||v2.Alive)==false) 0 (dZ a0.b7 a1)).bind λv3=>
 if (((decide (v1<0))||v2.Alive)||(decide (v3 > 0))) then
  some a0
 else
 (ix a0.Nodes v1).bind λv4=>
 (C2 a0.Nodes a1).bind λv5=>
 (y5 a0.Slots).bind λv6=>
 (y5 a0.Gens).bind λv7=>
 (ix v7 v4.Slot).bind λv8=>
 if (v8==a0.Last) then
  (ix v6 v4.Slot).bind λv9=>
  some (⟨v5,(v6.set (v4.Slot).toNat (-1)),v7,a0.Last,a0.Places,a0.Serial,a0.Roots,a0.b7,a0.Pairs,a0.Tasks,a0.Progs⟩:a8)
 else
 (ix v6 v4.Slot).bind λv10=>
 some (⟨v5,(v6.set (v4.Slot).toNat 0),(v7.set (v4.Slot).toNat (w7 (v8+1))),a0.Last,a0.Places,a0.Serial,a0.Roots,a0.b7,a0.Pairs,a0.Tasks,a0.Progs⟩:a8)
def eV(a0:a8)(a1:List Int):Option a8:=
 (gk a0.b7 a1).bind λv1=>
 (B7 v1.2 v1.1).bind λv2=>
 (F2 [a0.Tasks,v2]).bind λv3=>
 (C7 a0.Pairs a1).bind λv4=>
 jn (λ(j14:a8)=>
  some j14) (λκ13=>
  (lp (S:=Int × a8) (E:=a8) (λ((s16,s17):Int × a8)=>
   if (decide (s16<(a1.length:Int))) then
    (ix a1 s16).bind λv20=>
    (C6 s17 v20).bind λv21=>
    (O4 v21 v20).bind λv22=>
    some (.inl (w7 (s16+1),v22))
   else
   some (.inr s17)) (0,(⟨a0.Nodes,a0.Slots,a0.Gens,a0.Last,a0.Places,a0.Serial,a0.Roots,v1.1,v4,v3,a0.Progs⟩:a8))).bind λe15=>
  κ13 e15)
def aI(a0:b8)(a1:a8):Option Bool:=
 (E1 ((a0.Alive&&(!a0.Stuck))==true) 0 (bF a1 a0.Serial)).bind λv1=>
 some ((a0.Alive&&(!a0.Stuck))&&(v1==0))
def w8(a0:List b8)(a1:a8):Option Int:=
 jn (λ(_:Unit)=>
  some (-1)) (λκ6=>
  (lp (S:=Int) (E:=Int ⊕ Unit) (λ(s9:Int)=>
   if (decide (s9<(a0.length:Int))) then
    (ix a0 s9).bind λv11=>
    (aI v11 a1).bind λv12=>
    if v12 then
     some (.inr (.inl s9))
    else
    some (.inl (w7 (s9+1)))
   else
   some (.inr (.inr ()))) 0).bind λe8=>
  match e8 with
  | .inl w=>some w
  | .inr w=>κ6 w)
def H3(a0:a8):Option a8:=
 (lp (S:=a8) (E:=a8) (λ(s2:a8)=>
  (w8 s2.Nodes s2).bind λv4=>
  if (decide (v4<0)) then
   some (.inr s2)
  else
  (ix s2.Nodes v4).bind λv5=>
  (cZ v5).bind λv6=>
  if v6 then
   (aQ s2 v5.Serial).bind λv7=>
   some (.inl v7)
  else
  (eV s2 [v5.Serial]).bind λv8=>
  some (.inl v8)) a0).bind λe1=>
 some e1
def dS(a0:a8):Option (List Int):=
 (A8 a0.Nodes).bind λv1=>
 (I5 v1).bind λv2=>
 some v2
def dp(a0:a8):Option (a8 × g9):=
 (gB a0).bind λv1=>
 (B8 a0.Nodes v1).bind λv2=>
 (D0 v2).bind λv3=>
 (I5 v3).bind λv4=>
 jn (λ(j13:a8)=>
  if (decide ((v4.length:Int) > 0)) then
   some (j13,(⟨w7 (0-(v4.length:Int)),0⟩:g9))
  else
  (I5 v2).bind λv14=>
  (eV j13 v14).bind λv15=>
  (H3 v15).bind λv16=>
  (dS j13).bind λv17=>
  (dS v16).bind λv18=>
  some (v16,(⟨w7 ((v17.length:Int)-(v18.length:Int)),0⟩:g9))) (λκ12=>
  (lp (S:=Int × a8) (E:=a8) (λ((s20,s21):Int × a8)=>
   if (decide (s20<(v4.length:Int))) then
    (ix v4 s20).bind λv24=>
    (aQ s21 v24).bind λv25=>
    some (.inl (w7 (s20+1),v25))
   else
   some (.inr s21)) (0,a0)).bind λe19=>
  κ12 e19)
def dx(a0:List (List g8))(a1:Int):Option (List g8):=
 if ((decide (a1<0))||(decide (a1>=(a0.length:Int)))) then
  some []
 else
 (ix a0 a1).bind λv1=>
 some v1
def bC(a0:List (List g8))(a1:e6):Option Int:=
 (dx a0 a1.Prog).bind λv1=>
 some (w7 (1+(v1.length:Int)))
def U8(a0:a8)(a1:Int)(a2:Int):Option a8:=
 (dF a0 a2).bind λv1=>
 (y5 v1.Roots).bind λv2=>
 (ix v2 a1).bind λv3=>
 some (⟨v1.Nodes,v1.Slots,v1.Gens,v1.Last,v1.Places,v1.Serial,(v2.set (a1).toNat a2),v1.b7,v1.Pairs,v1.Tasks,v1.Progs⟩:a8)
def L3(a0:j5):Option Int:=
 some (a0.L.length:Int)
def G8(a0:List e6)(a1:Int)(a2:Int):Option (List e6):=
 (cut a0 a1 a2).bind λv1=>
 some v1
def bf(a0:j5)(a1:Int):Option (j5 × (List e6)):=
 (L3 a0).bind λv1=>
 (G8 a0.L 0 (if (if v1<a1 then v1 else a1) > 0 then (if v1<a1 then v1 else a1) else 0)).bind λv2=>
 (G8 a0.L (if (if v1<a1 then v1 else a1) > 0 then (if v1<a1 then v1 else a1) else 0) v1).bind λv3=>
 some ((⟨v3,a0.Cap⟩:j5),v2)
def cM(a0:j5):Option (j5 × e6 × Int):=
 (bf a0 1).bind λv1=>
 if ((v1.2.length:Int)==0) then
  some (a0,(⟨0,0,0⟩:e6),10)
 else
 (ix v1.2 0).bind λv2=>
 some (v1.1,v2,0)
def aT(a0:j5):Option (j5 × e6 × Int):=
 (cM a0).bind λv1=>
 some (v1.1,v1.2.1,v1.2.2)
def R9(a0:a8)(a1:Int):Option Int:=
 if (decide (a1<0)) then
  some 0
 else
 (ix a0.Roots a1).bind λv1=>
 some v1
def N8(a0:a8)(a1:Int):Option (b8 × Int):=
 (R9 a0 a1).bind λv1=>
 if (v1==0) then
  some ((⟨0,0,0,false,false,false,[]⟩:b8),2)
 else
 (I9 a0 v1).bind λv2=>
 (ix a0.Nodes v2).bind λv3=>
 some (v3,0)
def gE(a0:List Int)(a1:Int):Option Bool:=
 some ((decide (a1>=0))&&(decide (a1<(a0.length:Int))))
def lZ(a0:List Int)(a1:Int)(a2:Int):Option ((List Int) × Int):=
 (gE a0 a1).bind λv1=>
 if (!v1) then
  some (a0,5)
 else
 (mk 8 (a0.length:Int) (0:Int)).bind λv2=>
 (wZ v2 a0).bind λv3=>
 (ix v3 a1).bind λv4=>
 some ((v3.set (a1).toNat a2),0)
def ff(a0:b8)(a1:List Int):Option b8:=
 some (⟨a0.Serial,a0.Slot,a0.Prog,a0.Started,a0.Alive,a0.Stuck,a1⟩:b8)
def O3(a0:a8)(a1:Int)(a2:List Int):Option a8:=
 (I9 a0 a1).bind λv1=>
 (p8 a0.Nodes).bind λv2=>
 (ix v2 v1).bind λv3=>
 (ff v3 a2).bind λv4=>
 some (⟨(v2.set (v1).toNat v4),a0.Slots,a0.Gens,a0.Last,a0.Places,a0.Serial,a0.Roots,a0.b7,a0.Pairs,a0.Tasks,a0.Progs⟩:a8)
def iN(a0:a8)(a1:Int)(a2:g8):Option (a8 × Int):=
 (N8 a0 a2.A).bind λv1=>
 if (v1.2 != 0) then
  some (a0,v1.2)
 else
 (lZ v1.1.Fields a2.B a1).bind λv2=>
 if (v2.2 != 0) then
  some (a0,v2.2)
 else
 (dF a0 a1).bind λv3=>
 (O3 v3 v1.1.Serial v2.1).bind λv4=>
 some (v4,0)
def J5(a0:a8)(a1:Int)(a2:g8):Option (a8 × g9):=
 (iN a0 a1 a2).bind λv1=>
 if (v1.2 != 0) then
  some (a0,(⟨0,v1.2⟩:g9))
 else
 (H3 v1.1).bind λv2=>
 some (v2,(⟨a1,0⟩:g9))
def aA(a0:j5)(a1:Int):Option Bool:=
 jn (λ(_:Unit)=>
  some false) (λκ6=>
  (qd a0 2).bind λv8=>
  (lp (S:=Int) (E:=Bool ⊕ Unit) (λ(s10:Int)=>
   if (decide (s10<(v8.1.L.length:Int))) then
    (ix v8.1.L s10).bind λv12=>
    if ((v12.Kind==v8.2)==true) then
     if (v12.At==a1) then
      some (.inr (.inl true))
     else
     some (.inl (w7 (s10+1)))
    else
    some (.inl (w7 (s10+1)))
   else
   some (.inr (.inr ()))) 0).bind λe9=>
  match e9 with
  | .inl w=>some w
  | .inr w=>κ6 w)
def jT(a0:List k7)(a1:Int):Option Bool:=
 some ((decide (a1>=0))&&(decide (a1<(a0.length:Int))))
def jS(a0:List k7)(a1:Int)(a2:Int)(a3:Int):Option ((List k7) × Int × Int):=
 (jT a0 a1).bind λv1=>
 if (!v1) then
  some (a0,0,7)
 else
 (bR a0).bind λv2=>
 (ix v2 a1).bind λv3=>
 (ix a0 a1).bind λv4=>
 some ((v2.set (a1).toNat (⟨a2,(a2 != 0),a3⟩:k7)),v4.Target,0)
def fg(a0:a8)(a1:Int)(a2:g8):Option (a8 × Int):=
 if ((decide (a2.B>=0))&&(a1==0)) then
  some (a0,2)
 else
 (W1 a0).bind λv1=>
 (aA v1 a2.A).bind λv2=>
 if v2 then
  some (a0,7)
 else
 (jS a0.b7 a2.A a1 a2.C).bind λv3=>
 if (v3.2.2 != 0) then
  some (a0,v3.2.2)
 else
 (O4 (⟨a0.Nodes,a0.Slots,a0.Gens,a0.Last,a0.Places,a0.Serial,a0.Roots,v3.1,a0.Pairs,a0.Tasks,a0.Progs⟩:a8) v3.2.1).bind λv4=>
 some (v4,0)
def I1(a0:a8)(a1:Int)(a2:g8):Option (a8 × g9):=
 (fg a0 a1 a2).bind λv1=>
 if (v1.2 != 0) then
  some (a0,(⟨0,v1.2⟩:g9))
 else
 (H3 v1.1).bind λv2=>
 some (v2,(⟨a1,0⟩:g9))
def fe(a0:g7)(a1:b8):Option Bool:=
 some (a0.Key != a1.Serial)
def C8(a0:List g7)(a1:b8):Option (List g7):=
 jn (λ(j15:List g7)=>
  some j15) (λκ14=>
  (lp (S:=Int × (List g7)) (E:=(List g7)) (λ((s17,s18):Int × (List g7))=>
   if (decide (s17<(a0.length:Int))) then
    jn (λ(j25:List g7)=>
     some (.inl (w7 (s17+1),j25))) (λκ24=>
     (ix a0 s17).bind λv26=>
     (fe v26 a1).bind λv27=>
     if v27 then
      (app 16 s18 [v26]).bind λv28=>
      κ24 v28
     else
     κ24 s18)
   else
   some (.inr s18)) (0,[])).bind λe16=>
  κ14 e16)
def iM(a0:a8)(a1:Int)(a2:g8):Option (a8 × Int):=
 (N8 a0 a2.A).bind λv1=>
 if (v1.2 != 0) then
  some (a0,v1.2)
 else
 (C8 a0.Pairs v1.1).bind λv2=>
 if (a1==0) then
  some ((⟨a0.Nodes,a0.Slots,a0.Gens,a0.Last,a0.Places,a0.Serial,a0.Roots,a0.b7,v2,a0.Tasks,a0.Progs⟩:a8),0)
 else
 if (decide ((v2.length:Int)>=a0.Places)) then
  some (a0,8)
 else
 (dF a0 a1).bind λv3=>
 (app 16 v2 [(⟨v1.1.Serial,a1⟩:g7)]).bind λv4=>
 some ((⟨v3.Nodes,v3.Slots,v3.Gens,v3.Last,v3.Places,v3.Serial,v3.Roots,v3.b7,v4,v3.Tasks,v3.Progs⟩:a8),0)
def J4(a0:a8)(a1:Int)(a2:g8):Option (a8 × g9):=
 (iM a0 a1 a2).bind λv1=>
 if (v1.2 != 0) then
  some (a0,(⟨0,v1.2⟩:g9))
 else
 (H3 v1.1).bind λv2=>
 some (v2,(⟨a1,0⟩:g9))
def qg(a0:Int):Option ((List Int) × Int):=
 if ((decide (a0<0))||(decide (a0 > 4))) then
  some ([],1)
 else
 (mk 8 a0 (0:Int)).bind λv1=>
 some (v1,0)
def au(a0:a8)(a1:Int)(a2:Int):Option (a8 × g9):=
 (U8 a0 a1 a2).bind λv1=>
 (H3 v1).bind λv2=>
 (ix v2.Roots a1).bind λv3=>
 some (v2,(⟨v3,0⟩:g9))
def cY(a0:a8)(a1:g8):Option (a8 × g9):=
 (qg a1.B).bind λv1=>
 if (v1.2 != 0) then
  some (a0,(⟨0,v1.2⟩:g9))
 else
 (H0 a0.Slots 0).bind λv2=>
 if (decide (v2<0)) then
  some (a0,(⟨0,4⟩:g9))
 else
 (y5 a0.Slots).bind λv3=>
 (ix v3 v2).bind λv4=>
 (p8 a0.Nodes).bind λv5=>
 (app 56 v5 [(⟨w7 (a0.Serial+1),v2,a1.C,false,true,false,v1.1⟩:b8)]).bind λv6=>
 (au (⟨v6,(v3.set (v2).toNat (w7 (a0.Serial+1))),a0.Gens,a0.Last,a0.Places,w7 (a0.Serial+1),a0.Roots,a0.b7,a0.Pairs,a0.Tasks,a0.Progs⟩:a8) a1.A (w7 (a0.Serial+1))).bind λv7=>
 some (v7.1,v7.2)
def iB(a0:List Int)(a1:Int):Option (Int × Int):=
 (gE a0 a1).bind λv1=>
 if (!v1) then
  some (0,5)
 else
 (ix a0 a1).bind λv2=>
 some (v2,0)
def cy(a0:List k7)(a1:Int):Option (Int × Int):=
 (jT a0 a1).bind λv1=>
 if (!v1) then
  some (0,7)
 else
 (ix a0 a1).bind λv2=>
 if ((v2.Target==0)||(!v2.Intact)) then
  some (0,9)
 else
 some (v2.Target,0)
def bG(a0:a8)(a1:g8):Option (Int × Int):=
 if (a1.Kind==2) then
  (ix a0.Roots a1.B).bind λv1=>
  some (v1,0)
 else
 if (a1.Kind==4) then
  (N8 a0 a1.B).bind λv2=>
  if (v2.2 != 0) then
   some (0,v2.2)
  else
  (iB v2.1.Fields a1.C).bind λv3=>
  some (v3.1,v3.2)
 else
 if (a1.Kind==7) then
  (cy a0.b7 a1.B).bind λv4=>
  some (v4.1,v4.2)
 else
 if (a1.Kind==9) then
  (N8 a0 a1.B).bind λv5=>
  if (v5.2 != 0) then
   some (0,v5.2)
  else
  (O5 a0 v5.1.Serial).bind λv6=>
  if (decide ((v6.length:Int) > 0)) then
   (ix v6 0).bind λv7=>
   some (v7,0)
  else
  some (0,9)
 else
 some (0,0)
def bH(a0:a8)(a1:g8):Option (a8 × g9):=
 if (a1.Kind==10) then
  (ix a0.Roots a1.A).bind λv1=>
  (ix a0.Roots a1.B).bind λv2=>
  if (v1==v2) then
   some (a0,(⟨1,0⟩:g9))
  else
  some (a0,(⟨0,0⟩:g9))
 else
 if (a1.Kind==5) then
  (R9 a0 a1.C).bind λv3=>
  (J5 a0 v3 a1).bind λv4=>
  some (v4.1,v4.2)
 else
 if (a1.Kind==6) then
  (R9 a0 a1.B).bind λv5=>
  (I1 a0 v5 a1).bind λv6=>
  some (v6.1,v6.2)
 else
 if (a1.Kind==8) then
  (R9 a0 a1.B).bind λv7=>
  (J4 a0 v7 a1).bind λv8=>
  some (v8.1,v8.2)
 else
 if (a1.Kind==1) then
  (cY a0 a1).bind λv9=>
  some (v9.1,v9.2)
 else
 (bG a0 a1).bind λv10=>
 if (v10.2 != 0) then
  some (a0,(⟨0,v10.2⟩:g9))
 else
 (au a0 a1.A v10.1).bind λv11=>
 some (v11.1,v11.2)
def ja(a0:a8)(a1:List g8):Option a8:=
 jn (λ(j9:a8)=>
  some j9) (λκ8=>
  (lp (S:=Int × a8) (E:=a8) (λ((s11,s12):Int × a8)=>
   if (decide (s11<(a1.length:Int))) then
    (ix a1 s11).bind λv15=>
    (bH s12 v15).bind λv16=>
    some (.inl (w7 (s11+1),v16.1))
   else
   some (.inr s12)) (0,a0)).bind λe10=>
  κ8 e10)
def db(a0:a8)(a1:e6):Option a8:=
 jn (λ(j3:a8)=>
  (W1 j3).bind λv4=>
  (aT v4).bind λv5=>
  jn (λ(j8:a8)=>
   (dx j8.Progs a1.Prog).bind λv9=>
   (ja j8 v9).bind λv10=>
   if (a1.Kind==1) then
    (U8 v10 5 0).bind λv11=>
    (H3 v11).bind λv12=>
    some v12
   else
   some v10) (λκ7=>
   if (a1.Kind==1) then
    (H3 (⟨j3.Nodes,j3.Slots,j3.Gens,j3.Last,j3.Places,j3.Serial,j3.Roots,j3.b7,j3.Pairs,v5.1.L,j3.Progs⟩:a8)).bind λv13=>
    κ7 v13
   else
   κ7 (⟨j3.Nodes,j3.Slots,j3.Gens,j3.Last,j3.Places,j3.Serial,j3.Roots,j3.b7,j3.Pairs,v5.1.L,j3.Progs⟩:a8))) (λκ2=>
  if (a1.Kind==1) then
   (U8 a0 5 a1.At).bind λv14=>
   κ2 v14
  else
  κ2 a0)
def gA(a0:a8)(a1:Int):Option (a8 × g9):=
 jn (λ((j11,j12):Int × a8)=>
  some (j12,(⟨j11,0⟩:g9))) (λκ10=>
  (lp (S:=Int × Int × a8) (E:=(a8 × g9) ⊕ (Int × a8)) (λ((s15,s16,s17):Int × Int × a8)=>
   if (decide ((s17.Tasks.length:Int) > 0)) then
    (ix s17.Tasks 0).bind λv20=>
    (bC s17.Progs v20).bind λv21=>
    if (decide (v21 > s15)) then
     some (.inr (.inl (s17,(⟨s16,12⟩:g9))))
    else
    (db s17 v20).bind λv22=>
    some (.inl (w7 (s15-v21),w7 (s16+1),v22))
   else
   some (.inr (.inr (s16,s17)))) (a1,0,a0)).bind λe14=>
  match e14 with
  | .inl w=>some w
  | .inr w=>κ10 w)
def oW(a0:a8)(a1:List Int):Option (a8 × g9):=
 (U3 a1).bind λv1=>
 if (v1.2 != 0) then
  some (a0,(⟨0,v1.2⟩:g9))
 else
 if (v1.1.Kind==11) then
  (dp a0).bind λv2=>
  some (v2.1,v2.2)
 else
 if (v1.1.Kind==12) then
  (gA a0 v1.1.A).bind λv3=>
  some (v3.1,v3.2)
 else
 (bH a0 v1.1).bind λv4=>
 some (v4.1,v4.2)
def aP(a0:a8)(a1:List (List Int)):Option (a8 × (List g9)):=
 jn (λ((j11,j12):a8 × (List g9))=>
  some (j11,j12)) (λκ10=>
  (lp (S:=Int × a8 × (List g9)) (E:=(a8 × (List g9))) (λ((s15,s16,s17):Int × a8 × (List g9))=>
   if (decide (s15<(a1.length:Int))) then
    (ix a1 s15).bind λv20=>
    (oW s16 v20).bind λv21=>
    (app 16 s17 [v21.2]).bind λv22=>
    some (.inl (w7 (s15+1),v21.1,v22))
   else
   some (.inr (s16,s17))) (0,a0,[])).bind λe14=>
  κ10 e14)
def mJ(a0:g8):Option OV:=
 if (a0.Kind==11) then
  some (⟨166,[]⟩:OV)
 else
 if (a0.Kind==12) then
  some (⟨170,[a0.A]⟩:OV)
 else
 some (⟨162,[a0.Kind,a0.A,a0.B,a0.C]⟩:OV)
def gx:Option (List (Int × Fv)):=
 some (o7 (o7 (o7 (o7 (o7 (o7 (o7 (o7 (o7 (o7 [] 1 (some 203)) 2 (some 204)) 3 (some 205)) 4 (some 206)) 5 (some 207)) 6 (some 208)) 7 (some 209)) 8 (some 210)) 9 (some 211)) 10 (some 212))
def V4(a0:Int):Option Bool:=
 some ((decide (a0>=(-1)))&&(decide (a0<6)))
def Q2(a0:l4):Option l4:=
 some a0
def y6(a0:List c8):Option (List c8):=
 app 80 [] a0
def E0(a0:l4)(a1:Int)(a2:c8):Option l4:=
 (y6 a0.b7).bind λv1=>
 (ix v1 a1).bind λv2=>
 some (⟨(v1.set (a1).toNat a2),a0.Last⟩:l4)
def dP(a0:Int)(a1:Int):Option Int:=
 if ((((decide (a0<0))||(decide (a0>=24)))||(decide (a1<0)))||(decide (a1 > 9))) then
  some 0
 else
 some (w7 ((w7 (1+(w7 (a0*1))))+(w7 (a1*32))))
def L4(a0:l4)(a1:n7):Option (l4 × Int × Int):=
 jn (λ(_:Unit)=>
  some (a0,0,4)) (λκ9=>
  (Q2 a0).bind λv11=>
  (lp (S:=Int) (E:=(l4 × Int × Int) ⊕ Unit) (λ(s13:Int)=>
   if (decide (s13<(v11.b7.length:Int))) then
    (ix v11.b7 s13).bind λv15=>
    if ((v15.State==0)==true) then
     (ix a0.b7 s13).bind λv16=>
     (E0 a0 s13 (⟨1,v16.Gen,a1⟩:c8)).bind λv17=>
     (dP s13 v16.Gen).bind λv18=>
     some (.inr (.inl (v17,v18,0)))
    else
    some (.inl (w7 (s13+1)))
   else
   some (.inr (.inr ()))) 0).bind λe12=>
  match e12 with
  | .inl w=>some w
  | .inr w=>κ9 w)
def W7(a0:b6)(a1:Int)(a2:Int):Option (b6 × Int × Int):=
 (qg a1).bind λv1=>
 if (v1.2 != 0) then
  some (a0,0,v1.2)
 else
 (V4 a2).bind λv2=>
 if (!v2) then
  some (a0,0,13)
 else
 (L4 a0.S (⟨w7 (a0.Serial+1),0,0,a2,false,v1.1⟩:n7)).bind λv3=>
 if (v3.2.2 != 0) then
  some (a0,0,v3.2.2)
 else
 some ((⟨v3.1,w7 (a0.Serial+1)⟩:b6),v3.2.1,0)
def eI(a0:Int):Option (Int × Int × Bool):=
 if (decide (a0<1)) then
  some ((-1),(-1),false)
 else
 (rem (w7 (a0-1)) 32).bind λv1=>
 (quo .i64 v1 1).bind λv2=>
 (quo .i64 (w7 (a0-1)) 32).bind λv3=>
 if ((decide (v2>=24))||(decide (v3 > 9))) then
  some ((-1),(-1),false)
 else
 some (v2,v3,true)
def gM(a0:Int):Option Int:=
 (eI a0).bind λv1=>
 some v1.1
def jt(a0:Int):Option Int:=
 (eI a0).bind λv1=>
 some v1.2.1
def z7(a0:l4)(a1:Int):Option (Int × Int):=
 if (a1==0) then
  some ((-1),2)
 else
 (gM a1).bind λv1=>
 if ((decide (v1<0))||(decide (v1>=(a0.b7.length:Int)))) then
  some ((-1),3)
 else
 (ix a0.b7 v1).bind λv2=>
 (jt a1).bind λv3=>
 if ((v2.Gen != v3)||((v2.State != 1)&&(v2.State != 2))) then
  some ((-1),3)
 else
 some (v1,0)
def G9(a0:l4)(a1:Int):Option (n7 × Int):=
 (z7 a0 a1).bind λv1=>
 if (v1.2 != 0) then
  some ((⟨0,0,0,0,false,[]⟩:n7),v1.2)
 else
 (ix a0.b7 v1.1).bind λv2=>
 if (v2.State==2) then
  some ((⟨0,0,0,0,false,[]⟩:n7),3)
 else
 some (v2.Val,0)
def x6(a0:b6)(a1:Int):Option (n7 × Int):=
 (G9 a0.S a1).bind λv1=>
 some (v1.1,v1.2)
def kr(a0:b9)(a1:Int):Option Bool:=
 (x6 a0.S a1).bind λv1=>
 some (v1.2==0)
def N5(a0:b9)(a1:Int):Option Bool:=
 (E1 ((a1==0)==false) false (kr a0 a1)).bind λv1=>
 some ((a1==0)||v1)
def I0(a0:Int):Option Bool:=
 some (decide (a0>=12))
def jr(a0:Int):Option (Int × Int):=
 (I0 a0).bind λv1=>
 if v1 then
  some (12,0)
 else
 some (w7 ((if 0 > a0 then 0 else a0)+1),0)
def pK(a0:Int):Option Int:=
 (jr a0).bind λv1=>
 some v1.1
def az(a0:l4)(a1:Int)(a2:n7):Option (l4 × Int):=
 (z7 a0 a1).bind λv1=>
 if (v1.2 != 0) then
  some (a0,v1.2)
 else
 (ix a0.b7 v1.1).bind λv2=>
 (E0 a0 v1.1 (⟨v2.State,v2.Gen,a2⟩:c8)).bind λv3=>
 some (v3,0)
def R5(a0:b6)(a1:Int)(a2:n7):Option (b6 × Int):=
 (az a0.S a1 a2).bind λv1=>
 some ((⟨v1.1,a0.Serial⟩:b6),v1.2)
def Y3(a0:b9)(a1:Int):Option b9:=
 (x6 a0.S a1).bind λv1=>
 if (v1.2==0) then
  (pK v1.1.Strong).bind λv2=>
  (R5 a0.S a1 (⟨v1.1.Serial,v2,v1.1.Weak,v1.1.Prog,v1.1.Started,v1.1.Fields⟩:n7)).bind λv3=>
  some (⟨v3.1,a0.Roots,a0.b7,a0.T,a0.Q⟩:b9)
 else
 some a0
def bE(a0:b9)(a1:Int):Option b9:=
 (Y3 a0 a1).bind λv1=>
 some v1
def R7(a0:K7)(a1:b9):Option b9:=
 (y5 a1.Roots).bind λv1=>
 (ix v1 a0.r).bind λv2=>
 some (⟨a1.S,(v1.set (a0.r).toNat a0.h),a1.b7,a1.T,a1.Q⟩:b9)
def fP(a0:Int):Option (Int × Int):=
 (I0 a0).bind λv1=>
 if v1 then
  some (12,0)
 else
 if (decide (a0<1)) then
  some (0,11)
 else
 some (w7 (a0-1),0)
def uI(a0:Int):Option (Int × Int):=
 (fP a0).bind λv1=>
 some (v1.1,v1.2)
def eK(a0:Int):Option Int:=
 (uI a0).bind λv1=>
 if (v1.2 != 0) then
  some a0
 else
 some v1.1
def P7(a0:b9)(a1:Int):Option b9:=
 (x6 a0.S a1).bind λv1=>
 if (v1.2==0) then
  (eK v1.1.Strong).bind λv2=>
  (R5 a0.S a1 (⟨v1.1.Serial,v2,v1.1.Weak,v1.1.Prog,v1.1.Started,v1.1.Fields⟩:n7)).bind λv3=>
  some (⟨v3.1,a0.Roots,a0.b7,a0.T,a0.Q⟩:b9)
 else
 some a0
def D9(a0:b9)(a1:Int):Option b9:=
 (P7 a0 a1).bind λv1=>
 some v1
def G4(a0:b9)(a1:Int)(a2:Int)(a3:K7):Option b9:=
 (bE a0 a2).bind λv1=>
 (R7 a3 v1).bind λv2=>
 (D9 v2 a1).bind λv3=>
 some v3
def bX(a0:b9)(a1:Int)(a2:Int):Option (b9 × Int):=
 if ((decide (a1<0))||(decide (a1>=(a0.Roots.length:Int)))) then
  some (a0,6)
 else
 (N5 a0 a2).bind λv1=>
 if (!v1) then
  some (a0,3)
 else
 (ix a0.Roots a1).bind λv2=>
 (G4 a0 v2 a2 (⟨a1,a2⟩:K7)).bind λv3=>
 some (v3,0)
def B9(a0:r7)(a1:Int)(a2:Int):Option (b9 × Int):=
 if (a2 != 0) then
  some (a0.x,a2)
 else
 (bX a0.x a0.o.A a1).bind λv1=>
 some (v1.1,v1.2)
def X6(a0:r7):Option (b9 × Int):=
 (W7 a0.x.S a0.o.B a0.o.C).bind λv1=>
 if (v1.2.2 != 0) then
  some (a0.x,v1.2.2)
 else
 (B9 (⟨⟨v1.1,a0.x.Roots,a0.x.b7,a0.x.T,a0.x.Q⟩,a0.o⟩:r7) v1.2.1 0).bind λv2=>
 some (v2.1,v2.2)
def N7(a0:b9)(a1:Int):Option Int:=
 if ((decide (a1<0))||(decide (a1>=(a0.Roots.length:Int)))) then
  some 0
 else
 (ix a0.Roots a1).bind λv1=>
 some v1
def K8(a0:r7):Option (b9 × Int):=
 (N7 a0.x a0.o.B).bind λv1=>
 (B9 a0 v1 0).bind λv2=>
 some (v2.1,v2.2)
def bm(a0:r7):Option (b9 × Int):=
 (B9 a0 0 0).bind λv1=>
 some (v1.1,v1.2)
def O2(a0:b9)(a1:Int):Option (Int × Int):=
 (N7 a0 a1).bind λv1=>
 if (v1==0) then
  some (0,2)
 else
 some (v1,0)
def J2(a0:b6)(a1:Int)(a2:Int):Option (Int × Int):=
 (x6 a0 a1).bind λv1=>
 if (v1.2 != 0) then
  some (0,v1.2)
 else
 (iB v1.1.Fields a2).bind λv2=>
 some (v2.1,v2.2)
def bo(a0:r7):Option (b9 × Int):=
 (O2 a0.x a0.o.B).bind λv1=>
 if (v1.2 != 0) then
  some (a0.x,v1.2)
 else
 (J2 a0.x.S v1.1 a0.o.C).bind λv2=>
 (B9 a0 v2.1 v2.2).bind λv3=>
 some (v3.1,v3.2)
def qc(a0:b6)(a1:Int)(a2:Int)(a3:Int):Option (b6 × Int):=
 (x6 a0 a1).bind λv1=>
 if (v1.2 != 0) then
  some (a0,v1.2)
 else
 (lZ v1.1.Fields a2 a3).bind λv2=>
 if (v2.2 != 0) then
  some (a0,v2.2)
 else
 (R5 a0 a1 (⟨v1.1.Serial,v1.1.Strong,v1.1.Weak,v1.1.Prog,v1.1.Started,v2.1⟩:n7)).bind λv3=>
 some (v3.1,v3.2)
def cK(a0:H2)(a1:b9):Option b9:=
 (qc a1.S a0.h a0.k a0.v).bind λv1=>
 some (⟨v1.1,a1.Roots,a1.b7,a1.T,a1.Q⟩:b9)
def F9(a0:b9)(a1:Int)(a2:Int)(a3:H2):Option b9:=
 (bE a0 a2).bind λv1=>
 (cK a3 v1).bind λv2=>
 (D9 v2 a1).bind λv3=>
 some v3
def al(a0:b9)(a1:Int)(a2:Int)(a3:Int):Option (b9 × Int):=
 (J2 a0.S a1 a2).bind λv1=>
 if (v1.2 != 0) then
  some (a0,v1.2)
 else
 (N5 a0 a3).bind λv2=>
 if (!v2) then
  some (a0,3)
 else
 (F9 a0 v1.1 a3 (⟨a1,a2,a3⟩:H2)).bind λv3=>
 some (v3,0)
def aq(a0:r7):Option (b9 × Int):=
 (O2 a0.x a0.o.A).bind λv1=>
 if (v1.2 != 0) then
  some (a0.x,v1.2)
 else
 (N7 a0.x a0.o.C).bind λv2=>
 (al a0.x v1.1 a0.o.B v2).bind λv3=>
 some (v3.1,v3.2)
def aa(a0:b9)(a1:Int)(a2:Int):Option b9:=
 (z7 a0.S.S a1).bind λv1=>
 if (v1.2==0) then
  (ix a0.S.S.b7 v1.1).bind λv2=>
  (R5 a0.S a1 (⟨v2.Val.Serial,v2.Val.Strong,w7 (v2.Val.Weak+a2),v2.Val.Prog,v2.Val.Started,v2.Val.Fields⟩:n7)).bind λv3=>
  some (⟨v3.1,a0.Roots,a0.b7,a0.T,a0.Q⟩:b9)
 else
 some a0
def Q1(a0:l4)(a1:Int):Option (l4 × Int):=
 (z7 a0 a1).bind λv1=>
 if (v1.2 != 0) then
  some (a0,v1.2)
 else
 (ix a0.b7 v1.1).bind λv2=>
 if (v2.Gen==a0.Last) then
  (E0 a0 v1.1 (⟨3,v2.Gen,⟨0,0,0,0,false,[]⟩⟩:c8)).bind λv3=>
  some (v3,0)
 else
 (E0 a0 v1.1 (⟨0,w7 (v2.Gen+1),⟨0,0,0,0,false,[]⟩⟩:c8)).bind λv4=>
 some (v4,0)
def aN(a0:b9)(a1:Int):Option b9:=
 (aa a0 a1 (-1)).bind λv1=>
 (z7 v1.S.S a1).bind λv2=>
 if (v2.2 != 0) then
  some v1
 else
 (ix v1.S.S.b7 v2.1).bind λv3=>
 if ((v3.State==2)&&(v3.Val.Weak==0)) then
  (Q1 v1.S.S a1).bind λv4=>
  some (⟨⟨v4.1,v1.S.Serial⟩,v1.Roots,v1.b7,v1.T,v1.Q⟩:b9)
 else
 some v1
def R3(a0:b9)(a1:Int)(a2:Int)(a3:Int):Option (b9 × Int):=
 (E1 (((decide (a1<0))||(decide (a1>=(a0.b7.length:Int))))==false) false (aA a0.Q a1)).bind λv1=>
 if (((decide (a1<0))||(decide (a1>=(a0.b7.length:Int))))||v1) then
  some (a0,7)
 else
 (N5 a0 a2).bind λv2=>
 if (!v2) then
  some (a0,3)
 else
 (jS a0.b7 a1 a2 a3).bind λv3=>
 (aa (⟨a0.S,a0.Roots,v3.1,a0.T,a0.Q⟩:b9) a2 1).bind λv4=>
 (aN v4 v3.2.1).bind λv5=>
 some (v5,0)
def L2(a0:r7):Option (b9 × Int):=
 if (a0.o.B==(-1)) then
  (R3 a0.x a0.o.A 0 a0.o.C).bind λv1=>
  some (v1.1,v1.2)
 else
 (O2 a0.x a0.o.B).bind λv2=>
 if (v2.2 != 0) then
  some (a0.x,v2.2)
 else
 (R3 a0.x a0.o.A v2.1 a0.o.C).bind λv3=>
 some (v3.1,v3.2)
def aG(a0:r7):Option (b9 × Int):=
 (cy a0.x.b7 a0.o.B).bind λv1=>
 (B9 a0 v1.1 v1.2).bind λv2=>
 some (v2.1,v2.2)
def iZ(a0:Int)(a1:Int):Option (Int × Int):=
 some (a0,a1)
def dQ(a0:Int)(a1:Int):Option Int:=
 if (decide (a0<1)) then
  some 0
 else
 (rem (w7 ((w7 (5*a1))+1)) a0).bind λv1=>
 if (decide (v1<0)) then
  some (w7 (v1+a0))
 else
 some v1
def aM(a0:List g5)(a1:Int):Option Int:=
 jn (λ(_:Unit)=>
  some (-1)) (λκ8=>
  (iZ (a0.length:Int) a1).bind λv10=>
  (lp (S:=Int) (E:=Int ⊕ Unit) (λ(s12:Int)=>
   if (decide (s12<v10.1)) then
    (dQ v10.1 v10.2).bind λv14=>
    (rem (w7 (v14+s12)) v10.1).bind λv15=>
    (ix a0 v15).bind λv16=>
    if (v16.State==0) then
     some (.inr (.inr ()))
    else
    if ((v16.State==1)&&(v16.Key==a1)) then
     some (.inr (.inl v15))
    else
    some (.inl (w7 (s12+1)))
   else
   some (.inr (.inr ()))) 0).bind λe11=>
  match e11 with
  | .inl w=>some w
  | .inr w=>κ8 w)
def Y2(a0:List g5)(a1:Int):Option (Int × Int):=
 (aM a0 a1).bind λv1=>
 if (decide (v1<0)) then
  some (0,9)
 else
 (ix a0 v1).bind λv2=>
 some (v2.Val,0)
def E7(a0:List g5):Option (List g5):=
 app 24 [] a0
def dR(a0:List g5)(a1:Int)(a2:g5):Option (List g5):=
 (E7 a0).bind λv1=>
 (ix v1 a1).bind λv2=>
 some (v1.set (a1).toNat a2)
def aL(a0:List g5)(a1:Int):Option ((List g5) × Int × Int):=
 (aM a0 a1).bind λv1=>
 if (decide (v1<0)) then
  some (a0,0,9)
 else
 (dR a0 v1 (⟨2,0,0⟩:g5)).bind λv2=>
 (ix a0 v1).bind λv3=>
 some (v2,v3.Val,0)
def oN(a0:List g5)(a1:Int)(a2:Int):Option ((List g5) × Int):=
 (aM a0 a1).bind λv1=>
 if (decide (v1>=0)) then
  (dR a0 v1 (⟨1,a1,a2⟩:g5)).bind λv2=>
  some (v2,0)
 else
 jn (λ(_:Unit)=>
  some (a0,8)) (λκ11=>
  (iZ (a0.length:Int) a1).bind λv13=>
  (lp (S:=Int) (E:=((List g5) × Int) ⊕ Unit) (λ(s15:Int)=>
   if (decide (s15<v13.1)) then
    (dQ v13.1 v13.2).bind λv17=>
    (rem (w7 (v17+s15)) v13.1).bind λv18=>
    (ix a0 v18).bind λv19=>
    if (v19.State != 1) then
     (dR a0 v18 (⟨1,a1,a2⟩:g5)).bind λv20=>
     some (.inr (.inl (v20,0)))
    else
    some (.inl (w7 (s15+1)))
   else
   some (.inr (.inr ()))) 0).bind λe14=>
  match e14 with
  | .inl w=>some w
  | .inr w=>κ11 w)
def U1(a0:List g5)(a1:Int)(a2:Int):Option ((List g5) × Int × Int):=
 if (a1==0) then
  some (a0,0,2)
 else
 (Y2 a0 a1).bind λv1=>
 if (a2==0) then
  (aL a0 a1).bind λv2=>
  some (v2.1,v1.1,0)
 else
 (oN a0 a1 a2).bind λv3=>
 if (v3.2 != 0) then
  some (a0,0,v3.2)
 else
 some (v3.1,v1.1,0)
def ao(a0:K6)(a1:b9):Option b9:=
 some (⟨a1.S,a1.Roots,a1.b7,a0.t,a1.Q⟩:b9)
def D6(a0:b9)(a1:Int)(a2:Int)(a3:K6):Option b9:=
 (bE a0 a2).bind λv1=>
 (ao a3 v1).bind λv2=>
 (D9 v2 a1).bind λv3=>
 some v3
def bW(a0:b9)(a1:Int)(a2:Int):Option (b9 × Int):=
 if (a1==0) then
  some (a0,2)
 else
 (N5 a0 a1).bind λv1=>
 (E1 ((!v1)==false) false (N5 a0 a2)).bind λv2=>
 if ((!v1)||(!v2)) then
  some (a0,3)
 else
 (U1 a0.T a1 a2).bind λv3=>
 if (v3.2.2 != 0) then
  some (a0,v3.2.2)
 else
 (D6 a0 v3.2.1 a2 (⟨v3.1⟩:K6)).bind λv4=>
 some (v4,0)
def bp(a0:r7):Option (b9 × Int):=
 (O2 a0.x a0.o.A).bind λv1=>
 if (v1.2 != 0) then
  some (a0.x,v1.2)
 else
 (N7 a0.x a0.o.B).bind λv2=>
 (bW a0.x v1.1 v2).bind λv3=>
 some (v3.1,v3.2)
def uK(a0:List g5)(a1:Int):Option (Int × Int):=
 (Y2 a0 a1).bind λv1=>
 some (v1.1,v1.2)
def bZ(a0:r7):Option (b9 × Int):=
 (O2 a0.x a0.o.B).bind λv1=>
 if (v1.2 != 0) then
  some (a0.x,v1.2)
 else
 (uK a0.x.T v1.1).bind λv2=>
 (B9 a0 v2.1 v2.2).bind λv3=>
 some (v3.1,v3.2)
def R8(a0:r7):Option (b9 × Int):=
 some (a0.x,0)
def xa(f:Fv)(a0:r7):Option (b9 × Int):=
 if f=some 203 then X6 a0 else
 if f=some 204 then K8 a0 else
 if f=some 205 then bm a0 else
 if f=some 206 then bo a0 else
 if f=some 207 then aq a0 else
 if f=some 208 then L2 a0 else
 if f=some 209 then aG a0 else
 if f=some 210 then bp a0 else
 if f=some 211 then bZ a0 else
 if f=some 212 then R8 a0 else
 none
def cV(a0:Int):Option Bool:=
 some (a0 != a0)
def hZ(a0:Int)(a1:Int):Option Int:=
 (cV a0).bind λv1=>
 (cV a1).bind λv2=>
 if v1 then
  if v2 then
   some 0
  else
  some (-1)
 else
 if v2 then
  some 1
 else
 if (decide (a0<a1)) then
  some (-1)
 else
 if (decide (a0 > a1)) then
  some 1
 else
 some 0
def iU(a0:Int)(a1:Int)(a2:List (Int × Int)):Option Int:=
 (hZ ((y9 a2 a0).getD (0:Int)) ((y9 a2 a1).getD (0:Int))).bind λv1=>
 some v1
def F6(a0:b6):Option (List Int):=
 jn (λ((j18,j19):(List (Int × Int)) × (List Int))=>
  (vy (λp q=>iU p q j18) j19).bind λv21=>
  some v21) (λκ17=>
  (lp (S:=Int × (List (Int × Int)) × (List Int)) (E:=((List (Int × Int)) × (List Int))) (λ((s23,s24,s25):Int × (List (Int × Int)) × (List Int))=>
   if (decide (s23<(a0.S.b7.length:Int))) then
    jn (λ((j32,j33):(List (Int × Int)) × (List Int))=>
     some (.inl (w7 (s23+1),j32,j33))) (λκ31=>
     (ix a0.S.b7 s23).bind λv35=>
     if (v35.State==1) then
      (dP s23 v35.Gen).bind λv36=>
      (app 8 s25 [v36]).bind λv37=>
      κ31 ((o7 s24 v36 v35.Val.Serial),v37)
     else
     κ31 (s24,s25))
   else
   some (.inr (s24,s25))) (0,[],[])).bind λe22=>
  κ17 e22)
def dW(a0:b9):Option (List Int):=
 jn (λ(j16:List Int)=>
  some j16) (λκ15=>
  (F6 a0.S).bind λv17=>
  (lp (S:=Int × (List Int)) (E:=(List Int)) (λ((s19,s20):Int × (List Int))=>
   if (decide (s19<(v17.length:Int))) then
    jn (λ(j27:List Int)=>
     some (.inl (w7 (s19+1),j27))) (λκ26=>
     (ix v17 s19).bind λv28=>
     (x6 a0.S v28).bind λv29=>
     if (v29.1.Strong==0) then
      (app 8 s20 [v28]).bind λv30=>
      κ26 v30
     else
     κ26 s20)
   else
   some (.inr s20)) (0,[])).bind λe18=>
  κ15 e18)
def O7(a0:n7):Option Bool:=
 some ((decide (a0.Prog>=0))&&(!a0.Started))
def V2(a0:j5)(a1:e6):Option (j5 × Int):=
 (L3 a0).bind λv1=>
 if (decide (v1>=a0.Cap)) then
  some (a0,4)
 else
 (G8 a0.L 0 v1).bind λv2=>
 (app 24 v2 [a1]).bind λv3=>
 some ((⟨v3,a0.Cap⟩:j5),0)
def pz(a0:j5)(a1:e6):Option (j5 × Int):=
 (V2 a0 a1).bind λv1=>
 some (v1.1,v1.2)
def W6(a0:b9)(a1:Int):Option b9:=
 (x6 a0.S a1).bind λv1=>
 (E1 ((v1.2 != 0)==false) false (O7 v1.1)).bind λv2=>
 if ((v1.2 != 0)||(!v2)) then
  some a0
 else
 (R5 a0.S a1 (⟨v1.1.Serial,v1.1.Strong,v1.1.Weak,v1.1.Prog,true,v1.1.Fields⟩:n7)).bind λv3=>
 (pz a0.Q (⟨1,a1,v1.1.Prog⟩:e6)).bind λv4=>
 (bE (⟨v3.1,a0.Roots,a0.b7,a0.T,v4.1⟩:b9) a1).bind λv5=>
 some v5
def Z2(a0:b9)(a1:List Int):Option (List Int):=
 jn (λ(j18:List Int)=>
  some j18) (λκ17=>
  (lp (S:=Int × (List (Int × Bool)) × (List Int)) (E:=(List Int)) (λ((s20,s21,s22):Int × (List (Int × Bool)) × (List Int))=>
   if (decide (s20<(a1.length:Int))) then
    jn (λ((j29,j30):(List Int) × (List (Int × Bool)))=>
     some (.inl (w7 (s20+1),j30,j29))) (λκ28=>
     (ix a1 s20).bind λv32=>
     (x6 a0.S v32).bind λv33=>
     if ((v33.2==0)==true) then
      if (!((y9 s21 v32).getD (false:Bool))) then
       (app 8 s22 [v32]).bind λv34=>
       κ28 (v34,(o7 s21 v32 true))
      else
      κ28 (s22,s21)
     else
     κ28 (s22,s21))
   else
   some (.inr s22)) (0,[],[])).bind λe19=>
  κ17 e19)
def fv(a0:b9)(a1:List Int):Option b9:=
 (gk a0.b7 a1).bind λv1=>
 jn (λ(j11:j5)=>
  some (⟨a0.S,a0.Roots,v1.1,a0.T,j11⟩:b9)) (λκ10=>
  (lp (S:=Int × j5) (E:=j5) (λ((s13,s14):Int × j5)=>
   if (decide (s13<(v1.2.length:Int))) then
    (ix v1.2 s13).bind λv17=>
    (ix v1.1 v17).bind λv18=>
    (pz s14 (⟨2,v17,v18.Call⟩:e6)).bind λv19=>
    some (.inl (w7 (s13+1),v19.1))
   else
   some (.inr s14)) (0,a0.Q)).bind λe12=>
  κ10 e12)
def qh(a0:List Int):Option (List Int):=
 some a0
def ji(a0:List Int):Option (List Int):=
 jn (λ(j10:List Int)=>
  some j10) (λκ9=>
  (qh a0).bind λv11=>
  (lp (S:=Int × (List Int)) (E:=(List Int)) (λ((s13,s14):Int × (List Int))=>
   if (decide (s13<(v11.length:Int))) then
    (ix v11 s13).bind λv17=>
    if ((v17 != 0)==true) then
     (app 8 s14 [v17]).bind λv18=>
     some (.inl (w7 (s13+1),v18))
    else
    some (.inl (w7 (s13+1),s14))
   else
   some (.inr s14)) (0,[])).bind λe12=>
  κ9 e12)
def aK(a0:List g5)(a1:List Int):Option ((List g5) × (List Int)):=
 jn (λ((j18,j19):(List g5) × (List Int))=>
  some (j18,j19)) (λκ17=>
  (lp (S:=(List g5) × Int × (List Int)) (E:=((List g5) × (List Int))) (λ((s22,s23,s24):(List g5) × Int × (List Int))=>
   if (decide (s23<(a1.length:Int))) then
    jn (λ((j31,j32):(List g5) × (List Int))=>
     some (.inl (j31,w7 (s23+1),j32))) (λκ30=>
     (ix a1 s23).bind λv34=>
     (aL s22 v34).bind λv35=>
     if (v35.2.2==0) then
      (app 8 s24 [v35.2.1]).bind λv36=>
      κ30 (v35.1,v36)
     else
     κ30 (s22,s24))
   else
   some (.inr (s22,s24))) (a0,0,[])).bind λe21=>
  κ17 e21)
def X7(a0:l4)(a1:Int):Option (l4 × Int):=
 (G9 a0 a1).bind λv1=>
 if (v1.2 != 0) then
  some (a0,v1.2)
 else
 (gM a1).bind λv2=>
 (jt a1).bind λv3=>
 (E0 a0 v2 (⟨2,v3,v1.1⟩:c8)).bind λv4=>
 some (v4,0)
def aS(a0:b9)(a1:Int):Option b9:=
 (x6 a0.S a1).bind λv1=>
 (R5 a0.S a1 (⟨v1.1.Serial,0,v1.1.Weak,v1.1.Prog,v1.1.Started,[]⟩:n7)).bind λv2=>
 (X7 v2.1.S a1).bind λv3=>
 if (v1.1.Weak==0) then
  (Q1 v3.1 a1).bind λv4=>
  some (⟨⟨v4.1,v2.1.Serial⟩,a0.Roots,a0.b7,a0.T,a0.Q⟩:b9)
 else
 some (⟨⟨v3.1,v2.1.Serial⟩,a0.Roots,a0.b7,a0.T,a0.Q⟩:b9)
def bO(a0:b9)(a1:List Int):Option b9:=
 (Z2 a0 a1).bind λv1=>
 (fv a0 v1).bind λv2=>
 jn (λ(j13:List Int)=>
  (aK v2.T v1).bind λv14=>
  (app 8 j13 v14.2).bind λv15=>
  jn (λ(j24:b9)=>
   jn (λ(j33:b9)=>
    some j33) (λκ32=>
    (lp (S:=Int × b9) (E:=b9) (λ((s35,s36):Int × b9)=>
     if (decide (s35<(v15.length:Int))) then
      (ix v15 s35).bind λv39=>
      (D9 s36 v39).bind λv40=>
      some (.inl (w7 (s35+1),v40))
     else
     some (.inr s36)) (0,j24)).bind λe34=>
    κ32 e34)) (λκ23=>
   (lp (S:=Int × b9) (E:=b9) (λ((s42,s43):Int × b9)=>
    if (decide (s42<(v1.length:Int))) then
     (ix v1 s42).bind λv46=>
     (aS s43 v46).bind λv47=>
     some (.inl (w7 (s42+1),v47))
    else
    some (.inr s43)) (0,(⟨v2.S,v2.Roots,v2.b7,v14.1,v2.Q⟩:b9))).bind λe41=>
   κ23 e41)) (λκ12=>
  (lp (S:=Int × (List Int)) (E:=(List Int)) (λ((s49,s50):Int × (List Int))=>
   if (decide (s49<(v1.length:Int))) then
    (ix v1 s49).bind λv53=>
    (x6 v2.S v53).bind λv54=>
    (ji v54.1.Fields).bind λv55=>
    (app 8 s50 v55).bind λv56=>
    some (.inl (w7 (s49+1),v56))
   else
   some (.inr s50)) (0,[])).bind λe48=>
  κ12 e48)
def R1(a0:b9):Option b9:=
 (lp (S:=b9) (E:=b9) (λ(s2:b9)=>
  (dW s2).bind λv4=>
  if ((v4.length:Int)==0) then
   some (.inr s2)
  else
  (ix v4 0).bind λv5=>
  (x6 s2.S v5).bind λv6=>
  (O7 v6.1).bind λv7=>
  if v7 then
   (W6 s2 v5).bind λv8=>
   some (.inl v8)
  else
  (cut v4 0 1).bind λv9=>
  (bO s2 v9).bind λv10=>
  some (.inl v10)) a0).bind λe1=>
 some e1
def eQ(a0:b9)(a1:Int):Option Int:=
 (x6 a0.S a1).bind λv1=>
 some v1.1.Serial
def dD(a0:b9)(a1:Int):Option Int:=
 (N7 a0 a1).bind λv1=>
 (eQ a0 v1).bind λv2=>
 some v2
def Y6(a0:b9)(a1:b9)(a2:g8):Option Int:=
 if (a2.Kind==5) then
  (dD a0 a2.C).bind λv1=>
  some v1
 else
 jn (λ(j3:Bool)=>
  if j3 then
   (dD a0 a2.B).bind λv4=>
   some v4
  else
  if (a2.Kind==10) then
   (N7 a0 a2.A).bind λv5=>
   (N7 a0 a2.B).bind λv6=>
   if (v5==v6) then
    some 1
   else
   some 0
  else
  (dD a1 a2.A).bind λv7=>
  some v7) (λκ2=>
  if (a2.Kind==6) then
   κ2 (a2.Kind==6)
  else
  κ2 (a2.Kind==8))
def u4(a0:b9)(a1:g8):Option (b9 × Int × Int):=
 (V8 a1).bind λv1=>
 if (v1 != 0) then
  some (a0,0,v1)
 else
 (gx).bind λv2=>
 if (!((y9 v2 a1.Kind).isSome)) then
  some (a0,0,14)
 else
 (xa ((y9 v2 a1.Kind).getD (none:Fv)) (⟨a0,a1⟩:r7)).bind λv3=>
 if (v3.2 != 0) then
  some (a0,0,v3.2)
 else
 (R1 v3.1).bind λv5=>
 (Y6 v3.1 v5 a1).bind λv6=>
 some (v5,v6,0)
def nk(a0:b6):Option b6:=
 some a0
def lQ(a0:b6)(a1:Int):Option (List Int):=
 (x6 a0 a1).bind λv1=>
 (ji v1.1.Fields).bind λv2=>
 some v2
def xf(a0:b6)(a1:Int):Option Int:=
 jn (λ(j31:Int)=>
  some j31) (λκ30=>
  (nk a0).bind λv32=>
  (F6 v32).bind λv33=>
  (lp (S:=Int × Int) (E:=Int) (λ((s35,s36):Int × Int)=>
   if (decide (s35<(v33.length:Int))) then
    jn (λ(j50:Int)=>
     some (.inl (w7 (s35+1),j50))) (λκ49=>
     (ix v33 s35).bind λv51=>
     (lQ v32 v51).bind λv52=>
     (lp (S:=Int × Int) (E:=Int) (λ((s54,s55):Int × Int)=>
      if (decide (s54<(v52.length:Int))) then
       (ix v52 s54).bind λv58=>
       jn (λ(j60:Int)=>
        some (.inl (w7 (s54+1),j60))) (λκ59=>
        if (v58==a1) then
         κ59 (w7 (s55+1))
        else
        κ59 s55)
      else
      some (.inr s55)) (0,s36)).bind λe53=>
     κ49 e53)
   else
   some (.inr s36)) (0,0)).bind λe34=>
  κ30 e34)
def dM(a0:List g5):Option (List g5):=
 some a0
def lz(a0:List g5):Option (List Int):=
 jn (λ(j13:List Int)=>
  some j13) (λκ12=>
  (lp (S:=Int × (List Int)) (E:=(List Int)) (λ((s15,s16):Int × (List Int))=>
   if (decide (s15<(a0.length:Int))) then
    jn (λ(j22:List Int)=>
     some (.inl (w7 (s15+1),j22))) (λκ21=>
     (ix a0 s15).bind λv23=>
     if (v23.State==1) then
      (app 8 s16 [v23.Key]).bind λv24=>
      κ21 v24
     else
     κ21 s16)
   else
   some (.inr s16)) (0,[])).bind λe14=>
  κ12 e14)
def gu(a0:g7)(a1:Int):Option Bool:=
 some ((a1 != 0)&&(a0.Val==a1))
def B1(a0:List g5)(a1:Int):Option (List g7):=
 jn (λ(j16:List g7)=>
  some j16) (λκ15=>
  (lz a0).bind λv17=>
  (lp (S:=Int × (List g7)) (E:=(List g7)) (λ((s19,s20):Int × (List g7))=>
   if (decide (s19<(v17.length:Int))) then
    (ix v17 s19).bind λv23=>
    (Y2 a0 v23).bind λv24=>
    jn (λ(j28:List g7)=>
     some (.inl (w7 (s19+1),j28))) (λκ27=>
     (gu (⟨v23,v24.1⟩:g7) a1).bind λv29=>
     if v29 then
      (app 16 s20 [(⟨v23,v24.1⟩:g7)]).bind λv30=>
      κ27 v30
     else
     κ27 s20)
   else
   some (.inr s20)) (0,[])).bind λe18=>
  κ15 e18)
def km(a0:List g5)(a1:Int):Option Int:=
 (dM a0).bind λv1=>
 (B1 v1 a1).bind λv2=>
 some (v2.length:Int)
def kL(a0:b6)(a1:List g5)(a2:Int):Option Int:=
 (xf a0 a2).bind λv1=>
 (km a1 a2).bind λv2=>
 some (w7 (v1+v2))
def nD(a0:b6)(a1:List g5)(a2:Int):Option Int:=
 (x6 a0 a2).bind λv1=>
 if (v1.2 != 0) then
  some 0
 else
 (kL a0 a1 a2).bind λv2=>
 some (w7 (v1.1.Strong-v2))
def oz(a0:Int):Option Bool:=
 (I0 a0).bind λv1=>
 some v1
def nC(a0:Int)(a1:n7)(a2:b6)(a3:List g5):Option Bool:=
 (nD a2 a3 a0).bind λv1=>
 (E1 ((decide (v1 > 0))==false) false (oz a1.Strong)).bind λv2=>
 some ((decide (v1 > 0))||v2)
def nB(a0:b6)(a1:List g5):Option (List Int):=
 jn (λ(j36:List Int)=>
  some j36) (λκ35=>
  jn (λ(j54:List Int)=>
   κ35 j54) (λκ53=>
   (F6 a0).bind λv55=>
   (lp (S:=Int × (List Int)) (E:=(List Int)) (λ((s57,s58):Int × (List Int))=>
    if (decide (s57<(v55.length:Int))) then
     jn (λ(j66:List Int)=>
      some (.inl (w7 (s57+1),j66))) (λκ65=>
      (ix v55 s57).bind λv67=>
      (x6 a0 v67).bind λv68=>
      (nC v67 v68.1 a0 a1).bind λv69=>
      if v69 then
       (app 8 s58 [v67]).bind λv70=>
       κ65 v70
      else
      κ65 s58)
    else
    some (.inr s58)) (0,[])).bind λe56=>
   κ53 e56))
def cq(a0:b6)(a1:Int):Option Bool:=
 (x6 a0 a1).bind λv1=>
 some (v1.2==0)
def fq(a0:b6)(a1:List Int):Option (List (Int × Bool)):=
 (F6 a0).bind λv1=>
 (aR (v1.length:Int)).bind λv2=>
 jn (λ((j20,j21):c9 × (List (Int × Bool)))=>
  jn (λ(j68:List (Int × Bool))=>
   some j68) (λκ67=>
   (lp (S:=c9 × (List (Int × Bool))) (E:=(List (Int × Bool))) (λ((s70,s71):c9 × (List (Int × Bool)))=>
    (H4 s70).bind λv74=>
    if (decide (v74 > 0)) then
     (W2 s70).bind λv75=>
     (lQ a0 v75.2.1).bind λv76=>
     jn (λ((j94,j95):c9 × (List (Int × Bool)))=>
      some (.inl (j94,j95))) (λκ93=>
      (lp (S:=Int × c9 × (List (Int × Bool))) (E:=(c9 × (List (Int × Bool)))) (λ((s98,s99,s100):Int × c9 × (List (Int × Bool)))=>
       if (decide (s98<(v76.length:Int))) then
        jn (λ((j107,j108):c9 × (List (Int × Bool)))=>
         some (.inl (w7 (s98+1),j107,j108))) (λκ106=>
         (ix v76 s98).bind λv110=>
         (cq a0 v110).bind λv111=>
         if (v111==true) then
          if (!((y9 s100 v110).getD (false:Bool))) then
           (D2 s99 v110).bind λv112=>
           κ106 (v112.1,(o7 s100 v110 true))
          else
          κ106 (s99,s100)
         else
         κ106 (s99,s100))
       else
       some (.inr (s99,s100))) (0,v75.1,s71)).bind λe97=>
      κ93 e97)
    else
    some (.inr s71)) (j20,j21)).bind λe69=>
   κ67 e69)) (λκ19=>
  (lp (S:=Int × c9 × (List (Int × Bool))) (E:=(c9 × (List (Int × Bool)))) (λ((s114,s115,s116):Int × c9 × (List (Int × Bool)))=>
   if (decide (s114<(a1.length:Int))) then
    jn (λ((j123,j124):c9 × (List (Int × Bool)))=>
     some (.inl (w7 (s114+1),j123,j124))) (λκ122=>
     (ix a1 s114).bind λv126=>
     (cq a0 v126).bind λv127=>
     if (v127==true) then
      if (!((y9 s116 v126).getD (false:Bool))) then
       (D2 s115 v126).bind λv128=>
       κ122 (v128.1,(o7 s116 v126 true))
      else
      κ122 (s115,s116)
     else
     κ122 (s115,s116))
   else
   some (.inr (s115,s116))) (0,v2,[])).bind λe113=>
  κ19 e113)
def iQ(a0:Int)(a1:List (Int × Bool)):Option Bool:=
 some ((y9 a1 a0).getD (false:Bool))
def W3(a0:b6)(a1:List (Int × Bool)):Option (List Int):=
 jn (λ(j16:List Int)=>
  some j16) (λκ15=>
  (F6 a0).bind λv17=>
  (lp (S:=Int × (List Int)) (E:=(List Int)) (λ((s19,s20):Int × (List Int))=>
   if (decide (s19<(v17.length:Int))) then
    jn (λ(j27:List Int)=>
     some (.inl (w7 (s19+1),j27))) (λκ26=>
     (ix v17 s19).bind λv28=>
     (iQ v28 a1).bind λv29=>
     if v29 then
      (app 8 s20 [v28]).bind λv30=>
      κ26 v30
     else
     κ26 s20)
   else
   some (.inr s20)) (0,[])).bind λe18=>
  κ15 e18)
def jJ(a0:b6)(a1:List Int):Option (List Int):=
 (fq a0 a1).bind λv1=>
 (W3 a0 v1).bind λv2=>
 some v2
def gv(a0:g7):Option Bool:=
 some true
def B2(a0:List g5):Option (List g7):=
 jn (λ(j16:List g7)=>
  some j16) (λκ15=>
  (lz a0).bind λv17=>
  (lp (S:=Int × (List g7)) (E:=(List g7)) (λ((s19,s20):Int × (List g7))=>
   if (decide (s19<(v17.length:Int))) then
    (ix v17 s19).bind λv23=>
    (Y2 a0 v23).bind λv24=>
    jn (λ(j28:List g7)=>
     some (.inl (w7 (s19+1),j28))) (λκ27=>
     (gv (⟨v23,v24.1⟩:g7)).bind λv29=>
     if v29 then
      (app 16 s20 [(⟨v23,v24.1⟩:g7)]).bind λv30=>
      κ27 v30
     else
     κ27 s20)
   else
   some (.inr s20)) (0,[])).bind λe18=>
  κ15 e18)
def ko(a0:List g5):Option (List g7):=
 (dM a0).bind λv1=>
 (B2 v1).bind λv2=>
 some v2
def js(a0:Int)(a1:b6):Option Bool:=
 (x6 a1 a0).bind λv1=>
 some (v1.2==0)
def sL(a0:b6)(a1:List g5)(a2:List Int):Option (List Int):=
 jn (λ(j20:List Int)=>
  some j20) (λκ19=>
  (ko a1).bind λv21=>
  (lp (S:=Int × (List Int)) (E:=(List Int)) (λ((s23,s24):Int × (List Int))=>
   if (decide (s23<(v21.length:Int))) then
    jn (λ(j33:List Int)=>
     some (.inl (w7 (s23+1),j33))) (λκ32=>
     (ix v21 s23).bind λv34=>
     (E2 a2 v34.Key).bind λv35=>
     (E1 (v35==true) false (js v34.Key a0)).bind λv36=>
     (E1 ((v35&&v36)==true) false (js v34.Val a0)).bind λv37=>
     if ((v35&&v36)&&v37) then
      (app 8 s24 [v34.Val]).bind λv38=>
      κ32 v38
     else
     κ32 s24)
   else
   some (.inr s24)) (0,[])).bind λe22=>
  κ19 e22)
def pN(a0:b6)(a1:List g5)(a2:List Int):Option ((List Int) × Int):=
 (jJ a0 a2).bind λv1=>
 (lp (S:=(List Int) × Int) (E:=((List Int) × Int)) (λ((s3,s4):(List Int) × Int)=>
  (sL a0 a1 s3).bind λv7=>
  jn (λ(_:Unit)=>
   some (.inr (s3,s4))) (λκ15=>
   (lp (S:=Int) (E:=((List Int) × Int) ⊕ Unit) (λ(s18:Int)=>
    if (decide (s18<(v7.length:Int))) then
     (ix v7 s18).bind λv20=>
     (E2 s3 v20).bind λv21=>
     if (!v21) then
      (app 8 v7 s3).bind λv22=>
      (jJ a0 v22).bind λv23=>
      some (.inr (.inl (v23,w7 (s4+1))))
     else
     some (.inl (w7 (s18+1)))
    else
    some (.inr (.inr ()))) 0).bind λe17=>
   match e17 with
   | .inl w=>some (.inl w)
   | .inr w=>κ15 w)) (v1,0)).bind λe2=>
 some e2
def sK(a0:b6)(a1:List g5)(a2:List Int):Option (List Int):=
 (pN a0 a1 a2).bind λv1=>
 some v1.1
def iR(a0:Int)(a1:List (Int × Bool)):Option Bool:=
 some (!((y9 a1 a0).getD (false:Bool)))
def W4(a0:b6)(a1:List (Int × Bool)):Option (List Int):=
 jn (λ(j16:List Int)=>
  some j16) (λκ15=>
  (F6 a0).bind λv17=>
  (lp (S:=Int × (List Int)) (E:=(List Int)) (λ((s19,s20):Int × (List Int))=>
   if (decide (s19<(v17.length:Int))) then
    jn (λ(j27:List Int)=>
     some (.inl (w7 (s19+1),j27))) (λκ26=>
     (ix v17 s19).bind λv28=>
     (iR v28 a1).bind λv29=>
     if v29 then
      (app 8 s20 [v28]).bind λv30=>
      κ26 v30
     else
     κ26 s20)
   else
   some (.inr s20)) (0,[])).bind λe18=>
  κ15 e18)
def nj(a0:b6)(a1:List Int):Option (List Int):=
 (fq a0 a1).bind λv1=>
 (W4 a0 v1).bind λv2=>
 some v2
def oG(a0:b6)(a1:List g5)(a2:List Int):Option (List Int):=
 (sK a0 a1 a2).bind λv1=>
 (nj a0 v1).bind λv2=>
 some v2
def df(a0:b6)(a1:List g5):Option (List Int):=
 (nB a0 a1).bind λv1=>
 (oG a0 a1 v1).bind λv2=>
 some v2
def U0(a0:b9):Option (List Int):=
 (df a0.S a0.T).bind λv1=>
 some v1
def ia(a0:Int)(a1:b9):Option Bool:=
 (x6 a1.S a0).bind λv1=>
 some ((decide (v1.1.Prog>=0))&&(!v1.1.Started))
def J6(a0:List Int)(a1:b9):Option (List Int):=
 jn (λ(j15:List Int)=>
  some j15) (λκ14=>
  (lp (S:=Int × (List Int)) (E:=(List Int)) (λ((s17,s18):Int × (List Int))=>
   if (decide (s17<(a0.length:Int))) then
    jn (λ(j25:List Int)=>
     some (.inl (w7 (s17+1),j25))) (λκ24=>
     (ix a0 s17).bind λv26=>
     (ia v26 a1).bind λv27=>
     if v27 then
      (app 8 s18 [v26]).bind λv28=>
      κ24 v28
     else
     κ24 s18)
   else
   some (.inr s18)) (0,[])).bind λe16=>
  κ14 e16)
def gr(a0:b9):Option (List Int):=
 (U0 a0).bind λv1=>
 (J6 v1 a0).bind λv2=>
 some v2
def aD(a0:b9):Option (b9 × Int × Int):=
 (gr a0).bind λv1=>
 jn (λ(j10:b9)=>
  if (decide ((v1.length:Int) > 0)) then
   some (j10,(v1.length:Int),0)
  else
  (U0 j10).bind λv11=>
  (bO j10 v11).bind λv12=>
  (R1 v12).bind λv13=>
  (F6 j10.S).bind λv14=>
  (F6 v13.S).bind λv15=>
  some (v13,0,w7 ((v14.length:Int)-(v15.length:Int)))) (λκ9=>
  (lp (S:=Int × b9) (E:=b9) (λ((s17,s18):Int × b9)=>
   if (decide (s17<(v1.length:Int))) then
    (ix v1 s17).bind λv21=>
    (W6 s18 v21).bind λv22=>
    some (.inl (w7 (s17+1),v22))
   else
   some (.inr s18)) (0,a0)).bind λe16=>
  κ9 e16)
def gK(a0:b9):Option Bool:=
 (aT a0.Q).bind λv1=>
 some (v1.2.2 != 0)
def gP(a0:b9)(a1:List g8):Option (b9 × (List Int)):=
 jn (λ((j11,j12):b9 × (List Int))=>
  some (j11,j12)) (λκ10=>
  (lp (S:=Int × b9 × (List Int)) (E:=(b9 × (List Int))) (λ((s15,s16,s17):Int × b9 × (List Int))=>
   if (decide (s15<(a1.length:Int))) then
    (ix a1 s15).bind λv20=>
    (u4 s16 v20).bind λv21=>
    (app 8 s17 [v21.2.1]).bind λv22=>
    some (.inl (w7 (s15+1),v21.1,v22))
   else
   some (.inr (s16,s17))) (0,a0,[])).bind λe14=>
  κ10 e14)
def mG(a0:b9)(a1:List (List g8)):Option (b9 × e6 × Int):=
 (aT a0.Q).bind λv1=>
 if (v1.2.2 != 0) then
  some (a0,(⟨0,0,0⟩:e6),v1.2.2)
 else
 jn (λ(j6:b9)=>
  (dx a1 v1.2.1.Prog).bind λv7=>
  (gP j6 v7).bind λv8=>
  if (v1.2.1.Kind==1) then
   (bX v8.1 5 0).bind λv9=>
   (R1 v9.1).bind λv10=>
   some (v10,v1.2.1,0)
  else
  some (v8.1,v1.2.1,0)) (λκ5=>
  if (v1.2.1.Kind==1) then
   (bX (⟨a0.S,a0.Roots,a0.b7,a0.T,v1.1⟩:b9) 5 v1.2.1.At).bind λv11=>
   (D9 v11.1 v1.2.1.At).bind λv12=>
   (R1 v12).bind λv13=>
   κ5 v13
  else
  κ5 (⟨a0.S,a0.Roots,a0.b7,a0.T,v1.1⟩:b9))
def gJ(a0:b9)(a1:List (List g8))(a2:Int):Option (b9 × Int × Int × Int):=
 jn (λ((j14,j15,j16):Int × Int × b9)=>
  (gK j16).bind λv18=>
  if (!v18) then
   some (j16,j14,j15,12)
  else
  some (j16,j14,j15,0)) (λκ13=>
  (lp (S:=Int × b9 × Int × Int × b9) (E:=(Int × Int × b9)) (λ((s20,s21,s22,s23,s24):Int × b9 × Int × Int × b9)=>
   (gK s21).bind λv27=>
   if (!v27) then
    (aT s21.Q).bind λv28=>
    (bC a1 v28.2.1).bind λv29=>
    if (decide (v29 > s20)) then
     some (.inr (s22,s23,s24))
    else
    (mG s21 a1).bind λv30=>
    some (.inl (w7 (s20-v29),v30.1,w7 (s22+1),w7 (s20-v29),v30.1))
   else
   some (.inr (s22,s23,s24))) (a2,a0,0,a2,a0)).bind λe19=>
  κ13 e19)
def pL(a0:r8)(a1:List Int):Option (r8 × g9):=
 (U3 a1).bind λv1=>
 if (v1.2 != 0) then
  some (a0,(⟨0,v1.2⟩:g9))
 else
 (mJ v1.1).bind λv2=>
 if (decide (v2.t=162)) then
  (u4 a0.X (⟨(FP v2 162 0),(FP v2 162 1),(FP v2 162 2),(FP v2 162 3)⟩:g8)).bind λv3=>
  some ((⟨v3.1,a0.Progs⟩:r8),(⟨v3.2.1,v3.2.2⟩:g9))
 else
 if (decide (v2.t=166)) then
  (aD a0.X).bind λv4=>
  some ((⟨v4.1,a0.Progs⟩:r8),(⟨w7 (v4.2.2-v4.2.1),0⟩:g9))
 else
 if (decide (v2.t=170)) then
  (gJ a0.X a0.Progs (FP v2 170 0)).bind λv5=>
  some ((⟨v5.1,a0.Progs⟩:r8),(⟨v5.2.1,v5.2.2.2⟩:g9))
 else
 some (a0,(⟨0,0⟩:g9))
def mH(a0:r8)(a1:List (List Int)):Option (r8 × (List g9)):=
 jn (λ((j11,j12):r8 × (List g9))=>
  some (j11,j12)) (λκ10=>
  (lp (S:=Int × r8 × (List g9)) (E:=(r8 × (List g9))) (λ((s15,s16,s17):Int × r8 × (List g9))=>
   if (decide (s15<(a1.length:Int))) then
    (ix a1 s15).bind λv20=>
    (pL s16 v20).bind λv21=>
    (app 16 s17 [v21.2]).bind λv22=>
    some (.inl (w7 (s15+1),v21.1,v22))
   else
   some (.inr (s16,s17))) (0,a0,[])).bind λe14=>
  κ10 e14)
def pC(a0:List g9):Option (List y8):=
 jn (λ(j9:List y8)=>
  some j9) (λκ8=>
  (lp (S:=Int × (List y8)) (E:=(List y8)) (λ((s11,s12):Int × (List y8))=>
   if (decide (s11<(a0.length:Int))) then
    (ix a0 s11).bind λv15=>
    (app 16 s12 [(⟨v15.V,v15.E⟩:y8)]).bind λv16=>
    some (.inl (w7 (s11+1),v16))
   else
   some (.inr s12)) (0,[])).bind λe10=>
  κ8 e10)
def vN(a0:List y8)(a1:List y8):Option Bool:=
 if ((a0.length:Int) != (a1.length:Int)) then
  some false
 else
 jn (λ(_:Unit)=>
  some true) (λκ6=>
  (lp (S:=Int) (E:=Bool ⊕ Unit) (λ(s9:Int)=>
   if (decide (s9<(a0.length:Int))) then
    (ix a0 s9).bind λv11=>
    (ix a1 s9).bind λv12=>
    if (!((v11.V==v12.V)&&((v11.E==v12.E)&&true))) then
     some (.inr (.inl false))
    else
    some (.inl (w7 (s9+1)))
   else
   some (.inr (.inr ()))) 0).bind λe8=>
  match e8 with
  | .inl w=>some w
  | .inr w=>κ6 w)
def gj:Option Bool:=
 (aO 3 5 8 [[(⟨2,2,5,0⟩:g8)]]).bind λv1=>
 (R6 3 5 8 [[(⟨2,2,5,0⟩:g8)]]).bind λv2=>
 (aP v1.1 [[1,0,1,0],[5,0,0,0],[3,0,0,0],[11,0,0,0],[12,9,0,0],[3,2,0,0],[11,0,0,0],[2,9,0,0]]).bind λv3=>
 (mH v2.1 [[1,0,1,0],[5,0,0,0],[3,0,0,0],[11,0,0,0],[12,9,0,0],[3,2,0,0],[11,0,0,0],[2,9,0,0]]).bind λv4=>
 (E1 (((((v1.2==0)&&(v2.2==0))&&(decide ((v3.1.Gens.length:Int) > 0)))&&((v3.2.length:Int)==8))==true) [] (pC v3.2)).bind λv5=>
 (E1 (((((v1.2==0)&&(v2.2==0))&&(decide ((v3.1.Gens.length:Int) > 0)))&&((v3.2.length:Int)==8))==true) [] (pC v4.2)).bind λv6=>
 (E1 (((((v1.2==0)&&(v2.2==0))&&(decide ((v3.1.Gens.length:Int) > 0)))&&((v3.2.length:Int)==8))==true) false (vN v5 v6)).bind λv7=>
 (E1 ((((((v1.2==0)&&(v2.2==0))&&(decide ((v3.1.Gens.length:Int) > 0)))&&((v3.2.length:Int)==8))&&v7)==true) (⟨0,0⟩:g9) (ix v3.2 3)).bind λv8=>
 (E1 (((((((v1.2==0)&&(v2.2==0))&&(decide ((v3.1.Gens.length:Int) > 0)))&&((v3.2.length:Int)==8))&&v7)&&(v8.V==(-1)))==true) (⟨0,0⟩:g9) (ix v3.2 4)).bind λv9=>
 (E1 ((((((((v1.2==0)&&(v2.2==0))&&(decide ((v3.1.Gens.length:Int) > 0)))&&((v3.2.length:Int)==8))&&v7)&&(v8.V==(-1)))&&(v9.V==1))==true) (⟨0,0⟩:g9) (ix v3.2 6)).bind λv10=>
 (E1 (((((((((v1.2==0)&&(v2.2==0))&&(decide ((v3.1.Gens.length:Int) > 0)))&&((v3.2.length:Int)==8))&&v7)&&(v8.V==(-1)))&&(v9.V==1))&&(v10.V==1))==true) (⟨0,0⟩:g9) (ix v3.2 7)).bind λv11=>
 (E1 ((((((((((v1.2==0)&&(v2.2==0))&&(decide ((v3.1.Gens.length:Int) > 0)))&&((v3.2.length:Int)==8))&&v7)&&(v8.V==(-1)))&&(v9.V==1))&&(v10.V==1))&&(v11.E==6))==true) [] (dS v3.1)).bind λv12=>
 (E1 (((((((((((v1.2==0)&&(v2.2==0))&&(decide ((v3.1.Gens.length:Int) > 0)))&&((v3.2.length:Int)==8))&&v7)&&(v8.V==(-1)))&&(v9.V==1))&&(v10.V==1))&&(v11.E==6))&&((v12.length:Int)==0))==true) (0:Int) (ix v3.1.Gens 0)).bind λv13=>
 some (((((((((((v1.2==0)&&(v2.2==0))&&(decide ((v3.1.Gens.length:Int) > 0)))&&((v3.2.length:Int)==8))&&v7)&&(v8.V==(-1)))&&(v9.V==1))&&(v10.V==1))&&(v11.E==6))&&((v12.length:Int)==0))&&(v13==1))
def uv(a0:a8):Option Bool:=
 jn (λ(_:Unit)=>
  (E1 ((((((((decide ((a0.Nodes.length:Int)<=50))&&(decide ((a0.Pairs.length:Int)<=20)))&&(decide ((a0.Tasks.length:Int)<=100)))&&(decide ((a0.b7.length:Int)<=20)))&&(decide ((a0.Roots.length:Int)<=20)))&&(decide ((a0.Slots.length:Int)<=30)))&&(decide ((a0.Gens.length:Int)<=30)))==true) false (gY a0.Progs)).bind λv7=>
  some ((((((((decide ((a0.Nodes.length:Int)<=50))&&(decide ((a0.Pairs.length:Int)<=20)))&&(decide ((a0.Tasks.length:Int)<=100)))&&(decide ((a0.b7.length:Int)<=20)))&&(decide ((a0.Roots.length:Int)<=20)))&&(decide ((a0.Slots.length:Int)<=30)))&&(decide ((a0.Gens.length:Int)<=30)))&&v7)) (λκ5=>
  (lp (S:=Int) (E:=Bool ⊕ Unit) (λ(s9:Int)=>
   if ((decide (s9<(a0.Nodes.length:Int)))&&(decide (s9<60))) then
    (ix a0.Nodes s9).bind λv11=>
    if (decide ((v11.Fields.length:Int) > 10)) then
     some (.inr (.inl false))
    else
    some (.inl (w7 (s9+1)))
   else
   some (.inr (.inr ()))) 0).bind λe8=>
  match e8 with
  | .inl w=>some w
  | .inr w=>κ5 w)
def mb(a0:List Int):Option (List Int):=
 jn (λ(j13:List Int)=>
  some j13) (λκ12=>
  (lp (S:=Int × (List Int)) (E:=(List Int)) (λ((s15,s16):Int × (List Int))=>
   if (decide (s15<(a0.length:Int))) then
    jn (λ(j22:List Int)=>
     some (.inl (w7 (s15+1),j22))) (λκ21=>
     (ix a0 s15).bind λv23=>
     if (v23 != 0) then
      (app 8 s16 [v23]).bind λv24=>
      κ21 v24
     else
     κ21 s16)
   else
   some (.inr s16)) (0,[])).bind λe14=>
  κ12 e14)
def jR(a0:Int)(a1:Int)(a2:List (List g8))(a3:List (List Int)):Option Bool:=
 (gY a2).bind λv1=>
 (E1 ((!v1)==false) false (gi a3 60)).bind λv2=>
 (E1 (((!v1)||(!v2))==false) false gj).bind λv3=>
 if (((!v1)||(!v2))||(!v3)) then
  (gj).bind λv4=>
  some v4
 else
 (rem (w7 a0) 24).bind λv5=>
 (rem (w7 a1) 10).bind λv6=>
 (aO (w7 (1+v5)) v6 8 a2).bind λv7=>
 if (v7.2 != 0) then
  some (v7.2==13)
 else
 (aP v7.1 a3).bind λv8=>
 (uv v8.1).bind λv9=>
 if (!v9) then
  some false
 else
 (mb v8.1.Roots).bind λv10=>
 jn (λ(j21:Int)=>
  jn (λ((j34,j35):Int × Int)=>
   some (j34==j35)) (λκ33=>
   (lp (S:=Int × Int × Int) (E:=Bool ⊕ (Int × Int)) (λ((s38,s39,s40):Int × Int × Int)=>
    if (decide (s40<(v8.1.Nodes.length:Int))) then
     (ix v8.1.Nodes s40).bind λv43=>
     (bF v8.1 v43.Serial).bind λv44=>
     (mb v43.Fields).bind λv45=>
     jn (λ(j47:Int)=>
      if (((v43.Alive&&(!v43.Stuck))&&(v44==0))||((!v43.Alive)&&(decide (v44 > 0)))) then
       some (.inr (.inl false))
      else
      some (.inl (j47,w7 (s39+(v45.length:Int)),w7 (s40+1)))) (λκ46=>
      if v43.Alive then
       κ46 (w7 (s38+v44))
      else
      κ46 s38)
    else
    some (.inr (.inr (s38,s39)))) (0,j21,0)).bind λe37=>
   match e37 with
   | .inl w=>some w
   | .inr w=>κ33 w)) (λκ20=>
  (lp (S:=Int × Int) (E:=Int) (λ((s49,s50):Int × Int)=>
   if (decide (s50<(v8.1.Tasks.length:Int))) then
    jn (λ(j55:Int)=>
     some (.inl (j55,w7 (s50+1)))) (λκ54=>
     (ix v8.1.Tasks s50).bind λv56=>
     if (v56.Kind==1) then
      κ54 (w7 (s49+1))
     else
     κ54 s49)
   else
   some (.inr s49)) (w7 ((v10.length:Int)+(v8.1.Pairs.length:Int)),0)).bind λe48=>
  κ20 e48)
structure fm where
 Kind:Int
 A:Int
 B:Int
 C:Int
structure xe where
 Serial:Int
 Strong:Int
 Weak:Int
 Prog:Int
 Started:Bool
 Fields:List Int
structure lN where
 State:Int
 Gen:Int
 Val:xe
structure gV where
 Target:Int
 Intact:Bool
 Call:Int
structure I4 where
 State:Int
 Key:Int
 Val:Int
structure EY where
 Kind:Int
 At:Int
 Prog:Int
structure EX where
 State:Int
 Gen:Int
 Val:Int
structure yB where
 b7:List EX
 Last:Int
structure je where
 b7:List lN
 Last:Int
 Serial:Int
structure pS where
 L:List EY
 Cap:Int
structure lP where
 S:je
 Roots:List Int
 b7:List gV
 T:List I4
 Q:pS
structure ni where
 X:lP
 Progs:List (List fm)
def pT(a0:fm):Option Bool:=
 some ((decide (a0.Kind>=1))&&(decide (a0.Kind<=10)))
def dI(a0:Int)(a1:Int)(a2:Int)(a3:Int):Option Int:=
 if ((decide (a0<a1))||(decide (a0 > a2))) then
  some a3
 else
 some 0
def cp(a0:Int)(a1:Int)(a2:Int):Option Int:=
 if (a0 != 0) then
  some a0
 else
 if (a1 != 0) then
  some a1
 else
 some a2
def fY(a0:fm):Option Int:=
 (dI a0.A 0 5 6).bind λv1=>
 (dI a0.B 0 5 6).bind λv2=>
 if (a0.Kind==1) then
  (dI a0.B 0 4 1).bind λv3=>
  (dI a0.C (-1) 5 13).bind λv4=>
  (cp v1 v3 v4).bind λv5=>
  some v5
 else
 jn (λ(j7:Bool)=>
  if j7 then
   (cp v1 v2 0).bind λv8=>
   some v8
  else
  if (a0.Kind==3) then
   some v1
  else
  if (a0.Kind==4) then
   (dI a0.C 0 3 5).bind λv9=>
   (cp v1 v2 v9).bind λv10=>
   some v10
  else
  if (a0.Kind==5) then
   (dI a0.B 0 3 5).bind λv11=>
   (dI a0.C (-1) 5 6).bind λv12=>
   (cp v1 v11 v12).bind λv13=>
   some v13
  else
  if (a0.Kind==6) then
   (dI a0.A 0 5 7).bind λv14=>
   (dI a0.B (-1) 5 6).bind λv15=>
   (dI a0.C (-1) 5 13).bind λv16=>
   (cp v14 v15 v16).bind λv17=>
   some v17
  else
  if (a0.Kind==7) then
   (dI a0.B 0 5 7).bind λv18=>
   (cp v1 v18 0).bind λv19=>
   some v19
  else
  if (a0.Kind==8) then
   (dI a0.B (-1) 5 6).bind λv20=>
   (cp v1 v20 0).bind λv21=>
   some v21
  else
  if (a0.Kind==11) then
   some 0
  else
  if (a0.Kind==12) then
   (dI a0.A 0 200 12).bind λv22=>
   some v22
  else
  some 14) (λκ6=>
  if (a0.Kind==2) then
   κ6 (a0.Kind==2)
  else
  if (a0.Kind==9) then
   κ6 (a0.Kind==9)
  else
  κ6 (a0.Kind==10))
def pU(a0:List (List fm)):Option Bool:=
 if (decide ((a0.length:Int) > 6)) then
  some false
 else
 jn (λ(_:Unit)=>
  some true) (λκ20=>
  (lp (S:=Int) (E:=Bool ⊕ Unit) (λ(s23:Int)=>
   if (decide (s23<(a0.length:Int))) then
    jn (λ(_:Unit)=>
     some (.inl (w7 (s23+1)))) (λκ32=>
     (ix a0 s23).bind λv34=>
     if (decide ((v34.length:Int) > 6)) then
      some (.inr (.inl false))
     else
     (lp (S:=Int) (E:=Bool ⊕ Unit) (λ(s36:Int)=>
      if (decide (s36<(v34.length:Int))) then
       (ix v34 s36).bind λv38=>
       (pT v38).bind λv39=>
       (E1 ((!v39)==false) 0 (fY v38)).bind λv40=>
       if ((!v39)||(v40 != 0)) then
        some (.inr (.inl false))
       else
       some (.inl (w7 (s36+1)))
      else
      some (.inr (.inr ()))) 0).bind λe35=>
     match e35 with
     | .inl w=>some (.inr (.inl w))
     | .inr w=>κ32 w)
   else
   some (.inr (.inr ()))) 0).bind λe22=>
  match e22 with
  | .inl w=>some w
  | .inr w=>κ20 w)
def Jf(a0:Int)(a1:Int):Option yB:=
 if ((((decide (a0<0))||(decide (a0 > 24)))||(decide (a1<0)))||(decide (a1 > 9))) then
  some (⟨[],0⟩:yB)
 else
 (mk 24 a0 (⟨0,0,0⟩:EX)).bind λv1=>
 some (⟨v1,a1⟩:yB)
def Db(a0:Int)(a1:Int):Option je:=
 (Jf a0 a1).bind λv1=>
 (mk 80 (v1.b7.length:Int) (⟨0,0,⟨0,0,0,0,false,[]⟩⟩:lN)).bind λv2=>
 some (⟨v2,v1.Last,0⟩:je)
def Ro(a0:Int):Option (List gV):=
 jn (λ(j8:List gV)=>
  some j8) (λκ7=>
  (lp (S:=Int × (List gV)) (E:=(List gV)) (λ((s10,s11):Int × (List gV))=>
   if ((decide (s10<a0))&&(decide (a0<=6))) then
    (app 24 s11 [(⟨0,false,(-1)⟩:gV)]).bind λv14=>
    some (.inl (w7 (s10+1),v14))
   else
   some (.inr s11)) (0,[])).bind λe9=>
  κ7 e9)
def Jg(a0:Int):Option (List I4):=
 if ((decide (a0<1))||(decide (a0 > 8))) then
  some []
 else
 (mk 24 a0 (⟨0,0,0⟩:I4)).bind λv1=>
 some v1
def Rp:Option pS:=
 some (⟨[],30⟩:pS)
def tR(a0:Int)(a1:Int)(a2:Int):Option lP:=
 if ((((((decide (a0<1))||(decide (a0 > 24)))||(decide (a1<0)))||(decide (a1 > 9)))||(decide (a2<1)))||(decide (a2 > 8))) then
  some (⟨⟨[],0,0⟩,[],[],[],⟨[],0⟩⟩:lP)
 else
 (Db a0 a1).bind λv1=>
 (mk 8 6 (0:Int)).bind λv2=>
 (Ro 6).bind λv3=>
 (Jg a2).bind λv4=>
 (Rp).bind λv5=>
 some (⟨v1,v2,v3,v4,v5⟩:lP)
def Dc(a0:Int)(a1:Int)(a2:Int)(a3:List (List fm)):Option (ni × Int):=
 (pU a3).bind λv1=>
 if (!v1) then
  some ((⟨⟨⟨[],0,0⟩,[],[],[],⟨[],0⟩⟩,[]⟩:ni),13)
 else
 (tR a0 a1 a2).bind λv2=>
 if ((v2.Roots.length:Int)==0) then
  some ((⟨⟨⟨[],0,0⟩,[],[],[],⟨[],0⟩⟩,[]⟩:ni),1)
 else
 some ((⟨v2,a3⟩:ni),0)
def lO(a0:List I4)(a1:Int):Option Int:=
 jn (λ(_:Unit)=>
  some (-1)) (λκ5=>
  (lp (S:=Int) (E:=Int ⊕ Unit) (λ(s8:Int)=>
   if (decide (s8<(a0.length:Int))) then
    (ix a0 s8).bind λv10=>
    if ((v10.State==1)&&(v10.Key==a1)) then
     some (.inr (.inl s8))
    else
    some (.inl (w7 (s8+1)))
   else
   some (.inr (.inr ()))) 0).bind λe7=>
  match e7 with
  | .inl w=>some w
  | .inr w=>κ5 w)
def jI(a0:List Int):Option (fm × Int):=
 if ((a0.length:Int) != 4) then
  some ((⟨0,0,0,0⟩:fm),14)
 else
 (ix a0 0).bind λv1=>
 (ix a0 1).bind λv2=>
 (ix a0 2).bind λv3=>
 (ix a0 3).bind λv4=>
 (fY (⟨v1,v2,v3,v4⟩:fm)).bind λv5=>
 if (v5 != 0) then
  some ((⟨0,0,0,0⟩:fm),v5)
 else
 some ((⟨v1,v2,v3,v4⟩:fm),0)
def yC(a0:List I4)(a1:Int)(a2:I4):Option (List I4):=
 (app 24 [] a0).bind λv1=>
 (ix v1 a1).bind λv2=>
 some (v1.set (a1).toNat a2)
def tQ(a0:List I4)(a1:Int):Option ((List I4) × Int × Int):=
 (lO a0 a1).bind λv1=>
 if (decide (v1<0)) then
  some (a0,0,9)
 else
 (yC a0 v1 (⟨2,0,0⟩:I4)).bind λv2=>
 (ix a0 v1).bind λv3=>
 some (v2,v3.Val,0)
def pb(a0:List I4)(a1:List Int):Option ((List I4) × (List Int)):=
 jn (λ((j18,j19):(List I4) × (List Int))=>
  some (j18,j19)) (λκ17=>
  (lp (S:=(List I4) × Int × (List Int)) (E:=((List I4) × (List Int))) (λ((s22,s23,s24):(List I4) × Int × (List Int))=>
   if (decide (s23<(a1.length:Int))) then
    jn (λ((j31,j32):(List I4) × (List Int))=>
     some (.inl (j31,w7 (s23+1),j32))) (λκ30=>
     (ix a1 s23).bind λv34=>
     (tQ s22 v34).bind λv35=>
     if (v35.2.2==0) then
      (app 8 s24 [v35.2.1]).bind λv36=>
      κ30 (v35.1,v36)
     else
     κ30 (s22,s24))
   else
   some (.inr (s22,s24))) (a0,0,[])).bind λe21=>
  κ17 e21)
def Da(a0:List Int)(a1:Int):Option (Int × Int):=
 if ((decide (a1<0))||(decide (a1>=(a0.length:Int)))) then
  some (0,5)
 else
 (ix a0 a1).bind λv1=>
 some (v1,0)
end
end Go.Sh
