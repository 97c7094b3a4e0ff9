/- A part. -/
import Derived.Test.YtmgbbnfgfmfgaaaGreatQ22bSh0
import Derived.Test.YtmgbbnfgfmfgaaaGreatQ22bPwD
import Derived.Test.YtmgbbnfgfmfgaaaGreatQ22bPwC
set_option linter.unusedVariables false
set_option linter.unusedSimpArgs false
set_option linter.unusedSectionVars false
namespace Go.Sh
set_option maxRecDepth 100000
noncomputable section
structure g7 where
 Kind:Int
 A:Int
 B:Int
 C:Int
structure b8 where
 Serial:Int
 Slot:Int
 Prog:Int
 Started:Bool
 Alive:Bool
 Stuck:Bool
 Fields:List Int
structure k8 where
 Target:Int
 Intact:Bool
 Call:Int
structure g8 where
 Key:Int
 Val:Int
structure g6 where
 Kind:Int
 At:Int
 Prog:Int
structure n0 where
 Serial:Int
 Strong:Int
 Weak:Int
 Prog:Int
 Started:Bool
 Fields:List Int
structure c8 where
 State:Int
 Gen:Int
 Val:n0
structure g5 where
 State:Int
 Key:Int
 Val:Int
structure l5 where
 part:Fv
 least:Int
 most:Int
 e:Int
structure l4 where
 b7:List c8
 Last:Int
structure b6 where
 S:l4
 Serial:Int
structure j5 where
 L:List g6
 Cap:Int
structure b9 where
 S:b6
 Roots:List Int
 b7:List k8
 T:List g5
 Q:j5
structure s7 where
 X:b9
 Progs:List (List g7)
structure a8 where
 Nodes:List b8
 Slots:List Int
 Gens:List Int
 Last:Int
 Places:Int
 Serial:Int
 Roots:List Int
 b7:List k8
 Pairs:List g8
 Tasks:List g6
 Progs:List (List g7)
structure g9 where
 V:Int
 E:Int
structure c9 where
 L:List Int
 Cap:Int
structure r8 where
 x:b9
 o:g7
structure L3 where
 r:Int
 h:Int
structure H5 where
 h:Int
 k:Int
 v:Int
structure L2 where
 t:List g5
structure z7 where
 V:Int
 E:Int
structure aJ where
 Serial:Int
 Strong:Int
 Weak:Int
 Prog:Int
 Started:Bool
 Fields:List Int
structure y7 where
 State:Int
 Gen:Int
 Val:aJ
structure x6 where
 b7:List y7
 Last:Int
 Serial:Int
structure G5 where
 State:Int
 Gen:Int
 Val:Int
structure U1 where
 b7:List G5
 Last:Int
def iA(a0:List (List g7)):Option Bool:=
 jn (λ(_:Unit)=>
  some (decide ((a0.length:Int)<=10))) (λκ5=>
  (lp (S:=Int) (E:=Bool ⊕ Unit) (λ(s8:Int)=>
   if ((decide (s8<(a0.length:Int)))&&(decide (s8<10))) then
    (ix a0 s8).bind λv10=>
    if (decide ((v10.length:Int) > 10)) then
     some (.inr (.inl false))
    else
    some (.inl (u4 (s8+1)))
   else
   some (.inr (.inr ()))) 0).bind λe7=>
  match e7 with
  | .inl w=>some w
  | .inr w=>κ5 w)
def gz(a0:List (List Int))(a1:Int):Option Bool:=
 jn (λ(_:Unit)=>
  some (decide ((a0.length:Int)<=a1))) (λκ5=>
  (lp (S:=Int) (E:=Bool ⊕ Unit) (λ(s8:Int)=>
   if ((decide (s8<(a0.length:Int)))&&(decide (s8<200))) then
    (ix a0 s8).bind λv10=>
    if (decide ((v10.length:Int) > 10)) then
     some (.inr (.inl false))
    else
    some (.inl (u4 (s8+1)))
   else
   some (.inr (.inr ()))) 0).bind λe7=>
  match e7 with
  | .inl w=>some w
  | .inr w=>κ5 w)
def fY(a0:g7):Option Bool:=
 some ((decide (a0.Kind>=1))&&(decide (a0.Kind<=10)))
def bq:Option l5:=
 some (⟨(some 251),0,5,6⟩:l5)
def W9:Option l5:=
 some (⟨(some 254),(-1),5,13⟩:l5)
def M5(a0:List l5):Option (List l5):=
 some a0
def br:Option l5:=
 some (⟨(some 252),0,5,6⟩:l5)
def aC:Option l5:=
 some (⟨(some 254),0,3,5⟩:l5)
def aB:Option l5:=
 some (⟨(some 252),0,3,5⟩:l5)
def R3:Option l5:=
 some (⟨(some 254),(-1),5,6⟩:l5)
def bo:Option l5:=
 some (⟨(some 251),0,5,7⟩:l5)
def R2:Option l5:=
 some (⟨(some 252),(-1),5,6⟩:l5)
def bp:Option l5:=
 some (⟨(some 252),0,5,7⟩:l5)
def nm:Option (List (Int × (List l5))):=
 (bq).bind λv1=>
 (W9).bind λv2=>
 (M5 [v1,(⟨(some 252),0,4,1⟩:l5),v2]).bind λv3=>
 (br).bind λv4=>
 (M5 [v1,v4]).bind λv5=>
 (M5 [v1]).bind λv6=>
 (aC).bind λv7=>
 (M5 [v1,v4,v7]).bind λv8=>
 (aB).bind λv9=>
 (R3).bind λv10=>
 (M5 [v1,v9,v10]).bind λv11=>
 (bo).bind λv12=>
 (R2).bind λv13=>
 (M5 [v12,v13,v2]).bind λv14=>
 (bp).bind λv15=>
 (M5 [v1,v15]).bind λv16=>
 (M5 [v1,v13]).bind λv17=>
 (M5 []).bind λv18=>
 (M5 [(⟨(some 251),0,200,12⟩:l5)]).bind λv19=>
 some (p6 (p6 (p6 (p6 (p6 (p6 (p6 (p6 (p6 (p6 (p6 (p6 [] 1 v3) 2 v5) 3 v6) 4 v8) 5 v11) 6 v14) 7 v16) 8 v17) 9 v5) 10 v5) 11 v18) 12 v19)
def rQ(a0:g7):Option Int:=
 some a0.A
def rR(a0:g7):Option Int:=
 some a0.B
def rT(a0:g7):Option Int:=
 some a0.C
def tH(f:Fv)(a0:g7):Option Int:=
 if f=some 251 then rQ a0 else
 if f=some 252 then rR a0 else
 if f=some 254 then rT a0 else
 none
def W8(a0:g7):Option Int:=
 (nm).bind λv1=>
 if (!((A1 v1 a0.Kind).isSome)) then
  some 14
 else
 jn (λ(_:Unit)=>
  some 0) (λκ8=>
  (lp (S:=Int) (E:=Int ⊕ Unit) (λ(s11:Int)=>
   if (decide (s11<(((A1 v1 a0.Kind).getD ([]:List l5)).length:Int))) then
    (ix ((A1 v1 a0.Kind).getD ([]:List l5)) s11).bind λv13=>
    (tH v13.part a0).bind λv14=>
    if ((decide (v14<v13.least))||(decide (v14 > v13.most))) then
     some (.inr (.inl v13.e))
    else
    some (.inl (u4 (s11+1)))
   else
   some (.inr (.inr ()))) 0).bind λe10=>
  match e10 with
  | .inl w=>some w
  | .inr w=>κ8 w)
def fZ(a0:List (List g7)):Option Bool:=
 if (decide ((a0.length:Int) > 6)) then
  some false
 else
 jn (λ(_:Unit)=>
  some true) (λκ20=>
  (lp (S:=Int) (E:=Bool ⊕ Unit) (λ(s23:Int)=>
   if (decide (s23<(a0.length:Int))) then
    jn (λ(_:Unit)=>
     some (.inl (u4 (s23+1)))) (λκ32=>
     (ix a0 s23).bind λv34=>
     if (decide ((v34.length:Int) > 6)) then
      some (.inr (.inl false))
     else
     (lp (S:=Int) (E:=Bool ⊕ Unit) (λ(s36:Int)=>
      if (decide (s36<(v34.length:Int))) then
       (ix v34 s36).bind λv38=>
       (fY v38).bind λv39=>
       (B9 ((!v39)==false) 0 (W8 v38)).bind λv40=>
       if ((!v39)||(v40 != 0)) then
        some (.inr (.inl false))
       else
       some (.inl (u4 (s36+1)))
      else
      some (.inr (.inr ()))) 0).bind λe35=>
     match e35 with
     | .inl w=>some (.inr (.inl w))
     | .inr w=>κ32 w)
   else
   some (.inr (.inr ()))) 0).bind λe22=>
  match e22 with
  | .inl w=>some w
  | .inr w=>κ20 w)
def aL(a0:Int)(a1:Int):Option l4:=
 if ((((decide (a0<0))||(decide (a0 > 24)))||(decide (a1<0)))||(decide (a1 > 9))) then
  some (⟨[],0⟩:l4)
 else
 (mk 80 a0 (⟨0,0,⟨0,0,0,0,false,[]⟩⟩:c8)).bind λv1=>
 some (⟨v1,a1⟩:l4)
def jH(a0:Int)(a1:Int):Option b6:=
 (aL a0 a1).bind λv1=>
 some (⟨v1,0⟩:b6)
def AU(a0:Int):Option (List k8):=
 if ((decide (a0<0))||(decide (a0 > 6))) then
  some []
 else
 (mk 24 a0 (⟨0,false,0⟩:k8)).bind λv1=>
 jn (λ(j9:List k8)=>
  some j9) (λκ8=>
  (lp (S:=Int × (List k8)) (E:=(List k8)) (λ((s11,s12):Int × (List k8))=>
   if (decide (s11<(v1.length:Int))) then
    (ix s12 s11).bind λv15=>
    some (.inl (u4 (s11+1),(s12.set (s11).toNat (⟨v15.Target,v15.Intact,(-1)⟩:k8))))
   else
   some (.inr s12)) (0,v1)).bind λe10=>
  κ8 e10)
def tL(a0:Int):Option (List g5):=
 if ((decide (a0<1))||(decide (a0 > 8))) then
  some []
 else
 (mk 24 a0 (⟨0,0,0⟩:g5)).bind λv1=>
 some v1
def cZ(a0:Int):Option j5:=
 some (⟨[],a0⟩:j5)
def AI:Option j5:=
 (cZ 30).bind λv1=>
 some v1
def md(a0:Int)(a1:Int)(a2:Int):Option b9:=
 if ((((((decide (a0<1))||(decide (a0 > 24)))||(decide (a1<0)))||(decide (a1 > 9)))||(decide (a2<1)))||(decide (a2 > 8))) then
  some (⟨⟨⟨[],0⟩,0⟩,[],[],[],⟨[],0⟩⟩:b9)
 else
 (jH a0 a1).bind λv1=>
 (mk 8 6 (0:Int)).bind λv2=>
 (AU 6).bind λv3=>
 (tL a2).bind λv4=>
 (AI).bind λv5=>
 some (⟨v1,v2,v3,v4,v5⟩:b9)
def Q3(a0:Int)(a1:Int)(a2:Int)(a3:List (List g7)):Option (s7 × Int):=
 (fZ a3).bind λv1=>
 if (!v1) then
  some ((⟨⟨⟨⟨[],0⟩,0⟩,[],[],[],⟨[],0⟩⟩,[]⟩:s7),13)
 else
 (md a0 a1 a2).bind λv2=>
 if ((v2.Roots.length:Int)==0) then
  some ((⟨⟨⟨⟨[],0⟩,0⟩,[],[],[],⟨[],0⟩⟩,[]⟩:s7),1)
 else
 some ((⟨v2,a3⟩:s7),0)
def aZ(a0:Int)(a1:Int)(a2:Int)(a3:List (List g7)):Option (a8 × Int):=
 (Q3 a0 a1 a2 a3).bind λv1=>
 if (v1.2 != 0) then
  some ((⟨[],[],[],0,0,0,[],[],[],[],[]⟩:a8),v1.2)
 else
 (mk 8 a0 (0:Int)).bind λv2=>
 (mk 8 6 (0:Int)).bind λv3=>
 (AU 6).bind λv4=>
 some ((⟨[],v2,v2,a1,a2,0,v3,v4,[],[],a3⟩:a8),0)
def V4(a0:List Int):Option (g7 × Int):=
 if ((a0.length:Int) != 4) then
  some ((⟨0,0,0,0⟩:g7),14)
 else
 (ix a0 0).bind λv1=>
 (ix a0 1).bind λv2=>
 (ix a0 2).bind λv3=>
 (ix a0 3).bind λv4=>
 (W8 (⟨v1,v2,v3,v4⟩:g7)).bind λv5=>
 if (v5 != 0) then
  some ((⟨0,0,0,0⟩:g7),v5)
 else
 some ((⟨v1,v2,v3,v4⟩:g7),0)
def iP(a0:b8):Option Bool:=
 some a0.Stuck
def C8(a0:List b8):Option (List b8):=
 jn (λ(j15:List b8)=>
  some j15) (λκ14=>
  (lp (S:=Int × (List b8)) (E:=(List b8)) (λ((s17,s18):Int × (List b8))=>
   if (decide (s17<(a0.length:Int))) then
    jn (λ(j25:List b8)=>
     some (.inl (u4 (s17+1),j25))) (λκ24=>
     (ix a0 s17).bind λv26=>
     (iP v26).bind λv27=>
     if v27 then
      (app 56 s18 [v26]).bind λv28=>
      κ24 v28
     else
     κ24 s18)
   else
   some (.inr s18)) (0,[])).bind λe16=>
  κ14 e16)
def iR(a0:b8):Option Int:=
 some a0.Serial
def B8(a0:List b8):Option (List Int):=
 jn (λ(j10:List Int)=>
  some j10) (λκ9=>
  (lp (S:=Int × (List Int)) (E:=(List Int)) (λ((s12,s13):Int × (List Int))=>
   if (decide (s12<(a0.length:Int))) then
    (ix a0 s12).bind λv16=>
    (iR v16).bind λv17=>
    (app 8 s13 [v17]).bind λv18=>
    some (.inl (u4 (s12+1),v18))
   else
   some (.inr s13)) (0,[])).bind λe11=>
  κ9 e11)
def J2(a0:List b8):Option (List Int):=
 (B8 a0).bind λv1=>
 some v1
def bc(a0:Int):Option c9:=
 some (⟨[],a0⟩:c9)
def X0(a0:a8):Option j5:=
 (AI).bind λv1=>
 some (⟨a0.Tasks,v1.Cap⟩:j5)
def qJ(a0:j5)(a1:Int):Option (j5 × Int):=
 some (a0,a1)
def gy(a0:j5):Option (List Int):=
 jn (λ(j10:List Int)=>
  some j10) (λκ9=>
  (qJ a0 1).bind λv11=>
  (lp (S:=Int × (List Int)) (E:=(List Int)) (λ((s13,s14):Int × (List Int))=>
   if (decide (s13<(v11.1.L.length:Int))) then
    (ix v11.1.L s13).bind λv17=>
    if ((v17.Kind==v11.2)==true) then
     (app 8 s14 [v17.At]).bind λv18=>
     some (.inl (u4 (s13+1),v18))
    else
    some (.inl (u4 (s13+1),s14))
   else
   some (.inr s14)) (0,[])).bind λe12=>
  κ9 e12)
def F9(a0:List (List Int)):Option (List Int):=
 jn (λ(j11:Int)=>
  jn (λ(_:Unit)=>
   if (decide ((u4 (j11-(u4 (0-0)))) > 0)) then
    (mk 8 (u4 (j11-(u4 (0-0)))) (0:Int)).bind λv14=>
    jn (λ(j23:List Int)=>
     some j23) (λκ22=>
     (lp (S:=Int × (List Int)) (E:=(List Int)) (λ((s25,s26):Int × (List Int))=>
      if (decide (s25<(a0.length:Int))) then
       (ix a0 s25).bind λv29=>
       (app 8 s26 v29).bind λv30=>
       some (.inl (u4 (s25+1),v30))
      else
      some (.inr s26)) (0,[])).bind λe24=>
     κ22 e24)
   else
   jn (λ(j39:List Int)=>
    some j39) (λκ38=>
    (lp (S:=Int × (List Int)) (E:=(List Int)) (λ((s41,s42):Int × (List Int))=>
     if (decide (s41<(a0.length:Int))) then
      (ix a0 s41).bind λv45=>
      (app 8 s42 v45).bind λv46=>
      some (.inl (u4 (s41+1),v46))
     else
     some (.inr s42)) (0,[])).bind λe40=>
    κ38 e40)) (λκ12=>
   if (decide (j11<0)) then
    none
   else
   κ12 ())) (λκ10=>
  (lp (S:=Int × Int) (E:=Int) (λ((s48,s49):Int × Int)=>
   if (decide (s49<(a0.length:Int))) then
    jn (λ(j54:Int)=>
     some (.inl (j54,u4 (s49+1)))) (λκ53=>
     (ix a0 s49).bind λv55=>
     if (decide ((u4 (s48+(v55.length:Int)))<0)) then
      none
     else
     κ53 (u4 (s48+(v55.length:Int))))
   else
   some (.inr s48)) (0,0)).bind λe47=>
  κ10 e47)
def H7(a0:c9):Option Int:=
 some (a0.L.length:Int)
def U0(a0:List Int)(a1:Int)(a2:Int):Option (List Int):=
 (cut a0 a1 a2).bind λv1=>
 some v1
def D8(a0:c9)(a1:Int):Option (c9 × Int):=
 (H7 a0).bind λv1=>
 if (decide (v1>=a0.Cap)) then
  some (a0,4)
 else
 (U0 a0.L 0 v1).bind λv2=>
 (app 8 v2 [a1]).bind λv3=>
 some ((⟨v3,a0.Cap⟩:c9),0)
def iU(a0:c9)(a1:Int):Option (c9 × (List Int)):=
 (H7 a0).bind λv1=>
 (U0 a0.L 0 (if (if v1<a1 then v1 else a1) > 0 then (if v1<a1 then v1 else a1) else 0)).bind λv2=>
 (U0 a0.L (if (if v1<a1 then v1 else a1) > 0 then (if v1<a1 then v1 else a1) else 0) v1).bind λv3=>
 some ((⟨v3,a0.Cap⟩:c9),v2)
def X4(a0:c9):Option (c9 × Int × Int):=
 (iU a0 1).bind λv1=>
 if ((v1.2.length:Int)==0) then
  some (a0,0,10)
 else
 (ix v1.2 0).bind λv2=>
 some (v1.1,v2,0)
def fv(a0:b8)(a1:Int):Option Bool:=
 some (a0.Serial==a1)
def z6(a0:List b8)(a1:Int):Option Int:=
 jn (λ(_:Unit)=>
  some (-1)) (λκ6=>
  (lp (S:=Int) (E:=Int ⊕ Unit) (λ(s9:Int)=>
   if (decide (s9<(a0.length:Int))) then
    (ix a0 s9).bind λv11=>
    (fv v11 a1).bind λv12=>
    if v12 then
     some (.inr (.inl s9))
    else
    some (.inl (u4 (s9+1)))
   else
   some (.inr (.inr ()))) 0).bind λe8=>
  match e8 with
  | .inl w=>some w
  | .inr w=>κ6 w)
def J6(a0:a8)(a1:Int):Option Int:=
 (z6 a0.Nodes a1).bind λv1=>
 some v1
def cH(a0:g8)(a1:Int):Option Bool:=
 some (a0.Key==a1)
def C6(a0:List g8)(a1:Int):Option (List g8):=
 jn (λ(j15:List g8)=>
  some j15) (λκ14=>
  (lp (S:=Int × (List g8)) (E:=(List g8)) (λ((s17,s18):Int × (List g8))=>
   if (decide (s17<(a0.length:Int))) then
    jn (λ(j25:List g8)=>
     some (.inl (u4 (s17+1),j25))) (λκ24=>
     (ix a0 s17).bind λv26=>
     (cH v26 a1).bind λv27=>
     if v27 then
      (app 16 s18 [v26]).bind λv28=>
      κ24 v28
     else
     κ24 s18)
   else
   some (.inr s18)) (0,[])).bind λe16=>
  κ14 e16)
def gk(a0:g8):Option Int:=
 some a0.Val
def E2(a0:List g8):Option (List Int):=
 jn (λ(j10:List Int)=>
  some j10) (λκ9=>
  (lp (S:=Int × (List Int)) (E:=(List Int)) (λ((s12,s13):Int × (List Int))=>
   if (decide (s12<(a0.length:Int))) then
    (ix a0 s12).bind λv16=>
    (gk v16).bind λv17=>
    (app 8 s13 [v17]).bind λv18=>
    some (.inl (u4 (s12+1),v18))
   else
   some (.inr s13)) (0,[])).bind λe11=>
  κ9 e11)
def P4(a0:a8)(a1:Int):Option (List Int):=
 (C6 a0.Pairs a1).bind λv1=>
 (E2 v1).bind λv2=>
 some v2
def gP(a0:a8):Option (List (Int × Bool)):=
 (C8 a0.Nodes).bind λv1=>
 (J2 v1).bind λv2=>
 (bc (a0.Nodes.length:Int)).bind λv3=>
 (X0 a0).bind λv4=>
 (gy v4).bind λv5=>
 (F9 [a0.Roots,v5,v2]).bind λv6=>
 jn (λ((j22,j23):c9 × (List (Int × Bool)))=>
  jn (λ(j100:List (Int × Bool))=>
   some j100) (λκ99=>
   (lp (S:=c9 × (List (Int × Bool))) (E:=(List (Int × Bool))) (λ((s102,s103):c9 × (List (Int × Bool)))=>
    (H7 s102).bind λv106=>
    if (decide (v106 > 0)) then
     (X4 s102).bind λv107=>
     (J6 a0 v107.2.1).bind λv108=>
     (ix a0.Nodes v108).bind λv109=>
     jn (λ((j125,j126):c9 × (List (Int × Bool)))=>
      (P4 a0 v107.2.1).bind λv128=>
      jn (λ((j144,j145):c9 × (List (Int × Bool)))=>
       some (.inl (j144,j145))) (λκ143=>
       (lp (S:=Int × c9 × (List (Int × Bool))) (E:=(c9 × (List (Int × Bool)))) (λ((s148,s149,s150):Int × c9 × (List (Int × Bool)))=>
        if (decide (s148<(v128.length:Int))) then
         jn (λ((j156,j157):c9 × (List (Int × Bool)))=>
          some (.inl (u4 (s148+1),j156,j157))) (λκ155=>
          (ix v128 s148).bind λv159=>
          if (!((A1 s150 v159).getD (false:Bool))) then
           (D8 s149 v159).bind λv160=>
           κ155 (v160.1,(p6 s150 v159 true))
          else
          κ155 (s149,s150))
        else
        some (.inr (s149,s150))) (0,j125,j126)).bind λe147=>
       κ143 e147)) (λκ124=>
      (lp (S:=Int × c9 × (List (Int × Bool))) (E:=(c9 × (List (Int × Bool)))) (λ((s162,s163,s164):Int × c9 × (List (Int × Bool)))=>
       if (decide (s162<(v109.Fields.length:Int))) then
        jn (λ((j170,j171):c9 × (List (Int × Bool)))=>
         some (.inl (u4 (s162+1),j170,j171))) (λκ169=>
         (ix v109.Fields s162).bind λv173=>
         if (!((A1 s164 v173).getD (false:Bool))) then
          (D8 s163 v173).bind λv174=>
          κ169 (v174.1,(p6 s164 v173 true))
         else
         κ169 (s163,s164))
       else
       some (.inr (s163,s164))) (0,v107.1,s103)).bind λe161=>
      κ124 e161)
    else
    some (.inr s103)) (j22,j23)).bind λe101=>
   κ99 e101)) (λκ21=>
  (lp (S:=Int × c9 × (List (Int × Bool))) (E:=(c9 × (List (Int × Bool)))) (λ((s176,s177,s178):Int × c9 × (List (Int × Bool)))=>
   if (decide (s176<(v6.length:Int))) then
    jn (λ((j184,j185):c9 × (List (Int × Bool)))=>
     some (.inl (u4 (s176+1),j184,j185))) (λκ183=>
     (ix v6 s176).bind λv187=>
     if (!((A1 s178 v187).getD (false:Bool))) then
      (D8 s177 v187).bind λv188=>
      κ183 (v188.1,(p6 s178 v187 true))
     else
     κ183 (s177,s178))
   else
   some (.inr (s177,s178))) (0,v3,(p6 [] 0 true))).bind λe175=>
  κ21 e175)
def bH(a0:b8)(a1:List (Int × Bool)):Option Bool:=
 some (a0.Alive&&(!((A1 a1 a0.Serial).getD (false:Bool))))
def C3(a0:List b8)(a1:List (Int × Bool)):Option (List b8):=
 jn (λ(j15:List b8)=>
  some j15) (λκ14=>
  (lp (S:=Int × (List b8)) (E:=(List b8)) (λ((s17,s18):Int × (List b8))=>
   if (decide (s17<(a0.length:Int))) then
    jn (λ(j25:List b8)=>
     some (.inl (u4 (s17+1),j25))) (λκ24=>
     (ix a0 s17).bind λv26=>
     (bH v26 a1).bind λv27=>
     if v27 then
      (app 56 s18 [v26]).bind λv28=>
      κ24 v28
     else
     κ24 s18)
   else
   some (.inr s18)) (0,[])).bind λe16=>
  κ14 e16)
def dp(a0:b8):Option Bool:=
 some ((decide (a0.Prog>=0))&&(!a0.Started))
def D6(a0:List b8):Option (List b8):=
 jn (λ(j15:List b8)=>
  some j15) (λκ14=>
  (lp (S:=Int × (List b8)) (E:=(List b8)) (λ((s17,s18):Int × (List b8))=>
   if (decide (s17<(a0.length:Int))) then
    jn (λ(j25:List b8)=>
     some (.inl (u4 (s17+1),j25))) (λκ24=>
     (ix a0 s17).bind λv26=>
     (dp v26).bind λv27=>
     if v27 then
      (app 56 s18 [v26]).bind λv28=>
      κ24 v28
     else
     κ24 s18)
   else
   some (.inr s18)) (0,[])).bind λe16=>
  κ14 e16)
def lg(a0:a8):Option a8:=
 some a0
def iO(a0:g8):Option Int:=
 some a0.Val
def B7(a0:List g8):Option (List Int):=
 jn (λ(j10:List Int)=>
  some j10) (λκ9=>
  (lp (S:=Int × (List Int)) (E:=(List Int)) (λ((s12,s13):Int × (List Int))=>
   if (decide (s12<(a0.length:Int))) then
    (ix a0 s12).bind λv16=>
    (iO v16).bind λv17=>
    (app 8 s13 [v17]).bind λv18=>
    some (.inl (u4 (s12+1),v18))
   else
   some (.inr s13)) (0,[])).bind λe11=>
  κ9 e11)
def lJ(a0:b8):Option Bool:=
 some a0.Alive
def B1(a0:List b8):Option (List b8):=
 jn (λ(j15:List b8)=>
  some j15) (λκ14=>
  (lp (S:=Int × (List b8)) (E:=(List b8)) (λ((s17,s18):Int × (List b8))=>
   if (decide (s17<(a0.length:Int))) then
    jn (λ(j25:List b8)=>
     some (.inl (u4 (s17+1),j25))) (λκ24=>
     (ix a0 s17).bind λv26=>
     (lJ v26).bind λv27=>
     if v27 then
      (app 56 s18 [v26]).bind λv28=>
      κ24 v28
     else
     κ24 s18)
   else
   some (.inr s18)) (0,[])).bind λe16=>
  κ14 e16)
def ax(a0:a8)(a1:Int):Option Int:=
 jn (λ(j33:Int)=>
  some j33) (λκ32=>
  (lg a0).bind λv34=>
  (B7 v34.Pairs).bind λv35=>
  (X0 v34).bind λv36=>
  (gy v36).bind λv37=>
  jn (λ(j47:List (List Int))=>
   (F9 j47).bind λv48=>
   (lp (S:=Int × Int) (E:=Int) (λ((s50,s51):Int × Int)=>
    if (decide (s50<(v48.length:Int))) then
     (ix v48 s50).bind λv54=>
     jn (λ(j56:Int)=>
      some (.inl (u4 (s50+1),j56))) (λκ55=>
      if ((a1 != 0)&&(v54==a1)) then
       κ55 (u4 (s51+1))
      else
      κ55 s51)
    else
    some (.inr s51)) (0,0)).bind λe49=>
   κ32 e49) (λκ46=>
   (B1 v34.Nodes).bind λv57=>
   (lp (S:=Int × (List (List Int))) (E:=(List (List Int))) (λ((s59,s60):Int × (List (List Int)))=>
    if (decide (s59<(v57.length:Int))) then
     (ix v57 s59).bind λv63=>
     (app 24 s60 [v63.Fields]).bind λv64=>
     some (.inl (u4 (s59+1),v64))
    else
    some (.inr s60)) (0,[v34.Roots,v35,v37])).bind λe58=>
   κ46 e58))
def p8(a0:List b8):Option (List b8):=
 app 56 [] a0
def nC(a0:b8):Option b8:=
 some (⟨a0.Serial,a0.Slot,a0.Prog,a0.Started,a0.Alive,true,a0.Fields⟩:b8)
def R4(a0:a8)(a1:Int):Option a8:=
 (J6 a0 a1).bind λv1=>
 (p8 a0.Nodes).bind λv2=>
 (ix v2 v1).bind λv3=>
 (nC v3).bind λv4=>
 some (⟨(v2.set (v1).toNat v4),a0.Slots,a0.Gens,a0.Last,a0.Places,a0.Serial,a0.Roots,a0.b7,a0.Pairs,a0.Tasks,a0.Progs⟩:a8)
def dR(a0:a8)(a1:Int):Option a8:=
 (ax a0 a1).bind λv1=>
 if (decide (v1<11)) then
  some a0
 else
 (R4 a0 a1).bind λv2=>
 some v2
def iS(a0:b8):Option b8:=
 some (⟨a0.Serial,a0.Slot,a0.Prog,true,a0.Alive,a0.Stuck,a0.Fields⟩:b8)
def N7(a0:a8)(a1:Int):Option a8:=
 (J6 a0 a1).bind λv1=>
 (p8 a0.Nodes).bind λv2=>
 (ix v2 v1).bind λv3=>
 (iS v3).bind λv4=>
 some (⟨(v2.set (v1).toNat v4),a0.Slots,a0.Gens,a0.Last,a0.Places,a0.Serial,a0.Roots,a0.b7,a0.Pairs,a0.Tasks,a0.Progs⟩:a8)
def G7(a0:List g6):Option (List g6):=
 app 24 [] a0
def bb(a0:a8)(a1:Int):Option a8:=
 (dR a0 a1).bind λv1=>
 (J6 v1 a1).bind λv2=>
 (ix v1.Nodes v2).bind λv3=>
 (N7 v1 a1).bind λv4=>
 (G7 v4.Tasks).bind λv5=>
 (app 24 v5 [(⟨1,a1,v3.Prog⟩:g6)]).bind λv6=>
 some (⟨v4.Nodes,v4.Slots,v4.Gens,v4.Last,v4.Places,v4.Serial,v4.Roots,v4.b7,v4.Pairs,v6,v4.Progs⟩:a8)
def H4(a0:List Int)(a1:Int):Option Int:=
 jn (λ(_:Unit)=>
  some (-1)) (λκ5=>
  (lp (S:=Int) (E:=Int ⊕ Unit) (λ(s8:Int)=>
   if (decide (s8<(a0.length:Int))) then
    (ix a0 s8).bind λv10=>
    if (a1==v10) then
     some (.inr (.inl s8))
    else
    some (.inl (u4 (s8+1)))
   else
   some (.inr (.inr ()))) 0).bind λe7=>
  match e7 with
  | .inl w=>some w
  | .inr w=>κ5 w)
def E5(a0:List Int)(a1:Int):Option Bool:=
 (H4 a0 a1).bind λv1=>
 some (decide (v1>=0))
def cP(a0:k8)(a1:List Int):Option Bool:=
 (B9 ((a0.Intact&&(a0.Target != 0))==true) false (E5 a1 a0.Target)).bind λv1=>
 some ((a0.Intact&&(a0.Target != 0))&&v1)
def M8(a0:List k8)(a1:List Int):Option (List Int):=
 jn (λ(j15:List Int)=>
  some j15) (λκ14=>
  (lp (S:=Int × (List Int)) (E:=(List Int)) (λ((s17,s18):Int × (List Int))=>
   if (decide (s17<(a0.length:Int))) then
    jn (λ(j25:List Int)=>
     some (.inl (u4 (s17+1),j25))) (λκ24=>
     (ix a0 s17).bind λv26=>
     (cP v26 a1).bind λv27=>
     if v27 then
      (app 8 s18 [s17]).bind λv28=>
      κ24 v28
     else
     κ24 s18)
   else
   some (.inr s18)) (0,[])).bind λe16=>
  κ14 e16)
def ck(a0:List k8):Option (List k8):=
 (mk 24 (a0.length:Int) (⟨0,false,0⟩:k8)).bind λv1=>
 (xC v1 a0).bind λv2=>
 some v2
def gB(a0:List k8)(a1:List Int):Option ((List k8) × (List Int)):=
 (M8 a0 a1).bind λv1=>
 (ck a0).bind λv2=>
 jn (λ((j22,j23):(List Int) × (List k8))=>
  some (j23,j22)) (λκ21=>
  (lp (S:=Int × (List k8) × (List Int)) (E:=((List Int) × (List k8))) (λ((s26,s27,s28):Int × (List k8) × (List Int))=>
   if (decide (s26<(v1.length:Int))) then
    jn (λ((j36,j37):(List Int) × (List k8))=>
     some (.inl (u4 (s26+1),j37,j36))) (λκ35=>
     (ix v1 s26).bind λv39=>
     (ix s27 v39).bind λv40=>
     (ix (s27.set (v39).toNat (⟨v40.Target,false,v40.Call⟩:k8)) v39).bind λv41=>
     if (decide (v41.Call>=0)) then
      (app 8 s28 [v39]).bind λv42=>
      κ35 (v42,(s27.set (v39).toNat (⟨v40.Target,false,v40.Call⟩:k8)))
     else
     κ35 (s28,(s27.set (v39).toNat (⟨v40.Target,false,v40.Call⟩:k8))))
   else
   some (.inr (s28,s27))) (0,v2,[])).bind λe25=>
  κ21 e25)
def fm(a0:Int)(a1:List k8):Option g6:=
 (ix a1 a0).bind λv1=>
 some (⟨2,a0,v1.Call⟩:g6)
def C2(a0:List Int)(a1:List k8):Option (List g6):=
 jn (λ(j10:List g6)=>
  some j10) (λκ9=>
  (lp (S:=Int × (List g6)) (E:=(List g6)) (λ((s12,s13):Int × (List g6))=>
   if (decide (s12<(a0.length:Int))) then
    (ix a0 s12).bind λv16=>
    (fm v16 a1).bind λv17=>
    (app 24 s13 [v17]).bind λv18=>
    some (.inl (u4 (s12+1),v18))
   else
   some (.inr s13)) (0,[])).bind λe11=>
  κ9 e11)
def F6(a0:List (List g6)):Option (List g6):=
 jn (λ(j11:Int)=>
  jn (λ(_:Unit)=>
   if (decide ((u4 (j11-(u4 (0-0)))) > 0)) then
    (mk 24 (u4 (j11-(u4 (0-0)))) (⟨0,0,0⟩:g6)).bind λv14=>
    jn (λ(j23:List g6)=>
     some j23) (λκ22=>
     (lp (S:=Int × (List g6)) (E:=(List g6)) (λ((s25,s26):Int × (List g6))=>
      if (decide (s25<(a0.length:Int))) then
       (ix a0 s25).bind λv29=>
       (app 24 s26 v29).bind λv30=>
       some (.inl (u4 (s25+1),v30))
      else
      some (.inr s26)) (0,[])).bind λe24=>
     κ22 e24)
   else
   jn (λ(j39:List g6)=>
    some j39) (λκ38=>
    (lp (S:=Int × (List g6)) (E:=(List g6)) (λ((s41,s42):Int × (List g6))=>
     if (decide (s41<(a0.length:Int))) then
      (ix a0 s41).bind λv45=>
      (app 24 s42 v45).bind λv46=>
      some (.inl (u4 (s41+1),v46))
     else
     some (.inr s42)) (0,[])).bind λe40=>
    κ38 e40)) (λκ12=>
   if (decide (j11<0)) then
    none
   else
   κ12 ())) (λκ10=>
  (lp (S:=Int × Int) (E:=Int) (λ((s48,s49):Int × Int)=>
   if (decide (s49<(a0.length:Int))) then
    jn (λ(j54:Int)=>
     some (.inl (j54,u4 (s49+1)))) (λκ53=>
     (ix a0 s49).bind λv55=>
     if (decide ((u4 (s48+(v55.length:Int)))<0)) then
      none
     else
     κ53 (u4 (s48+(v55.length:Int))))
   else
   some (.inr s48)) (0,0)).bind λe47=>
  κ10 e47)
def fp(a0:g8)(a1:List Int):Option Bool:=
 (E5 a1 a0.Key).bind λv1=>
 some (!v1)
def D3(a0:List g8)(a1:List Int):Option (List g8):=
 jn (λ(j15:List g8)=>
  some j15) (λκ14=>
  (lp (S:=Int × (List g8)) (E:=(List g8)) (λ((s17,s18):Int × (List g8))=>
   if (decide (s17<(a0.length:Int))) then
    jn (λ(j25:List g8)=>
     some (.inl (u4 (s17+1),j25))) (λκ24=>
     (ix a0 s17).bind λv26=>
     (fp v26 a1).bind λv27=>
     if v27 then
      (app 16 s18 [v26]).bind λv28=>
      κ24 v28
     else
     κ24 s18)
   else
   some (.inr s18)) (0,[])).bind λe16=>
  κ14 e16)
def jZ(a0:b8):Option b8:=
 some (⟨a0.Serial,a0.Slot,a0.Prog,a0.Started,false,a0.Stuck,[]⟩:b8)
def D1(a0:a8)(a1:Int):Option a8:=
 (J6 a0 a1).bind λv1=>
 (p8 a0.Nodes).bind λv2=>
 (ix v2 v1).bind λv3=>
 (jZ v3).bind λv4=>
 some (⟨(v2.set (v1).toNat v4),a0.Slots,a0.Gens,a0.Last,a0.Places,a0.Serial,a0.Roots,a0.b7,a0.Pairs,a0.Tasks,a0.Progs⟩:a8)
def gT(a0:k8)(a1:Int):Option Bool:=
 some ((a1 != 0)&&(a0.Target==a1))
def U3(a0:List k8)(a1:Int):Option (List Int):=
 jn (λ(j15:List Int)=>
  some j15) (λκ14=>
  (lp (S:=Int × (List Int)) (E:=(List Int)) (λ((s17,s18):Int × (List Int))=>
   if (decide (s17<(a0.length:Int))) then
    jn (λ(j25:List Int)=>
     some (.inl (u4 (s17+1),j25))) (λκ24=>
     (ix a0 s17).bind λv26=>
     (gT v26 a1).bind λv27=>
     if v27 then
      (app 8 s18 [s17]).bind λv28=>
      κ24 v28
     else
     κ24 s18)
   else
   some (.inr s18)) (0,[])).bind λe16=>
  κ14 e16)
def eI(a0:List k8)(a1:Int):Option Int:=
 (U3 a0 a1).bind λv1=>
 some (v1.length:Int)
def cE(a0:b8)(a1:Int):Option Bool:=
 some (a0.Serial != a1)
def C7(a0:List b8)(a1:Int):Option (List b8):=
 jn (λ(j15:List b8)=>
  some j15) (λκ14=>
  (lp (S:=Int × (List b8)) (E:=(List b8)) (λ((s17,s18):Int × (List b8))=>
   if (decide (s17<(a0.length:Int))) then
    jn (λ(j25:List b8)=>
     some (.inl (u4 (s17+1),j25))) (λκ24=>
     (ix a0 s17).bind λv26=>
     (cE v26 a1).bind λv27=>
     if v27 then
      (app 56 s18 [v26]).bind λv28=>
      κ24 v28
     else
     κ24 s18)
   else
   some (.inr s18)) (0,[])).bind λe16=>
  κ14 e16)
def y8(a0:List Int):Option (List Int):=
 app 8 [] a0
def P3(a0:a8)(a1:Int):Option a8:=
 (J6 a0 a1).bind λv1=>
 (B9 ((decide (v1<0))==false) (⟨0,0,0,false,false,false,[]⟩:b8) (ix a0.Nodes v1)).bind λv2=>
 (B9 (((decide (v1<0))||v2.Alive)==false) 0 (eI a0.b7 a1)).bind λv3=>
 if (((decide (v1<0))||v2.Alive)||(decide (v3 > 0))) then
  some a0
 else
 (ix a0.Nodes v1).bind λv4=>
 (C7 a0.Nodes a1).bind λv5=>
 (y8 a0.Slots).bind λv6=>
 (y8 a0.Gens).bind λv7=>
 (ix v7 v4.Slot).bind λv8=>
 if (v8==a0.Last) then
  (ix v6 v4.Slot).bind λv9=>
  some (⟨v5,(v6.set (v4.Slot).toNat (-1)),v7,a0.Last,a0.Places,a0.Serial,a0.Roots,a0.b7,a0.Pairs,a0.Tasks,a0.Progs⟩:a8)
 else
 (ix v6 v4.Slot).bind λv10=>
 some (⟨v5,(v6.set (v4.Slot).toNat 0),(v7.set (v4.Slot).toNat (u4 (v8+1))),a0.Last,a0.Places,a0.Serial,a0.Roots,a0.b7,a0.Pairs,a0.Tasks,a0.Progs⟩:a8)
def fk(a0:a8)(a1:List Int):Option a8:=
 (gB a0.b7 a1).bind λv1=>
 (C2 v1.2 v1.1).bind λv2=>
 (F6 [a0.Tasks,v2]).bind λv3=>
 (D3 a0.Pairs a1).bind λv4=>
 jn (λ(j14:a8)=>
  some j14) (λκ13=>
  (lp (S:=Int × a8) (E:=a8) (λ((s16,s17):Int × a8)=>
   if (decide (s16<(a1.length:Int))) then
    (ix a1 s16).bind λv20=>
    (D1 s17 v20).bind λv21=>
    (P3 v21 v20).bind λv22=>
    some (.inl (u4 (s16+1),v22))
   else
   some (.inr s17)) (0,(⟨a0.Nodes,a0.Slots,a0.Gens,a0.Last,a0.Places,a0.Serial,a0.Roots,v1.1,v4,v3,a0.Progs⟩:a8))).bind λe15=>
  κ13 e15)
def aU(a0:b8)(a1:a8):Option Bool:=
 (B9 ((a0.Alive&&(!a0.Stuck))==true) 0 (ax a1 a0.Serial)).bind λv1=>
 some ((a0.Alive&&(!a0.Stuck))&&(v1==0))
def x8(a0:List b8)(a1:a8):Option Int:=
 jn (λ(_:Unit)=>
  some (-1)) (λκ6=>
  (lp (S:=Int) (E:=Int ⊕ Unit) (λ(s9:Int)=>
   if (decide (s9<(a0.length:Int))) then
    (ix a0 s9).bind λv11=>
    (aU v11 a1).bind λv12=>
    if v12 then
     some (.inr (.inl s9))
    else
    some (.inl (u4 (s9+1)))
   else
   some (.inr (.inr ()))) 0).bind λe8=>
  match e8 with
  | .inl w=>some w
  | .inr w=>κ6 w)
def H6(a0:a8):Option a8:=
 (lp (S:=a8) (E:=a8) (λ(s2:a8)=>
  (x8 s2.Nodes s2).bind λv4=>
  if (decide (v4<0)) then
   some (.inr s2)
  else
  (ix s2.Nodes v4).bind λv5=>
  (dp v5).bind λv6=>
  if v6 then
   (bb s2 v5.Serial).bind λv7=>
   some (.inl v7)
  else
  (fk s2 [v5.Serial]).bind λv8=>
  some (.inl v8)) a0).bind λe1=>
 some e1
def aw(a0:a8):Option (List Int):=
 (B1 a0.Nodes).bind λv1=>
 (J2 v1).bind λv2=>
 some v2
def dB(a0:a8):Option (a8 × g9):=
 (gP a0).bind λv1=>
 (C3 a0.Nodes v1).bind λv2=>
 (D6 v2).bind λv3=>
 (J2 v3).bind λv4=>
 jn (λ(j13:a8)=>
  if (decide ((v4.length:Int) > 0)) then
   some (j13,(⟨u4 (0-(v4.length:Int)),0⟩:g9))
  else
  (J2 v2).bind λv14=>
  (fk j13 v14).bind λv15=>
  (H6 v15).bind λv16=>
  (aw j13).bind λv17=>
  (aw v16).bind λv18=>
  some (v16,(⟨u4 ((v17.length:Int)-(v18.length:Int)),0⟩:g9))) (λκ12=>
  (lp (S:=Int × a8) (E:=a8) (λ((s20,s21):Int × a8)=>
   if (decide (s20<(v4.length:Int))) then
    (ix v4 s20).bind λv24=>
    (bb s21 v24).bind λv25=>
    some (.inl (u4 (s20+1),v25))
   else
   some (.inr s21)) (0,a0)).bind λe19=>
  κ12 e19)
def dH(a0:List (List g7))(a1:Int):Option (List g7):=
 if ((decide (a1<0))||(decide (a1>=(a0.length:Int)))) then
  some []
 else
 (ix a0 a1).bind λv1=>
 some v1
def bO(a0:List (List g7))(a1:g6):Option Int:=
 (dH a0 a1.Prog).bind λv1=>
 some (u4 (1+(v1.length:Int)))
def V9(a0:a8)(a1:Int)(a2:Int):Option a8:=
 (dR a0 a2).bind λv1=>
 (y8 v1.Roots).bind λv2=>
 (ix v2 a1).bind λv3=>
 some (⟨v1.Nodes,v1.Slots,v1.Gens,v1.Last,v1.Places,v1.Serial,(v2.set (a1).toNat a2),v1.b7,v1.Pairs,v1.Tasks,v1.Progs⟩:a8)
def M2(a0:j5):Option Int:=
 some (a0.L.length:Int)
def H3(a0:List g6)(a1:Int)(a2:Int):Option (List g6):=
 (cut a0 a1 a2).bind λv1=>
 some v1
def bu(a0:j5)(a1:Int):Option (j5 × (List g6)):=
 (M2 a0).bind λv1=>
 (H3 a0.L 0 (if (if v1<a1 then v1 else a1) > 0 then (if v1<a1 then v1 else a1) else 0)).bind λv2=>
 (H3 a0.L (if (if v1<a1 then v1 else a1) > 0 then (if v1<a1 then v1 else a1) else 0) v1).bind λv3=>
 some ((⟨v3,a0.Cap⟩:j5),v2)
def da(a0:j5):Option (j5 × g6 × Int):=
 (bu a0 1).bind λv1=>
 if ((v1.2.length:Int)==0) then
  some (a0,(⟨0,0,0⟩:g6),10)
 else
 (ix v1.2 0).bind λv2=>
 some (v1.1,v2,0)
def bg(a0:j5):Option (j5 × g6 × Int):=
 (da a0).bind λv1=>
 some (v1.1,v1.2.1,v1.2.2)
def T8(a0:a8)(a1:Int):Option Int:=
 if (decide (a1<0)) then
  some 0
 else
 (ix a0.Roots a1).bind λv1=>
 some v1
def O7(a0:a8)(a1:Int):Option (b8 × Int):=
 (T8 a0 a1).bind λv1=>
 if (v1==0) then
  some ((⟨0,0,0,false,false,false,[]⟩:b8),2)
 else
 (J6 a0 v1).bind λv2=>
 (ix a0.Nodes v2).bind λv3=>
 some (v3,0)
def gS(a0:List Int)(a1:Int):Option Bool:=
 some ((decide (a1>=0))&&(decide (a1<(a0.length:Int))))
def mR(a0:List Int)(a1:Int)(a2:Int):Option ((List Int) × Int):=
 (gS a0 a1).bind λv1=>
 if (!v1) then
  some (a0,5)
 else
 (mk 8 (a0.length:Int) (0:Int)).bind λv2=>
 (xC v2 a0).bind λv3=>
 (ix v3 a1).bind λv4=>
 some ((v3.set (a1).toNat a2),0)
def fy(a0:b8)(a1:List Int):Option b8:=
 some (⟨a0.Serial,a0.Slot,a0.Prog,a0.Started,a0.Alive,a0.Stuck,a1⟩:b8)
def P2(a0:a8)(a1:Int)(a2:List Int):Option a8:=
 (J6 a0 a1).bind λv1=>
 (p8 a0.Nodes).bind λv2=>
 (ix v2 v1).bind λv3=>
 (fy v3 a2).bind λv4=>
 some (⟨(v2.set (v1).toNat v4),a0.Slots,a0.Gens,a0.Last,a0.Places,a0.Serial,a0.Roots,a0.b7,a0.Pairs,a0.Tasks,a0.Progs⟩:a8)
def jl(a0:a8)(a1:Int)(a2:g7):Option (a8 × Int):=
 (O7 a0 a2.A).bind λv1=>
 if (v1.2 != 0) then
  some (a0,v1.2)
 else
 (mR v1.1.Fields a2.B a1).bind λv2=>
 if (v2.2 != 0) then
  some (a0,v2.2)
 else
 (dR a0 a1).bind λv3=>
 (P2 v3 v1.1.Serial v2.1).bind λv4=>
 some (v4,0)
def K3(a0:a8)(a1:Int)(a2:g7):Option (a8 × g9):=
 (jl a0 a1 a2).bind λv1=>
 if (v1.2 != 0) then
  some (a0,(⟨0,v1.2⟩:g9))
 else
 (H6 v1.1).bind λv2=>
 some (v2,(⟨a1,0⟩:g9))
def aN(a0:j5)(a1:Int):Option Bool:=
 jn (λ(_:Unit)=>
  some false) (λκ6=>
  (qJ a0 2).bind λv8=>
  (lp (S:=Int) (E:=Bool ⊕ Unit) (λ(s10:Int)=>
   if (decide (s10<(v8.1.L.length:Int))) then
    (ix v8.1.L s10).bind λv12=>
    if ((v12.Kind==v8.2)==true) then
     if (v12.At==a1) then
      some (.inr (.inl true))
     else
     some (.inl (u4 (s10+1)))
    else
    some (.inl (u4 (s10+1)))
   else
   some (.inr (.inr ()))) 0).bind λe9=>
  match e9 with
  | .inl w=>some w
  | .inr w=>κ6 w)
def ky(a0:List k8)(a1:Int):Option Bool:=
 some ((decide (a1>=0))&&(decide (a1<(a0.length:Int))))
def kr(a0:List k8)(a1:Int)(a2:Int)(a3:Int):Option ((List k8) × Int × Int):=
 (ky a0 a1).bind λv1=>
 if (!v1) then
  some (a0,0,7)
 else
 (ck a0).bind λv2=>
 (ix v2 a1).bind λv3=>
 (ix a0 a1).bind λv4=>
 some ((v2.set (a1).toNat (⟨a2,(a2 != 0),a3⟩:k8)),v4.Target,0)
def fz(a0:a8)(a1:Int)(a2:g7):Option (a8 × Int):=
 if ((decide (a2.B>=0))&&(a1==0)) then
  some (a0,2)
 else
 (X0 a0).bind λv1=>
 (aN v1 a2.A).bind λv2=>
 if v2 then
  some (a0,7)
 else
 (kr a0.b7 a2.A a1 a2.C).bind λv3=>
 if (v3.2.2 != 0) then
  some (a0,v3.2.2)
 else
 (P3 (⟨a0.Nodes,a0.Slots,a0.Gens,a0.Last,a0.Places,a0.Serial,a0.Roots,v3.1,a0.Pairs,a0.Tasks,a0.Progs⟩:a8) v3.2.1).bind λv4=>
 some (v4,0)
def I7(a0:a8)(a1:Int)(a2:g7):Option (a8 × g9):=
 (fz a0 a1 a2).bind λv1=>
 if (v1.2 != 0) then
  some (a0,(⟨0,v1.2⟩:g9))
 else
 (H6 v1.1).bind λv2=>
 some (v2,(⟨a1,0⟩:g9))
def fw(a0:g8)(a1:b8):Option Bool:=
 some (a0.Key != a1.Serial)
def D4(a0:List g8)(a1:b8):Option (List g8):=
 jn (λ(j15:List g8)=>
  some j15) (λκ14=>
  (lp (S:=Int × (List g8)) (E:=(List g8)) (λ((s17,s18):Int × (List g8))=>
   if (decide (s17<(a0.length:Int))) then
    jn (λ(j25:List g8)=>
     some (.inl (u4 (s17+1),j25))) (λκ24=>
     (ix a0 s17).bind λv26=>
     (fw v26 a1).bind λv27=>
     if v27 then
      (app 16 s18 [v26]).bind λv28=>
      κ24 v28
     else
     κ24 s18)
   else
   some (.inr s18)) (0,[])).bind λe16=>
  κ14 e16)
def jk(a0:a8)(a1:Int)(a2:g7):Option (a8 × Int):=
 (O7 a0 a2.A).bind λv1=>
 if (v1.2 != 0) then
  some (a0,v1.2)
 else
 (D4 a0.Pairs v1.1).bind λv2=>
 if (a1==0) then
  some ((⟨a0.Nodes,a0.Slots,a0.Gens,a0.Last,a0.Places,a0.Serial,a0.Roots,a0.b7,v2,a0.Tasks,a0.Progs⟩:a8),0)
 else
 if (decide ((v2.length:Int)>=a0.Places)) then
  some (a0,8)
 else
 (dR a0 a1).bind λv3=>
 (app 16 v2 [(⟨v1.1.Serial,a1⟩:g8)]).bind λv4=>
 some ((⟨v3.Nodes,v3.Slots,v3.Gens,v3.Last,v3.Places,v3.Serial,v3.Roots,v3.b7,v4,v3.Tasks,v3.Progs⟩:a8),0)
def K2(a0:a8)(a1:Int)(a2:g7):Option (a8 × g9):=
 (jk a0 a1 a2).bind λv1=>
 if (v1.2 != 0) then
  some (a0,(⟨0,v1.2⟩:g9))
 else
 (H6 v1.1).bind λv2=>
 some (v2,(⟨a1,0⟩:g9))
def qM(a0:Int):Option ((List Int) × Int):=
 if ((decide (a0<0))||(decide (a0 > 4))) then
  some ([],1)
 else
 (mk 8 a0 (0:Int)).bind λv1=>
 some (v1,0)
def aI(a0:a8)(a1:Int)(a2:Int):Option (a8 × g9):=
 (V9 a0 a1 a2).bind λv1=>
 (H6 v1).bind λv2=>
 (ix v2.Roots a1).bind λv3=>
 some (v2,(⟨v3,0⟩:g9))
def dm(a0:a8)(a1:g7):Option (a8 × g9):=
 (qM a1.B).bind λv1=>
 if (v1.2 != 0) then
  some (a0,(⟨0,v1.2⟩:g9))
 else
 (H4 a0.Slots 0).bind λv2=>
 if (decide (v2<0)) then
  some (a0,(⟨0,4⟩:g9))
 else
 (y8 a0.Slots).bind λv3=>
 (ix v3 v2).bind λv4=>
 (p8 a0.Nodes).bind λv5=>
 (app 56 v5 [(⟨u4 (a0.Serial+1),v2,a1.C,false,true,false,v1.1⟩:b8)]).bind λv6=>
 (aI (⟨v6,(v3.set (v2).toNat (u4 (a0.Serial+1))),a0.Gens,a0.Last,a0.Places,u4 (a0.Serial+1),a0.Roots,a0.b7,a0.Pairs,a0.Tasks,a0.Progs⟩:a8) a1.A (u4 (a0.Serial+1))).bind λv7=>
 some (v7.1,v7.2)
def iW(a0:List Int)(a1:Int):Option (Int × Int):=
 (gS a0 a1).bind λv1=>
 if (!v1) then
  some (0,5)
 else
 (ix a0 a1).bind λv2=>
 some (v2,0)
def cQ(a0:List k8)(a1:Int):Option (Int × Int):=
 (ky a0 a1).bind λv1=>
 if (!v1) then
  some (0,7)
 else
 (ix a0 a1).bind λv2=>
 if ((v2.Target==0)||(!v2.Intact)) then
  some (0,9)
 else
 some (v2.Target,0)
def bR(a0:a8)(a1:g7):Option (Int × Int):=
 if (a1.Kind==2) then
  (ix a0.Roots a1.B).bind λv1=>
  some (v1,0)
 else
 if (a1.Kind==4) then
  (O7 a0 a1.B).bind λv2=>
  if (v2.2 != 0) then
   some (0,v2.2)
  else
  (iW v2.1.Fields a1.C).bind λv3=>
  some (v3.1,v3.2)
 else
 if (a1.Kind==7) then
  (cQ a0.b7 a1.B).bind λv4=>
  some (v4.1,v4.2)
 else
 if (a1.Kind==9) then
  (O7 a0 a1.B).bind λv5=>
  if (v5.2 != 0) then
   some (0,v5.2)
  else
  (P4 a0 v5.1.Serial).bind λv6=>
  if (decide ((v6.length:Int) > 0)) then
   (ix v6 0).bind λv7=>
   some (v7,0)
  else
  some (0,9)
 else
 some (0,0)
def bS(a0:a8)(a1:g7):Option (a8 × g9):=
 if (a1.Kind==10) then
  (ix a0.Roots a1.A).bind λv1=>
  (ix a0.Roots a1.B).bind λv2=>
  if (v1==v2) then
   some (a0,(⟨1,0⟩:g9))
  else
  some (a0,(⟨0,0⟩:g9))
 else
 if (a1.Kind==5) then
  (T8 a0 a1.C).bind λv3=>
  (K3 a0 v3 a1).bind λv4=>
  some (v4.1,v4.2)
 else
 if (a1.Kind==6) then
  (T8 a0 a1.B).bind λv5=>
  (I7 a0 v5 a1).bind λv6=>
  some (v6.1,v6.2)
 else
 if (a1.Kind==8) then
  (T8 a0 a1.B).bind λv7=>
  (K2 a0 v7 a1).bind λv8=>
  some (v8.1,v8.2)
 else
 if (a1.Kind==1) then
  (dm a0 a1).bind λv9=>
  some (v9.1,v9.2)
 else
 (bR a0 a1).bind λv10=>
 if (v10.2 != 0) then
  some (a0,(⟨0,v10.2⟩:g9))
 else
 (aI a0 a1.A v10.1).bind λv11=>
 some (v11.1,v11.2)
def jB(a0:a8)(a1:List g7):Option a8:=
 jn (λ(j9:a8)=>
  some j9) (λκ8=>
  (lp (S:=Int × a8) (E:=a8) (λ((s11,s12):Int × a8)=>
   if (decide (s11<(a1.length:Int))) then
    (ix a1 s11).bind λv15=>
    (bS s12 v15).bind λv16=>
    some (.inl (u4 (s11+1),v16.1))
   else
   some (.inr s12)) (0,a0)).bind λe10=>
  κ8 e10)
def dt(a0:a8)(a1:g6):Option a8:=
 jn (λ(j3:a8)=>
  (X0 j3).bind λv4=>
  (bg v4).bind λv5=>
  jn (λ(j8:a8)=>
   (dH j8.Progs a1.Prog).bind λv9=>
   (jB j8 v9).bind λv10=>
   if (a1.Kind==1) then
    (V9 v10 5 0).bind λv11=>
    (H6 v11).bind λv12=>
    some v12
   else
   some v10) (λκ7=>
   if (a1.Kind==1) then
    (H6 (⟨j3.Nodes,j3.Slots,j3.Gens,j3.Last,j3.Places,j3.Serial,j3.Roots,j3.b7,j3.Pairs,v5.1.L,j3.Progs⟩:a8)).bind λv13=>
    κ7 v13
   else
   κ7 (⟨j3.Nodes,j3.Slots,j3.Gens,j3.Last,j3.Places,j3.Serial,j3.Roots,j3.b7,j3.Pairs,v5.1.L,j3.Progs⟩:a8))) (λκ2=>
  if (a1.Kind==1) then
   (V9 a0 5 a1.At).bind λv14=>
   κ2 v14
  else
  κ2 a0)
def gO(a0:a8)(a1:Int):Option (a8 × g9):=
 jn (λ((j11,j12):Int × a8)=>
  some (j12,(⟨j11,0⟩:g9))) (λκ10=>
  (lp (S:=Int × Int × a8) (E:=(a8 × g9) ⊕ (Int × a8)) (λ((s15,s16,s17):Int × Int × a8)=>
   if (decide ((s17.Tasks.length:Int) > 0)) then
    (ix s17.Tasks 0).bind λv20=>
    (bO s17.Progs v20).bind λv21=>
    if (decide (v21 > s15)) then
     some (.inr (.inl (s17,(⟨s16,12⟩:g9))))
    else
    (dt s17 v20).bind λv22=>
    some (.inl (u4 (s15-v21),u4 (s16+1),v22))
   else
   some (.inr (.inr (s16,s17)))) (a1,0,a0)).bind λe14=>
  match e14 with
  | .inl w=>some w
  | .inr w=>κ10 w)
def pH(a0:a8)(a1:List Int):Option (a8 × g9):=
 (V4 a1).bind λv1=>
 if (v1.2 != 0) then
  some (a0,(⟨0,v1.2⟩:g9))
 else
 if (v1.1.Kind==11) then
  (dB a0).bind λv2=>
  some (v2.1,v2.2)
 else
 if (v1.1.Kind==12) then
  (gO a0 v1.1.A).bind λv3=>
  some (v3.1,v3.2)
 else
 (bS a0 v1.1).bind λv4=>
 some (v4.1,v4.2)
def ba(a0:a8)(a1:List (List Int)):Option (a8 × (List g9)):=
 jn (λ((j11,j12):a8 × (List g9))=>
  some (j11,j12)) (λκ10=>
  (lp (S:=Int × a8 × (List g9)) (E:=(a8 × (List g9))) (λ((s15,s16,s17):Int × a8 × (List g9))=>
   if (decide (s15<(a1.length:Int))) then
    (ix a1 s15).bind λv20=>
    (pH s16 v20).bind λv21=>
    (app 16 s17 [v21.2]).bind λv22=>
    some (.inl (u4 (s15+1),v21.1,v22))
   else
   some (.inr (s16,s17))) (0,a0,[])).bind λe14=>
  κ10 e14)
def np(a0:g7):Option Qg:=
 if (a0.Kind==11) then
  some (⟨166,[]⟩:Qg)
 else
 if (a0.Kind==12) then
  some (⟨170,[a0.A]⟩:Qg)
 else
 some (⟨162,[a0.Kind,a0.A,a0.B,a0.C]⟩:Qg)
def gL:Option (List (Int × Fv)):=
 some (p6 (p6 (p6 (p6 (p6 (p6 (p6 (p6 (p6 (p6 [] 1 (some 203)) 2 (some 204)) 3 (some 205)) 4 (some 206)) 5 (some 207)) 6 (some 208)) 7 (some 209)) 8 (some 210)) 9 (some 211)) 10 (some 212))
def W4(a0:Int):Option Bool:=
 some ((decide (a0>=(-1)))&&(decide (a0<6)))
def R1(a0:l4):Option l4:=
 some a0
def y9(a0:List c8):Option (List c8):=
 app 80 [] a0
def E4(a0:l4)(a1:Int)(a2:c8):Option l4:=
 (y9 a0.b7).bind λv1=>
 (ix v1 a1).bind λv2=>
 some (⟨(v1.set (a1).toNat a2),a0.Last⟩:l4)
def ee(a0:Int)(a1:Int):Option Int:=
 if ((((decide (a0<0))||(decide (a0>=24)))||(decide (a1<0)))||(decide (a1 > 9))) then
  some 0
 else
 some (u4 ((u4 (1+(u4 (a0*1))))+(u4 (a1*32))))
def M3(a0:l4)(a1:n0):Option (l4 × Int × Int):=
 jn (λ(_:Unit)=>
  some (a0,0,4)) (λκ9=>
  (R1 a0).bind λv11=>
  (lp (S:=Int) (E:=(l4 × Int × Int) ⊕ Unit) (λ(s13:Int)=>
   if (decide (s13<(v11.b7.length:Int))) then
    (ix v11.b7 s13).bind λv15=>
    if ((v15.State==0)==true) then
     (ix a0.b7 s13).bind λv16=>
     (E4 a0 s13 (⟨1,v16.Gen,a1⟩:c8)).bind λv17=>
     (ee s13 v16.Gen).bind λv18=>
     some (.inr (.inl (v17,v18,0)))
    else
    some (.inl (u4 (s13+1)))
   else
   some (.inr (.inr ()))) 0).bind λe12=>
  match e12 with
  | .inl w=>some w
  | .inr w=>κ9 w)
def X9(a0:b6)(a1:Int)(a2:Int):Option (b6 × Int × Int):=
 (qM a1).bind λv1=>
 if (v1.2 != 0) then
  some (a0,0,v1.2)
 else
 (W4 a2).bind λv2=>
 if (!v2) then
  some (a0,0,13)
 else
 (M3 a0.S (⟨u4 (a0.Serial+1),0,0,a2,false,v1.1⟩:n0)).bind λv3=>
 if (v3.2.2 != 0) then
  some (a0,0,v3.2.2)
 else
 some ((⟨v3.1,u4 (a0.Serial+1)⟩:b6),v3.2.1,0)
def eU(a0:Int):Option (Int × Int × Bool):=
 if (decide (a0<1)) then
  some ((-1),(-1),false)
 else
 (rem (u4 (a0-1)) 32).bind λv1=>
 (quo .i64 v1 1).bind λv2=>
 (quo .i64 (u4 (a0-1)) 32).bind λv3=>
 if ((decide (v2>=24))||(decide (v3 > 9))) then
  some ((-1),(-1),false)
 else
 some (v2,v3,true)
def hU(a0:Int):Option Int:=
 (eU a0).bind λv1=>
 some v1.1
def jS(a0:Int):Option Int:=
 (eU a0).bind λv1=>
 some v1.2.1
def x4(a0:l4)(a1:Int):Option (Int × Int):=
 if (a1==0) then
  some ((-1),2)
 else
 (hU a1).bind λv1=>
 if ((decide (v1<0))||(decide (v1>=(a0.b7.length:Int)))) then
  some ((-1),3)
 else
 (ix a0.b7 v1).bind λv2=>
 (jS a1).bind λv3=>
 if ((v2.Gen != v3)||((v2.State != 1)&&(v2.State != 2))) then
  some ((-1),3)
 else
 some (v1,0)
def F1(a0:l4)(a1:Int):Option (n0 × Int):=
 (x4 a0 a1).bind λv1=>
 if (v1.2 != 0) then
  some ((⟨0,0,0,0,false,[]⟩:n0),v1.2)
 else
 (ix a0.b7 v1.1).bind λv2=>
 if (v2.State==2) then
  some ((⟨0,0,0,0,false,[]⟩:n0),3)
 else
 some (v2.Val,0)
def w9(a0:b6)(a1:Int):Option (n0 × Int):=
 (F1 a0.S a1).bind λv1=>
 some (v1.1,v1.2)
def kW(a0:b9)(a1:Int):Option Bool:=
 (w9 a0.S a1).bind λv1=>
 some (v1.2==0)
def O4(a0:b9)(a1:Int):Option Bool:=
 (B9 ((a1==0)==false) false (kW a0 a1)).bind λv1=>
 some ((a1==0)||v1)
def I6(a0:Int):Option Bool:=
 some (decide (a0>=12))
def jP(a0:Int):Option (Int × Int):=
 (I6 a0).bind λv1=>
 if v1 then
  some (12,0)
 else
 some (u4 ((if 0 > a0 then 0 else a0)+1),0)
def qq(a0:Int):Option Int:=
 (jP a0).bind λv1=>
 some v1.1
def aM(a0:l4)(a1:Int)(a2:n0):Option (l4 × Int):=
 (x4 a0 a1).bind λv1=>
 if (v1.2 != 0) then
  some (a0,v1.2)
 else
 (ix a0.b7 v1.1).bind λv2=>
 (E4 a0 v1.1 (⟨v2.State,v2.Gen,a2⟩:c8)).bind λv3=>
 some (v3,0)
def T2(a0:b6)(a1:Int)(a2:n0):Option (b6 × Int):=
 (aM a0.S a1 a2).bind λv1=>
 some ((⟨v1.1,a0.Serial⟩:b6),v1.2)
def Z5(a0:b9)(a1:Int):Option b9:=
 (w9 a0.S a1).bind λv1=>
 if (v1.2==0) then
  (qq v1.1.Strong).bind λv2=>
  (T2 a0.S a1 (⟨v1.1.Serial,v2,v1.1.Weak,v1.1.Prog,v1.1.Started,v1.1.Fields⟩:n0)).bind λv3=>
  some (⟨v3.1,a0.Roots,a0.b7,a0.T,a0.Q⟩:b9)
 else
 some a0
def bQ(a0:b9)(a1:Int):Option b9:=
 (Z5 a0 a1).bind λv1=>
 some v1
def T6(a0:L3)(a1:b9):Option b9:=
 (y8 a1.Roots).bind λv1=>
 (ix v1 a0.r).bind λv2=>
 some (⟨a1.S,(v1.set (a0.r).toNat a0.h),a1.b7,a1.T,a1.Q⟩:b9)
def gb(a0:Int):Option (Int × Int):=
 (I6 a0).bind λv1=>
 if v1 then
  some (12,0)
 else
 if (decide (a0<1)) then
  some (0,11)
 else
 some (u4 (a0-1),0)
def vl(a0:Int):Option (Int × Int):=
 (gb a0).bind λv1=>
 some (v1.1,v1.2)
def eV(a0:Int):Option Int:=
 (vl a0).bind λv1=>
 if (v1.2 != 0) then
  some a0
 else
 some v1.1
def Q4(a0:b9)(a1:Int):Option b9:=
 (w9 a0.S a1).bind λv1=>
 if (v1.2==0) then
  (eV v1.1.Strong).bind λv2=>
  (T2 a0.S a1 (⟨v1.1.Serial,v2,v1.1.Weak,v1.1.Prog,v1.1.Started,v1.1.Fields⟩:n0)).bind λv3=>
  some (⟨v3.1,a0.Roots,a0.b7,a0.T,a0.Q⟩:b9)
 else
 some a0
def E3(a0:b9)(a1:Int):Option b9:=
 (Q4 a0 a1).bind λv1=>
 some v1
def G8(a0:b9)(a1:Int)(a2:Int)(a3:L3):Option b9:=
 (bQ a0 a2).bind λv1=>
 (T6 a3 v1).bind λv2=>
 (E3 v2 a1).bind λv3=>
 some v3
def cy(a0:b9)(a1:Int)(a2:Int):Option (b9 × Int):=
 if ((decide (a1<0))||(decide (a1>=(a0.Roots.length:Int)))) then
  some (a0,6)
 else
 (O4 a0 a2).bind λv1=>
 if (!v1) then
  some (a0,3)
 else
 (ix a0.Roots a1).bind λv2=>
 (G8 a0 v2 a2 (⟨a1,a2⟩:L3)).bind λv3=>
 some (v3,0)
def C5(a0:r8)(a1:Int)(a2:Int):Option (b9 × Int):=
 if (a2 != 0) then
  some (a0.x,a2)
 else
 (cy a0.x a0.o.A a1).bind λv1=>
 some (v1.1,v1.2)
def Y8(a0:r8):Option (b9 × Int):=
 (X9 a0.x.S a0.o.B a0.o.C).bind λv1=>
 if (v1.2.2 != 0) then
  some (a0.x,v1.2.2)
 else
 (C5 (⟨⟨v1.1,a0.x.Roots,a0.x.b7,a0.x.T,a0.x.Q⟩,a0.o⟩:r8) v1.2.1 0).bind λv2=>
 some (v2.1,v2.2)
def O6(a0:b9)(a1:Int):Option Int:=
 if ((decide (a1<0))||(decide (a1>=(a0.Roots.length:Int)))) then
  some 0
 else
 (ix a0.Roots a1).bind λv1=>
 some v1
def L5(a0:r8):Option (b9 × Int):=
 (O6 a0.x a0.o.B).bind λv1=>
 (C5 a0 v1 0).bind λv2=>
 some (v2.1,v2.2)
def bE(a0:r8):Option (b9 × Int):=
 (C5 a0 0 0).bind λv1=>
 some (v1.1,v1.2)
def P1(a0:b9)(a1:Int):Option (Int × Int):=
 (O6 a0 a1).bind λv1=>
 if (v1==0) then
  some (0,2)
 else
 some (v1,0)
def K1(a0:b6)(a1:Int)(a2:Int):Option (Int × Int):=
 (w9 a0 a1).bind λv1=>
 if (v1.2 != 0) then
  some (0,v1.2)
 else
 (iW v1.1.Fields a2).bind λv2=>
 some (v2.1,v2.2)
def bF(a0:r8):Option (b9 × Int):=
 (P1 a0.x a0.o.B).bind λv1=>
 if (v1.2 != 0) then
  some (a0.x,v1.2)
 else
 (K1 a0.x.S v1.1 a0.o.C).bind λv2=>
 (C5 a0 v2.1 v2.2).bind λv3=>
 some (v3.1,v3.2)
def qI(a0:b6)(a1:Int)(a2:Int)(a3:Int):Option (b6 × Int):=
 (w9 a0 a1).bind λv1=>
 if (v1.2 != 0) then
  some (a0,v1.2)
 else
 (mR v1.1.Fields a2 a3).bind λv2=>
 if (v2.2 != 0) then
  some (a0,v2.2)
 else
 (T2 a0 a1 (⟨v1.1.Serial,v1.1.Strong,v1.1.Weak,v1.1.Prog,v1.1.Started,v2.1⟩:n0)).bind λv3=>
 some (v3.1,v3.2)
def cY(a0:H5)(a1:b9):Option b9:=
 (qI a1.S a0.h a0.k a0.v).bind λv1=>
 some (⟨v1.1,a1.Roots,a1.b7,a1.T,a1.Q⟩:b9)
def G4(a0:b9)(a1:Int)(a2:Int)(a3:H5):Option b9:=
 (bQ a0 a2).bind λv1=>
 (cY a3 v1).bind λv2=>
 (E3 v2 a1).bind λv3=>
 some v3
def aE(a0:b9)(a1:Int)(a2:Int)(a3:Int):Option (b9 × Int):=
 (K1 a0.S a1 a2).bind λv1=>
 if (v1.2 != 0) then
  some (a0,v1.2)
 else
 (O4 a0 a3).bind λv2=>
 if (!v2) then
  some (a0,3)
 else
 (G4 a0 v1.1 a3 (⟨a1,a2,a3⟩:H5)).bind λv3=>
 some (v3,0)
def aG(a0:r8):Option (b9 × Int):=
 (P1 a0.x a0.o.A).bind λv1=>
 if (v1.2 != 0) then
  some (a0.x,v1.2)
 else
 (O6 a0.x a0.o.C).bind λv2=>
 (aE a0.x v1.1 a0.o.B v2).bind λv3=>
 some (v3.1,v3.2)
def au(a0:b9)(a1:Int)(a2:Int):Option b9:=
 (x4 a0.S.S a1).bind λv1=>
 if (v1.2==0) then
  (ix a0.S.S.b7 v1.1).bind λv2=>
  (T2 a0.S a1 (⟨v2.Val.Serial,v2.Val.Strong,u4 (v2.Val.Weak+a2),v2.Val.Prog,v2.Val.Started,v2.Val.Fields⟩:n0)).bind λv3=>
  some (⟨v3.1,a0.Roots,a0.b7,a0.T,a0.Q⟩:b9)
 else
 some a0
def Q9(a0:l4)(a1:Int):Option (l4 × Int):=
 (x4 a0 a1).bind λv1=>
 if (v1.2 != 0) then
  some (a0,v1.2)
 else
 (ix a0.b7 v1.1).bind λv2=>
 if (v2.Gen==a0.Last) then
  (E4 a0 v1.1 (⟨3,v2.Gen,⟨0,0,0,0,false,[]⟩⟩:c8)).bind λv3=>
  some (v3,0)
 else
 (E4 a0 v1.1 (⟨0,u4 (v2.Gen+1),⟨0,0,0,0,false,[]⟩⟩:c8)).bind λv4=>
 some (v4,0)
def aY(a0:b9)(a1:Int):Option b9:=
 (au a0 a1 (-1)).bind λv1=>
 (x4 v1.S.S a1).bind λv2=>
 if (v2.2 != 0) then
  some v1
 else
 (ix v1.S.S.b7 v2.1).bind λv3=>
 if ((v3.State==2)&&(v3.Val.Weak==0)) then
  (Q9 v1.S.S a1).bind λv4=>
  some (⟨⟨v4.1,v1.S.Serial⟩,v1.Roots,v1.b7,v1.T,v1.Q⟩:b9)
 else
 some v1
def T0(a0:b9)(a1:Int)(a2:Int)(a3:Int):Option (b9 × Int):=
 (B9 (((decide (a1<0))||(decide (a1>=(a0.b7.length:Int))))==false) false (aN a0.Q a1)).bind λv1=>
 if (((decide (a1<0))||(decide (a1>=(a0.b7.length:Int))))||v1) then
  some (a0,7)
 else
 (O4 a0 a2).bind λv2=>
 if (!v2) then
  some (a0,3)
 else
 (kr a0.b7 a1 a2 a3).bind λv3=>
 (au (⟨a0.S,a0.Roots,v3.1,a0.T,a0.Q⟩:b9) a2 1).bind λv4=>
 (aY v4 v3.2.1).bind λv5=>
 some (v5,0)
def M1(a0:r8):Option (b9 × Int):=
 if (a0.o.B==(-1)) then
  (T0 a0.x a0.o.A 0 a0.o.C).bind λv1=>
  some (v1.1,v1.2)
 else
 (P1 a0.x a0.o.B).bind λv2=>
 if (v2.2 != 0) then
  some (a0.x,v2.2)
 else
 (T0 a0.x a0.o.A v2.1 a0.o.C).bind λv3=>
 some (v3.1,v3.2)
def aS(a0:r8):Option (b9 × Int):=
 (cQ a0.x.b7 a0.o.B).bind λv1=>
 (C5 a0 v1.1 v1.2).bind λv2=>
 some (v2.1,v2.2)
def jA(a0:Int)(a1:Int):Option (Int × Int):=
 some (a0,a1)
def ef(a0:Int)(a1:Int):Option Int:=
 if (decide (a0<1)) then
  some 0
 else
 (rem (u4 ((u4 (5*a1))+1)) a0).bind λv1=>
 if (decide (v1<0)) then
  some (u4 (v1+a0))
 else
 some v1
def aX(a0:List g5)(a1:Int):Option Int:=
 jn (λ(_:Unit)=>
  some (-1)) (λκ8=>
  (jA (a0.length:Int) a1).bind λv10=>
  (lp (S:=Int) (E:=Int ⊕ Unit) (λ(s12:Int)=>
   if (decide (s12<v10.1)) then
    (ef v10.1 v10.2).bind λv14=>
    (rem (u4 (v14+s12)) v10.1).bind λv15=>
    (ix a0 v15).bind λv16=>
    if (v16.State==0) then
     some (.inr (.inr ()))
    else
    if ((v16.State==1)&&(v16.Key==a1)) then
     some (.inr (.inl v15))
    else
    some (.inl (u4 (s12+1)))
   else
   some (.inr (.inr ()))) 0).bind λe11=>
  match e11 with
  | .inl w=>some w
  | .inr w=>κ8 w)
def Z4(a0:List g5)(a1:Int):Option (Int × Int):=
 (aX a0 a1).bind λv1=>
 if (decide (v1<0)) then
  some (0,9)
 else
 (ix a0 v1).bind λv2=>
 some (v2.Val,0)
def F2(a0:List g5):Option (List g5):=
 app 24 [] a0
def eh(a0:List g5)(a1:Int)(a2:g5):Option (List g5):=
 (F2 a0).bind λv1=>
 (ix v1 a1).bind λv2=>
 some (v1.set (a1).toNat a2)
def aW(a0:List g5)(a1:Int):Option ((List g5) × Int × Int):=
 (aX a0 a1).bind λv1=>
 if (decide (v1<0)) then
  some (a0,0,9)
 else
 (eh a0 v1 (⟨2,0,0⟩:g5)).bind λv2=>
 (ix a0 v1).bind λv3=>
 some (v2,v3.Val,0)
def py(a0:List g5)(a1:Int)(a2:Int):Option ((List g5) × Int):=
 (aX a0 a1).bind λv1=>
 if (decide (v1>=0)) then
  (eh a0 v1 (⟨1,a1,a2⟩:g5)).bind λv2=>
  some (v2,0)
 else
 jn (λ(_:Unit)=>
  some (a0,8)) (λκ11=>
  (jA (a0.length:Int) a1).bind λv13=>
  (lp (S:=Int) (E:=((List g5) × Int) ⊕ Unit) (λ(s15:Int)=>
   if (decide (s15<v13.1)) then
    (ef v13.1 v13.2).bind λv17=>
    (rem (u4 (v17+s15)) v13.1).bind λv18=>
    (ix a0 v18).bind λv19=>
    if (v19.State != 1) then
     (eh a0 v18 (⟨1,a1,a2⟩:g5)).bind λv20=>
     some (.inr (.inl (v20,0)))
    else
    some (.inl (u4 (s15+1)))
   else
   some (.inr (.inr ()))) 0).bind λe14=>
  match e14 with
  | .inl w=>some w
  | .inr w=>κ11 w)
def V1(a0:List g5)(a1:Int)(a2:Int):Option ((List g5) × Int × Int):=
 if (a1==0) then
  some (a0,0,2)
 else
 (Z4 a0 a1).bind λv1=>
 if (a2==0) then
  (aW a0 a1).bind λv2=>
  some (v2.1,v1.1,0)
 else
 (py a0 a1 a2).bind λv3=>
 if (v3.2 != 0) then
  some (a0,0,v3.2)
 else
 some (v3.1,v1.1,0)
def aF(a0:L2)(a1:b9):Option b9:=
 some (⟨a1.S,a1.Roots,a1.b7,a0.t,a1.Q⟩:b9)
def E1(a0:b9)(a1:Int)(a2:Int)(a3:L2):Option b9:=
 (bQ a0 a2).bind λv1=>
 (aF a3 v1).bind λv2=>
 (E3 v2 a1).bind λv3=>
 some v3
def cv(a0:b9)(a1:Int)(a2:Int):Option (b9 × Int):=
 if (a1==0) then
  some (a0,2)
 else
 (O4 a0 a1).bind λv1=>
 (B9 ((!v1)==false) false (O4 a0 a2)).bind λv2=>
 if ((!v1)||(!v2)) then
  some (a0,3)
 else
 (V1 a0.T a1 a2).bind λv3=>
 if (v3.2.2 != 0) then
  some (a0,v3.2.2)
 else
 (E1 a0 v3.2.1 a2 (⟨v3.1⟩:L2)).bind λv4=>
 some (v4,0)
def bG(a0:r8):Option (b9 × Int):=
 (P1 a0.x a0.o.A).bind λv1=>
 if (v1.2 != 0) then
  some (a0.x,v1.2)
 else
 (O6 a0.x a0.o.B).bind λv2=>
 (cv a0.x v1.1 v2).bind λv3=>
 some (v3.1,v3.2)
def vn(a0:List g5)(a1:Int):Option (Int × Int):=
 (Z4 a0 a1).bind λv1=>
 some (v1.1,v1.2)
def cC(a0:r8):Option (b9 × Int):=
 (P1 a0.x a0.o.B).bind λv1=>
 if (v1.2 != 0) then
  some (a0.x,v1.2)
 else
 (vn a0.x.T v1.1).bind λv2=>
 (C5 a0 v2.1 v2.2).bind λv3=>
 some (v3.1,v3.2)
def T7(a0:r8):Option (b9 × Int):=
 some (a0.x,0)
def xD(f:Fv)(a0:r8):Option (b9 × Int):=
 if f=some 203 then Y8 a0 else
 if f=some 204 then L5 a0 else
 if f=some 205 then bE a0 else
 if f=some 206 then bF a0 else
 if f=some 207 then aG a0 else
 if f=some 208 then M1 a0 else
 if f=some 209 then aS a0 else
 if f=some 210 then bG a0 else
 if f=some 211 then cC a0 else
 if f=some 212 then T7 a0 else
 none
def dh(a0:Int):Option Bool:=
 some (a0 != a0)
def iG(a0:Int)(a1:Int):Option Int:=
 (dh a0).bind λv1=>
 (dh a1).bind λv2=>
 if v1 then
  if v2 then
   some 0
  else
  some (-1)
 else
 if v2 then
  some 1
 else
 if (decide (a0<a1)) then
  some (-1)
 else
 if (decide (a0 > a1)) then
  some 1
 else
 some 0
def ju(a0:Int)(a1:Int)(a2:List (Int × Int)):Option Int:=
 (iG ((A1 a2 a0).getD (0:Int)) ((A1 a2 a1).getD (0:Int))).bind λv1=>
 some v1
def G0(a0:b6):Option (List Int):=
 jn (λ((j18,j19):(List (Int × Int)) × (List Int))=>
  (wb (λp q=>ju p q j18) j19).bind λv21=>
  some v21) (λκ17=>
  (lp (S:=Int × (List (Int × Int)) × (List Int)) (E:=((List (Int × Int)) × (List Int))) (λ((s23,s24,s25):Int × (List (Int × Int)) × (List Int))=>
   if (decide (s23<(a0.S.b7.length:Int))) then
    jn (λ((j32,j33):(List (Int × Int)) × (List Int))=>
     some (.inl (u4 (s23+1),j32,j33))) (λκ31=>
     (ix a0.S.b7 s23).bind λv35=>
     if (v35.State==1) then
      (ee s23 v35.Gen).bind λv36=>
      (app 8 s25 [v36]).bind λv37=>
      κ31 ((p6 s24 v36 v35.Val.Serial),v37)
     else
     κ31 (s24,s25))
   else
   some (.inr (s24,s25))) (0,[],[])).bind λe22=>
  κ17 e22)
def eF(a0:b9):Option (List Int):=
 jn (λ(j16:List Int)=>
  some j16) (λκ15=>
  (G0 a0.S).bind λv17=>
  (lp (S:=Int × (List Int)) (E:=(List Int)) (λ((s19,s20):Int × (List Int))=>
   if (decide (s19<(v17.length:Int))) then
    jn (λ(j27:List Int)=>
     some (.inl (u4 (s19+1),j27))) (λκ26=>
     (ix v17 s19).bind λv28=>
     (w9 a0.S v28).bind λv29=>
     if (v29.1.Strong==0) then
      (app 8 s20 [v28]).bind λv30=>
      κ26 v30
     else
     κ26 s20)
   else
   some (.inr s20)) (0,[])).bind λe18=>
  κ15 e18)
def P5(a0:n0):Option Bool:=
 some ((decide (a0.Prog>=0))&&(!a0.Started))
def W2(a0:j5)(a1:g6):Option (j5 × Int):=
 (M2 a0).bind λv1=>
 if (decide (v1>=a0.Cap)) then
  some (a0,4)
 else
 (H3 a0.L 0 v1).bind λv2=>
 (app 24 v2 [a1]).bind λv3=>
 some ((⟨v3,a0.Cap⟩:j5),0)
def qf(a0:j5)(a1:g6):Option (j5 × Int):=
 (W2 a0 a1).bind λv1=>
 some (v1.1,v1.2)
def X8(a0:b9)(a1:Int):Option b9:=
 (w9 a0.S a1).bind λv1=>
 (B9 ((v1.2 != 0)==false) false (P5 v1.1)).bind λv2=>
 if ((v1.2 != 0)||(!v2)) then
  some a0
 else
 (T2 a0.S a1 (⟨v1.1.Serial,v1.1.Strong,v1.1.Weak,v1.1.Prog,true,v1.1.Fields⟩:n0)).bind λv3=>
 (qf a0.Q (⟨1,a1,v1.1.Prog⟩:g6)).bind λv4=>
 (bQ (⟨v3.1,a0.Roots,a0.b7,a0.T,v4.1⟩:b9) a1).bind λv5=>
 some v5
def ah(a0:b9)(a1:List Int):Option (List Int):=
 jn (λ(j18:List Int)=>
  some j18) (λκ17=>
  (lp (S:=Int × (List (Int × Bool)) × (List Int)) (E:=(List Int)) (λ((s20,s21,s22):Int × (List (Int × Bool)) × (List Int))=>
   if (decide (s20<(a1.length:Int))) then
    jn (λ((j29,j30):(List Int) × (List (Int × Bool)))=>
     some (.inl (u4 (s20+1),j30,j29))) (λκ28=>
     (ix a1 s20).bind λv32=>
     (w9 a0.S v32).bind λv33=>
     if ((v33.2==0)==true) then
      if (!((A1 s21 v32).getD (false:Bool))) then
       (app 8 s22 [v32]).bind λv34=>
       κ28 (v34,(p6 s21 v32 true))
      else
      κ28 (s22,s21)
     else
     κ28 (s22,s21))
   else
   some (.inr s22)) (0,[],[])).bind λe19=>
  κ17 e19)
def fI(a0:b9)(a1:List Int):Option b9:=
 (gB a0.b7 a1).bind λv1=>
 jn (λ(j11:j5)=>
  some (⟨a0.S,a0.Roots,v1.1,a0.T,j11⟩:b9)) (λκ10=>
  (lp (S:=Int × j5) (E:=j5) (λ((s13,s14):Int × j5)=>
   if (decide (s13<(v1.2.length:Int))) then
    (ix v1.2 s13).bind λv17=>
    (ix v1.1 v17).bind λv18=>
    (qf s14 (⟨2,v17,v18.Call⟩:g6)).bind λv19=>
    some (.inl (u4 (s13+1),v19.1))
   else
   some (.inr s14)) (0,a0.Q)).bind λe12=>
  κ10 e12)
def qN(a0:List Int):Option (List Int):=
 some a0
def jI(a0:List Int):Option (List Int):=
 jn (λ(j10:List Int)=>
  some j10) (λκ9=>
  (qN a0).bind λv11=>
  (lp (S:=Int × (List Int)) (E:=(List Int)) (λ((s13,s14):Int × (List Int))=>
   if (decide (s13<(v11.length:Int))) then
    (ix v11 s13).bind λv17=>
    if ((v17 != 0)==true) then
     (app 8 s14 [v17]).bind λv18=>
     some (.inl (u4 (s13+1),v18))
    else
    some (.inl (u4 (s13+1),s14))
   else
   some (.inr s14)) (0,[])).bind λe12=>
  κ9 e12)
def aV(a0:List g5)(a1:List Int):Option ((List g5) × (List Int)):=
 jn (λ((j18,j19):(List g5) × (List Int))=>
  some (j18,j19)) (λκ17=>
  (lp (S:=(List g5) × Int × (List Int)) (E:=((List g5) × (List Int))) (λ((s22,s23,s24):(List g5) × Int × (List Int))=>
   if (decide (s23<(a1.length:Int))) then
    jn (λ((j31,j32):(List g5) × (List Int))=>
     some (.inl (j31,u4 (s23+1),j32))) (λκ30=>
     (ix a1 s23).bind λv34=>
     (aW s22 v34).bind λv35=>
     if (v35.2.2==0) then
      (app 8 s24 [v35.2.1]).bind λv36=>
      κ30 (v35.1,v36)
     else
     κ30 (s22,s24))
   else
   some (.inr (s22,s24))) (a0,0,[])).bind λe21=>
  κ17 e21)
def Y9(a0:l4)(a1:Int):Option (l4 × Int):=
 (F1 a0 a1).bind λv1=>
 if (v1.2 != 0) then
  some (a0,v1.2)
 else
 (hU a1).bind λv2=>
 (jS a1).bind λv3=>
 (E4 a0 v2 (⟨2,v3,v1.1⟩:c8)).bind λv4=>
 some (v4,0)
def bf(a0:b9)(a1:Int):Option b9:=
 (w9 a0.S a1).bind λv1=>
 (T2 a0.S a1 (⟨v1.1.Serial,0,v1.1.Weak,v1.1.Prog,v1.1.Started,[]⟩:n0)).bind λv2=>
 (Y9 v2.1.S a1).bind λv3=>
 if (v1.1.Weak==0) then
  (Q9 v3.1 a1).bind λv4=>
  some (⟨⟨v4.1,v2.1.Serial⟩,a0.Roots,a0.b7,a0.T,a0.Q⟩:b9)
 else
 some (⟨⟨v3.1,v2.1.Serial⟩,a0.Roots,a0.b7,a0.T,a0.Q⟩:b9)
def ca(a0:b9)(a1:List Int):Option b9:=
 (ah a0 a1).bind λv1=>
 (fI a0 v1).bind λv2=>
 jn (λ(j13:List Int)=>
  (aV v2.T v1).bind λv14=>
  (app 8 j13 v14.2).bind λv15=>
  jn (λ(j24:b9)=>
   jn (λ(j33:b9)=>
    some j33) (λκ32=>
    (lp (S:=Int × b9) (E:=b9) (λ((s35,s36):Int × b9)=>
     if (decide (s35<(v15.length:Int))) then
      (ix v15 s35).bind λv39=>
      (E3 s36 v39).bind λv40=>
      some (.inl (u4 (s35+1),v40))
     else
     some (.inr s36)) (0,j24)).bind λe34=>
    κ32 e34)) (λκ23=>
   (lp (S:=Int × b9) (E:=b9) (λ((s42,s43):Int × b9)=>
    if (decide (s42<(v1.length:Int))) then
     (ix v1 s42).bind λv46=>
     (bf s43 v46).bind λv47=>
     some (.inl (u4 (s42+1),v47))
    else
    some (.inr s43)) (0,(⟨v2.S,v2.Roots,v2.b7,v14.1,v2.Q⟩:b9))).bind λe41=>
   κ23 e41)) (λκ12=>
  (lp (S:=Int × (List Int)) (E:=(List Int)) (λ((s49,s50):Int × (List Int))=>
   if (decide (s49<(v1.length:Int))) then
    (ix v1 s49).bind λv53=>
    (w9 v2.S v53).bind λv54=>
    (jI v54.1.Fields).bind λv55=>
    (app 8 s50 v55).bind λv56=>
    some (.inl (u4 (s49+1),v56))
   else
   some (.inr s50)) (0,[])).bind λe48=>
  κ12 e48)
def R9(a0:b9):Option b9:=
 (lp (S:=b9) (E:=b9) (λ(s2:b9)=>
  (eF s2).bind λv4=>
  if ((v4.length:Int)==0) then
   some (.inr s2)
  else
  (ix v4 0).bind λv5=>
  (w9 s2.S v5).bind λv6=>
  (P5 v6.1).bind λv7=>
  if v7 then
   (X8 s2 v5).bind λv8=>
   some (.inl v8)
  else
  (cut v4 0 1).bind λv9=>
  (ca s2 v9).bind λv10=>
  some (.inl v10)) a0).bind λe1=>
 some e1
def fe(a0:b9)(a1:Int):Option Int:=
 (w9 a0.S a1).bind λv1=>
 some v1.1.Serial
def dP(a0:b9)(a1:Int):Option Int:=
 (O6 a0 a1).bind λv1=>
 (fe a0 v1).bind λv2=>
 some v2
def Z8(a0:b9)(a1:b9)(a2:g7):Option Int:=
 if (a2.Kind==5) then
  (dP a0 a2.C).bind λv1=>
  some v1
 else
 jn (λ(j3:Bool)=>
  if j3 then
   (dP a0 a2.B).bind λv4=>
   some v4
  else
  if (a2.Kind==10) then
   (O6 a0 a2.A).bind λv5=>
   (O6 a0 a2.B).bind λv6=>
   if (v5==v6) then
    some 1
   else
   some 0
  else
  (dP a1 a2.A).bind λv7=>
  some v7) (λκ2=>
  if (a2.Kind==6) then
   κ2 (a2.Kind==6)
  else
  κ2 (a2.Kind==8))
def u6(a0:b9)(a1:g7):Option (b9 × Int × Int):=
 (W8 a1).bind λv1=>
 if (v1 != 0) then
  some (a0,0,v1)
 else
 (gL).bind λv2=>
 if (!((A1 v2 a1.Kind).isSome)) then
  some (a0,0,14)
 else
 (xD ((A1 v2 a1.Kind).getD (none:Fv)) (⟨a0,a1⟩:r8)).bind λv3=>
 if (v3.2 != 0) then
  some (a0,0,v3.2)
 else
 (R9 v3.1).bind λv5=>
 (Z8 v3.1 v5 a1).bind λv6=>
 some (v5,v6,0)
def nO(a0:b6):Option b6:=
 some a0
def mH(a0:b6)(a1:Int):Option (List Int):=
 (w9 a0 a1).bind λv1=>
 (jI v1.1.Fields).bind λv2=>
 some v2
def xK(a0:b6)(a1:Int):Option Int:=
 jn (λ(j31:Int)=>
  some j31) (λκ30=>
  (nO a0).bind λv32=>
  (G0 v32).bind λv33=>
  (lp (S:=Int × Int) (E:=Int) (λ((s35,s36):Int × Int)=>
   if (decide (s35<(v33.length:Int))) then
    jn (λ(j50:Int)=>
     some (.inl (u4 (s35+1),j50))) (λκ49=>
     (ix v33 s35).bind λv51=>
     (mH v32 v51).bind λv52=>
     (lp (S:=Int × Int) (E:=Int) (λ((s54,s55):Int × Int)=>
      if (decide (s54<(v52.length:Int))) then
       (ix v52 s54).bind λv58=>
       jn (λ(j60:Int)=>
        some (.inl (u4 (s54+1),j60))) (λκ59=>
        if (v58==a1) then
         κ59 (u4 (s55+1))
        else
        κ59 s55)
      else
      some (.inr s55)) (0,s36)).bind λe53=>
     κ49 e53)
   else
   some (.inr s36)) (0,0)).bind λe34=>
  κ30 e34)
def dY(a0:List g5):Option (List g5):=
 some a0
def lZ(a0:List g5):Option (List Int):=
 jn (λ(j13:List Int)=>
  some j13) (λκ12=>
  (lp (S:=Int × (List Int)) (E:=(List Int)) (λ((s15,s16):Int × (List Int))=>
   if (decide (s15<(a0.length:Int))) then
    jn (λ(j22:List Int)=>
     some (.inl (u4 (s15+1),j22))) (λκ21=>
     (ix a0 s15).bind λv23=>
     if (v23.State==1) then
      (app 8 s16 [v23.Key]).bind λv24=>
      κ21 v24
     else
     κ21 s16)
   else
   some (.inr s16)) (0,[])).bind λe14=>
  κ12 e14)
def gI(a0:g8)(a1:Int):Option Bool:=
 some ((a1 != 0)&&(a0.Val==a1))
def B4(a0:List g5)(a1:Int):Option (List g8):=
 jn (λ(j16:List g8)=>
  some j16) (λκ15=>
  (lZ a0).bind λv17=>
  (lp (S:=Int × (List g8)) (E:=(List g8)) (λ((s19,s20):Int × (List g8))=>
   if (decide (s19<(v17.length:Int))) then
    (ix v17 s19).bind λv23=>
    (Z4 a0 v23).bind λv24=>
    jn (λ(j28:List g8)=>
     some (.inl (u4 (s19+1),j28))) (λκ27=>
     (gI (⟨v23,v24.1⟩:g8) a1).bind λv29=>
     if v29 then
      (app 16 s20 [(⟨v23,v24.1⟩:g8)]).bind λv30=>
      κ27 v30
     else
     κ27 s20)
   else
   some (.inr s20)) (0,[])).bind λe18=>
  κ15 e18)
def kS(a0:List g5)(a1:Int):Option Int:=
 (dY a0).bind λv1=>
 (B4 v1 a1).bind λv2=>
 some (v2.length:Int)
def lx(a0:b6)(a1:List g5)(a2:Int):Option Int:=
 (xK a0 a2).bind λv1=>
 (kS a1 a2).bind λv2=>
 some (u4 (v1+v2))
def ot(a0:b6)(a1:List g5)(a2:Int):Option Int:=
 (w9 a0 a2).bind λv1=>
 if (v1.2 != 0) then
  some 0
 else
 (lx a0 a1 a2).bind λv2=>
 some (u4 (v1.1.Strong-v2))
def pe(a0:Int):Option Bool:=
 (I6 a0).bind λv1=>
 some v1
def oi(a0:Int)(a1:n0)(a2:b6)(a3:List g5):Option Bool:=
 (ot a2 a3 a0).bind λv1=>
 (B9 ((decide (v1 > 0))==false) false (pe a1.Strong)).bind λv2=>
 some ((decide (v1 > 0))||v2)
def og(a0:b6)(a1:List g5):Option (List Int):=
 jn (λ(j36:List Int)=>
  some j36) (λκ35=>
  jn (λ(j54:List Int)=>
   κ35 j54) (λκ53=>
   (G0 a0).bind λv55=>
   (lp (S:=Int × (List Int)) (E:=(List Int)) (λ((s57,s58):Int × (List Int))=>
    if (decide (s57<(v55.length:Int))) then
     jn (λ(j66:List Int)=>
      some (.inl (u4 (s57+1),j66))) (λκ65=>
      (ix v55 s57).bind λv67=>
      (w9 a0 v67).bind λv68=>
      (oi v67 v68.1 a0 a1).bind λv69=>
      if v69 then
       (app 8 s58 [v67]).bind λv70=>
       κ65 v70
      else
      κ65 s58)
    else
    some (.inr s58)) (0,[])).bind λe56=>
   κ53 e56))
def cK(a0:b6)(a1:Int):Option Bool:=
 (w9 a0 a1).bind λv1=>
 some (v1.2==0)
def fG(a0:b6)(a1:List Int):Option (List (Int × Bool)):=
 (G0 a0).bind λv1=>
 (bc (v1.length:Int)).bind λv2=>
 jn (λ((j20,j21):c9 × (List (Int × Bool)))=>
  jn (λ(j68:List (Int × Bool))=>
   some j68) (λκ67=>
   (lp (S:=c9 × (List (Int × Bool))) (E:=(List (Int × Bool))) (λ((s70,s71):c9 × (List (Int × Bool)))=>
    (H7 s70).bind λv74=>
    if (decide (v74 > 0)) then
     (X4 s70).bind λv75=>
     (mH a0 v75.2.1).bind λv76=>
     jn (λ((j94,j95):c9 × (List (Int × Bool)))=>
      some (.inl (j94,j95))) (λκ93=>
      (lp (S:=Int × c9 × (List (Int × Bool))) (E:=(c9 × (List (Int × Bool)))) (λ((s98,s99,s100):Int × c9 × (List (Int × Bool)))=>
       if (decide (s98<(v76.length:Int))) then
        jn (λ((j107,j108):c9 × (List (Int × Bool)))=>
         some (.inl (u4 (s98+1),j107,j108))) (λκ106=>
         (ix v76 s98).bind λv110=>
         (cK a0 v110).bind λv111=>
         if (v111==true) then
          if (!((A1 s100 v110).getD (false:Bool))) then
           (D8 s99 v110).bind λv112=>
           κ106 (v112.1,(p6 s100 v110 true))
          else
          κ106 (s99,s100)
         else
         κ106 (s99,s100))
       else
       some (.inr (s99,s100))) (0,v75.1,s71)).bind λe97=>
      κ93 e97)
    else
    some (.inr s71)) (j20,j21)).bind λe69=>
   κ67 e69)) (λκ19=>
  (lp (S:=Int × c9 × (List (Int × Bool))) (E:=(c9 × (List (Int × Bool)))) (λ((s114,s115,s116):Int × c9 × (List (Int × Bool)))=>
   if (decide (s114<(a1.length:Int))) then
    jn (λ((j123,j124):c9 × (List (Int × Bool)))=>
     some (.inl (u4 (s114+1),j123,j124))) (λκ122=>
     (ix a1 s114).bind λv126=>
     (cK a0 v126).bind λv127=>
     if (v127==true) then
      if (!((A1 s116 v126).getD (false:Bool))) then
       (D8 s115 v126).bind λv128=>
       κ122 (v128.1,(p6 s116 v126 true))
      else
      κ122 (s115,s116)
     else
     κ122 (s115,s116))
   else
   some (.inr (s115,s116))) (0,v2,[])).bind λe113=>
  κ19 e113)
def jo(a0:Int)(a1:List (Int × Bool)):Option Bool:=
 some ((A1 a1 a0).getD (false:Bool))
def X5(a0:b6)(a1:List (Int × Bool)):Option (List Int):=
 jn (λ(j16:List Int)=>
  some j16) (λκ15=>
  (G0 a0).bind λv17=>
  (lp (S:=Int × (List Int)) (E:=(List Int)) (λ((s19,s20):Int × (List Int))=>
   if (decide (s19<(v17.length:Int))) then
    jn (λ(j27:List Int)=>
     some (.inl (u4 (s19+1),j27))) (λκ26=>
     (ix v17 s19).bind λv28=>
     (jo v28 a1).bind λv29=>
     if v29 then
      (app 8 s20 [v28]).bind λv30=>
      κ26 v30
     else
     κ26 s20)
   else
   some (.inr s20)) (0,[])).bind λe18=>
  κ15 e18)
def kg(a0:b6)(a1:List Int):Option (List Int):=
 (fG a0 a1).bind λv1=>
 (X5 a0 v1).bind λv2=>
 some v2
def gJ(a0:g8):Option Bool:=
 some true
def B5(a0:List g5):Option (List g8):=
 jn (λ(j16:List g8)=>
  some j16) (λκ15=>
  (lZ a0).bind λv17=>
  (lp (S:=Int × (List g8)) (E:=(List g8)) (λ((s19,s20):Int × (List g8))=>
   if (decide (s19<(v17.length:Int))) then
    (ix v17 s19).bind λv23=>
    (Z4 a0 v23).bind λv24=>
    jn (λ(j28:List g8)=>
     some (.inl (u4 (s19+1),j28))) (λκ27=>
     (gJ (⟨v23,v24.1⟩:g8)).bind λv29=>
     if v29 then
      (app 16 s20 [(⟨v23,v24.1⟩:g8)]).bind λv30=>
      κ27 v30
     else
     κ27 s20)
   else
   some (.inr s20)) (0,[])).bind λe18=>
  κ15 e18)
def kU(a0:List g5):Option (List g8):=
 (dY a0).bind λv1=>
 (B5 v1).bind λv2=>
 some v2
def jR(a0:Int)(a1:b6):Option Bool:=
 (w9 a1 a0).bind λv1=>
 some (v1.2==0)
def tD(a0:b6)(a1:List g5)(a2:List Int):Option (List Int):=
 jn (λ(j20:List Int)=>
  some j20) (λκ19=>
  (kU a1).bind λv21=>
  (lp (S:=Int × (List Int)) (E:=(List Int)) (λ((s23,s24):Int × (List Int))=>
   if (decide (s23<(v21.length:Int))) then
    jn (λ(j33:List Int)=>
     some (.inl (u4 (s23+1),j33))) (λκ32=>
     (ix v21 s23).bind λv34=>
     (E5 a2 v34.Key).bind λv35=>
     (B9 (v35==true) false (jR v34.Key a0)).bind λv36=>
     (B9 ((v35&&v36)==true) false (jR v34.Val a0)).bind λv37=>
     if ((v35&&v36)&&v37) then
      (app 8 s24 [v34.Val]).bind λv38=>
      κ32 v38
     else
     κ32 s24)
   else
   some (.inr s24)) (0,[])).bind λe22=>
  κ19 e22)
def qu(a0:b6)(a1:List g5)(a2:List Int):Option ((List Int) × Int):=
 (kg a0 a2).bind λv1=>
 (lp (S:=(List Int) × Int) (E:=((List Int) × Int)) (λ((s3,s4):(List Int) × Int)=>
  (tD a0 a1 s3).bind λv7=>
  jn (λ(_:Unit)=>
   some (.inr (s3,s4))) (λκ15=>
   (lp (S:=Int) (E:=((List Int) × Int) ⊕ Unit) (λ(s18:Int)=>
    if (decide (s18<(v7.length:Int))) then
     (ix v7 s18).bind λv20=>
     (E5 s3 v20).bind λv21=>
     if (!v21) then
      (app 8 v7 s3).bind λv22=>
      (kg a0 v22).bind λv23=>
      some (.inr (.inl (v23,u4 (s4+1))))
     else
     some (.inl (u4 (s18+1)))
    else
    some (.inr (.inr ()))) 0).bind λe17=>
   match e17 with
   | .inl w=>some (.inl w)
   | .inr w=>κ15 w)) (v1,0)).bind λe2=>
 some e2
def tC(a0:b6)(a1:List g5)(a2:List Int):Option (List Int):=
 (qu a0 a1 a2).bind λv1=>
 some v1.1
def jr(a0:Int)(a1:List (Int × Bool)):Option Bool:=
 some (!((A1 a1 a0).getD (false:Bool)))
def X6(a0:b6)(a1:List (Int × Bool)):Option (List Int):=
 jn (λ(j16:List Int)=>
  some j16) (λκ15=>
  (G0 a0).bind λv17=>
  (lp (S:=Int × (List Int)) (E:=(List Int)) (λ((s19,s20):Int × (List Int))=>
   if (decide (s19<(v17.length:Int))) then
    jn (λ(j27:List Int)=>
     some (.inl (u4 (s19+1),j27))) (λκ26=>
     (ix v17 s19).bind λv28=>
     (jr v28 a1).bind λv29=>
     if v29 then
      (app 8 s20 [v28]).bind λv30=>
      κ26 v30
     else
     κ26 s20)
   else
   some (.inr s20)) (0,[])).bind λe18=>
  κ15 e18)
def nN(a0:b6)(a1:List Int):Option (List Int):=
 (fG a0 a1).bind λv1=>
 (X6 a0 v1).bind λv2=>
 some v2
def po(a0:b6)(a1:List g5)(a2:List Int):Option (List Int):=
 (tC a0 a1 a2).bind λv1=>
 (nN a0 v1).bind λv2=>
 some v2
def dx(a0:b6)(a1:List g5):Option (List Int):=
 (og a0 a1).bind λv1=>
 (po a0 a1 v1).bind λv2=>
 some v2
def V0(a0:b9):Option (List Int):=
 (dx a0.S a0.T).bind λv1=>
 some v1
def iH(a0:Int)(a1:b9):Option Bool:=
 (w9 a1.S a0).bind λv1=>
 some ((decide (v1.1.Prog>=0))&&(!v1.1.Started))
def K4(a0:List Int)(a1:b9):Option (List Int):=
 jn (λ(j15:List Int)=>
  some j15) (λκ14=>
  (lp (S:=Int × (List Int)) (E:=(List Int)) (λ((s17,s18):Int × (List Int))=>
   if (decide (s17<(a0.length:Int))) then
    jn (λ(j25:List Int)=>
     some (.inl (u4 (s17+1),j25))) (λκ24=>
     (ix a0 s17).bind λv26=>
     (iH v26 a1).bind λv27=>
     if v27 then
      (app 8 s18 [v26]).bind λv28=>
      κ24 v28
     else
     κ24 s18)
   else
   some (.inr s18)) (0,[])).bind λe16=>
  κ14 e16)
def gH(a0:b9):Option (List Int):=
 (V0 a0).bind λv1=>
 (K4 v1 a0).bind λv2=>
 some v2
def aQ(a0:b9):Option (b9 × Int × Int):=
 (gH a0).bind λv1=>
 jn (λ(j10:b9)=>
  if (decide ((v1.length:Int) > 0)) then
   some (j10,(v1.length:Int),0)
  else
  (V0 j10).bind λv11=>
  (ca j10 v11).bind λv12=>
  (R9 v12).bind λv13=>
  (G0 j10.S).bind λv14=>
  (G0 v13.S).bind λv15=>
  some (v13,0,u4 ((v14.length:Int)-(v15.length:Int)))) (λκ9=>
  (lp (S:=Int × b9) (E:=b9) (λ((s17,s18):Int × b9)=>
   if (decide (s17<(v1.length:Int))) then
    (ix v1 s17).bind λv21=>
    (X8 s18 v21).bind λv22=>
    some (.inl (u4 (s17+1),v22))
   else
   some (.inr s18)) (0,a0)).bind λe16=>
  κ9 e16)
def gY(a0:b9):Option Bool:=
 (bg a0.Q).bind λv1=>
 some (v1.2.2 != 0)
def ig(a0:b9)(a1:List g7):Option (b9 × (List Int)):=
 jn (λ((j11,j12):b9 × (List Int))=>
  some (j11,j12)) (λκ10=>
  (lp (S:=Int × b9 × (List Int)) (E:=(b9 × (List Int))) (λ((s15,s16,s17):Int × b9 × (List Int))=>
   if (decide (s15<(a1.length:Int))) then
    (ix a1 s15).bind λv20=>
    (u6 s16 v20).bind λv21=>
    (app 8 s17 [v21.2.1]).bind λv22=>
    some (.inl (u4 (s15+1),v21.1,v22))
   else
   some (.inr (s16,s17))) (0,a0,[])).bind λe14=>
  κ10 e14)
def nn(a0:b9)(a1:List (List g7)):Option (b9 × g6 × Int):=
 (bg a0.Q).bind λv1=>
 if (v1.2.2 != 0) then
  some (a0,(⟨0,0,0⟩:g6),v1.2.2)
 else
 jn (λ(j6:b9)=>
  (dH a1 v1.2.1.Prog).bind λv7=>
  (ig j6 v7).bind λv8=>
  if (v1.2.1.Kind==1) then
   (cy v8.1 5 0).bind λv9=>
   (R9 v9.1).bind λv10=>
   some (v10,v1.2.1,0)
  else
  some (v8.1,v1.2.1,0)) (λκ5=>
  if (v1.2.1.Kind==1) then
   (cy (⟨a0.S,a0.Roots,a0.b7,a0.T,v1.1⟩:b9) 5 v1.2.1.At).bind λv11=>
   (E3 v11.1 v1.2.1.At).bind λv12=>
   (R9 v12).bind λv13=>
   κ5 v13
  else
  κ5 (⟨a0.S,a0.Roots,a0.b7,a0.T,v1.1⟩:b9))
def gX(a0:b9)(a1:List (List g7))(a2:Int):Option (b9 × Int × Int × Int):=
 jn (λ((j14,j15,j16):Int × Int × b9)=>
  (gY j16).bind λv18=>
  if (!v18) then
   some (j16,j14,j15,12)
  else
  some (j16,j14,j15,0)) (λκ13=>
  (lp (S:=Int × b9 × Int × Int × b9) (E:=(Int × Int × b9)) (λ((s20,s21,s22,s23,s24):Int × b9 × Int × Int × b9)=>
   (gY s21).bind λv27=>
   if (!v27) then
    (bg s21.Q).bind λv28=>
    (bO a1 v28.2.1).bind λv29=>
    if (decide (v29 > s20)) then
     some (.inr (s22,s23,s24))
    else
    (nn s21 a1).bind λv30=>
    some (.inl (u4 (s20-v29),v30.1,u4 (s22+1),u4 (s20-v29),v30.1))
   else
   some (.inr (s22,s23,s24))) (a2,a0,0,a2,a0)).bind λe19=>
  κ13 e19)
def qs(a0:s7)(a1:List Int):Option (s7 × g9):=
 (V4 a1).bind λv1=>
 if (v1.2 != 0) then
  some (a0,(⟨0,v1.2⟩:g9))
 else
 (np v1.1).bind λv2=>
 if (decide (v2.t=162)) then
  (u6 a0.X (⟨(GJ v2 162 0),(GJ v2 162 1),(GJ v2 162 2),(GJ v2 162 3)⟩:g7)).bind λv3=>
  some ((⟨v3.1,a0.Progs⟩:s7),(⟨v3.2.1,v3.2.2⟩:g9))
 else
 if (decide (v2.t=166)) then
  (aQ a0.X).bind λv4=>
  some ((⟨v4.1,a0.Progs⟩:s7),(⟨u4 (v4.2.2-v4.2.1),0⟩:g9))
 else
 if (decide (v2.t=170)) then
  (gX a0.X a0.Progs (GJ v2 170 0)).bind λv5=>
  some ((⟨v5.1,a0.Progs⟩:s7),(⟨v5.2.1,v5.2.2.2⟩:g9))
 else
 some (a0,(⟨0,0⟩:g9))
def jQ(a0:s7)(a1:List (List Int)):Option (s7 × (List g9)):=
 jn (λ((j11,j12):s7 × (List g9))=>
  some (j11,j12)) (λκ10=>
  (lp (S:=Int × s7 × (List g9)) (E:=(s7 × (List g9))) (λ((s15,s16,s17):Int × s7 × (List g9))=>
   if (decide (s15<(a1.length:Int))) then
    (ix a1 s15).bind λv20=>
    (qs s16 v20).bind λv21=>
    (app 16 s17 [v21.2]).bind λv22=>
    some (.inl (u4 (s15+1),v21.1,v22))
   else
   some (.inr (s16,s17))) (0,a0,[])).bind λe14=>
  κ10 e14)
def qi(a0:List g9):Option (List z7):=
 jn (λ(j9:List z7)=>
  some j9) (λκ8=>
  (lp (S:=Int × (List z7)) (E:=(List z7)) (λ((s11,s12):Int × (List z7))=>
   if (decide (s11<(a0.length:Int))) then
    (ix a0 s11).bind λv15=>
    (app 16 s12 [(⟨v15.V,v15.E⟩:z7)]).bind λv16=>
    some (.inl (u4 (s11+1),v16))
   else
   some (.inr s12)) (0,[])).bind λe10=>
  κ8 e10)
def wF(a0:List z7)(a1:List z7):Option Bool:=
 if ((a0.length:Int) != (a1.length:Int)) then
  some false
 else
 jn (λ(_:Unit)=>
  some true) (λκ6=>
  (lp (S:=Int) (E:=Bool ⊕ Unit) (λ(s9:Int)=>
   if (decide (s9<(a0.length:Int))) then
    (ix a0 s9).bind λv11=>
    (ix a1 s9).bind λv12=>
    if (!((v11.V==v12.V)&&((v11.E==v12.E)&&true))) then
     some (.inr (.inl false))
    else
    some (.inl (u4 (s9+1)))
   else
   some (.inr (.inr ()))) 0).bind λe8=>
  match e8 with
  | .inl w=>some w
  | .inr w=>κ6 w)
def gA:Option Bool:=
 (aZ 3 5 8 [[(⟨2,2,5,0⟩:g7)]]).bind λv1=>
 (Q3 3 5 8 [[(⟨2,2,5,0⟩:g7)]]).bind λv2=>
 (ba v1.1 [[1,0,1,0],[5,0,0,0],[3,0,0,0],[11,0,0,0],[12,9,0,0],[3,2,0,0],[11,0,0,0],[2,9,0,0]]).bind λv3=>
 (jQ v2.1 [[1,0,1,0],[5,0,0,0],[3,0,0,0],[11,0,0,0],[12,9,0,0],[3,2,0,0],[11,0,0,0],[2,9,0,0]]).bind λv4=>
 (B9 (((((v1.2==0)&&(v2.2==0))&&(decide ((v3.1.Gens.length:Int) > 0)))&&((v3.2.length:Int)==8))==true) [] (qi v3.2)).bind λv5=>
 (B9 (((((v1.2==0)&&(v2.2==0))&&(decide ((v3.1.Gens.length:Int) > 0)))&&((v3.2.length:Int)==8))==true) [] (qi v4.2)).bind λv6=>
 (B9 (((((v1.2==0)&&(v2.2==0))&&(decide ((v3.1.Gens.length:Int) > 0)))&&((v3.2.length:Int)==8))==true) false (wF v5 v6)).bind λv7=>
 (B9 ((((((v1.2==0)&&(v2.2==0))&&(decide ((v3.1.Gens.length:Int) > 0)))&&((v3.2.length:Int)==8))&&v7)==true) (⟨0,0⟩:g9) (ix v3.2 3)).bind λv8=>
 (B9 (((((((v1.2==0)&&(v2.2==0))&&(decide ((v3.1.Gens.length:Int) > 0)))&&((v3.2.length:Int)==8))&&v7)&&(v8.V==(-1)))==true) (⟨0,0⟩:g9) (ix v3.2 4)).bind λv9=>
 (B9 ((((((((v1.2==0)&&(v2.2==0))&&(decide ((v3.1.Gens.length:Int) > 0)))&&((v3.2.length:Int)==8))&&v7)&&(v8.V==(-1)))&&(v9.V==1))==true) (⟨0,0⟩:g9) (ix v3.2 6)).bind λv10=>
 (B9 (((((((((v1.2==0)&&(v2.2==0))&&(decide ((v3.1.Gens.length:Int) > 0)))&&((v3.2.length:Int)==8))&&v7)&&(v8.V==(-1)))&&(v9.V==1))&&(v10.V==1))==true) (⟨0,0⟩:g9) (ix v3.2 7)).bind λv11=>
 (B9 ((((((((((v1.2==0)&&(v2.2==0))&&(decide ((v3.1.Gens.length:Int) > 0)))&&((v3.2.length:Int)==8))&&v7)&&(v8.V==(-1)))&&(v9.V==1))&&(v10.V==1))&&(v11.E==6))==true) [] (aw v3.1)).bind λv12=>
 (B9 (((((((((((v1.2==0)&&(v2.2==0))&&(decide ((v3.1.Gens.length:Int) > 0)))&&((v3.2.length:Int)==8))&&v7)&&(v8.V==(-1)))&&(v9.V==1))&&(v10.V==1))&&(v11.E==6))&&((v12.length:Int)==0))==true) (0:Int) (ix v3.1.Gens 0)).bind λv13=>
 some (((((((((((v1.2==0)&&(v2.2==0))&&(decide ((v3.1.Gens.length:Int) > 0)))&&((v3.2.length:Int)==8))&&v7)&&(v8.V==(-1)))&&(v9.V==1))&&(v10.V==1))&&(v11.E==6))&&((v12.length:Int)==0))&&(v13==1))
def uY(a0:a8):Option Bool:=
 jn (λ(_:Unit)=>
  (B9 ((((((((decide ((a0.Nodes.length:Int)<=50))&&(decide ((a0.Pairs.length:Int)<=20)))&&(decide ((a0.Tasks.length:Int)<=100)))&&(decide ((a0.b7.length:Int)<=20)))&&(decide ((a0.Roots.length:Int)<=20)))&&(decide ((a0.Slots.length:Int)<=30)))&&(decide ((a0.Gens.length:Int)<=30)))==true) false (iA a0.Progs)).bind λv7=>
  some ((((((((decide ((a0.Nodes.length:Int)<=50))&&(decide ((a0.Pairs.length:Int)<=20)))&&(decide ((a0.Tasks.length:Int)<=100)))&&(decide ((a0.b7.length:Int)<=20)))&&(decide ((a0.Roots.length:Int)<=20)))&&(decide ((a0.Slots.length:Int)<=30)))&&(decide ((a0.Gens.length:Int)<=30)))&&v7)) (λκ5=>
  (lp (S:=Int) (E:=Bool ⊕ Unit) (λ(s9:Int)=>
   if ((decide (s9<(a0.Nodes.length:Int)))&&(decide (s9<60))) then
    (ix a0.Nodes s9).bind λv11=>
    if (decide ((v11.Fields.length:Int) > 10)) then
     some (.inr (.inl false))
    else
    some (.inl (u4 (s9+1)))
   else
   some (.inr (.inr ()))) 0).bind λe8=>
  match e8 with
  | .inl w=>some w
  | .inr w=>κ5 w)
def qP(a0:b6):Option Bool:=
 jn (λ(_:Unit)=>
  some (decide ((a0.S.b7.length:Int)<=30))) (λκ5=>
  (lp (S:=Int) (E:=Bool ⊕ Unit) (λ(s8:Int)=>
   if ((decide (s8<(a0.S.b7.length:Int)))&&(decide (s8<30))) then
    (ix a0.S.b7 s8).bind λv10=>
    if (decide ((v10.Val.Fields.length:Int) > 10)) then
     some (.inr (.inl false))
    else
    some (.inl (u4 (s8+1)))
   else
   some (.inr (.inr ()))) 0).bind λe7=>
  match e7 with
  | .inl w=>some w
  | .inr w=>κ5 w)
def uW(a0:b9):Option Bool:=
 (qP a0.S).bind λv1=>
 some ((((v1&&(decide ((a0.Roots.length:Int)<=20)))&&(decide ((a0.b7.length:Int)<=20)))&&(decide ((a0.T.length:Int)<=20)))&&(decide ((a0.Q.L.length:Int)<=60)))
def xX(a0:n0):Option aJ:=
 some (⟨a0.Serial,a0.Strong,a0.Weak,a0.Prog,a0.Started,a0.Fields⟩:aJ)
def xW(a0:b6):Option x6:=
 jn (λ(j10:List y7)=>
  some (⟨j10,a0.S.Last,a0.Serial⟩:x6)) (λκ9=>
  (lp (S:=Int × (List y7)) (E:=(List y7)) (λ((s12,s13):Int × (List y7))=>
   if (decide (s12<(a0.S.b7.length:Int))) then
    (ix a0.S.b7 s12).bind λv16=>
    (xX v16.Val).bind λv17=>
    (app 80 s13 [(⟨v16.State,v16.Gen,v17⟩:y7)]).bind λv18=>
    some (.inl (u4 (s12+1),v18))
   else
   some (.inr s13)) (0,[])).bind λe11=>
  κ9 e11)
def mD(a0:Int)(a1:Int):Option Int:=
 if ((((decide (a0<0))||(decide (a0 > 23)))||(decide (a1<0)))||(decide (a1 > 9))) then
  some 0
 else
 some (u4 ((u4 (1+a0))+(u4 (32*a1))))
def gr(a0:x6):Option U1:=
 jn (λ(j9:List G5)=>
  some (⟨j9,a0.Last⟩:U1)) (λκ8=>
  (lp (S:=Int × (List G5)) (E:=(List G5)) (λ((s11,s12):Int × (List G5))=>
   if (decide (s11<(a0.b7.length:Int))) then
    (ix a0.b7 s11).bind λv15=>
    (app 24 s12 [(⟨v15.State,v15.Gen,s11⟩:G5)]).bind λv16=>
    some (.inl (u4 (s11+1),v16))
   else
   some (.inr s12)) (0,[])).bind λe10=>
  κ8 e10)
def mE(a0:Int):Option Bool:=
 if ((decide (a0<1))||(decide (a0 > 400))) then
  some false
 else
 (rem (u4 (a0-1)) 32).bind λv1=>
 (quo .i64 (u4 (a0-1)) 32).bind λv2=>
 (mD v1 v2).bind λv3=>
 some (v3==a0)
def uw(a0:Int):Option Int:=
 (mE a0).bind λv1=>
 if (!v1) then
  some (-1)
 else
 (rem (u4 (a0-1)) 32).bind λv2=>
 some v2
def xI(a0:Int):Option Int:=
 (mE a0).bind λv1=>
 if (!v1) then
  some (-1)
 else
 (quo .i64 (u4 (a0-1)) 32).bind λv2=>
 some v2
def bV(a0:U1)(a1:Int):Option (Int × Int):=
 if (a1==0) then
  some ((-1),2)
 else
 (uw a1).bind λv1=>
 if ((decide (v1<0))||(decide (v1>=(a0.b7.length:Int)))) then
  some ((-1),3)
 else
 (ix a0.b7 v1).bind λv2=>
 (xI a1).bind λv3=>
 if ((v2.Gen != v3)||((v2.State != 1)&&(v2.State != 2))) then
  some ((-1),3)
 else
 some (v1,0)
def ke(a0:x6)(a1:List Int):Option (List Int):=
 (app 8 [] a1).bind λv1=>
 jn (λ(j36:List Int)=>
  some j36) (λκ35=>
  (lp (S:=Int × (List Int)) (E:=(List Int)) (λ((s38,s39):Int × (List Int))=>
   if (decide (s38<(s39.length:Int))) then
    jn (λ(j56:List Int)=>
     some (.inl (u4 (s38+1),j56))) (λκ55=>
     (lp (S:=Int × (List Int)) (E:=(List Int)) (λ((s58,s59):Int × (List Int))=>
      if (decide (s58 > 0)) then
       (gr a0).bind λv62=>
       (ix s59 (u4 (s58-1))).bind λv63=>
       (bV v62 v63).bind λv64=>
       (ix s59 s58).bind λv65=>
       (bV v62 v65).bind λv66=>
       (B9 (((decide (v64.1<0))||(decide (v66.1<0)))==false) (⟨0,0,⟨0,0,0,0,false,[]⟩⟩:y7) (ix a0.b7 v64.1)).bind λv67=>
       (B9 (((decide (v64.1<0))||(decide (v66.1<0)))==false) (⟨0,0,⟨0,0,0,0,false,[]⟩⟩:y7) (ix a0.b7 v66.1)).bind λv68=>
       if (((decide (v64.1<0))||(decide (v66.1<0)))||(decide (v67.Val.Serial<=v68.Val.Serial))) then
        some (.inr s59)
       else
       (ix (s59.set (s58).toNat v63) (u4 (s58-1))).bind λv69=>
       some (.inl (u4 (s58-1),((s59.set (s58).toNat v63).set (u4 (s58-1)).toNat v65)))
      else
      some (.inr s59)) (s38,s39)).bind λe57=>
     κ55 e57)
   else
   some (.inr s39)) (1,v1)).bind λe37=>
  κ35 e37)
def uz(a0:x6):Option (List Int):=
 jn (λ(j15:List Int)=>
  (ke a0 j15).bind λv16=>
  some v16) (λκ14=>
  (lp (S:=Int × (List Int)) (E:=(List Int)) (λ((s18,s19):Int × (List Int))=>
   if (decide (s18<(a0.b7.length:Int))) then
    jn (λ(j26:List Int)=>
     some (.inl (u4 (s18+1),j26))) (λκ25=>
     (ix a0.b7 s18).bind λv27=>
     if (v27.State==1) then
      (mD s18 v27.Gen).bind λv28=>
      (app 8 s19 [v28]).bind λv29=>
      κ25 v29
     else
     κ25 s19)
   else
   some (.inr s19)) (0,[])).bind λe17=>
  κ14 e17)
def DK(a0:U1)(a1:Int):Option (Int × Int):=
 (bV a0 a1).bind λv1=>
 if (v1.2 != 0) then
  some (0,v1.2)
 else
 (ix a0.b7 v1.1).bind λv2=>
 if (v2.State==2) then
  some (0,3)
 else
 some (v2.Val,0)
def xJ(a0:x6)(a1:Int):Option (aJ × Int):=
 (gr a0).bind λv1=>
 (DK v1 a1).bind λv2=>
 if (v2.2 != 0) then
  some ((⟨0,0,0,0,false,[]⟩:aJ),v2.2)
 else
 (ix a0.b7 v2.1).bind λv3=>
 some (v3.Val,0)
def iX(a0:Int)(a1:Int)(a2:List (List g7))(a3:List (List Int)):Option Bool:=
 (iA a2).bind λv1=>
 (B9 ((!v1)==false) false (gz a3 60)).bind λv2=>
 (B9 (((!v1)||(!v2))==false) false gA).bind λv3=>
 if (((!v1)||(!v2))||(!v3)) then
  (gA).bind λv4=>
  some v4
 else
 (rem (u4 a0) 24).bind λv5=>
 (rem (u4 a1) 10).bind λv6=>
 (aZ (u4 (1+v5)) v6 8 a2).bind λv7=>
 (Q3 (u4 (1+v5)) v6 8 a2).bind λv8=>
 if ((v7.2 != v8.2)||(v7.2 != 0)) then
  some ((v7.2==v8.2)&&(v7.2==13))
 else
 (ba v7.1 a3).bind λv9=>
 (jQ v8.1 a3).bind λv10=>
 (uY v9.1).bind λv11=>
 (B9 ((!v11)==false) false (uW v10.1.X)).bind λv12=>
 if ((!v11)||(!v12)) then
  some false
 else
 (xW v10.1.X.S).bind λv13=>
 (uz v13).bind λv14=>
 jn (λ(_:Unit)=>
  (aw v9.1).bind λv80=>
  some ((v80.length:Int)==(v14.length:Int))) (λκ78=>
  (lp (S:=Int) (E:=Bool ⊕ Unit) (λ(s82:Int)=>
   if (decide (s82<(v9.1.Nodes.length:Int))) then
    jn (λ(_:Unit)=>
     some (.inl (u4 (s82+1)))) (λκ113=>
     (ix v9.1.Nodes s82).bind λv115=>
     if (!v115.Alive) then
      κ113 ()
     else
     jn (λ(j130:Bool)=>
      if (!j130) then
       some (.inr (.inl false))
      else
      κ113 ()) (λκ129=>
      (lp (S:=Bool × Int) (E:=Bool ⊕ Bool) (λ((s132,s133):Bool × Int)=>
       if (decide (s133<(v14.length:Int))) then
        jn (λ(j140:Bool)=>
         some (.inl (j140,u4 (s133+1)))) (λκ139=>
         (ix v14 s133).bind λv141=>
         (xJ v13 v141).bind λv142=>
         if (v142.1.Serial != v115.Serial) then
          κ139 s132
         else
         (B9 (((v115.Stuck != (decide (v142.1.Strong>=12)))==false)&&((!v115.Stuck)==true)) 0 (ax v9.1 v115.Serial)).bind λv143=>
         if ((((v115.Stuck != (decide (v142.1.Strong>=12)))||((!v115.Stuck)&&(v142.1.Strong != v143)))||(v115.Started != v142.1.Started))||((v115.Fields.length:Int) != (v142.1.Fields.length:Int))) then
          some (.inr (.inl false))
         else
         κ139 true)
       else
       some (.inr (.inr s132))) (false,0)).bind λe131=>
      match e131 with
      | .inl w=>some (.inr (.inl w))
      | .inr w=>κ129 w))
   else
   some (.inr (.inr ()))) 0).bind λe81=>
  match e81 with
  | .inl w=>some w
  | .inr w=>κ78 w)
structure fE where
 Kind:Int
 A:Int
 B:Int
 C:Int
structure iw where
 Target:Int
 Intact:Bool
 Call:Int
structure I8 where
 State:Int
 Key:Int
 Val:Int
structure Gb where
 Kind:Int
 At:Int
 Prog:Int
structure qA where
 L:List Gb
 Cap:Int
structure mG where
 S:x6
 Roots:List Int
 b7:List iw
 T:List I8
 Q:qA
structure nM where
 X:mG
 Progs:List (List fE)
def qB(a0:fE):Option Bool:=
 some ((decide (a0.Kind>=1))&&(decide (a0.Kind<=10)))
def dT(a0:Int)(a1:Int)(a2:Int)(a3:Int):Option Int:=
 if ((decide (a0<a1))||(decide (a0 > a2))) then
  some a3
 else
 some 0
def cJ(a0:Int)(a1:Int)(a2:Int):Option Int:=
 if (a0 != 0) then
  some a0
 else
 if (a1 != 0) then
  some a1
 else
 some a2
def gu(a0:fE):Option Int:=
 (dT a0.A 0 5 6).bind λv1=>
 (dT a0.B 0 5 6).bind λv2=>
 if (a0.Kind==1) then
  (dT a0.B 0 4 1).bind λv3=>
  (dT a0.C (-1) 5 13).bind λv4=>
  (cJ v1 v3 v4).bind λv5=>
  some v5
 else
 jn (λ(j7:Bool)=>
  if j7 then
   (cJ v1 v2 0).bind λv8=>
   some v8
  else
  if (a0.Kind==3) then
   some v1
  else
  if (a0.Kind==4) then
   (dT a0.C 0 3 5).bind λv9=>
   (cJ v1 v2 v9).bind λv10=>
   some v10
  else
  if (a0.Kind==5) then
   (dT a0.B 0 3 5).bind λv11=>
   (dT a0.C (-1) 5 6).bind λv12=>
   (cJ v1 v11 v12).bind λv13=>
   some v13
  else
  if (a0.Kind==6) then
   (dT a0.A 0 5 7).bind λv14=>
   (dT a0.B (-1) 5 6).bind λv15=>
   (dT a0.C (-1) 5 13).bind λv16=>
   (cJ v14 v15 v16).bind λv17=>
   some v17
  else
  if (a0.Kind==7) then
   (dT a0.B 0 5 7).bind λv18=>
   (cJ v1 v18 0).bind λv19=>
   some v19
  else
  if (a0.Kind==8) then
   (dT a0.B (-1) 5 6).bind λv20=>
   (cJ v1 v20 0).bind λv21=>
   some v21
  else
  if (a0.Kind==11) then
   some 0
  else
  if (a0.Kind==12) then
   (dT a0.A 0 200 12).bind λv22=>
   some v22
  else
  some 14) (λκ6=>
  if (a0.Kind==2) then
   κ6 (a0.Kind==2)
  else
  if (a0.Kind==9) then
   κ6 (a0.Kind==9)
  else
  κ6 (a0.Kind==10))
def qC(a0:List (List fE)):Option Bool:=
 if (decide ((a0.length:Int) > 6)) then
  some false
 else
 jn (λ(_:Unit)=>
  some true) (λκ20=>
  (lp (S:=Int) (E:=Bool ⊕ Unit) (λ(s23:Int)=>
   if (decide (s23<(a0.length:Int))) then
    jn (λ(_:Unit)=>
     some (.inl (u4 (s23+1)))) (λκ32=>
     (ix a0 s23).bind λv34=>
     if (decide ((v34.length:Int) > 6)) then
      some (.inr (.inl false))
     else
     (lp (S:=Int) (E:=Bool ⊕ Unit) (λ(s36:Int)=>
      if (decide (s36<(v34.length:Int))) then
       (ix v34 s36).bind λv38=>
       (qB v38).bind λv39=>
       (B9 ((!v39)==false) 0 (gu v38)).bind λv40=>
       if ((!v39)||(v40 != 0)) then
        some (.inr (.inl false))
       else
       some (.inl (u4 (s36+1)))
      else
      some (.inr (.inr ()))) 0).bind λe35=>
     match e35 with
     | .inl w=>some (.inr (.inl w))
     | .inr w=>κ32 w)
   else
   some (.inr (.inr ()))) 0).bind λe22=>
  match e22 with
  | .inl w=>some w
  | .inr w=>κ20 w)
def JZ(a0:Int)(a1:Int):Option U1:=
 if ((((decide (a0<0))||(decide (a0 > 24)))||(decide (a1<0)))||(decide (a1 > 9))) then
  some (⟨[],0⟩:U1)
 else
 (mk 24 a0 (⟨0,0,0⟩:G5)).bind λv1=>
 some (⟨v1,a1⟩:U1)
def DM(a0:Int)(a1:Int):Option x6:=
 (JZ a0 a1).bind λv1=>
 (mk 80 (v1.b7.length:Int) (⟨0,0,⟨0,0,0,0,false,[]⟩⟩:y7)).bind λv2=>
 some (⟨v2,v1.Last,0⟩:x6)
def SF(a0:Int):Option (List iw):=
 jn (λ(j8:List iw)=>
  some j8) (λκ7=>
  (lp (S:=Int × (List iw)) (E:=(List iw)) (λ((s10,s11):Int × (List iw))=>
   if ((decide (s10<a0))&&(decide (a0<=6))) then
    (app 24 s11 [(⟨0,false,(-1)⟩:iw)]).bind λv14=>
    some (.inl (u4 (s10+1),v14))
   else
   some (.inr s11)) (0,[])).bind λe9=>
  κ7 e9)
def Ka(a0:Int):Option (List I8):=
 if ((decide (a0<1))||(decide (a0 > 8))) then
  some []
 else
 (mk 24 a0 (⟨0,0,0⟩:I8)).bind λv1=>
 some v1
def SG:Option qA:=
 some (⟨[],30⟩:qA)
def uB(a0:Int)(a1:Int)(a2:Int):Option mG:=
 if ((((((decide (a0<1))||(decide (a0 > 24)))||(decide (a1<0)))||(decide (a1 > 9)))||(decide (a2<1)))||(decide (a2 > 8))) then
  some (⟨⟨[],0,0⟩,[],[],[],⟨[],0⟩⟩:mG)
 else
 (DM a0 a1).bind λv1=>
 (mk 8 6 (0:Int)).bind λv2=>
 (SF 6).bind λv3=>
 (Ka a2).bind λv4=>
 (SG).bind λv5=>
 some (⟨v1,v2,v3,v4,v5⟩:mG)
def DN(a0:Int)(a1:Int)(a2:Int)(a3:List (List fE)):Option (nM × Int):=
 (qC a3).bind λv1=>
 if (!v1) then
  some ((⟨⟨⟨[],0,0⟩,[],[],[],⟨[],0⟩⟩,[]⟩:nM),13)
 else
 (uB a0 a1 a2).bind λv2=>
 if ((v2.Roots.length:Int)==0) then
  some ((⟨⟨⟨[],0,0⟩,[],[],[],⟨[],0⟩⟩,[]⟩:nM),1)
 else
 some ((⟨v2,a3⟩:nM),0)
def mF(a0:List I8)(a1:Int):Option Int:=
 jn (λ(_:Unit)=>
  some (-1)) (λκ5=>
  (lp (S:=Int) (E:=Int ⊕ Unit) (λ(s8:Int)=>
   if (decide (s8<(a0.length:Int))) then
    (ix a0 s8).bind λv10=>
    if ((v10.State==1)&&(v10.Key==a1)) then
     some (.inr (.inl s8))
    else
    some (.inl (u4 (s8+1)))
   else
   some (.inr (.inr ()))) 0).bind λe7=>
  match e7 with
  | .inl w=>some w
  | .inr w=>κ5 w)
def kf(a0:List Int):Option (fE × Int):=
 if ((a0.length:Int) != 4) then
  some ((⟨0,0,0,0⟩:fE),14)
 else
 (ix a0 0).bind λv1=>
 (ix a0 1).bind λv2=>
 (ix a0 2).bind λv3=>
 (ix a0 3).bind λv4=>
 (gu (⟨v1,v2,v3,v4⟩:fE)).bind λv5=>
 if (v5 != 0) then
  some ((⟨0,0,0,0⟩:fE),v5)
 else
 some ((⟨v1,v2,v3,v4⟩:fE),0)
def Am(a0:List I8)(a1:Int)(a2:I8):Option (List I8):=
 (app 24 [] a0).bind λv1=>
 (ix v1 a1).bind λv2=>
 some (v1.set (a1).toNat a2)
def uA(a0:List I8)(a1:Int):Option ((List I8) × Int × Int):=
 (mF a0 a1).bind λv1=>
 if (decide (v1<0)) then
  some (a0,0,9)
 else
 (Am a0 v1 (⟨2,0,0⟩:I8)).bind λv2=>
 (ix a0 v1).bind λv3=>
 some (v2,v3.Val,0)
def pN(a0:List I8)(a1:List Int):Option ((List I8) × (List Int)):=
 jn (λ((j18,j19):(List I8) × (List Int))=>
  some (j18,j19)) (λκ17=>
  (lp (S:=(List I8) × Int × (List Int)) (E:=((List I8) × (List Int))) (λ((s22,s23,s24):(List I8) × Int × (List Int))=>
   if (decide (s23<(a1.length:Int))) then
    jn (λ((j31,j32):(List I8) × (List Int))=>
     some (.inl (j31,u4 (s23+1),j32))) (λκ30=>
     (ix a1 s23).bind λv34=>
     (uA s22 v34).bind λv35=>
     if (v35.2.2==0) then
      (app 8 s24 [v35.2.1]).bind λv36=>
      κ30 (v35.1,v36)
     else
     κ30 (s22,s24))
   else
   some (.inr (s22,s24))) (a0,0,[])).bind λe21=>
  κ17 e21)
def DL(a0:List Int)(a1:Int):Option (Int × Int):=
 if ((decide (a1<0))||(decide (a1>=(a0.length:Int)))) then
  some (0,5)
 else
 (ix a0 a1).bind λv1=>
 some (v1,0)
end
end Go.Sh
