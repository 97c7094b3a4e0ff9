/- A part. -/
import Derived.Test.YtmgbbnfgfmfgaaaGreatQ22aSh0
import Derived.Test.YtmgbbnfgfmfgaaaGreatQ22aPwD
import Derived.Test.YtmgbbnfgfmfgaaaGreatQ22aPwC
set_option linter.unusedVariables false
set_option linter.unusedSimpArgs false
set_option linter.unusedSectionVars false
namespace Go.Sh
set_option maxRecDepth 100000
noncomputable section
structure k8 where
 Kind:Int
 A:Int
 B:Int
 C:Int
structure b8 where
 Serial:Int
 Slot:Int
 Prog:Int
 Started:Bool
 Alive:Bool
 Stuck:Bool
 Fields:List Int
structure j5 where
 Target:Int
 Intact:Bool
 Call:Int
structure k7 where
 Key:Int
 Val:Int
structure g6 where
 Kind:Int
 At:Int
 Prog:Int
structure n0 where
 Serial:Int
 Strong:Int
 Weak:Int
 Prog:Int
 Started:Bool
 Fields:List Int
structure c8 where
 State:Int
 Gen:Int
 Val:n0
structure g5 where
 State:Int
 Key:Int
 Val:Int
structure l5 where
 part:Fv
 least:Int
 most:Int
 e:Int
structure l4 where
 b7:List c8
 Last:Int
structure b6 where
 S:l4
 Serial:Int
structure g7 where
 L:List g6
 Cap:Int
structure b9 where
 S:b6
 Roots:List Int
 b7:List j5
 T:List g5
 Q:g7
structure n9 where
 X:b9
 Progs:List (List k8)
structure a8 where
 Nodes:List b8
 Slots:List Int
 Gens:List Int
 Last:Int
 Places:Int
 Serial:Int
 Roots:List Int
 b7:List j5
 Pairs:List k7
 Tasks:List g6
 Progs:List (List k8)
structure g8 where
 V:Int
 E:Int
structure c9 where
 L:List Int
 Cap:Int
structure s6 where
 x:b9
 o:k8
structure L7 where
 r:Int
 h:Int
structure H9 where
 h:Int
 k:Int
 v:Int
structure L6 where
 t:List g5
structure z8 where
 V:Int
 E:Int
structure bH where
 Serial:Int
 Strong:Int
 Weak:Int
 Prog:Int
 Started:Bool
 Fields:List Int
structure B8 where
 State:Int
 Gen:Int
 Val:bH
structure D4 where
 Target:Int
 Intact:Bool
 Call:Int
structure u9 where
 State:Int
 Key:Int
 Val:Int
structure G7 where
 Kind:Int
 At:Int
 Prog:Int
structure F1 where
 b7:List B8
 Last:Int
 Serial:Int
structure ai where
 L:List G7
 Cap:Int
structure P5 where
 S:F1
 Roots:List Int
 b7:List D4
 T:List u9
 Q:ai
structure G6 where
 State:Int
 Gen:Int
 Val:Int
structure U0 where
 b7:List G6
 Last:Int
def iq(a0:List (List k8)):Option Bool:=
 jn (λ(_:Unit)=>
  some (decide ((a0.length:Int)<=10))) (λκ5=>
  (lp (S:=Int) (E:=Bool ⊕ Unit) (λ(s8:Int)=>
   if ((decide (s8<(a0.length:Int)))&&(decide (s8<10))) then
    (ix a0 s8).bind λv10=>
    if (decide ((v10.length:Int) > 10)) then
     some (.inr (.inl false))
    else
    some (.inl (w9 (s8+1)))
   else
   some (.inr (.inr ()))) 0).bind λe7=>
  match e7 with
  | .inl w=>some w
  | .inr w=>κ5 w)
def gz(a0:List (List Int))(a1:Int):Option Bool:=
 jn (λ(_:Unit)=>
  some (decide ((a0.length:Int)<=a1))) (λκ5=>
  (lp (S:=Int) (E:=Bool ⊕ Unit) (λ(s8:Int)=>
   if ((decide (s8<(a0.length:Int)))&&(decide (s8<200))) then
    (ix a0 s8).bind λv10=>
    if (decide ((v10.length:Int) > 10)) then
     some (.inr (.inl false))
    else
    some (.inl (w9 (s8+1)))
   else
   some (.inr (.inr ()))) 0).bind λe7=>
  match e7 with
  | .inl w=>some w
  | .inr w=>κ5 w)
def ga(a0:k8):Option Bool:=
 some ((decide (a0.Kind>=1))&&(decide (a0.Kind<=10)))
def bt:Option l5:=
 some (⟨(some 251),0,5,6⟩:l5)
def X6:Option l5:=
 some (⟨(some 254),(-1),5,13⟩:l5)
def M6(a0:List l5):Option (List l5):=
 some a0
def bu:Option l5:=
 some (⟨(some 252),0,5,6⟩:l5)
def aF:Option l5:=
 some (⟨(some 254),0,3,5⟩:l5)
def aE:Option l5:=
 some (⟨(some 252),0,3,5⟩:l5)
def R2:Option l5:=
 some (⟨(some 254),(-1),5,6⟩:l5)
def bq:Option l5:=
 some (⟨(some 251),0,5,7⟩:l5)
def R1:Option l5:=
 some (⟨(some 252),(-1),5,6⟩:l5)
def br:Option l5:=
 some (⟨(some 252),0,5,7⟩:l5)
def mV:Option (List (Int × (List l5))):=
 (bt).bind λv1=>
 (X6).bind λv2=>
 (M6 [v1,(⟨(some 252),0,4,1⟩:l5),v2]).bind λv3=>
 (bu).bind λv4=>
 (M6 [v1,v4]).bind λv5=>
 (M6 [v1]).bind λv6=>
 (aF).bind λv7=>
 (M6 [v1,v4,v7]).bind λv8=>
 (aE).bind λv9=>
 (R2).bind λv10=>
 (M6 [v1,v9,v10]).bind λv11=>
 (bq).bind λv12=>
 (R1).bind λv13=>
 (M6 [v12,v13,v2]).bind λv14=>
 (br).bind λv15=>
 (M6 [v1,v15]).bind λv16=>
 (M6 [v1,v13]).bind λv17=>
 (M6 []).bind λv18=>
 (M6 [(⟨(some 251),0,200,12⟩:l5)]).bind λv19=>
 some (p7 (p7 (p7 (p7 (p7 (p7 (p7 (p7 (p7 (p7 (p7 (p7 [] 1 v3) 2 v5) 3 v6) 4 v8) 5 v11) 6 v14) 7 v16) 8 v17) 9 v5) 10 v5) 11 v18) 12 v19)
def ry(a0:k8):Option Int:=
 some a0.A
def rz(a0:k8):Option Int:=
 some a0.B
def rA(a0:k8):Option Int:=
 some a0.C
def tg(f:Fv)(a0:k8):Option Int:=
 if f=some 251 then ry a0 else
 if f=some 252 then rz a0 else
 if f=some 254 then rA a0 else
 none
def X5(a0:k8):Option Int:=
 (mV).bind λv1=>
 if (!((A2 v1 a0.Kind).isSome)) then
  some 14
 else
 jn (λ(_:Unit)=>
  some 0) (λκ8=>
  (lp (S:=Int) (E:=Int ⊕ Unit) (λ(s11:Int)=>
   if (decide (s11<(((A2 v1 a0.Kind).getD ([]:List l5)).length:Int))) then
    (ix ((A2 v1 a0.Kind).getD ([]:List l5)) s11).bind λv13=>
    (tg v13.part a0).bind λv14=>
    if ((decide (v14<v13.least))||(decide (v14 > v13.most))) then
     some (.inr (.inl v13.e))
    else
    some (.inl (w9 (s11+1)))
   else
   some (.inr (.inr ()))) 0).bind λe10=>
  match e10 with
  | .inl w=>some w
  | .inr w=>κ8 w)
def gb(a0:List (List k8)):Option Bool:=
 if (decide ((a0.length:Int) > 6)) then
  some false
 else
 jn (λ(_:Unit)=>
  some true) (λκ20=>
  (lp (S:=Int) (E:=Bool ⊕ Unit) (λ(s23:Int)=>
   if (decide (s23<(a0.length:Int))) then
    jn (λ(_:Unit)=>
     some (.inl (w9 (s23+1)))) (λκ32=>
     (ix a0 s23).bind λv34=>
     if (decide ((v34.length:Int) > 6)) then
      some (.inr (.inl false))
     else
     (lp (S:=Int) (E:=Bool ⊕ Unit) (λ(s36:Int)=>
      if (decide (s36<(v34.length:Int))) then
       (ix v34 s36).bind λv38=>
       (ga v38).bind λv39=>
       (D3 ((!v39)==false) 0 (X5 v38)).bind λv40=>
       if ((!v39)||(v40 != 0)) then
        some (.inr (.inl false))
       else
       some (.inl (w9 (s36+1)))
      else
      some (.inr (.inr ()))) 0).bind λe35=>
     match e35 with
     | .inl w=>some (.inr (.inl w))
     | .inr w=>κ32 w)
   else
   some (.inr (.inr ()))) 0).bind λe22=>
  match e22 with
  | .inl w=>some w
  | .inr w=>κ20 w)
def aO(a0:Int)(a1:Int):Option l4:=
 if ((((decide (a0<0))||(decide (a0 > 24)))||(decide (a1<0)))||(decide (a1 > 9))) then
  some (⟨[],0⟩:l4)
 else
 (mk 80 a0 (⟨0,0,⟨0,0,0,0,false,[]⟩⟩:c8)).bind λv1=>
 some (⟨v1,a1⟩:l4)
def jC(a0:Int)(a1:Int):Option b6:=
 (aO a0 a1).bind λv1=>
 some (⟨v1,0⟩:b6)
def AM(a0:Int):Option (List j5):=
 if ((decide (a0<0))||(decide (a0 > 6))) then
  some []
 else
 (mk 24 a0 (⟨0,false,0⟩:j5)).bind λv1=>
 jn (λ(j9:List j5)=>
  some j9) (λκ8=>
  (lp (S:=Int × (List j5)) (E:=(List j5)) (λ((s11,s12):Int × (List j5))=>
   if (decide (s11<(v1.length:Int))) then
    (ix s12 s11).bind λv15=>
    some (.inl (w9 (s11+1),(s12.set (s11).toNat (⟨v15.Target,v15.Intact,(-1)⟩:j5))))
   else
   some (.inr s12)) (0,v1)).bind λe10=>
  κ8 e10)
def tt(a0:Int):Option (List g5):=
 if ((decide (a0<1))||(decide (a0 > 8))) then
  some []
 else
 (mk 24 a0 (⟨0,0,0⟩:g5)).bind λv1=>
 some v1
def dd(a0:Int):Option g7:=
 some (⟨[],a0⟩:g7)
def Az:Option g7:=
 (dd 30).bind λv1=>
 some v1
def lO(a0:Int)(a1:Int)(a2:Int):Option b9:=
 if ((((((decide (a0<1))||(decide (a0 > 24)))||(decide (a1<0)))||(decide (a1 > 9)))||(decide (a2<1)))||(decide (a2 > 8))) then
  some (⟨⟨⟨[],0⟩,0⟩,[],[],[],⟨[],0⟩⟩:b9)
 else
 (jC a0 a1).bind λv1=>
 (mk 8 6 (0:Int)).bind λv2=>
 (AM 6).bind λv3=>
 (tt a2).bind λv4=>
 (Az).bind λv5=>
 some (⟨v1,v2,v3,v4,v5⟩:b9)
def X7(a0:Int)(a1:Int)(a2:Int)(a3:List (List k8)):Option (n9 × Int):=
 (gb a3).bind λv1=>
 if (!v1) then
  some ((⟨⟨⟨⟨[],0⟩,0⟩,[],[],[],⟨[],0⟩⟩,[]⟩:n9),13)
 else
 (lO a0 a1 a2).bind λv2=>
 if ((v2.Roots.length:Int)==0) then
  some ((⟨⟨⟨⟨[],0⟩,0⟩,[],[],[],⟨[],0⟩⟩,[]⟩:n9),1)
 else
 some ((⟨v2,a3⟩:n9),0)
def eH(a0:Int)(a1:Int)(a2:Int)(a3:List (List k8)):Option (a8 × Int):=
 (X7 a0 a1 a2 a3).bind λv1=>
 if (v1.2 != 0) then
  some ((⟨[],[],[],0,0,0,[],[],[],[],[]⟩:a8),v1.2)
 else
 (mk 8 a0 (0:Int)).bind λv2=>
 (mk 8 6 (0:Int)).bind λv3=>
 (AM 6).bind λv4=>
 some ((⟨[],v2,v2,a1,a2,0,v3,v4,[],[],a3⟩:a8),0)
def V6(a0:List Int):Option (k8 × Int):=
 if ((a0.length:Int) != 4) then
  some ((⟨0,0,0,0⟩:k8),14)
 else
 (ix a0 0).bind λv1=>
 (ix a0 1).bind λv2=>
 (ix a0 2).bind λv3=>
 (ix a0 3).bind λv4=>
 (X5 (⟨v1,v2,v3,v4⟩:k8)).bind λv5=>
 if (v5 != 0) then
  some ((⟨0,0,0,0⟩:k8),v5)
 else
 some ((⟨v1,v2,v3,v4⟩:k8),0)
def iG(a0:b8):Option Bool:=
 some a0.Stuck
def D0(a0:List b8):Option (List b8):=
 jn (λ(j15:List b8)=>
  some j15) (λκ14=>
  (lp (S:=Int × (List b8)) (E:=(List b8)) (λ((s17,s18):Int × (List b8))=>
   if (decide (s17<(a0.length:Int))) then
    jn (λ(j25:List b8)=>
     some (.inl (w9 (s17+1),j25))) (λκ24=>
     (ix a0 s17).bind λv26=>
     (iG v26).bind λv27=>
     if v27 then
      (app 56 s18 [v26]).bind λv28=>
      κ24 v28
     else
     κ24 s18)
   else
   some (.inr s18)) (0,[])).bind λe16=>
  κ14 e16)
def iI(a0:b8):Option Int:=
 some a0.Serial
def B6(a0:List b8):Option (List Int):=
 jn (λ(j10:List Int)=>
  some j10) (λκ9=>
  (lp (S:=Int × (List Int)) (E:=(List Int)) (λ((s12,s13):Int × (List Int))=>
   if (decide (s12<(a0.length:Int))) then
    (ix a0 s12).bind λv16=>
    (iI v16).bind λv17=>
    (app 8 s13 [v17]).bind λv18=>
    some (.inl (w9 (s12+1),v18))
   else
   some (.inr s13)) (0,[])).bind λe11=>
  κ9 e11)
def J4(a0:List b8):Option (List Int):=
 (B6 a0).bind λv1=>
 some v1
def bg(a0:Int):Option c9:=
 some (⟨[],a0⟩:c9)
def X8(a0:a8):Option g7:=
 (Az).bind λv1=>
 some (⟨a0.Tasks,v1.Cap⟩:g7)
def qs(a0:g7)(a1:Int):Option (g7 × Int):=
 some (a0,a1)
def gy(a0:g7):Option (List Int):=
 jn (λ(j10:List Int)=>
  some j10) (λκ9=>
  (qs a0 1).bind λv11=>
  (lp (S:=Int × (List Int)) (E:=(List Int)) (λ((s13,s14):Int × (List Int))=>
   if (decide (s13<(v11.1.L.length:Int))) then
    (ix v11.1.L s13).bind λv17=>
    if ((v17.Kind==v11.2)==true) then
     (app 8 s14 [v17.At]).bind λv18=>
     some (.inl (w9 (s13+1),v18))
    else
    some (.inl (w9 (s13+1),s14))
   else
   some (.inr s14)) (0,[])).bind λe12=>
  κ9 e12)
def G3(a0:List (List Int)):Option (List Int):=
 jn (λ(j11:Int)=>
  jn (λ(_:Unit)=>
   if (decide ((w9 (j11-(w9 (0-0)))) > 0)) then
    (mk 8 (w9 (j11-(w9 (0-0)))) (0:Int)).bind λv14=>
    jn (λ(j23:List Int)=>
     some j23) (λκ22=>
     (lp (S:=Int × (List Int)) (E:=(List Int)) (λ((s25,s26):Int × (List Int))=>
      if (decide (s25<(a0.length:Int))) then
       (ix a0 s25).bind λv29=>
       (app 8 s26 v29).bind λv30=>
       some (.inl (w9 (s25+1),v30))
      else
      some (.inr s26)) (0,[])).bind λe24=>
     κ22 e24)
   else
   jn (λ(j39:List Int)=>
    some j39) (λκ38=>
    (lp (S:=Int × (List Int)) (E:=(List Int)) (λ((s41,s42):Int × (List Int))=>
     if (decide (s41<(a0.length:Int))) then
      (ix a0 s41).bind λv45=>
      (app 8 s42 v45).bind λv46=>
      some (.inl (w9 (s41+1),v46))
     else
     some (.inr s42)) (0,[])).bind λe40=>
    κ38 e40)) (λκ12=>
   if (decide (j11<0)) then
    none
   else
   κ12 ())) (λκ10=>
  (lp (S:=Int × Int) (E:=Int) (λ((s48,s49):Int × Int)=>
   if (decide (s49<(a0.length:Int))) then
    jn (λ(j54:Int)=>
     some (.inl (j54,w9 (s49+1)))) (λκ53=>
     (ix a0 s49).bind λv55=>
     if (decide ((w9 (s48+(v55.length:Int)))<0)) then
      none
     else
     κ53 (w9 (s48+(v55.length:Int))))
   else
   some (.inr s48)) (0,0)).bind λe47=>
  κ10 e47)
def I1(a0:c9):Option Int:=
 some (a0.L.length:Int)
def T9(a0:List Int)(a1:Int)(a2:Int):Option (List Int):=
 (cut a0 a1 a2).bind λv1=>
 some v1
def D8(a0:c9)(a1:Int):Option (c9 × Int):=
 (I1 a0).bind λv1=>
 if (decide (v1>=a0.Cap)) then
  some (a0,4)
 else
 (T9 a0.L 0 v1).bind λv2=>
 (app 8 v2 [a1]).bind λv3=>
 some ((⟨v3,a0.Cap⟩:c9),0)
def iM(a0:c9)(a1:Int):Option (c9 × (List Int)):=
 (I1 a0).bind λv1=>
 (T9 a0.L 0 (if (if v1<a1 then v1 else a1) > 0 then (if v1<a1 then v1 else a1) else 0)).bind λv2=>
 (T9 a0.L (if (if v1<a1 then v1 else a1) > 0 then (if v1<a1 then v1 else a1) else 0) v1).bind λv3=>
 some ((⟨v3,a0.Cap⟩:c9),v2)
def X9(a0:c9):Option (c9 × Int × Int):=
 (iM a0 1).bind λv1=>
 if ((v1.2.length:Int)==0) then
  some (a0,0,10)
 else
 (ix v1.2 0).bind λv2=>
 some (v1.1,v2,0)
def fy(a0:b8)(a1:Int):Option Bool:=
 some (a0.Serial==a1)
def z7(a0:List b8)(a1:Int):Option Int:=
 jn (λ(_:Unit)=>
  some (-1)) (λκ6=>
  (lp (S:=Int) (E:=Int ⊕ Unit) (λ(s9:Int)=>
   if (decide (s9<(a0.length:Int))) then
    (ix a0 s9).bind λv11=>
    (fy v11 a1).bind λv12=>
    if v12 then
     some (.inr (.inl s9))
    else
    some (.inl (w9 (s9+1)))
   else
   some (.inr (.inr ()))) 0).bind λe8=>
  match e8 with
  | .inl w=>some w
  | .inr w=>κ6 w)
def K0(a0:a8)(a1:Int):Option Int:=
 (z7 a0.Nodes a1).bind λv1=>
 some v1
def cJ(a0:k7)(a1:Int):Option Bool:=
 some (a0.Key==a1)
def C5(a0:List k7)(a1:Int):Option (List k7):=
 jn (λ(j15:List k7)=>
  some j15) (λκ14=>
  (lp (S:=Int × (List k7)) (E:=(List k7)) (λ((s17,s18):Int × (List k7))=>
   if (decide (s17<(a0.length:Int))) then
    jn (λ(j25:List k7)=>
     some (.inl (w9 (s17+1),j25))) (λκ24=>
     (ix a0 s17).bind λv26=>
     (cJ v26 a1).bind λv27=>
     if v27 then
      (app 16 s18 [v26]).bind λv28=>
      κ24 v28
     else
     κ24 s18)
   else
   some (.inr s18)) (0,[])).bind λe16=>
  κ14 e16)
def gn(a0:k7):Option Int:=
 some a0.Val
def E3(a0:List k7):Option (List Int):=
 jn (λ(j10:List Int)=>
  some j10) (λκ9=>
  (lp (S:=Int × (List Int)) (E:=(List Int)) (λ((s12,s13):Int × (List Int))=>
   if (decide (s12<(a0.length:Int))) then
    (ix a0 s12).bind λv16=>
    (gn v16).bind λv17=>
    (app 8 s13 [v17]).bind λv18=>
    some (.inl (w9 (s12+1),v18))
   else
   some (.inr s13)) (0,[])).bind λe11=>
  κ9 e11)
def P3(a0:a8)(a1:Int):Option (List Int):=
 (C5 a0.Pairs a1).bind λv1=>
 (E3 v1).bind λv2=>
 some v2
def gM(a0:a8):Option (List (Int × Bool)):=
 (D0 a0.Nodes).bind λv1=>
 (J4 v1).bind λv2=>
 (bg (a0.Nodes.length:Int)).bind λv3=>
 (X8 a0).bind λv4=>
 (gy v4).bind λv5=>
 (G3 [a0.Roots,v5,v2]).bind λv6=>
 jn (λ((j22,j23):c9 × (List (Int × Bool)))=>
  jn (λ(j100:List (Int × Bool))=>
   some j100) (λκ99=>
   (lp (S:=c9 × (List (Int × Bool))) (E:=(List (Int × Bool))) (λ((s102,s103):c9 × (List (Int × Bool)))=>
    (I1 s102).bind λv106=>
    if (decide (v106 > 0)) then
     (X9 s102).bind λv107=>
     (K0 a0 v107.2.1).bind λv108=>
     (ix a0.Nodes v108).bind λv109=>
     jn (λ((j125,j126):c9 × (List (Int × Bool)))=>
      (P3 a0 v107.2.1).bind λv128=>
      jn (λ((j144,j145):c9 × (List (Int × Bool)))=>
       some (.inl (j144,j145))) (λκ143=>
       (lp (S:=Int × c9 × (List (Int × Bool))) (E:=(c9 × (List (Int × Bool)))) (λ((s148,s149,s150):Int × c9 × (List (Int × Bool)))=>
        if (decide (s148<(v128.length:Int))) then
         jn (λ((j156,j157):c9 × (List (Int × Bool)))=>
          some (.inl (w9 (s148+1),j156,j157))) (λκ155=>
          (ix v128 s148).bind λv159=>
          if (!((A2 s150 v159).getD (false:Bool))) then
           (D8 s149 v159).bind λv160=>
           κ155 (v160.1,(p7 s150 v159 true))
          else
          κ155 (s149,s150))
        else
        some (.inr (s149,s150))) (0,j125,j126)).bind λe147=>
       κ143 e147)) (λκ124=>
      (lp (S:=Int × c9 × (List (Int × Bool))) (E:=(c9 × (List (Int × Bool)))) (λ((s162,s163,s164):Int × c9 × (List (Int × Bool)))=>
       if (decide (s162<(v109.Fields.length:Int))) then
        jn (λ((j170,j171):c9 × (List (Int × Bool)))=>
         some (.inl (w9 (s162+1),j170,j171))) (λκ169=>
         (ix v109.Fields s162).bind λv173=>
         if (!((A2 s164 v173).getD (false:Bool))) then
          (D8 s163 v173).bind λv174=>
          κ169 (v174.1,(p7 s164 v173 true))
         else
         κ169 (s163,s164))
       else
       some (.inr (s163,s164))) (0,v107.1,s103)).bind λe161=>
      κ124 e161)
    else
    some (.inr s103)) (j22,j23)).bind λe101=>
   κ99 e101)) (λκ21=>
  (lp (S:=Int × c9 × (List (Int × Bool))) (E:=(c9 × (List (Int × Bool)))) (λ((s176,s177,s178):Int × c9 × (List (Int × Bool)))=>
   if (decide (s176<(v6.length:Int))) then
    jn (λ((j184,j185):c9 × (List (Int × Bool)))=>
     some (.inl (w9 (s176+1),j184,j185))) (λκ183=>
     (ix v6 s176).bind λv187=>
     if (!((A2 s178 v187).getD (false:Bool))) then
      (D8 s177 v187).bind λv188=>
      κ183 (v188.1,(p7 s178 v187 true))
     else
     κ183 (s177,s178))
   else
   some (.inr (s177,s178))) (0,v3,(p7 [] 0 true))).bind λe175=>
  κ21 e175)
def bF(a0:b8)(a1:List (Int × Bool)):Option Bool:=
 some (a0.Alive&&(!((A2 a1 a0.Serial).getD (false:Bool))))
def C3(a0:List b8)(a1:List (Int × Bool)):Option (List b8):=
 jn (λ(j15:List b8)=>
  some j15) (λκ14=>
  (lp (S:=Int × (List b8)) (E:=(List b8)) (λ((s17,s18):Int × (List b8))=>
   if (decide (s17<(a0.length:Int))) then
    jn (λ(j25:List b8)=>
     some (.inl (w9 (s17+1),j25))) (λκ24=>
     (ix a0 s17).bind λv26=>
     (bF v26 a1).bind λv27=>
     if v27 then
      (app 56 s18 [v26]).bind λv28=>
      κ24 v28
     else
     κ24 s18)
   else
   some (.inr s18)) (0,[])).bind λe16=>
  κ14 e16)
def dx(a0:b8):Option Bool:=
 some ((decide (a0.Prog>=0))&&(!a0.Started))
def D7(a0:List b8):Option (List b8):=
 jn (λ(j15:List b8)=>
  some j15) (λκ14=>
  (lp (S:=Int × (List b8)) (E:=(List b8)) (λ((s17,s18):Int × (List b8))=>
   if (decide (s17<(a0.length:Int))) then
    jn (λ(j25:List b8)=>
     some (.inl (w9 (s17+1),j25))) (λκ24=>
     (ix a0 s17).bind λv26=>
     (dx v26).bind λv27=>
     if v27 then
      (app 56 s18 [v26]).bind λv28=>
      κ24 v28
     else
     κ24 s18)
   else
   some (.inr s18)) (0,[])).bind λe16=>
  κ14 e16)
def kV(a0:a8):Option a8:=
 some a0
def iE(a0:k7):Option Int:=
 some a0.Val
def B5(a0:List k7):Option (List Int):=
 jn (λ(j10:List Int)=>
  some j10) (λκ9=>
  (lp (S:=Int × (List Int)) (E:=(List Int)) (λ((s12,s13):Int × (List Int))=>
   if (decide (s12<(a0.length:Int))) then
    (ix a0 s12).bind λv16=>
    (iE v16).bind λv17=>
    (app 8 s13 [v17]).bind λv18=>
    some (.inl (w9 (s12+1),v18))
   else
   some (.inr s13)) (0,[])).bind λe11=>
  κ9 e11)
def lB(a0:b8):Option Bool:=
 some a0.Alive
def B0(a0:List b8):Option (List b8):=
 jn (λ(j15:List b8)=>
  some j15) (λκ14=>
  (lp (S:=Int × (List b8)) (E:=(List b8)) (λ((s17,s18):Int × (List b8))=>
   if (decide (s17<(a0.length:Int))) then
    jn (λ(j25:List b8)=>
     some (.inl (w9 (s17+1),j25))) (λκ24=>
     (ix a0 s17).bind λv26=>
     (lB v26).bind λv27=>
     if v27 then
      (app 56 s18 [v26]).bind λv28=>
      κ24 v28
     else
     κ24 s18)
   else
   some (.inr s18)) (0,[])).bind λe16=>
  κ14 e16)
def eG(a0:a8)(a1:Int):Option Int:=
 jn (λ(j33:Int)=>
  some j33) (λκ32=>
  (kV a0).bind λv34=>
  (B5 v34.Pairs).bind λv35=>
  (X8 v34).bind λv36=>
  (gy v36).bind λv37=>
  jn (λ(j47:List (List Int))=>
   (G3 j47).bind λv48=>
   (lp (S:=Int × Int) (E:=Int) (λ((s50,s51):Int × Int)=>
    if (decide (s50<(v48.length:Int))) then
     (ix v48 s50).bind λv54=>
     jn (λ(j56:Int)=>
      some (.inl (w9 (s50+1),j56))) (λκ55=>
      if ((a1 != 0)&&(v54==a1)) then
       κ55 (w9 (s51+1))
      else
      κ55 s51)
    else
    some (.inr s51)) (0,0)).bind λe49=>
   κ32 e49) (λκ46=>
   (B0 v34.Nodes).bind λv57=>
   (lp (S:=Int × (List (List Int))) (E:=(List (List Int))) (λ((s59,s60):Int × (List (List Int)))=>
    if (decide (s59<(v57.length:Int))) then
     (ix v57 s59).bind λv63=>
     (app 24 s60 [v63.Fields]).bind λv64=>
     some (.inl (w9 (s59+1),v64))
    else
    some (.inr s60)) (0,[v34.Roots,v35,v37])).bind λe58=>
   κ46 e58))
def r7(a0:List b8):Option (List b8):=
 app 56 [] a0
def nm(a0:b8):Option b8:=
 some (⟨a0.Serial,a0.Slot,a0.Prog,a0.Started,a0.Alive,true,a0.Fields⟩:b8)
def R3(a0:a8)(a1:Int):Option a8:=
 (K0 a0 a1).bind λv1=>
 (r7 a0.Nodes).bind λv2=>
 (ix v2 v1).bind λv3=>
 (nm v3).bind λv4=>
 some (⟨(v2.set (v1).toNat v4),a0.Slots,a0.Gens,a0.Last,a0.Places,a0.Serial,a0.Roots,a0.b7,a0.Pairs,a0.Tasks,a0.Progs⟩:a8)
def dX(a0:a8)(a1:Int):Option a8:=
 (eG a0 a1).bind λv1=>
 if (decide (v1<11)) then
  some a0
 else
 (R3 a0 a1).bind λv2=>
 some v2
def iJ(a0:b8):Option b8:=
 some (⟨a0.Serial,a0.Slot,a0.Prog,true,a0.Alive,a0.Stuck,a0.Fields⟩:b8)
def N6(a0:a8)(a1:Int):Option a8:=
 (K0 a0 a1).bind λv1=>
 (r7 a0.Nodes).bind λv2=>
 (ix v2 v1).bind λv3=>
 (iJ v3).bind λv4=>
 some (⟨(v2.set (v1).toNat v4),a0.Slots,a0.Gens,a0.Last,a0.Places,a0.Serial,a0.Roots,a0.b7,a0.Pairs,a0.Tasks,a0.Progs⟩:a8)
def G9(a0:List g6):Option (List g6):=
 app 24 [] a0
def bf(a0:a8)(a1:Int):Option a8:=
 (dX a0 a1).bind λv1=>
 (K0 v1 a1).bind λv2=>
 (ix v1.Nodes v2).bind λv3=>
 (N6 v1 a1).bind λv4=>
 (G9 v4.Tasks).bind λv5=>
 (app 24 v5 [(⟨1,a1,v3.Prog⟩:g6)]).bind λv6=>
 some (⟨v4.Nodes,v4.Slots,v4.Gens,v4.Last,v4.Places,v4.Serial,v4.Roots,v4.b7,v4.Pairs,v6,v4.Progs⟩:a8)
def H8(a0:List Int)(a1:Int):Option Int:=
 jn (λ(_:Unit)=>
  some (-1)) (λκ5=>
  (lp (S:=Int) (E:=Int ⊕ Unit) (λ(s8:Int)=>
   if (decide (s8<(a0.length:Int))) then
    (ix a0 s8).bind λv10=>
    if (a1==v10) then
     some (.inr (.inl s8))
    else
    some (.inl (w9 (s8+1)))
   else
   some (.inr (.inr ()))) 0).bind λe7=>
  match e7 with
  | .inl w=>some w
  | .inr w=>κ5 w)
def E6(a0:List Int)(a1:Int):Option Bool:=
 (H8 a0 a1).bind λv1=>
 some (decide (v1>=0))
def cR(a0:j5)(a1:List Int):Option Bool:=
 (D3 ((a0.Intact&&(a0.Target != 0))==true) false (E6 a1 a0.Target)).bind λv1=>
 some ((a0.Intact&&(a0.Target != 0))&&v1)
def M9(a0:List j5)(a1:List Int):Option (List Int):=
 jn (λ(j15:List Int)=>
  some j15) (λκ14=>
  (lp (S:=Int × (List Int)) (E:=(List Int)) (λ((s17,s18):Int × (List Int))=>
   if (decide (s17<(a0.length:Int))) then
    jn (λ(j25:List Int)=>
     some (.inl (w9 (s17+1),j25))) (λκ24=>
     (ix a0 s17).bind λv26=>
     (cR v26 a1).bind λv27=>
     if v27 then
      (app 8 s18 [s17]).bind λv28=>
      κ24 v28
     else
     κ24 s18)
   else
   some (.inr s18)) (0,[])).bind λe16=>
  κ14 e16)
def ck(a0:List j5):Option (List j5):=
 (mk 24 (a0.length:Int) (⟨0,false,0⟩:j5)).bind λv1=>
 (xv v1 a0).bind λv2=>
 some v2
def gB(a0:List j5)(a1:List Int):Option ((List j5) × (List Int)):=
 (M9 a0 a1).bind λv1=>
 (ck a0).bind λv2=>
 jn (λ((j22,j23):(List Int) × (List j5))=>
  some (j23,j22)) (λκ21=>
  (lp (S:=Int × (List j5) × (List Int)) (E:=((List Int) × (List j5))) (λ((s26,s27,s28):Int × (List j5) × (List Int))=>
   if (decide (s26<(v1.length:Int))) then
    jn (λ((j36,j37):(List Int) × (List j5))=>
     some (.inl (w9 (s26+1),j37,j36))) (λκ35=>
     (ix v1 s26).bind λv39=>
     (ix s27 v39).bind λv40=>
     (ix (s27.set (v39).toNat (⟨v40.Target,false,v40.Call⟩:j5)) v39).bind λv41=>
     if (decide (v41.Call>=0)) then
      (app 8 s28 [v39]).bind λv42=>
      κ35 (v42,(s27.set (v39).toNat (⟨v40.Target,false,v40.Call⟩:j5)))
     else
     κ35 (s28,(s27.set (v39).toNat (⟨v40.Target,false,v40.Call⟩:j5))))
   else
   some (.inr (s28,s27))) (0,v2,[])).bind λe25=>
  κ21 e25)
def fq(a0:Int)(a1:List j5):Option g6:=
 (ix a1 a0).bind λv1=>
 some (⟨2,a0,v1.Call⟩:g6)
def C2(a0:List Int)(a1:List j5):Option (List g6):=
 jn (λ(j10:List g6)=>
  some j10) (λκ9=>
  (lp (S:=Int × (List g6)) (E:=(List g6)) (λ((s12,s13):Int × (List g6))=>
   if (decide (s12<(a0.length:Int))) then
    (ix a0 s12).bind λv16=>
    (fq v16 a1).bind λv17=>
    (app 24 s13 [v17]).bind λv18=>
    some (.inl (w9 (s12+1),v18))
   else
   some (.inr s13)) (0,[])).bind λe11=>
  κ9 e11)
def F9(a0:List (List g6)):Option (List g6):=
 jn (λ(j11:Int)=>
  jn (λ(_:Unit)=>
   if (decide ((w9 (j11-(w9 (0-0)))) > 0)) then
    (mk 24 (w9 (j11-(w9 (0-0)))) (⟨0,0,0⟩:g6)).bind λv14=>
    jn (λ(j23:List g6)=>
     some j23) (λκ22=>
     (lp (S:=Int × (List g6)) (E:=(List g6)) (λ((s25,s26):Int × (List g6))=>
      if (decide (s25<(a0.length:Int))) then
       (ix a0 s25).bind λv29=>
       (app 24 s26 v29).bind λv30=>
       some (.inl (w9 (s25+1),v30))
      else
      some (.inr s26)) (0,[])).bind λe24=>
     κ22 e24)
   else
   jn (λ(j39:List g6)=>
    some j39) (λκ38=>
    (lp (S:=Int × (List g6)) (E:=(List g6)) (λ((s41,s42):Int × (List g6))=>
     if (decide (s41<(a0.length:Int))) then
      (ix a0 s41).bind λv45=>
      (app 24 s42 v45).bind λv46=>
      some (.inl (w9 (s41+1),v46))
     else
     some (.inr s42)) (0,[])).bind λe40=>
    κ38 e40)) (λκ12=>
   if (decide (j11<0)) then
    none
   else
   κ12 ())) (λκ10=>
  (lp (S:=Int × Int) (E:=Int) (λ((s48,s49):Int × Int)=>
   if (decide (s49<(a0.length:Int))) then
    jn (λ(j54:Int)=>
     some (.inl (j54,w9 (s49+1)))) (λκ53=>
     (ix a0 s49).bind λv55=>
     if (decide ((w9 (s48+(v55.length:Int)))<0)) then
      none
     else
     κ53 (w9 (s48+(v55.length:Int))))
   else
   some (.inr s48)) (0,0)).bind λe47=>
  κ10 e47)
def fu(a0:k7)(a1:List Int):Option Bool:=
 (E6 a1 a0.Key).bind λv1=>
 some (!v1)
def D5(a0:List k7)(a1:List Int):Option (List k7):=
 jn (λ(j15:List k7)=>
  some j15) (λκ14=>
  (lp (S:=Int × (List k7)) (E:=(List k7)) (λ((s17,s18):Int × (List k7))=>
   if (decide (s17<(a0.length:Int))) then
    jn (λ(j25:List k7)=>
     some (.inl (w9 (s17+1),j25))) (λκ24=>
     (ix a0 s17).bind λv26=>
     (fu v26 a1).bind λv27=>
     if v27 then
      (app 16 s18 [v26]).bind λv28=>
      κ24 v28
     else
     κ24 s18)
   else
   some (.inr s18)) (0,[])).bind λe16=>
  κ14 e16)
def jT(a0:b8):Option b8:=
 some (⟨a0.Serial,a0.Slot,a0.Prog,a0.Started,false,a0.Stuck,[]⟩:b8)
def D2(a0:a8)(a1:Int):Option a8:=
 (K0 a0 a1).bind λv1=>
 (r7 a0.Nodes).bind λv2=>
 (ix v2 v1).bind λv3=>
 (jT v3).bind λv4=>
 some (⟨(v2.set (v1).toNat v4),a0.Slots,a0.Gens,a0.Last,a0.Places,a0.Serial,a0.Roots,a0.b7,a0.Pairs,a0.Tasks,a0.Progs⟩:a8)
def gQ(a0:j5)(a1:Int):Option Bool:=
 some ((a1 != 0)&&(a0.Target==a1))
def U4(a0:List j5)(a1:Int):Option (List Int):=
 jn (λ(j15:List Int)=>
  some j15) (λκ14=>
  (lp (S:=Int × (List Int)) (E:=(List Int)) (λ((s17,s18):Int × (List Int))=>
   if (decide (s17<(a0.length:Int))) then
    jn (λ(j25:List Int)=>
     some (.inl (w9 (s17+1),j25))) (λκ24=>
     (ix a0 s17).bind λv26=>
     (gQ v26 a1).bind λv27=>
     if v27 then
      (app 8 s18 [s17]).bind λv28=>
      κ24 v28
     else
     κ24 s18)
   else
   some (.inr s18)) (0,[])).bind λe16=>
  κ14 e16)
def eN(a0:List j5)(a1:Int):Option Int:=
 (U4 a0 a1).bind λv1=>
 some (v1.length:Int)
def cH(a0:b8)(a1:Int):Option Bool:=
 some (a0.Serial != a1)
def C6(a0:List b8)(a1:Int):Option (List b8):=
 jn (λ(j15:List b8)=>
  some j15) (λκ14=>
  (lp (S:=Int × (List b8)) (E:=(List b8)) (λ((s17,s18):Int × (List b8))=>
   if (decide (s17<(a0.length:Int))) then
    jn (λ(j25:List b8)=>
     some (.inl (w9 (s17+1),j25))) (λκ24=>
     (ix a0 s17).bind λv26=>
     (cH v26 a1).bind λv27=>
     if v27 then
      (app 56 s18 [v26]).bind λv28=>
      κ24 v28
     else
     κ24 s18)
   else
   some (.inr s18)) (0,[])).bind λe16=>
  κ14 e16)
def y9(a0:List Int):Option (List Int):=
 app 8 [] a0
def P2(a0:a8)(a1:Int):Option a8:=
 (K0 a0 a1).bind λv1=>
 (D3 ((decide (v1<0))==false) (⟨0,0,0,false,false,false,[]⟩:b8) (ix a0.Nodes v1)).bind λv2=>
 (D3 (((decide (v1<0))||v2.Alive)==false) 0 (eN a0.b7 a1)).bind λv3=>
 if (((decide (v1<0))||v2.Alive)||(decide (v3 > 0))) then
  some a0
 else
 (ix a0.Nodes v1).bind λv4=>
 (C6 a0.Nodes a1).bind λv5=>
 (y9 a0.Slots).bind λv6=>
 (y9 a0.Gens).bind λv7=>
 (ix v7 v4.Slot).bind λv8=>
 if (v8==a0.Last) then
  (ix v6 v4.Slot).bind λv9=>
  some (⟨v5,(v6.set (v4.Slot).toNat (-1)),v7,a0.Last,a0.Places,a0.Serial,a0.Roots,a0.b7,a0.Pairs,a0.Tasks,a0.Progs⟩:a8)
 else
 (ix v6 v4.Slot).bind λv10=>
 some (⟨v5,(v6.set (v4.Slot).toNat 0),(v7.set (v4.Slot).toNat (w9 (v8+1))),a0.Last,a0.Places,a0.Serial,a0.Roots,a0.b7,a0.Pairs,a0.Tasks,a0.Progs⟩:a8)
def fp(a0:a8)(a1:List Int):Option a8:=
 (gB a0.b7 a1).bind λv1=>
 (C2 v1.2 v1.1).bind λv2=>
 (F9 [a0.Tasks,v2]).bind λv3=>
 (D5 a0.Pairs a1).bind λv4=>
 jn (λ(j14:a8)=>
  some j14) (λκ13=>
  (lp (S:=Int × a8) (E:=a8) (λ((s16,s17):Int × a8)=>
   if (decide (s16<(a1.length:Int))) then
    (ix a1 s16).bind λv20=>
    (D2 s17 v20).bind λv21=>
    (P2 v21 v20).bind λv22=>
    some (.inl (w9 (s16+1),v22))
   else
   some (.inr s17)) (0,(⟨a0.Nodes,a0.Slots,a0.Gens,a0.Last,a0.Places,a0.Serial,a0.Roots,v1.1,v4,v3,a0.Progs⟩:a8))).bind λe15=>
  κ13 e15)
def aX(a0:b8)(a1:a8):Option Bool:=
 (D3 ((a0.Alive&&(!a0.Stuck))==true) 0 (eG a1 a0.Serial)).bind λv1=>
 some ((a0.Alive&&(!a0.Stuck))&&(v1==0))
def y4(a0:List b8)(a1:a8):Option Int:=
 jn (λ(_:Unit)=>
  some (-1)) (λκ6=>
  (lp (S:=Int) (E:=Int ⊕ Unit) (λ(s9:Int)=>
   if (decide (s9<(a0.length:Int))) then
    (ix a0 s9).bind λv11=>
    (aX v11 a1).bind λv12=>
    if v12 then
     some (.inr (.inl s9))
    else
    some (.inl (w9 (s9+1)))
   else
   some (.inr (.inr ()))) 0).bind λe8=>
  match e8 with
  | .inl w=>some w
  | .inr w=>κ6 w)
def I0(a0:a8):Option a8:=
 (lp (S:=a8) (E:=a8) (λ(s2:a8)=>
  (y4 s2.Nodes s2).bind λv4=>
  if (decide (v4<0)) then
   some (.inr s2)
  else
  (ix s2.Nodes v4).bind λv5=>
  (dx v5).bind λv6=>
  if v6 then
   (bf s2 v5.Serial).bind λv7=>
   some (.inl v7)
  else
  (fp s2 [v5.Serial]).bind λv8=>
  some (.inl v8)) a0).bind λe1=>
 some e1
def az(a0:a8):Option (List Int):=
 (B0 a0.Nodes).bind λv1=>
 (J4 v1).bind λv2=>
 some v2
def dK(a0:a8):Option (a8 × g8):=
 (gM a0).bind λv1=>
 (C3 a0.Nodes v1).bind λv2=>
 (D7 v2).bind λv3=>
 (J4 v3).bind λv4=>
 jn (λ(j13:a8)=>
  if (decide ((v4.length:Int) > 0)) then
   some (j13,(⟨w9 (0-(v4.length:Int)),0⟩:g8))
  else
  (J4 v2).bind λv14=>
  (fp j13 v14).bind λv15=>
  (I0 v15).bind λv16=>
  (az j13).bind λv17=>
  (az v16).bind λv18=>
  some (v16,(⟨w9 ((v17.length:Int)-(v18.length:Int)),0⟩:g8))) (λκ12=>
  (lp (S:=Int × a8) (E:=a8) (λ((s20,s21):Int × a8)=>
   if (decide (s20<(v4.length:Int))) then
    (ix v4 s20).bind λv24=>
    (bf s21 v24).bind λv25=>
    some (.inl (w9 (s20+1),v25))
   else
   some (.inr s21)) (0,a0)).bind λe19=>
  κ12 e19)
def dP(a0:List (List k8))(a1:Int):Option (List k8):=
 if ((decide (a1<0))||(decide (a1>=(a0.length:Int)))) then
  some []
 else
 (ix a0 a1).bind λv1=>
 some v1
def bP(a0:List (List k8))(a1:g6):Option Int:=
 (dP a0 a1.Prog).bind λv1=>
 some (w9 (1+(v1.length:Int)))
def W1(a0:a8)(a1:Int)(a2:Int):Option a8:=
 (dX a0 a2).bind λv1=>
 (y9 v1.Roots).bind λv2=>
 (ix v2 a1).bind λv3=>
 some (⟨v1.Nodes,v1.Slots,v1.Gens,v1.Last,v1.Places,v1.Serial,(v2.set (a1).toNat a2),v1.b7,v1.Pairs,v1.Tasks,v1.Progs⟩:a8)
def M3(a0:g7):Option Int:=
 some (a0.L.length:Int)
def H7(a0:List g6)(a1:Int)(a2:Int):Option (List g6):=
 (cut a0 a1 a2).bind λv1=>
 some v1
def bw(a0:g7)(a1:Int):Option (g7 × (List g6)):=
 (M3 a0).bind λv1=>
 (H7 a0.L 0 (if (if v1<a1 then v1 else a1) > 0 then (if v1<a1 then v1 else a1) else 0)).bind λv2=>
 (H7 a0.L (if (if v1<a1 then v1 else a1) > 0 then (if v1<a1 then v1 else a1) else 0) v1).bind λv3=>
 some ((⟨v3,a0.Cap⟩:g7),v2)
def de(a0:g7):Option (g7 × g6 × Int):=
 (bw a0 1).bind λv1=>
 if ((v1.2.length:Int)==0) then
  some (a0,(⟨0,0,0⟩:g6),10)
 else
 (ix v1.2 0).bind λv2=>
 some (v1.1,v2,0)
def bj(a0:g7):Option (g7 × g6 × Int):=
 (de a0).bind λv1=>
 some (v1.1,v1.2.1,v1.2.2)
def T8(a0:a8)(a1:Int):Option Int:=
 if (decide (a1<0)) then
  some 0
 else
 (ix a0.Roots a1).bind λv1=>
 some v1
def O6(a0:a8)(a1:Int):Option (b8 × Int):=
 (T8 a0 a1).bind λv1=>
 if (v1==0) then
  some ((⟨0,0,0,false,false,false,[]⟩:b8),2)
 else
 (K0 a0 v1).bind λv2=>
 (ix a0.Nodes v2).bind λv3=>
 some (v3,0)
def gP(a0:List Int)(a1:Int):Option Bool:=
 some ((decide (a1>=0))&&(decide (a1<(a0.length:Int))))
def mC(a0:List Int)(a1:Int)(a2:Int):Option ((List Int) × Int):=
 (gP a0 a1).bind λv1=>
 if (!v1) then
  some (a0,5)
 else
 (mk 8 (a0.length:Int) (0:Int)).bind λv2=>
 (xv v2 a0).bind λv3=>
 (ix v3 a1).bind λv4=>
 some ((v3.set (a1).toNat a2),0)
def fA(a0:b8)(a1:List Int):Option b8:=
 some (⟨a0.Serial,a0.Slot,a0.Prog,a0.Started,a0.Alive,a0.Stuck,a1⟩:b8)
def P1(a0:a8)(a1:Int)(a2:List Int):Option a8:=
 (K0 a0 a1).bind λv1=>
 (r7 a0.Nodes).bind λv2=>
 (ix v2 v1).bind λv3=>
 (fA v3 a2).bind λv4=>
 some (⟨(v2.set (v1).toNat v4),a0.Slots,a0.Gens,a0.Last,a0.Places,a0.Serial,a0.Roots,a0.b7,a0.Pairs,a0.Tasks,a0.Progs⟩:a8)
def jf(a0:a8)(a1:Int)(a2:k8):Option (a8 × Int):=
 (O6 a0 a2.A).bind λv1=>
 if (v1.2 != 0) then
  some (a0,v1.2)
 else
 (mC v1.1.Fields a2.B a1).bind λv2=>
 if (v2.2 != 0) then
  some (a0,v2.2)
 else
 (dX a0 a1).bind λv3=>
 (P1 v3 v1.1.Serial v2.1).bind λv4=>
 some (v4,0)
def K6(a0:a8)(a1:Int)(a2:k8):Option (a8 × g8):=
 (jf a0 a1 a2).bind λv1=>
 if (v1.2 != 0) then
  some (a0,(⟨0,v1.2⟩:g8))
 else
 (I0 v1.1).bind λv2=>
 some (v2,(⟨a1,0⟩:g8))
def aQ(a0:g7)(a1:Int):Option Bool:=
 jn (λ(_:Unit)=>
  some false) (λκ6=>
  (qs a0 2).bind λv8=>
  (lp (S:=Int) (E:=Bool ⊕ Unit) (λ(s10:Int)=>
   if (decide (s10<(v8.1.L.length:Int))) then
    (ix v8.1.L s10).bind λv12=>
    if ((v12.Kind==v8.2)==true) then
     if (v12.At==a1) then
      some (.inr (.inl true))
     else
     some (.inl (w9 (s10+1)))
    else
    some (.inl (w9 (s10+1)))
   else
   some (.inr (.inr ()))) 0).bind λe9=>
  match e9 with
  | .inl w=>some w
  | .inr w=>κ6 w)
def kh(a0:List j5)(a1:Int):Option Bool:=
 some ((decide (a1>=0))&&(decide (a1<(a0.length:Int))))
def kg(a0:List j5)(a1:Int)(a2:Int)(a3:Int):Option ((List j5) × Int × Int):=
 (kh a0 a1).bind λv1=>
 if (!v1) then
  some (a0,0,7)
 else
 (ck a0).bind λv2=>
 (ix v2 a1).bind λv3=>
 (ix a0 a1).bind λv4=>
 some ((v2.set (a1).toNat (⟨a2,(a2 != 0),a3⟩:j5)),v4.Target,0)
def fB(a0:a8)(a1:Int)(a2:k8):Option (a8 × Int):=
 if ((decide (a2.B>=0))&&(a1==0)) then
  some (a0,2)
 else
 (X8 a0).bind λv1=>
 (aQ v1 a2.A).bind λv2=>
 if v2 then
  some (a0,7)
 else
 (kg a0.b7 a2.A a1 a2.C).bind λv3=>
 if (v3.2.2 != 0) then
  some (a0,v3.2.2)
 else
 (P2 (⟨a0.Nodes,a0.Slots,a0.Gens,a0.Last,a0.Places,a0.Serial,a0.Roots,v3.1,a0.Pairs,a0.Tasks,a0.Progs⟩:a8) v3.2.1).bind λv4=>
 some (v4,0)
def J0(a0:a8)(a1:Int)(a2:k8):Option (a8 × g8):=
 (fB a0 a1 a2).bind λv1=>
 if (v1.2 != 0) then
  some (a0,(⟨0,v1.2⟩:g8))
 else
 (I0 v1.1).bind λv2=>
 some (v2,(⟨a1,0⟩:g8))
def fz(a0:k7)(a1:b8):Option Bool:=
 some (a0.Key != a1.Serial)
def D6(a0:List k7)(a1:b8):Option (List k7):=
 jn (λ(j15:List k7)=>
  some j15) (λκ14=>
  (lp (S:=Int × (List k7)) (E:=(List k7)) (λ((s17,s18):Int × (List k7))=>
   if (decide (s17<(a0.length:Int))) then
    jn (λ(j25:List k7)=>
     some (.inl (w9 (s17+1),j25))) (λκ24=>
     (ix a0 s17).bind λv26=>
     (fz v26 a1).bind λv27=>
     if v27 then
      (app 16 s18 [v26]).bind λv28=>
      κ24 v28
     else
     κ24 s18)
   else
   some (.inr s18)) (0,[])).bind λe16=>
  κ14 e16)
def je(a0:a8)(a1:Int)(a2:k8):Option (a8 × Int):=
 (O6 a0 a2.A).bind λv1=>
 if (v1.2 != 0) then
  some (a0,v1.2)
 else
 (D6 a0.Pairs v1.1).bind λv2=>
 if (a1==0) then
  some ((⟨a0.Nodes,a0.Slots,a0.Gens,a0.Last,a0.Places,a0.Serial,a0.Roots,a0.b7,v2,a0.Tasks,a0.Progs⟩:a8),0)
 else
 if (decide ((v2.length:Int)>=a0.Places)) then
  some (a0,8)
 else
 (dX a0 a1).bind λv3=>
 (app 16 v2 [(⟨v1.1.Serial,a1⟩:k7)]).bind λv4=>
 some ((⟨v3.Nodes,v3.Slots,v3.Gens,v3.Last,v3.Places,v3.Serial,v3.Roots,v3.b7,v4,v3.Tasks,v3.Progs⟩:a8),0)
def K5(a0:a8)(a1:Int)(a2:k8):Option (a8 × g8):=
 (je a0 a1 a2).bind λv1=>
 if (v1.2 != 0) then
  some (a0,(⟨0,v1.2⟩:g8))
 else
 (I0 v1.1).bind λv2=>
 some (v2,(⟨a1,0⟩:g8))
def qv(a0:Int):Option ((List Int) × Int):=
 if ((decide (a0<0))||(decide (a0 > 4))) then
  some ([],1)
 else
 (mk 8 a0 (0:Int)).bind λv1=>
 some (v1,0)
def aL(a0:a8)(a1:Int)(a2:Int):Option (a8 × g8):=
 (W1 a0 a1 a2).bind λv1=>
 (I0 v1).bind λv2=>
 (ix v2.Roots a1).bind λv3=>
 some (v2,(⟨v3,0⟩:g8))
def dw(a0:a8)(a1:k8):Option (a8 × g8):=
 (qv a1.B).bind λv1=>
 if (v1.2 != 0) then
  some (a0,(⟨0,v1.2⟩:g8))
 else
 (H8 a0.Slots 0).bind λv2=>
 if (decide (v2<0)) then
  some (a0,(⟨0,4⟩:g8))
 else
 (y9 a0.Slots).bind λv3=>
 (ix v3 v2).bind λv4=>
 (r7 a0.Nodes).bind λv5=>
 (app 56 v5 [(⟨w9 (a0.Serial+1),v2,a1.C,false,true,false,v1.1⟩:b8)]).bind λv6=>
 (aL (⟨v6,(v3.set (v2).toNat (w9 (a0.Serial+1))),a0.Gens,a0.Last,a0.Places,w9 (a0.Serial+1),a0.Roots,a0.b7,a0.Pairs,a0.Tasks,a0.Progs⟩:a8) a1.A (w9 (a0.Serial+1))).bind λv7=>
 some (v7.1,v7.2)
def iO(a0:List Int)(a1:Int):Option (Int × Int):=
 (gP a0 a1).bind λv1=>
 if (!v1) then
  some (0,5)
 else
 (ix a0 a1).bind λv2=>
 some (v2,0)
def cS(a0:List j5)(a1:Int):Option (Int × Int):=
 (kh a0 a1).bind λv1=>
 if (!v1) then
  some (0,7)
 else
 (ix a0 a1).bind λv2=>
 if ((v2.Target==0)||(!v2.Intact)) then
  some (0,9)
 else
 some (v2.Target,0)
def bT(a0:a8)(a1:k8):Option (Int × Int):=
 if (a1.Kind==2) then
  (ix a0.Roots a1.B).bind λv1=>
  some (v1,0)
 else
 if (a1.Kind==4) then
  (O6 a0 a1.B).bind λv2=>
  if (v2.2 != 0) then
   some (0,v2.2)
  else
  (iO v2.1.Fields a1.C).bind λv3=>
  some (v3.1,v3.2)
 else
 if (a1.Kind==7) then
  (cS a0.b7 a1.B).bind λv4=>
  some (v4.1,v4.2)
 else
 if (a1.Kind==9) then
  (O6 a0 a1.B).bind λv5=>
  if (v5.2 != 0) then
   some (0,v5.2)
  else
  (P3 a0 v5.1.Serial).bind λv6=>
  if (decide ((v6.length:Int) > 0)) then
   (ix v6 0).bind λv7=>
   some (v7,0)
  else
  some (0,9)
 else
 some (0,0)
def bU(a0:a8)(a1:k8):Option (a8 × g8):=
 if (a1.Kind==10) then
  (ix a0.Roots a1.A).bind λv1=>
  (ix a0.Roots a1.B).bind λv2=>
  if (v1==v2) then
   some (a0,(⟨1,0⟩:g8))
  else
  some (a0,(⟨0,0⟩:g8))
 else
 if (a1.Kind==5) then
  (T8 a0 a1.C).bind λv3=>
  (K6 a0 v3 a1).bind λv4=>
  some (v4.1,v4.2)
 else
 if (a1.Kind==6) then
  (T8 a0 a1.B).bind λv5=>
  (J0 a0 v5 a1).bind λv6=>
  some (v6.1,v6.2)
 else
 if (a1.Kind==8) then
  (T8 a0 a1.B).bind λv7=>
  (K5 a0 v7 a1).bind λv8=>
  some (v8.1,v8.2)
 else
 if (a1.Kind==1) then
  (dw a0 a1).bind λv9=>
  some (v9.1,v9.2)
 else
 (bT a0 a1).bind λv10=>
 if (v10.2 != 0) then
  some (a0,(⟨0,v10.2⟩:g8))
 else
 (aL a0 a1.A v10.1).bind λv11=>
 some (v11.1,v11.2)
def jx(a0:a8)(a1:List k8):Option a8:=
 jn (λ(j9:a8)=>
  some j9) (λκ8=>
  (lp (S:=Int × a8) (E:=a8) (λ((s11,s12):Int × a8)=>
   if (decide (s11<(a1.length:Int))) then
    (ix a1 s11).bind λv15=>
    (bU s12 v15).bind λv16=>
    some (.inl (w9 (s11+1),v16.1))
   else
   some (.inr s12)) (0,a0)).bind λe10=>
  κ8 e10)
def dz(a0:a8)(a1:g6):Option a8:=
 jn (λ(j3:a8)=>
  (X8 j3).bind λv4=>
  (bj v4).bind λv5=>
  jn (λ(j8:a8)=>
   (dP j8.Progs a1.Prog).bind λv9=>
   (jx j8 v9).bind λv10=>
   if (a1.Kind==1) then
    (W1 v10 5 0).bind λv11=>
    (I0 v11).bind λv12=>
    some v12
   else
   some v10) (λκ7=>
   if (a1.Kind==1) then
    (I0 (⟨j3.Nodes,j3.Slots,j3.Gens,j3.Last,j3.Places,j3.Serial,j3.Roots,j3.b7,j3.Pairs,v5.1.L,j3.Progs⟩:a8)).bind λv13=>
    κ7 v13
   else
   κ7 (⟨j3.Nodes,j3.Slots,j3.Gens,j3.Last,j3.Places,j3.Serial,j3.Roots,j3.b7,j3.Pairs,v5.1.L,j3.Progs⟩:a8))) (λκ2=>
  if (a1.Kind==1) then
   (W1 a0 5 a1.At).bind λv14=>
   κ2 v14
  else
  κ2 a0)
def gL(a0:a8)(a1:Int):Option (a8 × g8):=
 jn (λ((j11,j12):Int × a8)=>
  some (j12,(⟨j11,0⟩:g8))) (λκ10=>
  (lp (S:=Int × Int × a8) (E:=(a8 × g8) ⊕ (Int × a8)) (λ((s15,s16,s17):Int × Int × a8)=>
   if (decide ((s17.Tasks.length:Int) > 0)) then
    (ix s17.Tasks 0).bind λv20=>
    (bP s17.Progs v20).bind λv21=>
    if (decide (v21 > s15)) then
     some (.inr (.inl (s17,(⟨s16,12⟩:g8))))
    else
    (dz s17 v20).bind λv22=>
    some (.inl (w9 (s15-v21),w9 (s16+1),v22))
   else
   some (.inr (.inr (s16,s17)))) (a1,0,a0)).bind λe14=>
  match e14 with
  | .inl w=>some w
  | .inr w=>κ10 w)
def lU(a0:a8)(a1:List Int):Option (a8 × g8):=
 (V6 a1).bind λv1=>
 if (v1.2 != 0) then
  some (a0,(⟨0,v1.2⟩:g8))
 else
 if (v1.1.Kind==11) then
  (dK a0).bind λv2=>
  some (v2.1,v2.2)
 else
 if (v1.1.Kind==12) then
  (gL a0 v1.1.A).bind λv3=>
  some (v3.1,v3.2)
 else
 (bU a0 v1.1).bind λv4=>
 some (v4.1,v4.2)
def cG(a0:a8)(a1:List (List Int)):Option (a8 × (List g8)):=
 jn (λ((j11,j12):a8 × (List g8))=>
  some (j11,j12)) (λκ10=>
  (lp (S:=Int × a8 × (List g8)) (E:=(a8 × (List g8))) (λ((s15,s16,s17):Int × a8 × (List g8))=>
   if (decide (s15<(a1.length:Int))) then
    (ix a1 s15).bind λv20=>
    (lU s16 v20).bind λv21=>
    (app 16 s17 [v21.2]).bind λv22=>
    some (.inl (w9 (s15+1),v21.1,v22))
   else
   some (.inr (s16,s17))) (0,a0,[])).bind λe14=>
  κ10 e14)
def mY(a0:k8):Option Qj:=
 if (a0.Kind==11) then
  some (⟨166,[]⟩:Qj)
 else
 if (a0.Kind==12) then
  some (⟨170,[a0.A]⟩:Qj)
 else
 some (⟨162,[a0.Kind,a0.A,a0.B,a0.C]⟩:Qj)
def gI:Option (List (Int × Fv)):=
 some (p7 (p7 (p7 (p7 (p7 (p7 (p7 (p7 (p7 (p7 [] 1 (some 203)) 2 (some 204)) 3 (some 205)) 4 (some 206)) 5 (some 207)) 6 (some 208)) 7 (some 209)) 8 (some 210)) 9 (some 211)) 10 (some 212))
def W7(a0:Int):Option Bool:=
 some ((decide (a0>=(-1)))&&(decide (a0<6)))
def Q9(a0:l4):Option l4:=
 some a0
def z6(a0:List c8):Option (List c8):=
 app 80 [] a0
def E5(a0:l4)(a1:Int)(a2:c8):Option l4:=
 (z6 a0.b7).bind λv1=>
 (ix v1 a1).bind λv2=>
 some (⟨(v1.set (a1).toNat a2),a0.Last⟩:l4)
def eC(a0:Int)(a1:Int):Option Int:=
 if ((((decide (a0<0))||(decide (a0>=24)))||(decide (a1<0)))||(decide (a1 > 9))) then
  some 0
 else
 some (w9 ((w9 (1+(w9 (a0*1))))+(w9 (a1*32))))
def M4(a0:l4)(a1:n0):Option (l4 × Int × Int):=
 jn (λ(_:Unit)=>
  some (a0,0,4)) (λκ9=>
  (Q9 a0).bind λv11=>
  (lp (S:=Int) (E:=(l4 × Int × Int) ⊕ Unit) (λ(s13:Int)=>
   if (decide (s13<(v11.b7.length:Int))) then
    (ix v11.b7 s13).bind λv15=>
    if ((v15.State==0)==true) then
     (ix a0.b7 s13).bind λv16=>
     (E5 a0 s13 (⟨1,v16.Gen,a1⟩:c8)).bind λv17=>
     (eC s13 v16.Gen).bind λv18=>
     some (.inr (.inl (v17,v18,0)))
    else
    some (.inl (w9 (s13+1)))
   else
   some (.inr (.inr ()))) 0).bind λe12=>
  match e12 with
  | .inl w=>some w
  | .inr w=>κ9 w)
def Y4(a0:b6)(a1:Int)(a2:Int):Option (b6 × Int × Int):=
 (qv a1).bind λv1=>
 if (v1.2 != 0) then
  some (a0,0,v1.2)
 else
 (W7 a2).bind λv2=>
 if (!v2) then
  some (a0,0,13)
 else
 (M4 a0.S (⟨w9 (a0.Serial+1),0,0,a2,false,v1.1⟩:n0)).bind λv3=>
 if (v3.2.2 != 0) then
  some (a0,0,v3.2.2)
 else
 some ((⟨v3.1,w9 (a0.Serial+1)⟩:b6),v3.2.1,0)
def eY(a0:Int):Option (Int × Int × Bool):=
 if (decide (a0<1)) then
  some ((-1),(-1),false)
 else
 (rem (w9 (a0-1)) 32).bind λv1=>
 (quo .i64 v1 1).bind λv2=>
 (quo .i64 (w9 (a0-1)) 32).bind λv3=>
 if ((decide (v2>=24))||(decide (v3 > 9))) then
  some ((-1),(-1),false)
 else
 some (v2,v3,true)
def gX(a0:Int):Option Int:=
 (eY a0).bind λv1=>
 some v1.1
def jM(a0:Int):Option Int:=
 (eY a0).bind λv1=>
 some v1.2.1
def x6(a0:l4)(a1:Int):Option (Int × Int):=
 if (a1==0) then
  some ((-1),2)
 else
 (gX a1).bind λv1=>
 if ((decide (v1<0))||(decide (v1>=(a0.b7.length:Int)))) then
  some ((-1),3)
 else
 (ix a0.b7 v1).bind λv2=>
 (jM a1).bind λv3=>
 if ((v2.Gen != v3)||((v2.State != 1)&&(v2.State != 2))) then
  some ((-1),3)
 else
 some (v1,0)
def F3(a0:l4)(a1:Int):Option (n0 × Int):=
 (x6 a0 a1).bind λv1=>
 if (v1.2 != 0) then
  some ((⟨0,0,0,0,false,[]⟩:n0),v1.2)
 else
 (ix a0.b7 v1.1).bind λv2=>
 if (v2.State==2) then
  some ((⟨0,0,0,0,false,[]⟩:n0),3)
 else
 some (v2.Val,0)
def x4(a0:b6)(a1:Int):Option (n0 × Int):=
 (F3 a0.S a1).bind λv1=>
 some (v1.1,v1.2)
def kN(a0:b9)(a1:Int):Option Bool:=
 (x4 a0.S a1).bind λv1=>
 some (v1.2==0)
def O3(a0:b9)(a1:Int):Option Bool:=
 (D3 ((a1==0)==false) false (kN a0 a1)).bind λv1=>
 some ((a1==0)||v1)
def I9(a0:Int):Option Bool:=
 some (decide (a0>=12))
def jI(a0:Int):Option (Int × Int):=
 (I9 a0).bind λv1=>
 if v1 then
  some (12,0)
 else
 some (w9 ((if 0 > a0 then 0 else a0)+1),0)
def pX(a0:Int):Option Int:=
 (jI a0).bind λv1=>
 some v1.1
def aP(a0:l4)(a1:Int)(a2:n0):Option (l4 × Int):=
 (x6 a0 a1).bind λv1=>
 if (v1.2 != 0) then
  some (a0,v1.2)
 else
 (ix a0.b7 v1.1).bind λv2=>
 (E5 a0 v1.1 (⟨v2.State,v2.Gen,a2⟩:c8)).bind λv3=>
 some (v3,0)
def T1(a0:b6)(a1:Int)(a2:n0):Option (b6 × Int):=
 (aP a0.S a1 a2).bind λv1=>
 some ((⟨v1.1,a0.Serial⟩:b6),v1.2)
def Z6(a0:b9)(a1:Int):Option b9:=
 (x4 a0.S a1).bind λv1=>
 if (v1.2==0) then
  (pX v1.1.Strong).bind λv2=>
  (T1 a0.S a1 (⟨v1.1.Serial,v2,v1.1.Weak,v1.1.Prog,v1.1.Started,v1.1.Fields⟩:n0)).bind λv3=>
  some (⟨v3.1,a0.Roots,a0.b7,a0.T,a0.Q⟩:b9)
 else
 some a0
def bR(a0:b9)(a1:Int):Option b9:=
 (Z6 a0 a1).bind λv1=>
 some v1
def T6(a0:L7)(a1:b9):Option b9:=
 (y9 a1.Roots).bind λv1=>
 (ix v1 a0.r).bind λv2=>
 some (⟨a1.S,(v1.set (a0.r).toNat a0.h),a1.b7,a1.T,a1.Q⟩:b9)
def gi(a0:Int):Option (Int × Int):=
 (I9 a0).bind λv1=>
 if v1 then
  some (12,0)
 else
 if (decide (a0<1)) then
  some (0,11)
 else
 some (w9 (a0-1),0)
def uY(a0:Int):Option (Int × Int):=
 (gi a0).bind λv1=>
 some (v1.1,v1.2)
def eZ(a0:Int):Option Int:=
 (uY a0).bind λv1=>
 if (v1.2 != 0) then
  some a0
 else
 some v1.1
def Q5(a0:b9)(a1:Int):Option b9:=
 (x4 a0.S a1).bind λv1=>
 if (v1.2==0) then
  (eZ v1.1.Strong).bind λv2=>
  (T1 a0.S a1 (⟨v1.1.Serial,v2,v1.1.Weak,v1.1.Prog,v1.1.Started,v1.1.Fields⟩:n0)).bind λv3=>
  some (⟨v3.1,a0.Roots,a0.b7,a0.T,a0.Q⟩:b9)
 else
 some a0
def E4(a0:b9)(a1:Int):Option b9:=
 (Q5 a0 a1).bind λv1=>
 some v1
def H2(a0:b9)(a1:Int)(a2:Int)(a3:L7):Option b9:=
 (bR a0 a2).bind λv1=>
 (T6 a3 v1).bind λv2=>
 (E4 v2 a1).bind λv3=>
 some v3
def cC(a0:b9)(a1:Int)(a2:Int):Option (b9 × Int):=
 if ((decide (a1<0))||(decide (a1>=(a0.Roots.length:Int)))) then
  some (a0,6)
 else
 (O3 a0 a2).bind λv1=>
 if (!v1) then
  some (a0,3)
 else
 (ix a0.Roots a1).bind λv2=>
 (H2 a0 v2 a2 (⟨a1,a2⟩:L7)).bind λv3=>
 some (v3,0)
def C4(a0:s6)(a1:Int)(a2:Int):Option (b9 × Int):=
 if (a2 != 0) then
  some (a0.x,a2)
 else
 (cC a0.x a0.o.A a1).bind λv1=>
 some (v1.1,v1.2)
def Y9(a0:s6):Option (b9 × Int):=
 (Y4 a0.x.S a0.o.B a0.o.C).bind λv1=>
 if (v1.2.2 != 0) then
  some (a0.x,v1.2.2)
 else
 (C4 (⟨⟨v1.1,a0.x.Roots,a0.x.b7,a0.x.T,a0.x.Q⟩,a0.o⟩:s6) v1.2.1 0).bind λv2=>
 some (v2.1,v2.2)
def O5(a0:b9)(a1:Int):Option Int:=
 if ((decide (a1<0))||(decide (a1>=(a0.Roots.length:Int)))) then
  some 0
 else
 (ix a0.Roots a1).bind λv1=>
 some v1
def L8(a0:s6):Option (b9 × Int):=
 (O5 a0.x a0.o.B).bind λv1=>
 (C4 a0 v1 0).bind λv2=>
 some (v2.1,v2.2)
def bC(a0:s6):Option (b9 × Int):=
 (C4 a0 0 0).bind λv1=>
 some (v1.1,v1.2)
def P0(a0:b9)(a1:Int):Option (Int × Int):=
 (O5 a0 a1).bind λv1=>
 if (v1==0) then
  some (0,2)
 else
 some (v1,0)
def K4(a0:b6)(a1:Int)(a2:Int):Option (Int × Int):=
 (x4 a0 a1).bind λv1=>
 if (v1.2 != 0) then
  some (0,v1.2)
 else
 (iO v1.1.Fields a2).bind λv2=>
 some (v2.1,v2.2)
def bD(a0:s6):Option (b9 × Int):=
 (P0 a0.x a0.o.B).bind λv1=>
 if (v1.2 != 0) then
  some (a0.x,v1.2)
 else
 (K4 a0.x.S v1.1 a0.o.C).bind λv2=>
 (C4 a0 v2.1 v2.2).bind λv3=>
 some (v3.1,v3.2)
def qq(a0:b6)(a1:Int)(a2:Int)(a3:Int):Option (b6 × Int):=
 (x4 a0 a1).bind λv1=>
 if (v1.2 != 0) then
  some (a0,v1.2)
 else
 (mC v1.1.Fields a2 a3).bind λv2=>
 if (v2.2 != 0) then
  some (a0,v2.2)
 else
 (T1 a0 a1 (⟨v1.1.Serial,v1.1.Strong,v1.1.Weak,v1.1.Prog,v1.1.Started,v2.1⟩:n0)).bind λv3=>
 some (v3.1,v3.2)
def da(a0:H9)(a1:b9):Option b9:=
 (qq a1.S a0.h a0.k a0.v).bind λv1=>
 some (⟨v1.1,a1.Roots,a1.b7,a1.T,a1.Q⟩:b9)
def G5(a0:b9)(a1:Int)(a2:Int)(a3:H9):Option b9:=
 (bR a0 a2).bind λv1=>
 (da a3 v1).bind λv2=>
 (E4 v2 a1).bind λv3=>
 some v3
def aH(a0:b9)(a1:Int)(a2:Int)(a3:Int):Option (b9 × Int):=
 (K4 a0.S a1 a2).bind λv1=>
 if (v1.2 != 0) then
  some (a0,v1.2)
 else
 (O3 a0 a3).bind λv2=>
 if (!v2) then
  some (a0,3)
 else
 (G5 a0 v1.1 a3 (⟨a1,a2,a3⟩:H9)).bind λv3=>
 some (v3,0)
def aJ(a0:s6):Option (b9 × Int):=
 (P0 a0.x a0.o.A).bind λv1=>
 if (v1.2 != 0) then
  some (a0.x,v1.2)
 else
 (O5 a0.x a0.o.C).bind λv2=>
 (aH a0.x v1.1 a0.o.B v2).bind λv3=>
 some (v3.1,v3.2)
def ay(a0:b9)(a1:Int)(a2:Int):Option b9:=
 (x6 a0.S.S a1).bind λv1=>
 if (v1.2==0) then
  (ix a0.S.S.b7 v1.1).bind λv2=>
  (T1 a0.S a1 (⟨v2.Val.Serial,v2.Val.Strong,w9 (v2.Val.Weak+a2),v2.Val.Prog,v2.Val.Started,v2.Val.Fields⟩:n0)).bind λv3=>
  some (⟨v3.1,a0.Roots,a0.b7,a0.T,a0.Q⟩:b9)
 else
 some a0
def Q8(a0:l4)(a1:Int):Option (l4 × Int):=
 (x6 a0 a1).bind λv1=>
 if (v1.2 != 0) then
  some (a0,v1.2)
 else
 (ix a0.b7 v1.1).bind λv2=>
 if (v2.Gen==a0.Last) then
  (E5 a0 v1.1 (⟨3,v2.Gen,⟨0,0,0,0,false,[]⟩⟩:c8)).bind λv3=>
  some (v3,0)
 else
 (E5 a0 v1.1 (⟨0,w9 (v2.Gen+1),⟨0,0,0,0,false,[]⟩⟩:c8)).bind λv4=>
 some (v4,0)
def bc(a0:b9)(a1:Int):Option b9:=
 (ay a0 a1 (-1)).bind λv1=>
 (x6 v1.S.S a1).bind λv2=>
 if (v2.2 != 0) then
  some v1
 else
 (ix v1.S.S.b7 v2.1).bind λv3=>
 if ((v3.State==2)&&(v3.Val.Weak==0)) then
  (Q8 v1.S.S a1).bind λv4=>
  some (⟨⟨v4.1,v1.S.Serial⟩,v1.Roots,v1.b7,v1.T,v1.Q⟩:b9)
 else
 some v1
def S9(a0:b9)(a1:Int)(a2:Int)(a3:Int):Option (b9 × Int):=
 (D3 (((decide (a1<0))||(decide (a1>=(a0.b7.length:Int))))==false) false (aQ a0.Q a1)).bind λv1=>
 if (((decide (a1<0))||(decide (a1>=(a0.b7.length:Int))))||v1) then
  some (a0,7)
 else
 (O3 a0 a2).bind λv2=>
 if (!v2) then
  some (a0,3)
 else
 (kg a0.b7 a1 a2 a3).bind λv3=>
 (ay (⟨a0.S,a0.Roots,v3.1,a0.T,a0.Q⟩:b9) a2 1).bind λv4=>
 (bc v4 v3.2.1).bind λv5=>
 some (v5,0)
def M2(a0:s6):Option (b9 × Int):=
 if (a0.o.B==(-1)) then
  (S9 a0.x a0.o.A 0 a0.o.C).bind λv1=>
  some (v1.1,v1.2)
 else
 (P0 a0.x a0.o.B).bind λv2=>
 if (v2.2 != 0) then
  some (a0.x,v2.2)
 else
 (S9 a0.x a0.o.A v2.1 a0.o.C).bind λv3=>
 some (v3.1,v3.2)
def aV(a0:s6):Option (b9 × Int):=
 (cS a0.x.b7 a0.o.B).bind λv1=>
 (C4 a0 v1.1 v1.2).bind λv2=>
 some (v2.1,v2.2)
def jw(a0:Int)(a1:Int):Option (Int × Int):=
 some (a0,a1)
def eD(a0:Int)(a1:Int):Option Int:=
 if (decide (a0<1)) then
  some 0
 else
 (rem (w9 ((w9 (5*a1))+1)) a0).bind λv1=>
 if (decide (v1<0)) then
  some (w9 (v1+a0))
 else
 some v1
def bb(a0:List g5)(a1:Int):Option Int:=
 jn (λ(_:Unit)=>
  some (-1)) (λκ8=>
  (jw (a0.length:Int) a1).bind λv10=>
  (lp (S:=Int) (E:=Int ⊕ Unit) (λ(s12:Int)=>
   if (decide (s12<v10.1)) then
    (eD v10.1 v10.2).bind λv14=>
    (rem (w9 (v14+s12)) v10.1).bind λv15=>
    (ix a0 v15).bind λv16=>
    if (v16.State==0) then
     some (.inr (.inr ()))
    else
    if ((v16.State==1)&&(v16.Key==a1)) then
     some (.inr (.inl v15))
    else
    some (.inl (w9 (s12+1)))
   else
   some (.inr (.inr ()))) 0).bind λe11=>
  match e11 with
  | .inl w=>some w
  | .inr w=>κ8 w)
def Z5(a0:List g5)(a1:Int):Option (Int × Int):=
 (bb a0 a1).bind λv1=>
 if (decide (v1<0)) then
  some (0,9)
 else
 (ix a0 v1).bind λv2=>
 some (v2.Val,0)
def F4(a0:List g5):Option (List g5):=
 app 24 [] a0
def eE(a0:List g5)(a1:Int)(a2:g5):Option (List g5):=
 (F4 a0).bind λv1=>
 (ix v1 a1).bind λv2=>
 some (v1.set (a1).toNat a2)
def ba(a0:List g5)(a1:Int):Option ((List g5) × Int × Int):=
 (bb a0 a1).bind λv1=>
 if (decide (v1<0)) then
  some (a0,0,9)
 else
 (eE a0 v1 (⟨2,0,0⟩:g5)).bind λv2=>
 (ix a0 v1).bind λv3=>
 some (v2,v3.Val,0)
def pb(a0:List g5)(a1:Int)(a2:Int):Option ((List g5) × Int):=
 (bb a0 a1).bind λv1=>
 if (decide (v1>=0)) then
  (eE a0 v1 (⟨1,a1,a2⟩:g5)).bind λv2=>
  some (v2,0)
 else
 jn (λ(_:Unit)=>
  some (a0,8)) (λκ11=>
  (jw (a0.length:Int) a1).bind λv13=>
  (lp (S:=Int) (E:=((List g5) × Int) ⊕ Unit) (λ(s15:Int)=>
   if (decide (s15<v13.1)) then
    (eD v13.1 v13.2).bind λv17=>
    (rem (w9 (v17+s15)) v13.1).bind λv18=>
    (ix a0 v18).bind λv19=>
    if (v19.State != 1) then
     (eE a0 v18 (⟨1,a1,a2⟩:g5)).bind λv20=>
     some (.inr (.inl (v20,0)))
    else
    some (.inl (w9 (s15+1)))
   else
   some (.inr (.inr ()))) 0).bind λe14=>
  match e14 with
  | .inl w=>some w
  | .inr w=>κ11 w)
def V3(a0:List g5)(a1:Int)(a2:Int):Option ((List g5) × Int × Int):=
 if (a1==0) then
  some (a0,0,2)
 else
 (Z5 a0 a1).bind λv1=>
 if (a2==0) then
  (ba a0 a1).bind λv2=>
  some (v2.1,v1.1,0)
 else
 (pb a0 a1 a2).bind λv3=>
 if (v3.2 != 0) then
  some (a0,0,v3.2)
 else
 some (v3.1,v1.1,0)
def aI(a0:L6)(a1:b9):Option b9:=
 some (⟨a1.S,a1.Roots,a1.b7,a0.t,a1.Q⟩:b9)
def E2(a0:b9)(a1:Int)(a2:Int)(a3:L6):Option b9:=
 (bR a0 a2).bind λv1=>
 (aI a3 v1).bind λv2=>
 (E4 v2 a1).bind λv3=>
 some v3
def cy(a0:b9)(a1:Int)(a2:Int):Option (b9 × Int):=
 if (a1==0) then
  some (a0,2)
 else
 (O3 a0 a1).bind λv1=>
 (D3 ((!v1)==false) false (O3 a0 a2)).bind λv2=>
 if ((!v1)||(!v2)) then
  some (a0,3)
 else
 (V3 a0.T a1 a2).bind λv3=>
 if (v3.2.2 != 0) then
  some (a0,v3.2.2)
 else
 (E2 a0 v3.2.1 a2 (⟨v3.1⟩:L6)).bind λv4=>
 some (v4,0)
def bE(a0:s6):Option (b9 × Int):=
 (P0 a0.x a0.o.A).bind λv1=>
 if (v1.2 != 0) then
  some (a0.x,v1.2)
 else
 (O5 a0.x a0.o.B).bind λv2=>
 (cy a0.x v1.1 v2).bind λv3=>
 some (v3.1,v3.2)
def va(a0:List g5)(a1:Int):Option (Int × Int):=
 (Z5 a0 a1).bind λv1=>
 some (v1.1,v1.2)
def cD(a0:s6):Option (b9 × Int):=
 (P0 a0.x a0.o.B).bind λv1=>
 if (v1.2 != 0) then
  some (a0.x,v1.2)
 else
 (va a0.x.T v1.1).bind λv2=>
 (C4 a0 v2.1 v2.2).bind λv3=>
 some (v3.1,v3.2)
def T7(a0:s6):Option (b9 × Int):=
 some (a0.x,0)
def xw(f:Fv)(a0:s6):Option (b9 × Int):=
 if f=some 203 then Y9 a0 else
 if f=some 204 then L8 a0 else
 if f=some 205 then bC a0 else
 if f=some 206 then bD a0 else
 if f=some 207 then aJ a0 else
 if f=some 208 then M2 a0 else
 if f=some 209 then aV a0 else
 if f=some 210 then bE a0 else
 if f=some 211 then cD a0 else
 if f=some 212 then T7 a0 else
 none
def dt(a0:Int):Option Bool:=
 some (a0 != a0)
def iw(a0:Int)(a1:Int):Option Int:=
 (dt a0).bind λv1=>
 (dt a1).bind λv2=>
 if v1 then
  if v2 then
   some 0
  else
  some (-1)
 else
 if v2 then
  some 1
 else
 if (decide (a0<a1)) then
  some (-1)
 else
 if (decide (a0 > a1)) then
  some 1
 else
 some 0
def jl(a0:Int)(a1:Int)(a2:List (Int × Int)):Option Int:=
 (iw ((A2 a2 a0).getD (0:Int)) ((A2 a2 a1).getD (0:Int))).bind λv1=>
 some v1
def F5(a0:b6):Option (List Int):=
 jn (λ((j18,j19):(List (Int × Int)) × (List Int))=>
  (vO (λp q=>jl p q j18) j19).bind λv21=>
  some v21) (λκ17=>
  (lp (S:=Int × (List (Int × Int)) × (List Int)) (E:=((List (Int × Int)) × (List Int))) (λ((s23,s24,s25):Int × (List (Int × Int)) × (List Int))=>
   if (decide (s23<(a0.S.b7.length:Int))) then
    jn (λ((j32,j33):(List (Int × Int)) × (List Int))=>
     some (.inl (w9 (s23+1),j32,j33))) (λκ31=>
     (ix a0.S.b7 s23).bind λv35=>
     if (v35.State==1) then
      (eC s23 v35.Gen).bind λv36=>
      (app 8 s25 [v36]).bind λv37=>
      κ31 ((p7 s24 v36 v35.Val.Serial),v37)
     else
     κ31 (s24,s25))
   else
   some (.inr (s24,s25))) (0,[],[])).bind λe22=>
  κ17 e22)
def eK(a0:b9):Option (List Int):=
 jn (λ(j16:List Int)=>
  some j16) (λκ15=>
  (F5 a0.S).bind λv17=>
  (lp (S:=Int × (List Int)) (E:=(List Int)) (λ((s19,s20):Int × (List Int))=>
   if (decide (s19<(v17.length:Int))) then
    jn (λ(j27:List Int)=>
     some (.inl (w9 (s19+1),j27))) (λκ26=>
     (ix v17 s19).bind λv28=>
     (x4 a0.S v28).bind λv29=>
     if (v29.1.Strong==0) then
      (app 8 s20 [v28]).bind λv30=>
      κ26 v30
     else
     κ26 s20)
   else
   some (.inr s20)) (0,[])).bind λe18=>
  κ15 e18)
def P6(a0:n0):Option Bool:=
 some ((decide (a0.Prog>=0))&&(!a0.Started))
def W5(a0:g7)(a1:g6):Option (g7 × Int):=
 (M3 a0).bind λv1=>
 if (decide (v1>=a0.Cap)) then
  some (a0,4)
 else
 (H7 a0.L 0 v1).bind λv2=>
 (app 24 v2 [a1]).bind λv3=>
 some ((⟨v3,a0.Cap⟩:g7),0)
def pM(a0:g7)(a1:g6):Option (g7 × Int):=
 (W5 a0 a1).bind λv1=>
 some (v1.1,v1.2)
def Y3(a0:b9)(a1:Int):Option b9:=
 (x4 a0.S a1).bind λv1=>
 (D3 ((v1.2 != 0)==false) false (P6 v1.1)).bind λv2=>
 if ((v1.2 != 0)||(!v2)) then
  some a0
 else
 (T1 a0.S a1 (⟨v1.1.Serial,v1.1.Strong,v1.1.Weak,v1.1.Prog,true,v1.1.Fields⟩:n0)).bind λv3=>
 (pM a0.Q (⟨1,a1,v1.1.Prog⟩:g6)).bind λv4=>
 (bR (⟨v3.1,a0.Roots,a0.b7,a0.T,v4.1⟩:b9) a1).bind λv5=>
 some v5
def aj(a0:b9)(a1:List Int):Option (List Int):=
 jn (λ(j18:List Int)=>
  some j18) (λκ17=>
  (lp (S:=Int × (List (Int × Bool)) × (List Int)) (E:=(List Int)) (λ((s20,s21,s22):Int × (List (Int × Bool)) × (List Int))=>
   if (decide (s20<(a1.length:Int))) then
    jn (λ((j29,j30):(List Int) × (List (Int × Bool)))=>
     some (.inl (w9 (s20+1),j30,j29))) (λκ28=>
     (ix a1 s20).bind λv32=>
     (x4 a0.S v32).bind λv33=>
     if ((v33.2==0)==true) then
      if (!((A2 s21 v32).getD (false:Bool))) then
       (app 8 s22 [v32]).bind λv34=>
       κ28 (v34,(p7 s21 v32 true))
      else
      κ28 (s22,s21)
     else
     κ28 (s22,s21))
   else
   some (.inr s22)) (0,[],[])).bind λe19=>
  κ17 e19)
def fK(a0:b9)(a1:List Int):Option b9:=
 (gB a0.b7 a1).bind λv1=>
 jn (λ(j11:g7)=>
  some (⟨a0.S,a0.Roots,v1.1,a0.T,j11⟩:b9)) (λκ10=>
  (lp (S:=Int × g7) (E:=g7) (λ((s13,s14):Int × g7)=>
   if (decide (s13<(v1.2.length:Int))) then
    (ix v1.2 s13).bind λv17=>
    (ix v1.1 v17).bind λv18=>
    (pM s14 (⟨2,v17,v18.Call⟩:g6)).bind λv19=>
    some (.inl (w9 (s13+1),v19.1))
   else
   some (.inr s14)) (0,a0.Q)).bind λe12=>
  κ10 e12)
def qw(a0:List Int):Option (List Int):=
 some a0
def jD(a0:List Int):Option (List Int):=
 jn (λ(j10:List Int)=>
  some j10) (λκ9=>
  (qw a0).bind λv11=>
  (lp (S:=Int × (List Int)) (E:=(List Int)) (λ((s13,s14):Int × (List Int))=>
   if (decide (s13<(v11.length:Int))) then
    (ix v11 s13).bind λv17=>
    if ((v17 != 0)==true) then
     (app 8 s14 [v17]).bind λv18=>
     some (.inl (w9 (s13+1),v18))
    else
    some (.inl (w9 (s13+1),s14))
   else
   some (.inr s14)) (0,[])).bind λe12=>
  κ9 e12)
def aZ(a0:List g5)(a1:List Int):Option ((List g5) × (List Int)):=
 jn (λ((j18,j19):(List g5) × (List Int))=>
  some (j18,j19)) (λκ17=>
  (lp (S:=(List g5) × Int × (List Int)) (E:=((List g5) × (List Int))) (λ((s22,s23,s24):(List g5) × Int × (List Int))=>
   if (decide (s23<(a1.length:Int))) then
    jn (λ((j31,j32):(List g5) × (List Int))=>
     some (.inl (j31,w9 (s23+1),j32))) (λκ30=>
     (ix a1 s23).bind λv34=>
     (ba s22 v34).bind λv35=>
     if (v35.2.2==0) then
      (app 8 s24 [v35.2.1]).bind λv36=>
      κ30 (v35.1,v36)
     else
     κ30 (s22,s24))
   else
   some (.inr (s22,s24))) (a0,0,[])).bind λe21=>
  κ17 e21)
def Z0(a0:l4)(a1:Int):Option (l4 × Int):=
 (F3 a0 a1).bind λv1=>
 if (v1.2 != 0) then
  some (a0,v1.2)
 else
 (gX a1).bind λv2=>
 (jM a1).bind λv3=>
 (E5 a0 v2 (⟨2,v3,v1.1⟩:c8)).bind λv4=>
 some (v4,0)
def bh(a0:b9)(a1:Int):Option b9:=
 (x4 a0.S a1).bind λv1=>
 (T1 a0.S a1 (⟨v1.1.Serial,0,v1.1.Weak,v1.1.Prog,v1.1.Started,[]⟩:n0)).bind λv2=>
 (Z0 v2.1.S a1).bind λv3=>
 if (v1.1.Weak==0) then
  (Q8 v3.1 a1).bind λv4=>
  some (⟨⟨v4.1,v2.1.Serial⟩,a0.Roots,a0.b7,a0.T,a0.Q⟩:b9)
 else
 some (⟨⟨v3.1,v2.1.Serial⟩,a0.Roots,a0.b7,a0.T,a0.Q⟩:b9)
def ca(a0:b9)(a1:List Int):Option b9:=
 (aj a0 a1).bind λv1=>
 (fK a0 v1).bind λv2=>
 jn (λ(j13:List Int)=>
  (aZ v2.T v1).bind λv14=>
  (app 8 j13 v14.2).bind λv15=>
  jn (λ(j24:b9)=>
   jn (λ(j33:b9)=>
    some j33) (λκ32=>
    (lp (S:=Int × b9) (E:=b9) (λ((s35,s36):Int × b9)=>
     if (decide (s35<(v15.length:Int))) then
      (ix v15 s35).bind λv39=>
      (E4 s36 v39).bind λv40=>
      some (.inl (w9 (s35+1),v40))
     else
     some (.inr s36)) (0,j24)).bind λe34=>
    κ32 e34)) (λκ23=>
   (lp (S:=Int × b9) (E:=b9) (λ((s42,s43):Int × b9)=>
    if (decide (s42<(v1.length:Int))) then
     (ix v1 s42).bind λv46=>
     (bh s43 v46).bind λv47=>
     some (.inl (w9 (s42+1),v47))
    else
    some (.inr s43)) (0,(⟨v2.S,v2.Roots,v2.b7,v14.1,v2.Q⟩:b9))).bind λe41=>
   κ23 e41)) (λκ12=>
  (lp (S:=Int × (List Int)) (E:=(List Int)) (λ((s49,s50):Int × (List Int))=>
   if (decide (s49<(v1.length:Int))) then
    (ix v1 s49).bind λv53=>
    (x4 v2.S v53).bind λv54=>
    (jD v54.1.Fields).bind λv55=>
    (app 8 s50 v55).bind λv56=>
    some (.inl (w9 (s49+1),v56))
   else
   some (.inr s50)) (0,[])).bind λe48=>
  κ12 e48)
def R8(a0:b9):Option b9:=
 (lp (S:=b9) (E:=b9) (λ(s2:b9)=>
  (eK s2).bind λv4=>
  if ((v4.length:Int)==0) then
   some (.inr s2)
  else
  (ix v4 0).bind λv5=>
  (x4 s2.S v5).bind λv6=>
  (P6 v6.1).bind λv7=>
  if v7 then
   (Y3 s2 v5).bind λv8=>
   some (.inl v8)
  else
  (cut v4 0 1).bind λv9=>
  (ca s2 v9).bind λv10=>
  some (.inl v10)) a0).bind λe1=>
 some e1
def bS(a0:b9)(a1:Int):Option Int:=
 (x4 a0.S a1).bind λv1=>
 some v1.1.Serial
def dV(a0:b9)(a1:Int):Option Int:=
 (O5 a0 a1).bind λv1=>
 (bS a0 v1).bind λv2=>
 some v2
def Z9(a0:b9)(a1:b9)(a2:k8):Option Int:=
 if (a2.Kind==5) then
  (dV a0 a2.C).bind λv1=>
  some v1
 else
 jn (λ(j3:Bool)=>
  if j3 then
   (dV a0 a2.B).bind λv4=>
   some v4
  else
  if (a2.Kind==10) then
   (O5 a0 a2.A).bind λv5=>
   (O5 a0 a2.B).bind λv6=>
   if (v5==v6) then
    some 1
   else
   some 0
  else
  (dV a1 a2.A).bind λv7=>
  some v7) (λκ2=>
  if (a2.Kind==6) then
   κ2 (a2.Kind==6)
  else
  κ2 (a2.Kind==8))
def u6(a0:b9)(a1:k8):Option (b9 × Int × Int):=
 (X5 a1).bind λv1=>
 if (v1 != 0) then
  some (a0,0,v1)
 else
 (gI).bind λv2=>
 if (!((A2 v2 a1.Kind).isSome)) then
  some (a0,0,14)
 else
 (xw ((A2 v2 a1.Kind).getD (none:Fv)) (⟨a0,a1⟩:s6)).bind λv3=>
 if (v3.2 != 0) then
  some (a0,0,v3.2)
 else
 (R8 v3.1).bind λv5=>
 (Z9 v3.1 v5 a1).bind λv6=>
 some (v5,v6,0)
def nA(a0:b6):Option b6:=
 some a0
def mi(a0:b6)(a1:Int):Option (List Int):=
 (x4 a0 a1).bind λv1=>
 (jD v1.1.Fields).bind λv2=>
 some v2
def xD(a0:b6)(a1:Int):Option Int:=
 jn (λ(j31:Int)=>
  some j31) (λκ30=>
  (nA a0).bind λv32=>
  (F5 v32).bind λv33=>
  (lp (S:=Int × Int) (E:=Int) (λ((s35,s36):Int × Int)=>
   if (decide (s35<(v33.length:Int))) then
    jn (λ(j50:Int)=>
     some (.inl (w9 (s35+1),j50))) (λκ49=>
     (ix v33 s35).bind λv51=>
     (mi v32 v51).bind λv52=>
     (lp (S:=Int × Int) (E:=Int) (λ((s54,s55):Int × Int)=>
      if (decide (s54<(v52.length:Int))) then
       (ix v52 s54).bind λv58=>
       jn (λ(j60:Int)=>
        some (.inl (w9 (s54+1),j60))) (λκ59=>
        if (v58==a1) then
         κ59 (w9 (s55+1))
        else
        κ59 s55)
      else
      some (.inr s55)) (0,s36)).bind λe53=>
     κ49 e53)
   else
   some (.inr s36)) (0,0)).bind λe34=>
  κ30 e34)
def ef(a0:List g5):Option (List g5):=
 some a0
def lN(a0:List g5):Option (List Int):=
 jn (λ(j13:List Int)=>
  some j13) (λκ12=>
  (lp (S:=Int × (List Int)) (E:=(List Int)) (λ((s15,s16):Int × (List Int))=>
   if (decide (s15<(a0.length:Int))) then
    jn (λ(j22:List Int)=>
     some (.inl (w9 (s15+1),j22))) (λκ21=>
     (ix a0 s15).bind λv23=>
     if (v23.State==1) then
      (app 8 s16 [v23.Key]).bind λv24=>
      κ21 v24
     else
     κ21 s16)
   else
   some (.inr s16)) (0,[])).bind λe14=>
  κ12 e14)
def gG(a0:k7)(a1:Int):Option Bool:=
 some ((a1 != 0)&&(a0.Val==a1))
def B3(a0:List g5)(a1:Int):Option (List k7):=
 jn (λ(j16:List k7)=>
  some j16) (λκ15=>
  (lN a0).bind λv17=>
  (lp (S:=Int × (List k7)) (E:=(List k7)) (λ((s19,s20):Int × (List k7))=>
   if (decide (s19<(v17.length:Int))) then
    (ix v17 s19).bind λv23=>
    (Z5 a0 v23).bind λv24=>
    jn (λ(j28:List k7)=>
     some (.inl (w9 (s19+1),j28))) (λκ27=>
     (gG (⟨v23,v24.1⟩:k7) a1).bind λv29=>
     if v29 then
      (app 16 s20 [(⟨v23,v24.1⟩:k7)]).bind λv30=>
      κ27 v30
     else
     κ27 s20)
   else
   some (.inr s20)) (0,[])).bind λe18=>
  κ15 e18)
def kK(a0:List g5)(a1:Int):Option Int:=
 (ef a0).bind λv1=>
 (B3 v1 a1).bind λv2=>
 some (v2.length:Int)
def lg(a0:b6)(a1:List g5)(a2:Int):Option Int:=
 (xD a0 a2).bind λv1=>
 (kK a1 a2).bind λv2=>
 some (w9 (v1+v2))
def nQ(a0:b6)(a1:List g5)(a2:Int):Option Int:=
 (x4 a0 a2).bind λv1=>
 if (v1.2 != 0) then
  some 0
 else
 (lg a0 a1 a2).bind λv2=>
 some (w9 (v1.1.Strong-v2))
def oN(a0:Int):Option Bool:=
 (I9 a0).bind λv1=>
 some v1
def nP(a0:Int)(a1:n0)(a2:b6)(a3:List g5):Option Bool:=
 (nQ a2 a3 a0).bind λv1=>
 (D3 ((decide (v1 > 0))==false) false (oN a1.Strong)).bind λv2=>
 some ((decide (v1 > 0))||v2)
def nO(a0:b6)(a1:List g5):Option (List Int):=
 jn (λ(j36:List Int)=>
  some j36) (λκ35=>
  jn (λ(j54:List Int)=>
   κ35 j54) (λκ53=>
   (F5 a0).bind λv55=>
   (lp (S:=Int × (List Int)) (E:=(List Int)) (λ((s57,s58):Int × (List Int))=>
    if (decide (s57<(v55.length:Int))) then
     jn (λ(j66:List Int)=>
      some (.inl (w9 (s57+1),j66))) (λκ65=>
      (ix v55 s57).bind λv67=>
      (x4 a0 v67).bind λv68=>
      (nP v67 v68.1 a0 a1).bind λv69=>
      if v69 then
       (app 8 s58 [v67]).bind λv70=>
       κ65 v70
      else
      κ65 s58)
    else
    some (.inr s58)) (0,[])).bind λe56=>
   κ53 e56))
def cM(a0:b6)(a1:Int):Option Bool:=
 (x4 a0 a1).bind λv1=>
 some (v1.2==0)
def fH(a0:b6)(a1:List Int):Option (List (Int × Bool)):=
 (F5 a0).bind λv1=>
 (bg (v1.length:Int)).bind λv2=>
 jn (λ((j20,j21):c9 × (List (Int × Bool)))=>
  jn (λ(j68:List (Int × Bool))=>
   some j68) (λκ67=>
   (lp (S:=c9 × (List (Int × Bool))) (E:=(List (Int × Bool))) (λ((s70,s71):c9 × (List (Int × Bool)))=>
    (I1 s70).bind λv74=>
    if (decide (v74 > 0)) then
     (X9 s70).bind λv75=>
     (mi a0 v75.2.1).bind λv76=>
     jn (λ((j94,j95):c9 × (List (Int × Bool)))=>
      some (.inl (j94,j95))) (λκ93=>
      (lp (S:=Int × c9 × (List (Int × Bool))) (E:=(c9 × (List (Int × Bool)))) (λ((s98,s99,s100):Int × c9 × (List (Int × Bool)))=>
       if (decide (s98<(v76.length:Int))) then
        jn (λ((j107,j108):c9 × (List (Int × Bool)))=>
         some (.inl (w9 (s98+1),j107,j108))) (λκ106=>
         (ix v76 s98).bind λv110=>
         (cM a0 v110).bind λv111=>
         if (v111==true) then
          if (!((A2 s100 v110).getD (false:Bool))) then
           (D8 s99 v110).bind λv112=>
           κ106 (v112.1,(p7 s100 v110 true))
          else
          κ106 (s99,s100)
         else
         κ106 (s99,s100))
       else
       some (.inr (s99,s100))) (0,v75.1,s71)).bind λe97=>
      κ93 e97)
    else
    some (.inr s71)) (j20,j21)).bind λe69=>
   κ67 e69)) (λκ19=>
  (lp (S:=Int × c9 × (List (Int × Bool))) (E:=(c9 × (List (Int × Bool)))) (λ((s114,s115,s116):Int × c9 × (List (Int × Bool)))=>
   if (decide (s114<(a1.length:Int))) then
    jn (λ((j123,j124):c9 × (List (Int × Bool)))=>
     some (.inl (w9 (s114+1),j123,j124))) (λκ122=>
     (ix a1 s114).bind λv126=>
     (cM a0 v126).bind λv127=>
     if (v127==true) then
      if (!((A2 s116 v126).getD (false:Bool))) then
       (D8 s115 v126).bind λv128=>
       κ122 (v128.1,(p7 s116 v126 true))
      else
      κ122 (s115,s116)
     else
     κ122 (s115,s116))
   else
   some (.inr (s115,s116))) (0,v2,[])).bind λe113=>
  κ19 e113)
def jh(a0:Int)(a1:List (Int × Bool)):Option Bool:=
 some ((A2 a1 a0).getD (false:Bool))
def Y0(a0:b6)(a1:List (Int × Bool)):Option (List Int):=
 jn (λ(j16:List Int)=>
  some j16) (λκ15=>
  (F5 a0).bind λv17=>
  (lp (S:=Int × (List Int)) (E:=(List Int)) (λ((s19,s20):Int × (List Int))=>
   if (decide (s19<(v17.length:Int))) then
    jn (λ(j27:List Int)=>
     some (.inl (w9 (s19+1),j27))) (λκ26=>
     (ix v17 s19).bind λv28=>
     (jh v28 a1).bind λv29=>
     if v29 then
      (app 8 s20 [v28]).bind λv30=>
      κ26 v30
     else
     κ26 s20)
   else
   some (.inr s20)) (0,[])).bind λe18=>
  κ15 e18)
def jW(a0:b6)(a1:List Int):Option (List Int):=
 (fH a0 a1).bind λv1=>
 (Y0 a0 v1).bind λv2=>
 some v2
def gH(a0:k7):Option Bool:=
 some true
def B4(a0:List g5):Option (List k7):=
 jn (λ(j16:List k7)=>
  some j16) (λκ15=>
  (lN a0).bind λv17=>
  (lp (S:=Int × (List k7)) (E:=(List k7)) (λ((s19,s20):Int × (List k7))=>
   if (decide (s19<(v17.length:Int))) then
    (ix v17 s19).bind λv23=>
    (Z5 a0 v23).bind λv24=>
    jn (λ(j28:List k7)=>
     some (.inl (w9 (s19+1),j28))) (λκ27=>
     (gH (⟨v23,v24.1⟩:k7)).bind λv29=>
     if v29 then
      (app 16 s20 [(⟨v23,v24.1⟩:k7)]).bind λv30=>
      κ27 v30
     else
     κ27 s20)
   else
   some (.inr s20)) (0,[])).bind λe18=>
  κ15 e18)
def kL(a0:List g5):Option (List k7):=
 (ef a0).bind λv1=>
 (B4 v1).bind λv2=>
 some v2
def jK(a0:Int)(a1:b6):Option Bool:=
 (x4 a1 a0).bind λv1=>
 some (v1.2==0)
def ta(a0:b6)(a1:List g5)(a2:List Int):Option (List Int):=
 jn (λ(j20:List Int)=>
  some j20) (λκ19=>
  (kL a1).bind λv21=>
  (lp (S:=Int × (List Int)) (E:=(List Int)) (λ((s23,s24):Int × (List Int))=>
   if (decide (s23<(v21.length:Int))) then
    jn (λ(j33:List Int)=>
     some (.inl (w9 (s23+1),j33))) (λκ32=>
     (ix v21 s23).bind λv34=>
     (E6 a2 v34.Key).bind λv35=>
     (D3 (v35==true) false (jK v34.Key a0)).bind λv36=>
     (D3 ((v35&&v36)==true) false (jK v34.Val a0)).bind λv37=>
     if ((v35&&v36)&&v37) then
      (app 8 s24 [v34.Val]).bind λv38=>
      κ32 v38
     else
     κ32 s24)
   else
   some (.inr s24)) (0,[])).bind λe22=>
  κ19 e22)
def pY(a0:b6)(a1:List g5)(a2:List Int):Option ((List Int) × Int):=
 (jW a0 a2).bind λv1=>
 (lp (S:=(List Int) × Int) (E:=((List Int) × Int)) (λ((s3,s4):(List Int) × Int)=>
  (ta a0 a1 s3).bind λv7=>
  jn (λ(_:Unit)=>
   some (.inr (s3,s4))) (λκ15=>
   (lp (S:=Int) (E:=((List Int) × Int) ⊕ Unit) (λ(s18:Int)=>
    if (decide (s18<(v7.length:Int))) then
     (ix v7 s18).bind λv20=>
     (E6 s3 v20).bind λv21=>
     if (!v21) then
      (app 8 v7 s3).bind λv22=>
      (jW a0 v22).bind λv23=>
      some (.inr (.inl (v23,w9 (s4+1))))
     else
     some (.inl (w9 (s18+1)))
    else
    some (.inr (.inr ()))) 0).bind λe17=>
   match e17 with
   | .inl w=>some (.inl w)
   | .inr w=>κ15 w)) (v1,0)).bind λe2=>
 some e2
def sZ(a0:b6)(a1:List g5)(a2:List Int):Option (List Int):=
 (pY a0 a1 a2).bind λv1=>
 some v1.1
def ji(a0:Int)(a1:List (Int × Bool)):Option Bool:=
 some (!((A2 a1 a0).getD (false:Bool)))
def Y1(a0:b6)(a1:List (Int × Bool)):Option (List Int):=
 jn (λ(j16:List Int)=>
  some j16) (λκ15=>
  (F5 a0).bind λv17=>
  (lp (S:=Int × (List Int)) (E:=(List Int)) (λ((s19,s20):Int × (List Int))=>
   if (decide (s19<(v17.length:Int))) then
    jn (λ(j27:List Int)=>
     some (.inl (w9 (s19+1),j27))) (λκ26=>
     (ix v17 s19).bind λv28=>
     (ji v28 a1).bind λv29=>
     if v29 then
      (app 8 s20 [v28]).bind λv30=>
      κ26 v30
     else
     κ26 s20)
   else
   some (.inr s20)) (0,[])).bind λe18=>
  κ15 e18)
def ny(a0:b6)(a1:List Int):Option (List Int):=
 (fH a0 a1).bind λv1=>
 (Y1 a0 v1).bind λv2=>
 some v2
def oV(a0:b6)(a1:List g5)(a2:List Int):Option (List Int):=
 (sZ a0 a1 a2).bind λv1=>
 (ny a0 v1).bind λv2=>
 some v2
def dF(a0:b6)(a1:List g5):Option (List Int):=
 (nO a0 a1).bind λv1=>
 (oV a0 a1 v1).bind λv2=>
 some v2
def V2(a0:b9):Option (List Int):=
 (dF a0.S a0.T).bind λv1=>
 some v1
def iy(a0:Int)(a1:b9):Option Bool:=
 (x4 a1.S a0).bind λv1=>
 some ((decide (v1.1.Prog>=0))&&(!v1.1.Started))
def K7(a0:List Int)(a1:b9):Option (List Int):=
 jn (λ(j15:List Int)=>
  some j15) (λκ14=>
  (lp (S:=Int × (List Int)) (E:=(List Int)) (λ((s17,s18):Int × (List Int))=>
   if (decide (s17<(a0.length:Int))) then
    jn (λ(j25:List Int)=>
     some (.inl (w9 (s17+1),j25))) (λκ24=>
     (ix a0 s17).bind λv26=>
     (iy v26 a1).bind λv27=>
     if v27 then
      (app 8 s18 [v26]).bind λv28=>
      κ24 v28
     else
     κ24 s18)
   else
   some (.inr s18)) (0,[])).bind λe16=>
  κ14 e16)
def gF(a0:b9):Option (List Int):=
 (V2 a0).bind λv1=>
 (K7 v1 a0).bind λv2=>
 some v2
def aT(a0:b9):Option (b9 × Int × Int):=
 (gF a0).bind λv1=>
 jn (λ(j10:b9)=>
  if (decide ((v1.length:Int) > 0)) then
   some (j10,(v1.length:Int),0)
  else
  (V2 j10).bind λv11=>
  (ca j10 v11).bind λv12=>
  (R8 v12).bind λv13=>
  (F5 j10.S).bind λv14=>
  (F5 v13.S).bind λv15=>
  some (v13,0,w9 ((v14.length:Int)-(v15.length:Int)))) (λκ9=>
  (lp (S:=Int × b9) (E:=b9) (λ((s17,s18):Int × b9)=>
   if (decide (s17<(v1.length:Int))) then
    (ix v1 s17).bind λv21=>
    (Y3 s18 v21).bind λv22=>
    some (.inl (w9 (s17+1),v22))
   else
   some (.inr s18)) (0,a0)).bind λe16=>
  κ9 e16)
def gV(a0:b9):Option Bool:=
 (bj a0.Q).bind λv1=>
 some (v1.2.2 != 0)
def gZ(a0:b9)(a1:List k8):Option (b9 × (List Int)):=
 jn (λ((j11,j12):b9 × (List Int))=>
  some (j11,j12)) (λκ10=>
  (lp (S:=Int × b9 × (List Int)) (E:=(b9 × (List Int))) (λ((s15,s16,s17):Int × b9 × (List Int))=>
   if (decide (s15<(a1.length:Int))) then
    (ix a1 s15).bind λv20=>
    (u6 s16 v20).bind λv21=>
    (app 8 s17 [v21.2.1]).bind λv22=>
    some (.inl (w9 (s15+1),v21.1,v22))
   else
   some (.inr (s16,s17))) (0,a0,[])).bind λe14=>
  κ10 e14)
def mW(a0:b9)(a1:List (List k8)):Option (b9 × g6 × Int):=
 (bj a0.Q).bind λv1=>
 if (v1.2.2 != 0) then
  some (a0,(⟨0,0,0⟩:g6),v1.2.2)
 else
 jn (λ(j6:b9)=>
  (dP a1 v1.2.1.Prog).bind λv7=>
  (gZ j6 v7).bind λv8=>
  if (v1.2.1.Kind==1) then
   (cC v8.1 5 0).bind λv9=>
   (R8 v9.1).bind λv10=>
   some (v10,v1.2.1,0)
  else
  some (v8.1,v1.2.1,0)) (λκ5=>
  if (v1.2.1.Kind==1) then
   (cC (⟨a0.S,a0.Roots,a0.b7,a0.T,v1.1⟩:b9) 5 v1.2.1.At).bind λv11=>
   (E4 v11.1 v1.2.1.At).bind λv12=>
   (R8 v12).bind λv13=>
   κ5 v13
  else
  κ5 (⟨a0.S,a0.Roots,a0.b7,a0.T,v1.1⟩:b9))
def gU(a0:b9)(a1:List (List k8))(a2:Int):Option (b9 × Int × Int × Int):=
 jn (λ((j14,j15,j16):Int × Int × b9)=>
  (gV j16).bind λv18=>
  if (!v18) then
   some (j16,j14,j15,12)
  else
  some (j16,j14,j15,0)) (λκ13=>
  (lp (S:=Int × b9 × Int × Int × b9) (E:=(Int × Int × b9)) (λ((s20,s21,s22,s23,s24):Int × b9 × Int × Int × b9)=>
   (gV s21).bind λv27=>
   if (!v27) then
    (bj s21.Q).bind λv28=>
    (bP a1 v28.2.1).bind λv29=>
    if (decide (v29 > s20)) then
     some (.inr (s22,s23,s24))
    else
    (mW s21 a1).bind λv30=>
    some (.inl (w9 (s20-v29),v30.1,w9 (s22+1),w9 (s20-v29),v30.1))
   else
   some (.inr (s22,s23,s24))) (a2,a0,0,a2,a0)).bind λe19=>
  κ13 e19)
def lK(a0:n9)(a1:List Int):Option (n9 × g8):=
 (V6 a1).bind λv1=>
 if (v1.2 != 0) then
  some (a0,(⟨0,v1.2⟩:g8))
 else
 (mY v1.1).bind λv2=>
 if (decide (v2.t=162)) then
  (u6 a0.X (⟨(GP v2 162 0),(GP v2 162 1),(GP v2 162 2),(GP v2 162 3)⟩:k8)).bind λv3=>
  some ((⟨v3.1,a0.Progs⟩:n9),(⟨v3.2.1,v3.2.2⟩:g8))
 else
 if (decide (v2.t=166)) then
  (aT a0.X).bind λv4=>
  some ((⟨v4.1,a0.Progs⟩:n9),(⟨w9 (v4.2.2-v4.2.1),0⟩:g8))
 else
 if (decide (v2.t=170)) then
  (gU a0.X a0.Progs (GP v2 170 0)).bind λv5=>
  some ((⟨v5.1,a0.Progs⟩:n9),(⟨v5.2.1,v5.2.2.2⟩:g8))
 else
 some (a0,(⟨0,0⟩:g8))
def mX(a0:n9)(a1:List (List Int)):Option (n9 × (List g8)):=
 jn (λ((j11,j12):n9 × (List g8))=>
  some (j11,j12)) (λκ10=>
  (lp (S:=Int × n9 × (List g8)) (E:=(n9 × (List g8))) (λ((s15,s16,s17):Int × n9 × (List g8))=>
   if (decide (s15<(a1.length:Int))) then
    (ix a1 s15).bind λv20=>
    (lK s16 v20).bind λv21=>
    (app 16 s17 [v21.2]).bind λv22=>
    some (.inl (w9 (s15+1),v21.1,v22))
   else
   some (.inr (s16,s17))) (0,a0,[])).bind λe14=>
  κ10 e14)
def pQ(a0:List g8):Option (List z8):=
 jn (λ(j9:List z8)=>
  some j9) (λκ8=>
  (lp (S:=Int × (List z8)) (E:=(List z8)) (λ((s11,s12):Int × (List z8))=>
   if (decide (s11<(a0.length:Int))) then
    (ix a0 s11).bind λv15=>
    (app 16 s12 [(⟨v15.V,v15.E⟩:z8)]).bind λv16=>
    some (.inl (w9 (s11+1),v16))
   else
   some (.inr s12)) (0,[])).bind λe10=>
  κ8 e10)
def wm(a0:List z8)(a1:List z8):Option Bool:=
 if ((a0.length:Int) != (a1.length:Int)) then
  some false
 else
 jn (λ(_:Unit)=>
  some true) (λκ6=>
  (lp (S:=Int) (E:=Bool ⊕ Unit) (λ(s9:Int)=>
   if (decide (s9<(a0.length:Int))) then
    (ix a0 s9).bind λv11=>
    (ix a1 s9).bind λv12=>
    if (!((v11.V==v12.V)&&((v11.E==v12.E)&&true))) then
     some (.inr (.inl false))
    else
    some (.inl (w9 (s9+1)))
   else
   some (.inr (.inr ()))) 0).bind λe8=>
  match e8 with
  | .inl w=>some w
  | .inr w=>κ6 w)
def gA:Option Bool:=
 (eH 3 5 8 [[(⟨2,2,5,0⟩:k8)]]).bind λv1=>
 (X7 3 5 8 [[(⟨2,2,5,0⟩:k8)]]).bind λv2=>
 (cG v1.1 [[1,0,1,0],[5,0,0,0],[3,0,0,0],[11,0,0,0],[12,9,0,0],[3,2,0,0],[11,0,0,0],[2,9,0,0]]).bind λv3=>
 (mX v2.1 [[1,0,1,0],[5,0,0,0],[3,0,0,0],[11,0,0,0],[12,9,0,0],[3,2,0,0],[11,0,0,0],[2,9,0,0]]).bind λv4=>
 (D3 (((((v1.2==0)&&(v2.2==0))&&(decide ((v3.1.Gens.length:Int) > 0)))&&((v3.2.length:Int)==8))==true) [] (pQ v3.2)).bind λv5=>
 (D3 (((((v1.2==0)&&(v2.2==0))&&(decide ((v3.1.Gens.length:Int) > 0)))&&((v3.2.length:Int)==8))==true) [] (pQ v4.2)).bind λv6=>
 (D3 (((((v1.2==0)&&(v2.2==0))&&(decide ((v3.1.Gens.length:Int) > 0)))&&((v3.2.length:Int)==8))==true) false (wm v5 v6)).bind λv7=>
 (D3 ((((((v1.2==0)&&(v2.2==0))&&(decide ((v3.1.Gens.length:Int) > 0)))&&((v3.2.length:Int)==8))&&v7)==true) (⟨0,0⟩:g8) (ix v3.2 3)).bind λv8=>
 (D3 (((((((v1.2==0)&&(v2.2==0))&&(decide ((v3.1.Gens.length:Int) > 0)))&&((v3.2.length:Int)==8))&&v7)&&(v8.V==(-1)))==true) (⟨0,0⟩:g8) (ix v3.2 4)).bind λv9=>
 (D3 ((((((((v1.2==0)&&(v2.2==0))&&(decide ((v3.1.Gens.length:Int) > 0)))&&((v3.2.length:Int)==8))&&v7)&&(v8.V==(-1)))&&(v9.V==1))==true) (⟨0,0⟩:g8) (ix v3.2 6)).bind λv10=>
 (D3 (((((((((v1.2==0)&&(v2.2==0))&&(decide ((v3.1.Gens.length:Int) > 0)))&&((v3.2.length:Int)==8))&&v7)&&(v8.V==(-1)))&&(v9.V==1))&&(v10.V==1))==true) (⟨0,0⟩:g8) (ix v3.2 7)).bind λv11=>
 (D3 ((((((((((v1.2==0)&&(v2.2==0))&&(decide ((v3.1.Gens.length:Int) > 0)))&&((v3.2.length:Int)==8))&&v7)&&(v8.V==(-1)))&&(v9.V==1))&&(v10.V==1))&&(v11.E==6))==true) [] (az v3.1)).bind λv12=>
 (D3 (((((((((((v1.2==0)&&(v2.2==0))&&(decide ((v3.1.Gens.length:Int) > 0)))&&((v3.2.length:Int)==8))&&v7)&&(v8.V==(-1)))&&(v9.V==1))&&(v10.V==1))&&(v11.E==6))&&((v12.length:Int)==0))==true) (0:Int) (ix v3.1.Gens 0)).bind λv13=>
 some (((((((((((v1.2==0)&&(v2.2==0))&&(decide ((v3.1.Gens.length:Int) > 0)))&&((v3.2.length:Int)==8))&&v7)&&(v8.V==(-1)))&&(v9.V==1))&&(v10.V==1))&&(v11.E==6))&&((v12.length:Int)==0))&&(v13==1))
def uM(a0:a8):Option Bool:=
 jn (λ(_:Unit)=>
  (D3 ((((((((decide ((a0.Nodes.length:Int)<=50))&&(decide ((a0.Pairs.length:Int)<=20)))&&(decide ((a0.Tasks.length:Int)<=100)))&&(decide ((a0.b7.length:Int)<=20)))&&(decide ((a0.Roots.length:Int)<=20)))&&(decide ((a0.Slots.length:Int)<=30)))&&(decide ((a0.Gens.length:Int)<=30)))==true) false (iq a0.Progs)).bind λv7=>
  some ((((((((decide ((a0.Nodes.length:Int)<=50))&&(decide ((a0.Pairs.length:Int)<=20)))&&(decide ((a0.Tasks.length:Int)<=100)))&&(decide ((a0.b7.length:Int)<=20)))&&(decide ((a0.Roots.length:Int)<=20)))&&(decide ((a0.Slots.length:Int)<=30)))&&(decide ((a0.Gens.length:Int)<=30)))&&v7)) (λκ5=>
  (lp (S:=Int) (E:=Bool ⊕ Unit) (λ(s9:Int)=>
   if ((decide (s9<(a0.Nodes.length:Int)))&&(decide (s9<60))) then
    (ix a0.Nodes s9).bind λv11=>
    if (decide ((v11.Fields.length:Int) > 10)) then
     some (.inr (.inl false))
    else
    some (.inl (w9 (s9+1)))
   else
   some (.inr (.inr ()))) 0).bind λe8=>
  match e8 with
  | .inl w=>some w
  | .inr w=>κ5 w)
def qz(a0:b6):Option Bool:=
 jn (λ(_:Unit)=>
  some (decide ((a0.S.b7.length:Int)<=30))) (λκ5=>
  (lp (S:=Int) (E:=Bool ⊕ Unit) (λ(s8:Int)=>
   if ((decide (s8<(a0.S.b7.length:Int)))&&(decide (s8<30))) then
    (ix a0.S.b7 s8).bind λv10=>
    if (decide ((v10.Val.Fields.length:Int) > 10)) then
     some (.inr (.inl false))
    else
    some (.inl (w9 (s8+1)))
   else
   some (.inr (.inr ()))) 0).bind λe7=>
  match e7 with
  | .inl w=>some w
  | .inr w=>κ5 w)
def uK(a0:b9):Option Bool:=
 (qz a0.S).bind λv1=>
 some ((((v1&&(decide ((a0.Roots.length:Int)<=20)))&&(decide ((a0.b7.length:Int)<=20)))&&(decide ((a0.T.length:Int)<=20)))&&(decide ((a0.Q.L.length:Int)<=60)))
def jb(a0:n9):Option (List Int):=
 jn (λ(j11:List Int)=>
  (qp j11).bind λv12=>
  some v12) (λκ10=>
  (F5 a0.X.S).bind λv13=>
  (lp (S:=Int × (List Int)) (E:=(List Int)) (λ((s15,s16):Int × (List Int))=>
   if (decide (s15<(v13.length:Int))) then
    (ix v13 s15).bind λv19=>
    (bS a0.X v19).bind λv20=>
    (app 8 s16 [v20]).bind λv21=>
    some (.inl (w9 (s15+1),v21))
   else
   some (.inr s16)) (0,[])).bind λe14=>
  κ10 e14)
def ue(a0:List Int)(a1:List Int):Option Bool:=
 if ((a0.length:Int) != (a1.length:Int)) then
  some false
 else
 jn (λ(_:Unit)=>
  some true) (λκ6=>
  (lp (S:=Int) (E:=Bool ⊕ Unit) (λ(s9:Int)=>
   if (decide (s9<(a0.length:Int))) then
    (ix a0 s9).bind λv11=>
    (ix a1 s9).bind λv12=>
    if (v11 != v12) then
     some (.inr (.inl false))
    else
    some (.inl (w9 (s9+1)))
   else
   some (.inr (.inr ()))) 0).bind λe8=>
  match e8 with
  | .inl w=>some w
  | .inr w=>κ6 w)
def xQ(a0:n0):Option bH:=
 some (⟨a0.Serial,a0.Strong,a0.Weak,a0.Prog,a0.Started,a0.Fields⟩:bH)
def xP(a0:b6):Option F1:=
 jn (λ(j10:List B8)=>
  some (⟨j10,a0.S.Last,a0.Serial⟩:F1)) (λκ9=>
  (lp (S:=Int × (List B8)) (E:=(List B8)) (λ((s12,s13):Int × (List B8))=>
   if (decide (s12<(a0.S.b7.length:Int))) then
    (ix a0.S.b7 s12).bind λv16=>
    (xQ v16.Val).bind λv17=>
    (app 80 s13 [(⟨v16.State,v16.Gen,v17⟩:B8)]).bind λv18=>
    some (.inl (w9 (s12+1),v18))
   else
   some (.inr s13)) (0,[])).bind λe11=>
  κ9 e11)
def qy(a0:List j5):Option (List D4):=
 jn (λ(j9:List D4)=>
  some j9) (λκ8=>
  (lp (S:=Int × (List D4)) (E:=(List D4)) (λ((s11,s12):Int × (List D4))=>
   if (decide (s11<(a0.length:Int))) then
    (ix a0 s11).bind λv15=>
    (app 24 s12 [(⟨v15.Target,v15.Intact,v15.Call⟩:D4)]).bind λv16=>
    some (.inl (w9 (s11+1),v16))
   else
   some (.inr s12)) (0,[])).bind λe10=>
  κ8 e10)
def xR(a0:List g5):Option (List u9):=
 jn (λ(j9:List u9)=>
  some j9) (λκ8=>
  (lp (S:=Int × (List u9)) (E:=(List u9)) (λ((s11,s12):Int × (List u9))=>
   if (decide (s11<(a0.length:Int))) then
    (ix a0 s11).bind λv15=>
    (app 24 s12 [(⟨v15.State,v15.Key,v15.Val⟩:u9)]).bind λv16=>
    some (.inl (w9 (s11+1),v16))
   else
   some (.inr s12)) (0,[])).bind λe10=>
  κ8 e10)
def qA(a0:g7):Option ai:=
 jn (λ(j9:List G7)=>
  some (⟨j9,a0.Cap⟩:ai)) (λκ8=>
  (lp (S:=Int × (List G7)) (E:=(List G7)) (λ((s11,s12):Int × (List G7))=>
   if (decide (s11<(a0.L.length:Int))) then
    (ix a0.L s11).bind λv15=>
    (app 24 s12 [(⟨v15.Kind,v15.At,v15.Prog⟩:G7)]).bind λv16=>
    some (.inl (w9 (s11+1),v16))
   else
   some (.inr s12)) (0,[])).bind λe10=>
  κ8 e10)
def mE(a0:b9):Option P5:=
 (xP a0.S).bind λv1=>
 (qy a0.b7).bind λv2=>
 (xR a0.T).bind λv3=>
 (qA a0.Q).bind λv4=>
 some (⟨v1,a0.Roots,v2,v3,v4⟩:P5)
def qf(a0:F1):Option U0:=
 jn (λ(j9:List G6)=>
  some (⟨j9,a0.Last⟩:U0)) (λκ8=>
  (lp (S:=Int × (List G6)) (E:=(List G6)) (λ((s11,s12):Int × (List G6))=>
   if (decide (s11<(a0.b7.length:Int))) then
    (ix a0.b7 s11).bind λv15=>
    (app 24 s12 [(⟨v15.State,v15.Gen,s11⟩:G6)]).bind λv16=>
    some (.inl (w9 (s11+1),v16))
   else
   some (.inr s12)) (0,[])).bind λe10=>
  κ8 e10)
def ua(a0:Int)(a1:Int):Option Int:=
 if ((((decide (a0<0))||(decide (a0 > 23)))||(decide (a1<0)))||(decide (a1 > 9))) then
  some 0
 else
 some (w9 ((w9 (1+a0))+(w9 (32*a1))))
def mg(a0:Int):Option Bool:=
 if ((decide (a0<1))||(decide (a0 > 400))) then
  some false
 else
 (rem (w9 (a0-1)) 32).bind λv1=>
 (quo .i64 (w9 (a0-1)) 32).bind λv2=>
 (ua v1 v2).bind λv3=>
 some (v3==a0)
def ub(a0:Int):Option Int:=
 (mg a0).bind λv1=>
 if (!v1) then
  some (-1)
 else
 (rem (w9 (a0-1)) 32).bind λv2=>
 some v2
def xB(a0:Int):Option Int:=
 (mg a0).bind λv1=>
 if (!v1) then
  some (-1)
 else
 (quo .i64 (w9 (a0-1)) 32).bind λv2=>
 some v2
def uf(a0:U0)(a1:Int):Option (Int × Int):=
 if (a1==0) then
  some ((-1),2)
 else
 (ub a1).bind λv1=>
 if ((decide (v1<0))||(decide (v1>=(a0.b7.length:Int)))) then
  some ((-1),3)
 else
 (ix a0.b7 v1).bind λv2=>
 (xB a1).bind λv3=>
 if ((v2.Gen != v3)||((v2.State != 1)&&(v2.State != 2))) then
  some ((-1),3)
 else
 some (v1,0)
def DG(a0:U0)(a1:Int):Option (Int × Int):=
 (uf a0 a1).bind λv1=>
 if (v1.2 != 0) then
  some (0,v1.2)
 else
 (ix a0.b7 v1.1).bind λv2=>
 if (v2.State==2) then
  some (0,3)
 else
 some (v2.Val,0)
def xC(a0:F1)(a1:Int):Option (bH × Int):=
 (qf a0).bind λv1=>
 (DG v1 a1).bind λv2=>
 if (v2.2 != 0) then
  some ((⟨0,0,0,0,false,[]⟩:bH),v2.2)
 else
 (ix a0.b7 v2.1).bind λv3=>
 some (v3.Val,0)
def nw(a0:P5)(a1:Int):Option Int:=
 (xC a0.S a1).bind λv1=>
 some v1.1.Serial
def DK(a0:P5)(a1:Int):Option Int:=
 if ((decide (a1<0))||(decide (a1 > 5))) then
  some 0
 else
 (ix a0.Roots a1).bind λv1=>
 (nw a0 v1).bind λv2=>
 some v2
def iP(a0:Int)(a1:Int)(a2:Int)(a3:List (List k8))(a4:List (List Int)):Option Bool:=
 (iq a3).bind λv1=>
 (D3 ((!v1)==false) false (gz a4 60)).bind λv2=>
 (D3 (((!v1)||(!v2))==false) false gA).bind λv3=>
 if (((!v1)||(!v2))||(!v3)) then
  (gA).bind λv4=>
  some v4
 else
 (eH a0 a1 a2 a3).bind λv5=>
 (X7 a0 a1 a2 a3).bind λv6=>
 if ((v5.2 != v6.2)||(v5.2 != 0)) then
  some (v5.2==v6.2)
 else
 jn (λ(_:Unit)=>
  some true) (λκ61=>
  (lp (S:=Int × n9 × a8) (E:=Bool ⊕ Unit) (λ((s64,s65,s66):Int × n9 × a8)=>
   if (decide (s64<(a4.length:Int))) then
    jn (λ((j92,j93):n9 × a8)=>
     some (.inl (w9 (s64+1),j92,j93))) (λκ91=>
     (ix a4 s64).bind λv95=>
     (lU s66 v95).bind λv96=>
     (lK s65 v95).bind λv97=>
     (D3 ((!((v96.2.V==v97.2.V)&&((v96.2.E==v97.2.E)&&true)))==false) false (uM v96.1)).bind λv98=>
     (D3 (((!((v96.2.V==v97.2.V)&&((v96.2.E==v97.2.E)&&true)))||(!v98))==false) false (uK v97.1.X)).bind λv99=>
     (D3 (((((!((v96.2.V==v97.2.V)&&((v96.2.E==v97.2.E)&&true)))||(!v98))||(!v99))||((v96.1.Roots.length:Int) != (v97.1.X.Roots.length:Int)))==false) [] (az v96.1)).bind λv100=>
     (D3 (((((!((v96.2.V==v97.2.V)&&((v96.2.E==v97.2.E)&&true)))||(!v98))||(!v99))||((v96.1.Roots.length:Int) != (v97.1.X.Roots.length:Int)))==false) [] (jb v97.1)).bind λv101=>
     (D3 (((((!((v96.2.V==v97.2.V)&&((v96.2.E==v97.2.E)&&true)))||(!v98))||(!v99))||((v96.1.Roots.length:Int) != (v97.1.X.Roots.length:Int)))==false) false (ue v100 v101)).bind λv102=>
     if (((((!((v96.2.V==v97.2.V)&&((v96.2.E==v97.2.E)&&true)))||(!v98))||(!v99))||((v96.1.Roots.length:Int) != (v97.1.X.Roots.length:Int)))||(!v102)) then
      some (.inr (.inl false))
     else
     jn (λ(_:Unit)=>
      κ91 (v97.1,v96.1)) (λκ109=>
      (lp (S:=Int) (E:=Bool ⊕ Unit) (λ(s112:Int)=>
       if (decide (s112<(v96.1.Roots.length:Int))) then
        (ix v96.1.Roots s112).bind λv114=>
        (mE v97.1.X).bind λv115=>
        (DK v115 s112).bind λv116=>
        if (v114 != v116) then
         some (.inr (.inl false))
        else
        some (.inl (w9 (s112+1)))
       else
       some (.inr (.inr ()))) 0).bind λe111=>
      match e111 with
      | .inl w=>some (.inr (.inl w))
      | .inr w=>κ109 w))
   else
   some (.inr (.inr ()))) (0,v6.1,v5.1)).bind λe63=>
  match e63 with
  | .inl w=>some w
  | .inr w=>κ61 w)
structure fF where
 Kind:Int
 A:Int
 B:Int
 C:Int
structure nx where
 X:P5
 Progs:List (List fF)
def qg(a0:fF):Option Bool:=
 some ((decide (a0.Kind>=1))&&(decide (a0.Kind<=10)))
def dY(a0:Int)(a1:Int)(a2:Int)(a3:Int):Option Int:=
 if ((decide (a0<a1))||(decide (a0 > a2))) then
  some a3
 else
 some 0
def cL(a0:Int)(a1:Int)(a2:Int):Option Int:=
 if (a0 != 0) then
  some a0
 else
 if (a1 != 0) then
  some a1
 else
 some a2
def gv(a0:fF):Option Int:=
 (dY a0.A 0 5 6).bind λv1=>
 (dY a0.B 0 5 6).bind λv2=>
 if (a0.Kind==1) then
  (dY a0.B 0 4 1).bind λv3=>
  (dY a0.C (-1) 5 13).bind λv4=>
  (cL v1 v3 v4).bind λv5=>
  some v5
 else
 jn (λ(j7:Bool)=>
  if j7 then
   (cL v1 v2 0).bind λv8=>
   some v8
  else
  if (a0.Kind==3) then
   some v1
  else
  if (a0.Kind==4) then
   (dY a0.C 0 3 5).bind λv9=>
   (cL v1 v2 v9).bind λv10=>
   some v10
  else
  if (a0.Kind==5) then
   (dY a0.B 0 3 5).bind λv11=>
   (dY a0.C (-1) 5 6).bind λv12=>
   (cL v1 v11 v12).bind λv13=>
   some v13
  else
  if (a0.Kind==6) then
   (dY a0.A 0 5 7).bind λv14=>
   (dY a0.B (-1) 5 6).bind λv15=>
   (dY a0.C (-1) 5 13).bind λv16=>
   (cL v14 v15 v16).bind λv17=>
   some v17
  else
  if (a0.Kind==7) then
   (dY a0.B 0 5 7).bind λv18=>
   (cL v1 v18 0).bind λv19=>
   some v19
  else
  if (a0.Kind==8) then
   (dY a0.B (-1) 5 6).bind λv20=>
   (cL v1 v20 0).bind λv21=>
   some v21
  else
  if (a0.Kind==11) then
   some 0
  else
  if (a0.Kind==12) then
   (dY a0.A 0 200 12).bind λv22=>
   some v22
  else
  some 14) (λκ6=>
  if (a0.Kind==2) then
   κ6 (a0.Kind==2)
  else
  if (a0.Kind==9) then
   κ6 (a0.Kind==9)
  else
  κ6 (a0.Kind==10))
def qh(a0:List (List fF)):Option Bool:=
 if (decide ((a0.length:Int) > 6)) then
  some false
 else
 jn (λ(_:Unit)=>
  some true) (λκ20=>
  (lp (S:=Int) (E:=Bool ⊕ Unit) (λ(s23:Int)=>
   if (decide (s23<(a0.length:Int))) then
    jn (λ(_:Unit)=>
     some (.inl (w9 (s23+1)))) (λκ32=>
     (ix a0 s23).bind λv34=>
     if (decide ((v34.length:Int) > 6)) then
      some (.inr (.inl false))
     else
     (lp (S:=Int) (E:=Bool ⊕ Unit) (λ(s36:Int)=>
      if (decide (s36<(v34.length:Int))) then
       (ix v34 s36).bind λv38=>
       (qg v38).bind λv39=>
       (D3 ((!v39)==false) 0 (gv v38)).bind λv40=>
       if ((!v39)||(v40 != 0)) then
        some (.inr (.inl false))
       else
       some (.inl (w9 (s36+1)))
      else
      some (.inr (.inr ()))) 0).bind λe35=>
     match e35 with
     | .inl w=>some (.inr (.inl w))
     | .inr w=>κ32 w)
   else
   some (.inr (.inr ()))) 0).bind λe22=>
  match e22 with
  | .inl w=>some w
  | .inr w=>κ20 w)
def Kg(a0:Int)(a1:Int):Option U0:=
 if ((((decide (a0<0))||(decide (a0 > 24)))||(decide (a1<0)))||(decide (a1 > 9))) then
  some (⟨[],0⟩:U0)
 else
 (mk 24 a0 (⟨0,0,0⟩:G6)).bind λv1=>
 some (⟨v1,a1⟩:U0)
def DI(a0:Int)(a1:Int):Option F1:=
 (Kg a0 a1).bind λv1=>
 (mk 80 (v1.b7.length:Int) (⟨0,0,⟨0,0,0,0,false,[]⟩⟩:B8)).bind λv2=>
 some (⟨v2,v1.Last,0⟩:F1)
def SQ(a0:Int):Option (List D4):=
 jn (λ(j8:List D4)=>
  some j8) (λκ7=>
  (lp (S:=Int × (List D4)) (E:=(List D4)) (λ((s10,s11):Int × (List D4))=>
   if ((decide (s10<a0))&&(decide (a0<=6))) then
    (app 24 s11 [(⟨0,false,(-1)⟩:D4)]).bind λv14=>
    some (.inl (w9 (s10+1),v14))
   else
   some (.inr s11)) (0,[])).bind λe9=>
  κ7 e9)
def Kh(a0:Int):Option (List u9):=
 if ((decide (a0<1))||(decide (a0 > 8))) then
  some []
 else
 (mk 24 a0 (⟨0,0,0⟩:u9)).bind λv1=>
 some v1
def SS:Option ai:=
 some (⟨[],30⟩:ai)
def uh(a0:Int)(a1:Int)(a2:Int):Option P5:=
 if ((((((decide (a0<1))||(decide (a0 > 24)))||(decide (a1<0)))||(decide (a1 > 9)))||(decide (a2<1)))||(decide (a2 > 8))) then
  some (⟨⟨[],0,0⟩,[],[],[],⟨[],0⟩⟩:P5)
 else
 (DI a0 a1).bind λv1=>
 (mk 8 6 (0:Int)).bind λv2=>
 (SQ 6).bind λv3=>
 (Kh a2).bind λv4=>
 (SS).bind λv5=>
 some (⟨v1,v2,v3,v4,v5⟩:P5)
def DL(a0:Int)(a1:Int)(a2:Int)(a3:List (List fF)):Option (nx × Int):=
 (qh a3).bind λv1=>
 if (!v1) then
  some ((⟨⟨⟨[],0,0⟩,[],[],[],⟨[],0⟩⟩,[]⟩:nx),13)
 else
 (uh a0 a1 a2).bind λv2=>
 if ((v2.Roots.length:Int)==0) then
  some ((⟨⟨⟨[],0,0⟩,[],[],[],⟨[],0⟩⟩,[]⟩:nx),1)
 else
 some ((⟨v2,a3⟩:nx),0)
def mh(a0:List u9)(a1:Int):Option Int:=
 jn (λ(_:Unit)=>
  some (-1)) (λκ5=>
  (lp (S:=Int) (E:=Int ⊕ Unit) (λ(s8:Int)=>
   if (decide (s8<(a0.length:Int))) then
    (ix a0 s8).bind λv10=>
    if ((v10.State==1)&&(v10.Key==a1)) then
     some (.inr (.inl s8))
    else
    some (.inl (w9 (s8+1)))
   else
   some (.inr (.inr ()))) 0).bind λe7=>
  match e7 with
  | .inl w=>some w
  | .inr w=>κ5 w)
def jV(a0:List Int):Option (fF × Int):=
 if ((a0.length:Int) != 4) then
  some ((⟨0,0,0,0⟩:fF),14)
 else
 (ix a0 0).bind λv1=>
 (ix a0 1).bind λv2=>
 (ix a0 2).bind λv3=>
 (ix a0 3).bind λv4=>
 (gv (⟨v1,v2,v3,v4⟩:fF)).bind λv5=>
 if (v5 != 0) then
  some ((⟨0,0,0,0⟩:fF),v5)
 else
 some ((⟨v1,v2,v3,v4⟩:fF),0)
def Ad(a0:List u9)(a1:Int)(a2:u9):Option (List u9):=
 (app 24 [] a0).bind λv1=>
 (ix v1 a1).bind λv2=>
 some (v1.set (a1).toNat a2)
def ug(a0:List u9)(a1:Int):Option ((List u9) × Int × Int):=
 (mh a0 a1).bind λv1=>
 if (decide (v1<0)) then
  some (a0,0,9)
 else
 (Ad a0 v1 (⟨2,0,0⟩:u9)).bind λv2=>
 (ix a0 v1).bind λv3=>
 some (v2,v3.Val,0)
def pw(a0:List u9)(a1:List Int):Option ((List u9) × (List Int)):=
 jn (λ((j18,j19):(List u9) × (List Int))=>
  some (j18,j19)) (λκ17=>
  (lp (S:=(List u9) × Int × (List Int)) (E:=((List u9) × (List Int))) (λ((s22,s23,s24):(List u9) × Int × (List Int))=>
   if (decide (s23<(a1.length:Int))) then
    jn (λ((j31,j32):(List u9) × (List Int))=>
     some (.inl (j31,w9 (s23+1),j32))) (λκ30=>
     (ix a1 s23).bind λv34=>
     (ug s22 v34).bind λv35=>
     if (v35.2.2==0) then
      (app 8 s24 [v35.2.1]).bind λv36=>
      κ30 (v35.1,v36)
     else
     κ30 (s22,s24))
   else
   some (.inr (s22,s24))) (a0,0,[])).bind λe21=>
  κ17 e21)
def DH(a0:List Int)(a1:Int):Option (Int × Int):=
 if ((decide (a1<0))||(decide (a1>=(a0.length:Int)))) then
  some (0,5)
 else
 (ix a0 a1).bind λv1=>
 some (v1,0)
end
end Go.Sh
