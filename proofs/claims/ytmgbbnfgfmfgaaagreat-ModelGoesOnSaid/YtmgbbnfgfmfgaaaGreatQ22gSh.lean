/- A part. -/
import Derived.Test.YtmgbbnfgfmfgaaaGreatQ22gSh0
import Derived.Test.YtmgbbnfgfmfgaaaGreatQ22gPwD
import Derived.Test.YtmgbbnfgfmfgaaaGreatQ22gPwC
set_option linter.unusedVariables false
set_option linter.unusedSimpArgs false
set_option linter.unusedSectionVars false
namespace Go.Sh
set_option maxRecDepth 100000
noncomputable section
structure g9 where
 Kind:Int
 A:Int
 B:Int
 C:Int
structure b8 where
 Serial:Int
 Slot:Int
 Prog:Int
 Started:Bool
 Alive:Bool
 Stuck:Bool
 Fields:List Int
structure k8 where
 Target:Int
 Intact:Bool
 Call:Int
structure k7 where
 Key:Int
 Val:Int
structure g5 where
 Kind:Int
 At:Int
 Prog:Int
structure n8 where
 Serial:Int
 Strong:Int
 Weak:Int
 Prog:Int
 Started:Bool
 Fields:List Int
structure c9 where
 State:Int
 Gen:Int
 Val:n8
structure g6 where
 State:Int
 Key:Int
 Val:Int
structure l5 where
 part:Fv
 least:Int
 most:Int
 e:Int
structure l4 where
 b7:List c9
 Last:Int
structure b6 where
 S:l4
 Serial:Int
structure g8 where
 L:List g5
 Cap:Int
structure b9 where
 S:b6
 Roots:List Int
 b7:List k8
 T:List g6
 Q:g8
structure s7 where
 X:b9
 Progs:List (List g9)
structure a8 where
 Nodes:List b8
 Slots:List Int
 Gens:List Int
 Last:Int
 Places:Int
 Serial:Int
 Roots:List Int
 b7:List k8
 Pairs:List k7
 Tasks:List g5
 Progs:List (List g9)
structure g7 where
 V:Int
 E:Int
structure e6 where
 L:List Int
 Cap:Int
structure r8 where
 x:b9
 o:g9
structure L8 where
 r:Int
 h:Int
structure I2 where
 h:Int
 k:Int
 v:Int
structure L7 where
 t:List g6
structure r9 where
 V:Int
 E:Int
structure C4 where
 Serial:Int
 Slot:Int
 Prog:Int
 Started:Bool
 Alive:Bool
 Stuck:Bool
 Fields:List Int
structure w9 where
 Target:Int
 Intact:Bool
 Call:Int
structure C0 where
 Key:Int
 Val:Int
structure A7 where
 Kind:Int
 At:Int
 Prog:Int
structure B1 where
 Kind:Int
 A:Int
 B:Int
 C:Int
structure H2 where
 L:List A7
 Cap:Int
structure T9 where
 Nodes:List C4
 Slots:List Int
 Gens:List Int
 Last:Int
 Places:Int
 Serial:Int
 Roots:List Int
 b7:List w9
 Pairs:List C0
 Tasks:List A7
 Progs:List (List B1)
def iy(a0:List (List g9)):Option Bool:=
 jn (λ(_:Unit)=>
  some (decide ((a0.length:Int)<=10))) (λκ5=>
  (lp (S:=Int) (E:=Bool ⊕ Unit) (λ(s8:Int)=>
   if ((decide (s8<(a0.length:Int)))&&(decide (s8<10))) then
    (ix a0 s8).bind λv10=>
    if (decide ((v10.length:Int) > 10)) then
     some (.inr (.inl false))
    else
    some (.inl (x4 (s8+1)))
   else
   some (.inr (.inr ()))) 0).bind λe7=>
  match e7 with
  | .inl w=>some w
  | .inr w=>κ5 w)
def aq(a0:List (List Int))(a1:Int):Option Bool:=
 jn (λ(_:Unit)=>
  some (decide ((a0.length:Int)<=a1))) (λκ5=>
  (lp (S:=Int) (E:=Bool ⊕ Unit) (λ(s8:Int)=>
   if ((decide (s8<(a0.length:Int)))&&(decide (s8<200))) then
    (ix a0 s8).bind λv10=>
    if (decide ((v10.length:Int) > 10)) then
     some (.inr (.inl false))
    else
    some (.inl (x4 (s8+1)))
   else
   some (.inr (.inr ()))) 0).bind λe7=>
  match e7 with
  | .inl w=>some w
  | .inr w=>κ5 w)
def gk(a0:g9):Option Bool:=
 some ((decide (a0.Kind>=1))&&(decide (a0.Kind<=10)))
def bx:Option l5:=
 some (⟨(some 251),0,5,6⟩:l5)
def X8:Option l5:=
 some (⟨(some 254),(-1),5,13⟩:l5)
def M9(a0:List l5):Option (List l5):=
 some a0
def bz:Option l5:=
 some (⟨(some 252),0,5,6⟩:l5)
def aG:Option l5:=
 some (⟨(some 254),0,3,5⟩:l5)
def aF:Option l5:=
 some (⟨(some 252),0,3,5⟩:l5)
def R9:Option l5:=
 some (⟨(some 254),(-1),5,6⟩:l5)
def bu:Option l5:=
 some (⟨(some 251),0,5,7⟩:l5)
def R8:Option l5:=
 some (⟨(some 252),(-1),5,6⟩:l5)
def bw:Option l5:=
 some (⟨(some 252),0,5,7⟩:l5)
def nc:Option (List (Int × (List l5))):=
 (bx).bind λv1=>
 (X8).bind λv2=>
 (M9 [v1,(⟨(some 252),0,4,1⟩:l5),v2]).bind λv3=>
 (bz).bind λv4=>
 (M9 [v1,v4]).bind λv5=>
 (M9 [v1]).bind λv6=>
 (aG).bind λv7=>
 (M9 [v1,v4,v7]).bind λv8=>
 (aF).bind λv9=>
 (R9).bind λv10=>
 (M9 [v1,v9,v10]).bind λv11=>
 (bu).bind λv12=>
 (R8).bind λv13=>
 (M9 [v12,v13,v2]).bind λv14=>
 (bw).bind λv15=>
 (M9 [v1,v15]).bind λv16=>
 (M9 [v1,v13]).bind λv17=>
 (M9 []).bind λv18=>
 (M9 [(⟨(some 251),0,200,12⟩:l5)]).bind λv19=>
 some (p6 (p6 (p6 (p6 (p6 (p6 (p6 (p6 (p6 (p6 (p6 (p6 [] 1 v3) 2 v5) 3 v6) 4 v8) 5 v11) 6 v14) 7 v16) 8 v17) 9 v5) 10 v5) 11 v18) 12 v19)
def rT(a0:g9):Option Int:=
 some a0.A
def rU(a0:g9):Option Int:=
 some a0.B
def rV(a0:g9):Option Int:=
 some a0.C
def tP(f:Fv)(a0:g9):Option Int:=
 if f=some 251 then rT a0 else
 if f=some 252 then rU a0 else
 if f=some 254 then rV a0 else
 none
def X7(a0:g9):Option Int:=
 (nc).bind λv1=>
 if (!((A0 v1 a0.Kind).isSome)) then
  some 14
 else
 jn (λ(_:Unit)=>
  some 0) (λκ8=>
  (lp (S:=Int) (E:=Int ⊕ Unit) (λ(s11:Int)=>
   if (decide (s11<(((A0 v1 a0.Kind).getD ([]:List l5)).length:Int))) then
    (ix ((A0 v1 a0.Kind).getD ([]:List l5)) s11).bind λv13=>
    (tP v13.part a0).bind λv14=>
    if ((decide (v14<v13.least))||(decide (v14 > v13.most))) then
     some (.inr (.inl v13.e))
    else
    some (.inl (x4 (s11+1)))
   else
   some (.inr (.inr ()))) 0).bind λe10=>
  match e10 with
  | .inl w=>some w
  | .inr w=>κ8 w)
def gm(a0:List (List g9)):Option Bool:=
 if (decide ((a0.length:Int) > 6)) then
  some false
 else
 jn (λ(_:Unit)=>
  some true) (λκ20=>
  (lp (S:=Int) (E:=Bool ⊕ Unit) (λ(s23:Int)=>
   if (decide (s23<(a0.length:Int))) then
    jn (λ(_:Unit)=>
     some (.inl (x4 (s23+1)))) (λκ32=>
     (ix a0 s23).bind λv34=>
     if (decide ((v34.length:Int) > 6)) then
      some (.inr (.inl false))
     else
     (lp (S:=Int) (E:=Bool ⊕ Unit) (λ(s36:Int)=>
      if (decide (s36<(v34.length:Int))) then
       (ix v34 s36).bind λv38=>
       (gk v38).bind λv39=>
       (A6 ((!v39)==false) 0 (X7 v38)).bind λv40=>
       if ((!v39)||(v40 != 0)) then
        some (.inr (.inl false))
       else
       some (.inl (x4 (s36+1)))
      else
      some (.inr (.inr ()))) 0).bind λe35=>
     match e35 with
     | .inl w=>some (.inr (.inl w))
     | .inr w=>κ32 w)
   else
   some (.inr (.inr ()))) 0).bind λe22=>
  match e22 with
  | .inl w=>some w
  | .inr w=>κ20 w)
def aQ(a0:Int)(a1:Int):Option l4:=
 if ((((decide (a0<0))||(decide (a0 > 24)))||(decide (a1<0)))||(decide (a1 > 9))) then
  some (⟨[],0⟩:l4)
 else
 (mk 80 a0 (⟨0,0,⟨0,0,0,0,false,[]⟩⟩:c9)).bind λv1=>
 some (⟨v1,a1⟩:l4)
def jE(a0:Int)(a1:Int):Option b6:=
 (aQ a0 a1).bind λv1=>
 some (⟨v1,0⟩:b6)
def AW(a0:Int):Option (List k8):=
 if ((decide (a0<0))||(decide (a0 > 6))) then
  some []
 else
 (mk 24 a0 (⟨0,false,0⟩:k8)).bind λv1=>
 jn (λ(j9:List k8)=>
  some j9) (λκ8=>
  (lp (S:=Int × (List k8)) (E:=(List k8)) (λ((s11,s12):Int × (List k8))=>
   if (decide (s11<(v1.length:Int))) then
    (ix s12 s11).bind λv15=>
    some (.inl (x4 (s11+1),(s12.set (s11).toNat (⟨v15.Target,v15.Intact,(-1)⟩:k8))))
   else
   some (.inr s12)) (0,v1)).bind λe10=>
  κ8 e10)
def tT(a0:Int):Option (List g6):=
 if ((decide (a0<1))||(decide (a0 > 8))) then
  some []
 else
 (mk 24 a0 (⟨0,0,0⟩:g6)).bind λv1=>
 some v1
def db(a0:Int):Option g8:=
 some (⟨[],a0⟩:g8)
def AK:Option g8:=
 (db 30).bind λv1=>
 some v1
def lR(a0:Int)(a1:Int)(a2:Int):Option b9:=
 if ((((((decide (a0<1))||(decide (a0 > 24)))||(decide (a1<0)))||(decide (a1 > 9)))||(decide (a2<1)))||(decide (a2 > 8))) then
  some (⟨⟨⟨[],0⟩,0⟩,[],[],[],⟨[],0⟩⟩:b9)
 else
 (jE a0 a1).bind λv1=>
 (mk 8 6 (0:Int)).bind λv2=>
 (AW 6).bind λv3=>
 (tT a2).bind λv4=>
 (AK).bind λv5=>
 some (⟨v1,v2,v3,v4,v5⟩:b9)
def U1(a0:Int)(a1:Int)(a2:Int)(a3:List (List g9)):Option (s7 × Int):=
 (gm a3).bind λv1=>
 if (!v1) then
  some ((⟨⟨⟨⟨[],0⟩,0⟩,[],[],[],⟨[],0⟩⟩,[]⟩:s7),13)
 else
 (lR a0 a1 a2).bind λv2=>
 if ((v2.Roots.length:Int)==0) then
  some ((⟨⟨⟨⟨[],0⟩,0⟩,[],[],[],⟨[],0⟩⟩,[]⟩:s7),1)
 else
 some ((⟨v2,a3⟩:s7),0)
def bh(a0:Int)(a1:Int)(a2:Int)(a3:List (List g9)):Option (a8 × Int):=
 (U1 a0 a1 a2 a3).bind λv1=>
 if (v1.2 != 0) then
  some ((⟨[],[],[],0,0,0,[],[],[],[],[]⟩:a8),v1.2)
 else
 (mk 8 a0 (0:Int)).bind λv2=>
 (mk 8 6 (0:Int)).bind λv3=>
 (AW 6).bind λv4=>
 some ((⟨[],v2,v2,a1,a2,0,v3,v4,[],[],a3⟩:a8),0)
def V7(a0:List Int):Option (g9 × Int):=
 if ((a0.length:Int) != 4) then
  some ((⟨0,0,0,0⟩:g9),14)
 else
 (ix a0 0).bind λv1=>
 (ix a0 1).bind λv2=>
 (ix a0 2).bind λv3=>
 (ix a0 3).bind λv4=>
 (X7 (⟨v1,v2,v3,v4⟩:g9)).bind λv5=>
 if (v5 != 0) then
  some ((⟨0,0,0,0⟩:g9),v5)
 else
 some ((⟨v1,v2,v3,v4⟩:g9),0)
def iP(a0:b8):Option Bool:=
 some a0.Stuck
def D1(a0:List b8):Option (List b8):=
 jn (λ(j15:List b8)=>
  some j15) (λκ14=>
  (lp (S:=Int × (List b8)) (E:=(List b8)) (λ((s17,s18):Int × (List b8))=>
   if (decide (s17<(a0.length:Int))) then
    jn (λ(j25:List b8)=>
     some (.inl (x4 (s17+1),j25))) (λκ24=>
     (ix a0 s17).bind λv26=>
     (iP v26).bind λv27=>
     if v27 then
      (app 56 s18 [v26]).bind λv28=>
      κ24 v28
     else
     κ24 s18)
   else
   some (.inr s18)) (0,[])).bind λe16=>
  κ14 e16)
def iR(a0:b8):Option Int:=
 some a0.Serial
def B9(a0:List b8):Option (List Int):=
 jn (λ(j10:List Int)=>
  some j10) (λκ9=>
  (lp (S:=Int × (List Int)) (E:=(List Int)) (λ((s12,s13):Int × (List Int))=>
   if (decide (s12<(a0.length:Int))) then
    (ix a0 s12).bind λv16=>
    (iR v16).bind λv17=>
    (app 8 s13 [v17]).bind λv18=>
    some (.inl (x4 (s12+1),v18))
   else
   some (.inr s13)) (0,[])).bind λe11=>
  κ9 e11)
def J8(a0:List b8):Option (List Int):=
 (B9 a0).bind λv1=>
 some v1
def bk(a0:Int):Option e6:=
 some (⟨[],a0⟩:e6)
def X9(a0:a8):Option g8:=
 (AK).bind λv1=>
 some (⟨a0.Tasks,v1.Cap⟩:g8)
def qI(a0:g8)(a1:Int):Option (g8 × Int):=
 some (a0,a1)
def gD(a0:g8):Option (List Int):=
 jn (λ(j10:List Int)=>
  some j10) (λκ9=>
  (qI a0 1).bind λv11=>
  (lp (S:=Int × (List Int)) (E:=(List Int)) (λ((s13,s14):Int × (List Int))=>
   if (decide (s13<(v11.1.L.length:Int))) then
    (ix v11.1.L s13).bind λv17=>
    if ((v17.Kind==v11.2)==true) then
     (app 8 s14 [v17.At]).bind λv18=>
     some (.inl (x4 (s13+1),v18))
    else
    some (.inl (x4 (s13+1),s14))
   else
   some (.inr s14)) (0,[])).bind λe12=>
  κ9 e12)
def G4(a0:List (List Int)):Option (List Int):=
 jn (λ(j11:Int)=>
  jn (λ(_:Unit)=>
   if (decide ((x4 (j11-(x4 (0-0)))) > 0)) then
    (mk 8 (x4 (j11-(x4 (0-0)))) (0:Int)).bind λv14=>
    jn (λ(j23:List Int)=>
     some j23) (λκ22=>
     (lp (S:=Int × (List Int)) (E:=(List Int)) (λ((s25,s26):Int × (List Int))=>
      if (decide (s25<(a0.length:Int))) then
       (ix a0 s25).bind λv29=>
       (app 8 s26 v29).bind λv30=>
       some (.inl (x4 (s25+1),v30))
      else
      some (.inr s26)) (0,[])).bind λe24=>
     κ22 e24)
   else
   jn (λ(j39:List Int)=>
    some j39) (λκ38=>
    (lp (S:=Int × (List Int)) (E:=(List Int)) (λ((s41,s42):Int × (List Int))=>
     if (decide (s41<(a0.length:Int))) then
      (ix a0 s41).bind λv45=>
      (app 8 s42 v45).bind λv46=>
      some (.inl (x4 (s41+1),v46))
     else
     some (.inr s42)) (0,[])).bind λe40=>
    κ38 e40)) (λκ12=>
   if (decide (j11<0)) then
    none
   else
   κ12 ())) (λκ10=>
  (lp (S:=Int × Int) (E:=Int) (λ((s48,s49):Int × Int)=>
   if (decide (s49<(a0.length:Int))) then
    jn (λ(j54:Int)=>
     some (.inl (j54,x4 (s49+1)))) (λκ53=>
     (ix a0 s49).bind λv55=>
     if (decide ((x4 (s48+(v55.length:Int)))<0)) then
      none
     else
     κ53 (x4 (s48+(v55.length:Int))))
   else
   some (.inr s48)) (0,0)).bind λe47=>
  κ10 e47)
def I4(a0:e6):Option Int:=
 some (a0.L.length:Int)
def U5(a0:List Int)(a1:Int)(a2:Int):Option (List Int):=
 (cut a0 a1 a2).bind λv1=>
 some v1
def E0(a0:e6)(a1:Int):Option (e6 × Int):=
 (I4 a0).bind λv1=>
 if (decide (v1>=a0.Cap)) then
  some (a0,4)
 else
 (U5 a0.L 0 v1).bind λv2=>
 (app 8 v2 [a1]).bind λv3=>
 some ((⟨v3,a0.Cap⟩:e6),0)
def iU(a0:e6)(a1:Int):Option (e6 × (List Int)):=
 (I4 a0).bind λv1=>
 (U5 a0.L 0 (if (if v1<a1 then v1 else a1) > 0 then (if v1<a1 then v1 else a1) else 0)).bind λv2=>
 (U5 a0.L (if (if v1<a1 then v1 else a1) > 0 then (if v1<a1 then v1 else a1) else 0) v1).bind λv3=>
 some ((⟨v3,a0.Cap⟩:e6),v2)
def Y0(a0:e6):Option (e6 × Int × Int):=
 (iU a0 1).bind λv1=>
 if ((v1.2.length:Int)==0) then
  some (a0,0,10)
 else
 (ix v1.2 0).bind λv2=>
 some (v1.1,v2,0)
def fE(a0:b8)(a1:Int):Option Bool:=
 some (a0.Serial==a1)
def y9(a0:List b8)(a1:Int):Option Int:=
 jn (λ(_:Unit)=>
  some (-1)) (λκ6=>
  (lp (S:=Int) (E:=Int ⊕ Unit) (λ(s9:Int)=>
   if (decide (s9<(a0.length:Int))) then
    (ix a0 s9).bind λv11=>
    (fE v11 a1).bind λv12=>
    if v12 then
     some (.inr (.inl s9))
    else
    some (.inl (x4 (s9+1)))
   else
   some (.inr (.inr ()))) 0).bind λe8=>
  match e8 with
  | .inl w=>some w
  | .inr w=>κ6 w)
def K3(a0:a8)(a1:Int):Option Int:=
 (y9 a0.Nodes a1).bind λv1=>
 some v1
def cJ(a0:k7)(a1:Int):Option Bool:=
 some (a0.Key==a1)
def C7(a0:List k7)(a1:Int):Option (List k7):=
 jn (λ(j15:List k7)=>
  some j15) (λκ14=>
  (lp (S:=Int × (List k7)) (E:=(List k7)) (λ((s17,s18):Int × (List k7))=>
   if (decide (s17<(a0.length:Int))) then
    jn (λ(j25:List k7)=>
     some (.inl (x4 (s17+1),j25))) (λκ24=>
     (ix a0 s17).bind λv26=>
     (cJ v26 a1).bind λv27=>
     if v27 then
      (app 16 s18 [v26]).bind λv28=>
      κ24 v28
     else
     κ24 s18)
   else
   some (.inr s18)) (0,[])).bind λe16=>
  κ14 e16)
def gu(a0:k7):Option Int:=
 some a0.Val
def E6(a0:List k7):Option (List Int):=
 jn (λ(j10:List Int)=>
  some j10) (λκ9=>
  (lp (S:=Int × (List Int)) (E:=(List Int)) (λ((s12,s13):Int × (List Int))=>
   if (decide (s12<(a0.length:Int))) then
    (ix a0 s12).bind λv16=>
    (gu v16).bind λv17=>
    (app 8 s13 [v17]).bind λv18=>
    some (.inl (x4 (s12+1),v18))
   else
   some (.inr s13)) (0,[])).bind λe11=>
  κ9 e11)
def P8(a0:a8)(a1:Int):Option (List Int):=
 (C7 a0.Pairs a1).bind λv1=>
 (E6 v1).bind λv2=>
 some v2
def gS(a0:a8):Option (List (Int × Bool)):=
 (D1 a0.Nodes).bind λv1=>
 (J8 v1).bind λv2=>
 (bk (a0.Nodes.length:Int)).bind λv3=>
 (X9 a0).bind λv4=>
 (gD v4).bind λv5=>
 (G4 [a0.Roots,v5,v2]).bind λv6=>
 jn (λ((j22,j23):e6 × (List (Int × Bool)))=>
  jn (λ(j100:List (Int × Bool))=>
   some j100) (λκ99=>
   (lp (S:=e6 × (List (Int × Bool))) (E:=(List (Int × Bool))) (λ((s102,s103):e6 × (List (Int × Bool)))=>
    (I4 s102).bind λv106=>
    if (decide (v106 > 0)) then
     (Y0 s102).bind λv107=>
     (K3 a0 v107.2.1).bind λv108=>
     (ix a0.Nodes v108).bind λv109=>
     jn (λ((j125,j126):e6 × (List (Int × Bool)))=>
      (P8 a0 v107.2.1).bind λv128=>
      jn (λ((j144,j145):e6 × (List (Int × Bool)))=>
       some (.inl (j144,j145))) (λκ143=>
       (lp (S:=Int × e6 × (List (Int × Bool))) (E:=(e6 × (List (Int × Bool)))) (λ((s148,s149,s150):Int × e6 × (List (Int × Bool)))=>
        if (decide (s148<(v128.length:Int))) then
         jn (λ((j156,j157):e6 × (List (Int × Bool)))=>
          some (.inl (x4 (s148+1),j156,j157))) (λκ155=>
          (ix v128 s148).bind λv159=>
          if (!((A0 s150 v159).getD (false:Bool))) then
           (E0 s149 v159).bind λv160=>
           κ155 (v160.1,(p6 s150 v159 true))
          else
          κ155 (s149,s150))
        else
        some (.inr (s149,s150))) (0,j125,j126)).bind λe147=>
       κ143 e147)) (λκ124=>
      (lp (S:=Int × e6 × (List (Int × Bool))) (E:=(e6 × (List (Int × Bool)))) (λ((s162,s163,s164):Int × e6 × (List (Int × Bool)))=>
       if (decide (s162<(v109.Fields.length:Int))) then
        jn (λ((j170,j171):e6 × (List (Int × Bool)))=>
         some (.inl (x4 (s162+1),j170,j171))) (λκ169=>
         (ix v109.Fields s162).bind λv173=>
         if (!((A0 s164 v173).getD (false:Bool))) then
          (E0 s163 v173).bind λv174=>
          κ169 (v174.1,(p6 s164 v173 true))
         else
         κ169 (s163,s164))
       else
       some (.inr (s163,s164))) (0,v107.1,s103)).bind λe161=>
      κ124 e161)
    else
    some (.inr s103)) (j22,j23)).bind λe101=>
   κ99 e101)) (λκ21=>
  (lp (S:=Int × e6 × (List (Int × Bool))) (E:=(e6 × (List (Int × Bool)))) (λ((s176,s177,s178):Int × e6 × (List (Int × Bool)))=>
   if (decide (s176<(v6.length:Int))) then
    jn (λ((j184,j185):e6 × (List (Int × Bool)))=>
     some (.inl (x4 (s176+1),j184,j185))) (λκ183=>
     (ix v6 s176).bind λv187=>
     if (!((A0 s178 v187).getD (false:Bool))) then
      (E0 s177 v187).bind λv188=>
      κ183 (v188.1,(p6 s178 v187 true))
     else
     κ183 (s177,s178))
   else
   some (.inr (s177,s178))) (0,v3,(p6 [] 0 true))).bind λe175=>
  κ21 e175)
def bJ(a0:b8)(a1:List (Int × Bool)):Option Bool:=
 some (a0.Alive&&(!((A0 a1 a0.Serial).getD (false:Bool))))
def C3(a0:List b8)(a1:List (Int × Bool)):Option (List b8):=
 jn (λ(j15:List b8)=>
  some j15) (λκ14=>
  (lp (S:=Int × (List b8)) (E:=(List b8)) (λ((s17,s18):Int × (List b8))=>
   if (decide (s17<(a0.length:Int))) then
    jn (λ(j25:List b8)=>
     some (.inl (x4 (s17+1),j25))) (λκ24=>
     (ix a0 s17).bind λv26=>
     (bJ v26 a1).bind λv27=>
     if v27 then
      (app 56 s18 [v26]).bind λv28=>
      κ24 v28
     else
     κ24 s18)
   else
   some (.inr s18)) (0,[])).bind λe16=>
  κ14 e16)
def du(a0:b8):Option Bool:=
 some ((decide (a0.Prog>=0))&&(!a0.Started))
def D9(a0:List b8):Option (List b8):=
 jn (λ(j15:List b8)=>
  some j15) (λκ14=>
  (lp (S:=Int × (List b8)) (E:=(List b8)) (λ((s17,s18):Int × (List b8))=>
   if (decide (s17<(a0.length:Int))) then
    jn (λ(j25:List b8)=>
     some (.inl (x4 (s17+1),j25))) (λκ24=>
     (ix a0 s17).bind λv26=>
     (du v26).bind λv27=>
     if v27 then
      (app 56 s18 [v26]).bind λv28=>
      κ24 v28
     else
     κ24 s18)
   else
   some (.inr s18)) (0,[])).bind λe16=>
  κ14 e16)
def kX(a0:a8):Option a8:=
 some a0
def iO(a0:k7):Option Int:=
 some a0.Val
def B8(a0:List k7):Option (List Int):=
 jn (λ(j10:List Int)=>
  some j10) (λκ9=>
  (lp (S:=Int × (List Int)) (E:=(List Int)) (λ((s12,s13):Int × (List Int))=>
   if (decide (s12<(a0.length:Int))) then
    (ix a0 s12).bind λv16=>
    (iO v16).bind λv17=>
    (app 8 s13 [v17]).bind λv18=>
    some (.inl (x4 (s12+1),v18))
   else
   some (.inr s13)) (0,[])).bind λe11=>
  κ9 e11)
def lB(a0:b8):Option Bool:=
 some a0.Alive
def B3(a0:List b8):Option (List b8):=
 jn (λ(j15:List b8)=>
  some j15) (λκ14=>
  (lp (S:=Int × (List b8)) (E:=(List b8)) (λ((s17,s18):Int × (List b8))=>
   if (decide (s17<(a0.length:Int))) then
    jn (λ(j25:List b8)=>
     some (.inl (x4 (s17+1),j25))) (λκ24=>
     (ix a0 s17).bind λv26=>
     (lB v26).bind λv27=>
     if v27 then
      (app 56 s18 [v26]).bind λv28=>
      κ24 v28
     else
     κ24 s18)
   else
   some (.inr s18)) (0,[])).bind λe16=>
  κ14 e16)
def eM(a0:a8)(a1:Int):Option Int:=
 jn (λ(j33:Int)=>
  some j33) (λκ32=>
  (kX a0).bind λv34=>
  (B8 v34.Pairs).bind λv35=>
  (X9 v34).bind λv36=>
  (gD v36).bind λv37=>
  jn (λ(j47:List (List Int))=>
   (G4 j47).bind λv48=>
   (lp (S:=Int × Int) (E:=Int) (λ((s50,s51):Int × Int)=>
    if (decide (s50<(v48.length:Int))) then
     (ix v48 s50).bind λv54=>
     jn (λ(j56:Int)=>
      some (.inl (x4 (s50+1),j56))) (λκ55=>
      if ((a1 != 0)&&(v54==a1)) then
       κ55 (x4 (s51+1))
      else
      κ55 s51)
    else
    some (.inr s51)) (0,0)).bind λe49=>
   κ32 e49) (λκ46=>
   (B3 v34.Nodes).bind λv57=>
   (lp (S:=Int × (List (List Int))) (E:=(List (List Int))) (λ((s59,s60):Int × (List (List Int)))=>
    if (decide (s59<(v57.length:Int))) then
     (ix v57 s59).bind λv63=>
     (app 24 s60 [v63.Fields]).bind λv64=>
     some (.inl (x4 (s59+1),v64))
    else
    some (.inr s60)) (0,[v34.Roots,v35,v37])).bind λe58=>
   κ46 e58))
def r7(a0:List b8):Option (List b8):=
 app 56 [] a0
def ny(a0:b8):Option b8:=
 some (⟨a0.Serial,a0.Slot,a0.Prog,a0.Started,a0.Alive,true,a0.Fields⟩:b8)
def S9(a0:a8)(a1:Int):Option a8:=
 (K3 a0 a1).bind λv1=>
 (r7 a0.Nodes).bind λv2=>
 (ix v2 v1).bind λv3=>
 (ny v3).bind λv4=>
 some (⟨(v2.set (v1).toNat v4),a0.Slots,a0.Gens,a0.Last,a0.Places,a0.Serial,a0.Roots,a0.b7,a0.Pairs,a0.Tasks,a0.Progs⟩:a8)
def dZ(a0:a8)(a1:Int):Option a8:=
 (eM a0 a1).bind λv1=>
 if (decide (v1<11)) then
  some a0
 else
 (S9 a0 a1).bind λv2=>
 some v2
def iS(a0:b8):Option b8:=
 some (⟨a0.Serial,a0.Slot,a0.Prog,true,a0.Alive,a0.Stuck,a0.Fields⟩:b8)
def O0(a0:a8)(a1:Int):Option a8:=
 (K3 a0 a1).bind λv1=>
 (r7 a0.Nodes).bind λv2=>
 (ix v2 v1).bind λv3=>
 (iS v3).bind λv4=>
 some (⟨(v2.set (v1).toNat v4),a0.Slots,a0.Gens,a0.Last,a0.Places,a0.Serial,a0.Roots,a0.b7,a0.Pairs,a0.Tasks,a0.Progs⟩:a8)
def H0(a0:List g5):Option (List g5):=
 app 24 [] a0
def bj(a0:a8)(a1:Int):Option a8:=
 (dZ a0 a1).bind λv1=>
 (K3 v1 a1).bind λv2=>
 (ix v1.Nodes v2).bind λv3=>
 (O0 v1 a1).bind λv4=>
 (H0 v4.Tasks).bind λv5=>
 (app 24 v5 [(⟨1,a1,v3.Prog⟩:g5)]).bind λv6=>
 some (⟨v4.Nodes,v4.Slots,v4.Gens,v4.Last,v4.Places,v4.Serial,v4.Roots,v4.b7,v4.Pairs,v6,v4.Progs⟩:a8)
def I0(a0:List Int)(a1:Int):Option Int:=
 jn (λ(_:Unit)=>
  some (-1)) (λκ5=>
  (lp (S:=Int) (E:=Int ⊕ Unit) (λ(s8:Int)=>
   if (decide (s8<(a0.length:Int))) then
    (ix a0 s8).bind λv10=>
    if (a1==v10) then
     some (.inr (.inl s8))
    else
    some (.inl (x4 (s8+1)))
   else
   some (.inr (.inr ()))) 0).bind λe7=>
  match e7 with
  | .inl w=>some w
  | .inr w=>κ5 w)
def F0(a0:List Int)(a1:Int):Option Bool:=
 (I0 a0 a1).bind λv1=>
 some (decide (v1>=0))
def cR(a0:k8)(a1:List Int):Option Bool:=
 (A6 ((a0.Intact&&(a0.Target != 0))==true) false (F0 a1 a0.Target)).bind λv1=>
 some ((a0.Intact&&(a0.Target != 0))&&v1)
def N5(a0:List k8)(a1:List Int):Option (List Int):=
 jn (λ(j15:List Int)=>
  some j15) (λκ14=>
  (lp (S:=Int × (List Int)) (E:=(List Int)) (λ((s17,s18):Int × (List Int))=>
   if (decide (s17<(a0.length:Int))) then
    jn (λ(j25:List Int)=>
     some (.inl (x4 (s17+1),j25))) (λκ24=>
     (ix a0 s17).bind λv26=>
     (cR v26 a1).bind λv27=>
     if v27 then
      (app 8 s18 [s17]).bind λv28=>
      κ24 v28
     else
     κ24 s18)
   else
   some (.inr s18)) (0,[])).bind λe16=>
  κ14 e16)
def cp(a0:List k8):Option (List k8):=
 (mk 24 (a0.length:Int) (⟨0,false,0⟩:k8)).bind λv1=>
 (xK v1 a0).bind λv2=>
 some v2
def gF(a0:List k8)(a1:List Int):Option ((List k8) × (List Int)):=
 (N5 a0 a1).bind λv1=>
 (cp a0).bind λv2=>
 jn (λ((j22,j23):(List Int) × (List k8))=>
  some (j23,j22)) (λκ21=>
  (lp (S:=Int × (List k8) × (List Int)) (E:=((List Int) × (List k8))) (λ((s26,s27,s28):Int × (List k8) × (List Int))=>
   if (decide (s26<(v1.length:Int))) then
    jn (λ((j36,j37):(List Int) × (List k8))=>
     some (.inl (x4 (s26+1),j37,j36))) (λκ35=>
     (ix v1 s26).bind λv39=>
     (ix s27 v39).bind λv40=>
     (ix (s27.set (v39).toNat (⟨v40.Target,false,v40.Call⟩:k8)) v39).bind λv41=>
     if (decide (v41.Call>=0)) then
      (app 8 s28 [v39]).bind λv42=>
      κ35 (v42,(s27.set (v39).toNat (⟨v40.Target,false,v40.Call⟩:k8)))
     else
     κ35 (s28,(s27.set (v39).toNat (⟨v40.Target,false,v40.Call⟩:k8))))
   else
   some (.inr (s28,s27))) (0,v2,[])).bind λe25=>
  κ21 e25)
def fA(a0:Int)(a1:List k8):Option g5:=
 (ix a1 a0).bind λv1=>
 some (⟨2,a0,v1.Call⟩:g5)
def C2(a0:List Int)(a1:List k8):Option (List g5):=
 jn (λ(j10:List g5)=>
  some j10) (λκ9=>
  (lp (S:=Int × (List g5)) (E:=(List g5)) (λ((s12,s13):Int × (List g5))=>
   if (decide (s12<(a0.length:Int))) then
    (ix a0 s12).bind λv16=>
    (fA v16 a1).bind λv17=>
    (app 24 s13 [v17]).bind λv18=>
    some (.inl (x4 (s12+1),v18))
   else
   some (.inr s13)) (0,[])).bind λe11=>
  κ9 e11)
def F9(a0:List (List g5)):Option (List g5):=
 jn (λ(j11:Int)=>
  jn (λ(_:Unit)=>
   if (decide ((x4 (j11-(x4 (0-0)))) > 0)) then
    (mk 24 (x4 (j11-(x4 (0-0)))) (⟨0,0,0⟩:g5)).bind λv14=>
    jn (λ(j23:List g5)=>
     some j23) (λκ22=>
     (lp (S:=Int × (List g5)) (E:=(List g5)) (λ((s25,s26):Int × (List g5))=>
      if (decide (s25<(a0.length:Int))) then
       (ix a0 s25).bind λv29=>
       (app 24 s26 v29).bind λv30=>
       some (.inl (x4 (s25+1),v30))
      else
      some (.inr s26)) (0,[])).bind λe24=>
     κ22 e24)
   else
   jn (λ(j39:List g5)=>
    some j39) (λκ38=>
    (lp (S:=Int × (List g5)) (E:=(List g5)) (λ((s41,s42):Int × (List g5))=>
     if (decide (s41<(a0.length:Int))) then
      (ix a0 s41).bind λv45=>
      (app 24 s42 v45).bind λv46=>
      some (.inl (x4 (s41+1),v46))
     else
     some (.inr s42)) (0,[])).bind λe40=>
    κ38 e40)) (λκ12=>
   if (decide (j11<0)) then
    none
   else
   κ12 ())) (λκ10=>
  (lp (S:=Int × Int) (E:=Int) (λ((s48,s49):Int × Int)=>
   if (decide (s49<(a0.length:Int))) then
    jn (λ(j54:Int)=>
     some (.inl (j54,x4 (s49+1)))) (λκ53=>
     (ix a0 s49).bind λv55=>
     if (decide ((x4 (s48+(v55.length:Int)))<0)) then
      none
     else
     κ53 (x4 (s48+(v55.length:Int))))
   else
   some (.inr s48)) (0,0)).bind λe47=>
  κ10 e47)
def fB(a0:k7)(a1:List Int):Option Bool:=
 (F0 a1 a0.Key).bind λv1=>
 some (!v1)
def D7(a0:List k7)(a1:List Int):Option (List k7):=
 jn (λ(j15:List k7)=>
  some j15) (λκ14=>
  (lp (S:=Int × (List k7)) (E:=(List k7)) (λ((s17,s18):Int × (List k7))=>
   if (decide (s17<(a0.length:Int))) then
    jn (λ(j25:List k7)=>
     some (.inl (x4 (s17+1),j25))) (λκ24=>
     (ix a0 s17).bind λv26=>
     (fB v26 a1).bind λv27=>
     if v27 then
      (app 16 s18 [v26]).bind λv28=>
      κ24 v28
     else
     κ24 s18)
   else
   some (.inr s18)) (0,[])).bind λe16=>
  κ14 e16)
def jV(a0:b8):Option b8:=
 some (⟨a0.Serial,a0.Slot,a0.Prog,a0.Started,false,a0.Stuck,[]⟩:b8)
def D5(a0:a8)(a1:Int):Option a8:=
 (K3 a0 a1).bind λv1=>
 (r7 a0.Nodes).bind λv2=>
 (ix v2 v1).bind λv3=>
 (jV v3).bind λv4=>
 some (⟨(v2.set (v1).toNat v4),a0.Slots,a0.Gens,a0.Last,a0.Places,a0.Serial,a0.Roots,a0.b7,a0.Pairs,a0.Tasks,a0.Progs⟩:a8)
def gW(a0:k8)(a1:Int):Option Bool:=
 some ((a1 != 0)&&(a0.Target==a1))
def U7(a0:List k8)(a1:Int):Option (List Int):=
 jn (λ(j15:List Int)=>
  some j15) (λκ14=>
  (lp (S:=Int × (List Int)) (E:=(List Int)) (λ((s17,s18):Int × (List Int))=>
   if (decide (s17<(a0.length:Int))) then
    jn (λ(j25:List Int)=>
     some (.inl (x4 (s17+1),j25))) (λκ24=>
     (ix a0 s17).bind λv26=>
     (gW v26 a1).bind λv27=>
     if v27 then
      (app 8 s18 [s17]).bind λv28=>
      κ24 v28
     else
     κ24 s18)
   else
   some (.inr s18)) (0,[])).bind λe16=>
  κ14 e16)
def eU(a0:List k8)(a1:Int):Option Int:=
 (U7 a0 a1).bind λv1=>
 some (v1.length:Int)
def cH(a0:b8)(a1:Int):Option Bool:=
 some (a0.Serial != a1)
def C8(a0:List b8)(a1:Int):Option (List b8):=
 jn (λ(j15:List b8)=>
  some j15) (λκ14=>
  (lp (S:=Int × (List b8)) (E:=(List b8)) (λ((s17,s18):Int × (List b8))=>
   if (decide (s17<(a0.length:Int))) then
    jn (λ(j25:List b8)=>
     some (.inl (x4 (s17+1),j25))) (λκ24=>
     (ix a0 s17).bind λv26=>
     (cH v26 a1).bind λv27=>
     if v27 then
      (app 56 s18 [v26]).bind λv28=>
      κ24 v28
     else
     κ24 s18)
   else
   some (.inr s18)) (0,[])).bind λe16=>
  κ14 e16)
def y7(a0:List Int):Option (List Int):=
 app 8 [] a0
def P7(a0:a8)(a1:Int):Option a8:=
 (K3 a0 a1).bind λv1=>
 (A6 ((decide (v1<0))==false) (⟨0,0,0,false,false,false,[]⟩:b8) (ix a0.Nodes v1)).bind λv2=>
 (A6 (((decide (v1<0))||v2.Alive)==false) 0 (eU a0.b7 a1)).bind λv3=>
 if (((decide (v1<0))||v2.Alive)||(decide (v3 > 0))) then
  some a0
 else
 (ix a0.Nodes v1).bind λv4=>
 (C8 a0.Nodes a1).bind λv5=>
 (y7 a0.Slots).bind λv6=>
 (y7 a0.Gens).bind λv7=>
 (ix v7 v4.Slot).bind λv8=>
 if (v8==a0.Last) then
  (ix v6 v4.Slot).bind λv9=>
  some (⟨v5,(v6.set (v4.Slot).toNat (-1)),v7,a0.Last,a0.Places,a0.Serial,a0.Roots,a0.b7,a0.Pairs,a0.Tasks,a0.Progs⟩:a8)
 else
 (ix v6 v4.Slot).bind λv10=>
 some (⟨v5,(v6.set (v4.Slot).toNat 0),(v7.set (v4.Slot).toNat (x4 (v8+1))),a0.Last,a0.Places,a0.Serial,a0.Roots,a0.b7,a0.Pairs,a0.Tasks,a0.Progs⟩:a8)
def fz(a0:a8)(a1:List Int):Option a8:=
 (gF a0.b7 a1).bind λv1=>
 (C2 v1.2 v1.1).bind λv2=>
 (F9 [a0.Tasks,v2]).bind λv3=>
 (D7 a0.Pairs a1).bind λv4=>
 jn (λ(j14:a8)=>
  some j14) (λκ13=>
  (lp (S:=Int × a8) (E:=a8) (λ((s16,s17):Int × a8)=>
   if (decide (s16<(a1.length:Int))) then
    (ix a1 s16).bind λv20=>
    (D5 s17 v20).bind λv21=>
    (P7 v21 v20).bind λv22=>
    some (.inl (x4 (s16+1),v22))
   else
   some (.inr s17)) (0,(⟨a0.Nodes,a0.Slots,a0.Gens,a0.Last,a0.Places,a0.Serial,a0.Roots,v1.1,v4,v3,a0.Progs⟩:a8))).bind λe15=>
  κ13 e15)
def aZ(a0:b8)(a1:a8):Option Bool:=
 (A6 ((a0.Alive&&(!a0.Stuck))==true) 0 (eM a1 a0.Serial)).bind λv1=>
 some ((a0.Alive&&(!a0.Stuck))&&(v1==0))
def x8(a0:List b8)(a1:a8):Option Int:=
 jn (λ(_:Unit)=>
  some (-1)) (λκ6=>
  (lp (S:=Int) (E:=Int ⊕ Unit) (λ(s9:Int)=>
   if (decide (s9<(a0.length:Int))) then
    (ix a0 s9).bind λv11=>
    (aZ v11 a1).bind λv12=>
    if v12 then
     some (.inr (.inl s9))
    else
    some (.inl (x4 (s9+1)))
   else
   some (.inr (.inr ()))) 0).bind λe8=>
  match e8 with
  | .inl w=>some w
  | .inr w=>κ6 w)
def I3(a0:a8):Option a8:=
 (lp (S:=a8) (E:=a8) (λ(s2:a8)=>
  (x8 s2.Nodes s2).bind λv4=>
  if (decide (v4<0)) then
   some (.inr s2)
  else
  (ix s2.Nodes v4).bind λv5=>
  (du v5).bind λv6=>
  if v6 then
   (bj s2 v5.Serial).bind λv7=>
   some (.inl v7)
  else
  (fz s2 [v5.Serial]).bind λv8=>
  some (.inl v8)) a0).bind λe1=>
 some e1
def eK(a0:a8):Option (List Int):=
 (B3 a0.Nodes).bind λv1=>
 (J8 v1).bind λv2=>
 some v2
def dJ(a0:a8):Option (a8 × g7):=
 (gS a0).bind λv1=>
 (C3 a0.Nodes v1).bind λv2=>
 (D9 v2).bind λv3=>
 (J8 v3).bind λv4=>
 jn (λ(j13:a8)=>
  if (decide ((v4.length:Int) > 0)) then
   some (j13,(⟨x4 (0-(v4.length:Int)),0⟩:g7))
  else
  (J8 v2).bind λv14=>
  (fz j13 v14).bind λv15=>
  (I3 v15).bind λv16=>
  (eK j13).bind λv17=>
  (eK v16).bind λv18=>
  some (v16,(⟨x4 ((v17.length:Int)-(v18.length:Int)),0⟩:g7))) (λκ12=>
  (lp (S:=Int × a8) (E:=a8) (λ((s20,s21):Int × a8)=>
   if (decide (s20<(v4.length:Int))) then
    (ix v4 s20).bind λv24=>
    (bj s21 v24).bind λv25=>
    some (.inl (x4 (s20+1),v25))
   else
   some (.inr s21)) (0,a0)).bind λe19=>
  κ12 e19)
def dS(a0:List (List g9))(a1:Int):Option (List g9):=
 if ((decide (a1<0))||(decide (a1>=(a0.length:Int)))) then
  some []
 else
 (ix a0 a1).bind λv1=>
 some v1
def bR(a0:List (List g9))(a1:g5):Option Int:=
 (dS a0 a1.Prog).bind λv1=>
 some (x4 (1+(v1.length:Int)))
def W3(a0:a8)(a1:Int)(a2:Int):Option a8:=
 (dZ a0 a2).bind λv1=>
 (y7 v1.Roots).bind λv2=>
 (ix v2 a1).bind λv3=>
 some (⟨v1.Nodes,v1.Slots,v1.Gens,v1.Last,v1.Places,v1.Serial,(v2.set (a1).toNat a2),v1.b7,v1.Pairs,v1.Tasks,v1.Progs⟩:a8)
def M5(a0:g8):Option Int:=
 some (a0.L.length:Int)
def H8(a0:List g5)(a1:Int)(a2:Int):Option (List g5):=
 (cut a0 a1 a2).bind λv1=>
 some v1
def bA(a0:g8)(a1:Int):Option (g8 × (List g5)):=
 (M5 a0).bind λv1=>
 (H8 a0.L 0 (if (if v1<a1 then v1 else a1) > 0 then (if v1<a1 then v1 else a1) else 0)).bind λv2=>
 (H8 a0.L (if (if v1<a1 then v1 else a1) > 0 then (if v1<a1 then v1 else a1) else 0) v1).bind λv3=>
 some ((⟨v3,a0.Cap⟩:g8),v2)
def dc(a0:g8):Option (g8 × g5 × Int):=
 (bA a0 1).bind λv1=>
 if ((v1.2.length:Int)==0) then
  some (a0,(⟨0,0,0⟩:g5),10)
 else
 (ix v1.2 0).bind λv2=>
 some (v1.1,v2,0)
def bo(a0:g8):Option (g8 × g5 × Int):=
 (dc a0).bind λv1=>
 some (v1.1,v1.2.1,v1.2.2)
def U4(a0:a8)(a1:Int):Option Int:=
 if (decide (a1<0)) then
  some 0
 else
 (ix a0.Roots a1).bind λv1=>
 some v1
def P2(a0:a8)(a1:Int):Option (b8 × Int):=
 (U4 a0 a1).bind λv1=>
 if (v1==0) then
  some ((⟨0,0,0,false,false,false,[]⟩:b8),2)
 else
 (K3 a0 v1).bind λv2=>
 (ix a0.Nodes v2).bind λv3=>
 some (v3,0)
def gV(a0:List Int)(a1:Int):Option Bool:=
 some ((decide (a1>=0))&&(decide (a1<(a0.length:Int))))
def mH(a0:List Int)(a1:Int)(a2:Int):Option ((List Int) × Int):=
 (gV a0 a1).bind λv1=>
 if (!v1) then
  some (a0,5)
 else
 (mk 8 (a0.length:Int) (0:Int)).bind λv2=>
 (xK v2 a0).bind λv3=>
 (ix v3 a1).bind λv4=>
 some ((v3.set (a1).toNat a2),0)
def fG(a0:b8)(a1:List Int):Option b8:=
 some (⟨a0.Serial,a0.Slot,a0.Prog,a0.Started,a0.Alive,a0.Stuck,a1⟩:b8)
def P6(a0:a8)(a1:Int)(a2:List Int):Option a8:=
 (K3 a0 a1).bind λv1=>
 (r7 a0.Nodes).bind λv2=>
 (ix v2 v1).bind λv3=>
 (fG v3 a2).bind λv4=>
 some (⟨(v2.set (v1).toNat v4),a0.Slots,a0.Gens,a0.Last,a0.Places,a0.Serial,a0.Roots,a0.b7,a0.Pairs,a0.Tasks,a0.Progs⟩:a8)
def jg(a0:a8)(a1:Int)(a2:g9):Option (a8 × Int):=
 (P2 a0 a2.A).bind λv1=>
 if (v1.2 != 0) then
  some (a0,v1.2)
 else
 (mH v1.1.Fields a2.B a1).bind λv2=>
 if (v2.2 != 0) then
  some (a0,v2.2)
 else
 (dZ a0 a1).bind λv3=>
 (P6 v3 v1.1.Serial v2.1).bind λv4=>
 some (v4,0)
def K9(a0:a8)(a1:Int)(a2:g9):Option (a8 × g7):=
 (jg a0 a1 a2).bind λv1=>
 if (v1.2 != 0) then
  some (a0,(⟨0,v1.2⟩:g7))
 else
 (I3 v1.1).bind λv2=>
 some (v2,(⟨a1,0⟩:g7))
def aS(a0:g8)(a1:Int):Option Bool:=
 jn (λ(_:Unit)=>
  some false) (λκ6=>
  (qI a0 2).bind λv8=>
  (lp (S:=Int) (E:=Bool ⊕ Unit) (λ(s10:Int)=>
   if (decide (s10<(v8.1.L.length:Int))) then
    (ix v8.1.L s10).bind λv12=>
    if ((v12.Kind==v8.2)==true) then
     if (v12.At==a1) then
      some (.inr (.inl true))
     else
     some (.inl (x4 (s10+1)))
    else
    some (.inl (x4 (s10+1)))
   else
   some (.inr (.inr ()))) 0).bind λe9=>
  match e9 with
  | .inl w=>some w
  | .inr w=>κ6 w)
def ko(a0:List k8)(a1:Int):Option Bool:=
 some ((decide (a1>=0))&&(decide (a1<(a0.length:Int))))
def km(a0:List k8)(a1:Int)(a2:Int)(a3:Int):Option ((List k8) × Int × Int):=
 (ko a0 a1).bind λv1=>
 if (!v1) then
  some (a0,0,7)
 else
 (cp a0).bind λv2=>
 (ix v2 a1).bind λv3=>
 (ix a0 a1).bind λv4=>
 some ((v2.set (a1).toNat (⟨a2,(a2 != 0),a3⟩:k8)),v4.Target,0)
def fH(a0:a8)(a1:Int)(a2:g9):Option (a8 × Int):=
 if ((decide (a2.B>=0))&&(a1==0)) then
  some (a0,2)
 else
 (X9 a0).bind λv1=>
 (aS v1 a2.A).bind λv2=>
 if v2 then
  some (a0,7)
 else
 (km a0.b7 a2.A a1 a2.C).bind λv3=>
 if (v3.2.2 != 0) then
  some (a0,v3.2.2)
 else
 (P7 (⟨a0.Nodes,a0.Slots,a0.Gens,a0.Last,a0.Places,a0.Serial,a0.Roots,v3.1,a0.Pairs,a0.Tasks,a0.Progs⟩:a8) v3.2.1).bind λv4=>
 some (v4,0)
def J5(a0:a8)(a1:Int)(a2:g9):Option (a8 × g7):=
 (fH a0 a1 a2).bind λv1=>
 if (v1.2 != 0) then
  some (a0,(⟨0,v1.2⟩:g7))
 else
 (I3 v1.1).bind λv2=>
 some (v2,(⟨a1,0⟩:g7))
def fF(a0:k7)(a1:b8):Option Bool:=
 some (a0.Key != a1.Serial)
def D8(a0:List k7)(a1:b8):Option (List k7):=
 jn (λ(j15:List k7)=>
  some j15) (λκ14=>
  (lp (S:=Int × (List k7)) (E:=(List k7)) (λ((s17,s18):Int × (List k7))=>
   if (decide (s17<(a0.length:Int))) then
    jn (λ(j25:List k7)=>
     some (.inl (x4 (s17+1),j25))) (λκ24=>
     (ix a0 s17).bind λv26=>
     (fF v26 a1).bind λv27=>
     if v27 then
      (app 16 s18 [v26]).bind λv28=>
      κ24 v28
     else
     κ24 s18)
   else
   some (.inr s18)) (0,[])).bind λe16=>
  κ14 e16)
def jf(a0:a8)(a1:Int)(a2:g9):Option (a8 × Int):=
 (P2 a0 a2.A).bind λv1=>
 if (v1.2 != 0) then
  some (a0,v1.2)
 else
 (D8 a0.Pairs v1.1).bind λv2=>
 if (a1==0) then
  some ((⟨a0.Nodes,a0.Slots,a0.Gens,a0.Last,a0.Places,a0.Serial,a0.Roots,a0.b7,v2,a0.Tasks,a0.Progs⟩:a8),0)
 else
 if (decide ((v2.length:Int)>=a0.Places)) then
  some (a0,8)
 else
 (dZ a0 a1).bind λv3=>
 (app 16 v2 [(⟨v1.1.Serial,a1⟩:k7)]).bind λv4=>
 some ((⟨v3.Nodes,v3.Slots,v3.Gens,v3.Last,v3.Places,v3.Serial,v3.Roots,v3.b7,v4,v3.Tasks,v3.Progs⟩:a8),0)
def K8(a0:a8)(a1:Int)(a2:g9):Option (a8 × g7):=
 (jf a0 a1 a2).bind λv1=>
 if (v1.2 != 0) then
  some (a0,(⟨0,v1.2⟩:g7))
 else
 (I3 v1.1).bind λv2=>
 some (v2,(⟨a1,0⟩:g7))
def qL(a0:Int):Option ((List Int) × Int):=
 if ((decide (a0<0))||(decide (a0 > 4))) then
  some ([],1)
 else
 (mk 8 a0 (0:Int)).bind λv1=>
 some (v1,0)
def aN(a0:a8)(a1:Int)(a2:Int):Option (a8 × g7):=
 (W3 a0 a1 a2).bind λv1=>
 (I3 v1).bind λv2=>
 (ix v2.Roots a1).bind λv3=>
 some (v2,(⟨v3,0⟩:g7))
def dt(a0:a8)(a1:g9):Option (a8 × g7):=
 (qL a1.B).bind λv1=>
 if (v1.2 != 0) then
  some (a0,(⟨0,v1.2⟩:g7))
 else
 (I0 a0.Slots 0).bind λv2=>
 if (decide (v2<0)) then
  some (a0,(⟨0,4⟩:g7))
 else
 (y7 a0.Slots).bind λv3=>
 (ix v3 v2).bind λv4=>
 (r7 a0.Nodes).bind λv5=>
 (app 56 v5 [(⟨x4 (a0.Serial+1),v2,a1.C,false,true,false,v1.1⟩:b8)]).bind λv6=>
 (aN (⟨v6,(v3.set (v2).toNat (x4 (a0.Serial+1))),a0.Gens,a0.Last,a0.Places,x4 (a0.Serial+1),a0.Roots,a0.b7,a0.Pairs,a0.Tasks,a0.Progs⟩:a8) a1.A (x4 (a0.Serial+1))).bind λv7=>
 some (v7.1,v7.2)
def iW(a0:List Int)(a1:Int):Option (Int × Int):=
 (gV a0 a1).bind λv1=>
 if (!v1) then
  some (0,5)
 else
 (ix a0 a1).bind λv2=>
 some (v2,0)
def cS(a0:List k8)(a1:Int):Option (Int × Int):=
 (ko a0 a1).bind λv1=>
 if (!v1) then
  some (0,7)
 else
 (ix a0 a1).bind λv2=>
 if ((v2.Target==0)||(!v2.Intact)) then
  some (0,9)
 else
 some (v2.Target,0)
def bU(a0:a8)(a1:g9):Option (Int × Int):=
 if (a1.Kind==2) then
  (ix a0.Roots a1.B).bind λv1=>
  some (v1,0)
 else
 if (a1.Kind==4) then
  (P2 a0 a1.B).bind λv2=>
  if (v2.2 != 0) then
   some (0,v2.2)
  else
  (iW v2.1.Fields a1.C).bind λv3=>
  some (v3.1,v3.2)
 else
 if (a1.Kind==7) then
  (cS a0.b7 a1.B).bind λv4=>
  some (v4.1,v4.2)
 else
 if (a1.Kind==9) then
  (P2 a0 a1.B).bind λv5=>
  if (v5.2 != 0) then
   some (0,v5.2)
  else
  (P8 a0 v5.1.Serial).bind λv6=>
  if (decide ((v6.length:Int) > 0)) then
   (ix v6 0).bind λv7=>
   some (v7,0)
  else
  some (0,9)
 else
 some (0,0)
def bV(a0:a8)(a1:g9):Option (a8 × g7):=
 if (a1.Kind==10) then
  (ix a0.Roots a1.A).bind λv1=>
  (ix a0.Roots a1.B).bind λv2=>
  if (v1==v2) then
   some (a0,(⟨1,0⟩:g7))
  else
  some (a0,(⟨0,0⟩:g7))
 else
 if (a1.Kind==5) then
  (U4 a0 a1.C).bind λv3=>
  (K9 a0 v3 a1).bind λv4=>
  some (v4.1,v4.2)
 else
 if (a1.Kind==6) then
  (U4 a0 a1.B).bind λv5=>
  (J5 a0 v5 a1).bind λv6=>
  some (v6.1,v6.2)
 else
 if (a1.Kind==8) then
  (U4 a0 a1.B).bind λv7=>
  (K8 a0 v7 a1).bind λv8=>
  some (v8.1,v8.2)
 else
 if (a1.Kind==1) then
  (dt a0 a1).bind λv9=>
  some (v9.1,v9.2)
 else
 (bU a0 a1).bind λv10=>
 if (v10.2 != 0) then
  some (a0,(⟨0,v10.2⟩:g7))
 else
 (aN a0 a1.A v10.1).bind λv11=>
 some (v11.1,v11.2)
def jx(a0:a8)(a1:List g9):Option a8:=
 jn (λ(j9:a8)=>
  some j9) (λκ8=>
  (lp (S:=Int × a8) (E:=a8) (λ((s11,s12):Int × a8)=>
   if (decide (s11<(a1.length:Int))) then
    (ix a1 s11).bind λv15=>
    (bV s12 v15).bind λv16=>
    some (.inl (x4 (s11+1),v16.1))
   else
   some (.inr s12)) (0,a0)).bind λe10=>
  κ8 e10)
def dw(a0:a8)(a1:g5):Option a8:=
 jn (λ(j3:a8)=>
  (X9 j3).bind λv4=>
  (bo v4).bind λv5=>
  jn (λ(j8:a8)=>
   (dS j8.Progs a1.Prog).bind λv9=>
   (jx j8 v9).bind λv10=>
   if (a1.Kind==1) then
    (W3 v10 5 0).bind λv11=>
    (I3 v11).bind λv12=>
    some v12
   else
   some v10) (λκ7=>
   if (a1.Kind==1) then
    (I3 (⟨j3.Nodes,j3.Slots,j3.Gens,j3.Last,j3.Places,j3.Serial,j3.Roots,j3.b7,j3.Pairs,v5.1.L,j3.Progs⟩:a8)).bind λv13=>
    κ7 v13
   else
   κ7 (⟨j3.Nodes,j3.Slots,j3.Gens,j3.Last,j3.Places,j3.Serial,j3.Roots,j3.b7,j3.Pairs,v5.1.L,j3.Progs⟩:a8))) (λκ2=>
  if (a1.Kind==1) then
   (W3 a0 5 a1.At).bind λv14=>
   κ2 v14
  else
  κ2 a0)
def gR(a0:a8)(a1:Int):Option (a8 × g7):=
 jn (λ((j11,j12):Int × a8)=>
  some (j12,(⟨j11,0⟩:g7))) (λκ10=>
  (lp (S:=Int × Int × a8) (E:=(a8 × g7) ⊕ (Int × a8)) (λ((s15,s16,s17):Int × Int × a8)=>
   if (decide ((s17.Tasks.length:Int) > 0)) then
    (ix s17.Tasks 0).bind λv20=>
    (bR s17.Progs v20).bind λv21=>
    if (decide (v21 > s15)) then
     some (.inr (.inl (s17,(⟨s16,12⟩:g7))))
    else
    (dw s17 v20).bind λv22=>
    some (.inl (x4 (s15-v21),x4 (s16+1),v22))
   else
   some (.inr (.inr (s16,s17)))) (a1,0,a0)).bind λe14=>
  match e14 with
  | .inl w=>some w
  | .inr w=>κ10 w)
def lX(a0:a8)(a1:List Int):Option (a8 × g7):=
 (V7 a1).bind λv1=>
 if (v1.2 != 0) then
  some (a0,(⟨0,v1.2⟩:g7))
 else
 if (v1.1.Kind==11) then
  (dJ a0).bind λv2=>
  some (v2.1,v2.2)
 else
 if (v1.1.Kind==12) then
  (gR a0 v1.1.A).bind λv3=>
  some (v3.1,v3.2)
 else
 (bV a0 v1.1).bind λv4=>
 some (v4.1,v4.2)
def N9(a0:a8)(a1:List (List Int)):Option (a8 × (List g7)):=
 jn (λ((j11,j12):a8 × (List g7))=>
  some (j11,j12)) (λκ10=>
  (lp (S:=Int × a8 × (List g7)) (E:=(a8 × (List g7))) (λ((s15,s16,s17):Int × a8 × (List g7))=>
   if (decide (s15<(a1.length:Int))) then
    (ix a1 s15).bind λv20=>
    (lX s16 v20).bind λv21=>
    (app 16 s17 [v21.2]).bind λv22=>
    some (.inl (x4 (s15+1),v21.1,v22))
   else
   some (.inr (s16,s17))) (0,a0,[])).bind λe14=>
  κ10 e14)
def nh(a0:g9):Option QD:=
 if (a0.Kind==11) then
  some (⟨166,[]⟩:QD)
 else
 if (a0.Kind==12) then
  some (⟨170,[a0.A]⟩:QD)
 else
 some (⟨162,[a0.Kind,a0.A,a0.B,a0.C]⟩:QD)
def gO:Option (List (Int × Fv)):=
 some (p6 (p6 (p6 (p6 (p6 (p6 (p6 (p6 (p6 (p6 [] 1 (some 203)) 2 (some 204)) 3 (some 205)) 4 (some 206)) 5 (some 207)) 6 (some 208)) 7 (some 209)) 8 (some 210)) 9 (some 211)) 10 (some 212))
def X0(a0:Int):Option Bool:=
 some ((decide (a0>=(-1)))&&(decide (a0<6)))
def R3(a0:l4):Option l4:=
 some a0
def y8(a0:List c9):Option (List c9):=
 app 80 [] a0
def E9(a0:l4)(a1:Int)(a2:c9):Option l4:=
 (y8 a0.b7).bind λv1=>
 (ix v1 a1).bind λv2=>
 some (⟨(v1.set (a1).toNat a2),a0.Last⟩:l4)
def eG(a0:Int)(a1:Int):Option Int:=
 if ((((decide (a0<0))||(decide (a0>=24)))||(decide (a1<0)))||(decide (a1 > 9))) then
  some 0
 else
 some (x4 ((x4 (1+(x4 (a0*1))))+(x4 (a1*32))))
def M6(a0:l4)(a1:n8):Option (l4 × Int × Int):=
 jn (λ(_:Unit)=>
  some (a0,0,4)) (λκ9=>
  (R3 a0).bind λv11=>
  (lp (S:=Int) (E:=(l4 × Int × Int) ⊕ Unit) (λ(s13:Int)=>
   if (decide (s13<(v11.b7.length:Int))) then
    (ix v11.b7 s13).bind λv15=>
    if ((v15.State==0)==true) then
     (ix a0.b7 s13).bind λv16=>
     (E9 a0 s13 (⟨1,v16.Gen,a1⟩:c9)).bind λv17=>
     (eG s13 v16.Gen).bind λv18=>
     some (.inr (.inl (v17,v18,0)))
    else
    some (.inl (x4 (s13+1)))
   else
   some (.inr (.inr ()))) 0).bind λe12=>
  match e12 with
  | .inl w=>some w
  | .inr w=>κ9 w)
def Y5(a0:b6)(a1:Int)(a2:Int):Option (b6 × Int × Int):=
 (qL a1).bind λv1=>
 if (v1.2 != 0) then
  some (a0,0,v1.2)
 else
 (X0 a2).bind λv2=>
 if (!v2) then
  some (a0,0,13)
 else
 (M6 a0.S (⟨x4 (a0.Serial+1),0,0,a2,false,v1.1⟩:n8)).bind λv3=>
 if (v3.2.2 != 0) then
  some (a0,0,v3.2.2)
 else
 some ((⟨v3.1,x4 (a0.Serial+1)⟩:b6),v3.2.1,0)
def fg(a0:Int):Option (Int × Int × Bool):=
 if (decide (a0<1)) then
  some ((-1),(-1),false)
 else
 (rem (x4 (a0-1)) 32).bind λv1=>
 (quo .i64 v1 1).bind λv2=>
 (quo .i64 (x4 (a0-1)) 32).bind λv3=>
 if ((decide (v2>=24))||(decide (v3 > 9))) then
  some ((-1),(-1),false)
 else
 some (v2,v3,true)
def ib(a0:Int):Option Int:=
 (fg a0).bind λv1=>
 some v1.1
def jO(a0:Int):Option Int:=
 (fg a0).bind λv1=>
 some v1.2.1
def A1(a0:l4)(a1:Int):Option (Int × Int):=
 if (a1==0) then
  some ((-1),2)
 else
 (ib a1).bind λv1=>
 if ((decide (v1<0))||(decide (v1>=(a0.b7.length:Int)))) then
  some ((-1),3)
 else
 (ix a0.b7 v1).bind λv2=>
 (jO a1).bind λv3=>
 if ((v2.Gen != v3)||((v2.State != 1)&&(v2.State != 2))) then
  some ((-1),3)
 else
 some (v1,0)
def H9(a0:l4)(a1:Int):Option (n8 × Int):=
 (A1 a0 a1).bind λv1=>
 if (v1.2 != 0) then
  some ((⟨0,0,0,0,false,[]⟩:n8),v1.2)
 else
 (ix a0.b7 v1.1).bind λv2=>
 if (v2.State==2) then
  some ((⟨0,0,0,0,false,[]⟩:n8),3)
 else
 some (v2.Val,0)
def y5(a0:b6)(a1:Int):Option (n8 × Int):=
 (H9 a0.S a1).bind λv1=>
 some (v1.1,v1.2)
def kR(a0:b9)(a1:Int):Option Bool:=
 (y5 a0.S a1).bind λv1=>
 some (v1.2==0)
def O9(a0:b9)(a1:Int):Option Bool:=
 (A6 ((a1==0)==false) false (kR a0 a1)).bind λv1=>
 some ((a1==0)||v1)
def J4(a0:Int):Option Bool:=
 some (decide (a0>=12))
def jL(a0:Int):Option (Int × Int):=
 (J4 a0).bind λv1=>
 if v1 then
  some (12,0)
 else
 some (x4 ((if 0 > a0 then 0 else a0)+1),0)
def qq(a0:Int):Option Int:=
 (jL a0).bind λv1=>
 some v1.1
def aR(a0:l4)(a1:Int)(a2:n8):Option (l4 × Int):=
 (A1 a0 a1).bind λv1=>
 if (v1.2 != 0) then
  some (a0,v1.2)
 else
 (ix a0.b7 v1.1).bind λv2=>
 (E9 a0 v1.1 (⟨v2.State,v2.Gen,a2⟩:c9)).bind λv3=>
 some (v3,0)
def U0(a0:b6)(a1:Int)(a2:n8):Option (b6 × Int):=
 (aR a0.S a1 a2).bind λv1=>
 some ((⟨v1.1,a0.Serial⟩:b6),v1.2)
def Z9(a0:b9)(a1:Int):Option b9:=
 (y5 a0.S a1).bind λv1=>
 if (v1.2==0) then
  (qq v1.1.Strong).bind λv2=>
  (U0 a0.S a1 (⟨v1.1.Serial,v2,v1.1.Weak,v1.1.Prog,v1.1.Started,v1.1.Fields⟩:n8)).bind λv3=>
  some (⟨v3.1,a0.Roots,a0.b7,a0.T,a0.Q⟩:b9)
 else
 some a0
def bT(a0:b9)(a1:Int):Option b9:=
 (Z9 a0 a1).bind λv1=>
 some v1
def U2(a0:L8)(a1:b9):Option b9:=
 (y7 a1.Roots).bind λv1=>
 (ix v1 a0.r).bind λv2=>
 some (⟨a1.S,(v1.set (a0.r).toNat a0.h),a1.b7,a1.T,a1.Q⟩:b9)
def gp(a0:Int):Option (Int × Int):=
 (J4 a0).bind λv1=>
 if v1 then
  some (12,0)
 else
 if (decide (a0<1)) then
  some (0,11)
 else
 some (x4 (a0-1),0)
def vq(a0:Int):Option (Int × Int):=
 (gp a0).bind λv1=>
 some (v1.1,v1.2)
def fh(a0:Int):Option Int:=
 (vq a0).bind λv1=>
 if (v1.2 != 0) then
  some a0
 else
 some v1.1
def Q6(a0:b9)(a1:Int):Option b9:=
 (y5 a0.S a1).bind λv1=>
 if (v1.2==0) then
  (fh v1.1.Strong).bind λv2=>
  (U0 a0.S a1 (⟨v1.1.Serial,v2,v1.1.Weak,v1.1.Prog,v1.1.Started,v1.1.Fields⟩:n8)).bind λv3=>
  some (⟨v3.1,a0.Roots,a0.b7,a0.T,a0.Q⟩:b9)
 else
 some a0
def E8(a0:b9)(a1:Int):Option b9:=
 (Q6 a0 a1).bind λv1=>
 some v1
def H5(a0:b9)(a1:Int)(a2:Int)(a3:L8):Option b9:=
 (bT a0 a2).bind λv1=>
 (U2 a3 v1).bind λv2=>
 (E8 v2 a1).bind λv3=>
 some v3
def cD(a0:b9)(a1:Int)(a2:Int):Option (b9 × Int):=
 if ((decide (a1<0))||(decide (a1>=(a0.Roots.length:Int)))) then
  some (a0,6)
 else
 (O9 a0 a2).bind λv1=>
 if (!v1) then
  some (a0,3)
 else
 (ix a0.Roots a1).bind λv2=>
 (H5 a0 v2 a2 (⟨a1,a2⟩:L8)).bind λv3=>
 some (v3,0)
def C6(a0:r8)(a1:Int)(a2:Int):Option (b9 × Int):=
 if (a2 != 0) then
  some (a0.x,a2)
 else
 (cD a0.x a0.o.A a1).bind λv1=>
 some (v1.1,v1.2)
def Z1(a0:r8):Option (b9 × Int):=
 (Y5 a0.x.S a0.o.B a0.o.C).bind λv1=>
 if (v1.2.2 != 0) then
  some (a0.x,v1.2.2)
 else
 (C6 (⟨⟨v1.1,a0.x.Roots,a0.x.b7,a0.x.T,a0.x.Q⟩,a0.o⟩:r8) v1.2.1 0).bind λv2=>
 some (v2.1,v2.2)
def P1(a0:b9)(a1:Int):Option Int:=
 if ((decide (a1<0))||(decide (a1>=(a0.Roots.length:Int)))) then
  some 0
 else
 (ix a0.Roots a1).bind λv1=>
 some v1
def L9(a0:r8):Option (b9 × Int):=
 (P1 a0.x a0.o.B).bind λv1=>
 (C6 a0 v1 0).bind λv2=>
 some (v2.1,v2.2)
def bG(a0:r8):Option (b9 × Int):=
 (C6 a0 0 0).bind λv1=>
 some (v1.1,v1.2)
def P5(a0:b9)(a1:Int):Option (Int × Int):=
 (P1 a0 a1).bind λv1=>
 if (v1==0) then
  some (0,2)
 else
 some (v1,0)
def K7(a0:b6)(a1:Int)(a2:Int):Option (Int × Int):=
 (y5 a0 a1).bind λv1=>
 if (v1.2 != 0) then
  some (0,v1.2)
 else
 (iW v1.1.Fields a2).bind λv2=>
 some (v2.1,v2.2)
def bH(a0:r8):Option (b9 × Int):=
 (P5 a0.x a0.o.B).bind λv1=>
 if (v1.2 != 0) then
  some (a0.x,v1.2)
 else
 (K7 a0.x.S v1.1 a0.o.C).bind λv2=>
 (C6 a0 v2.1 v2.2).bind λv3=>
 some (v3.1,v3.2)
def qH(a0:b6)(a1:Int)(a2:Int)(a3:Int):Option (b6 × Int):=
 (y5 a0 a1).bind λv1=>
 if (v1.2 != 0) then
  some (a0,v1.2)
 else
 (mH v1.1.Fields a2 a3).bind λv2=>
 if (v2.2 != 0) then
  some (a0,v2.2)
 else
 (U0 a0 a1 (⟨v1.1.Serial,v1.1.Strong,v1.1.Weak,v1.1.Prog,v1.1.Started,v2.1⟩:n8)).bind λv3=>
 some (v3.1,v3.2)
def da(a0:I2)(a1:b9):Option b9:=
 (qH a1.S a0.h a0.k a0.v).bind λv1=>
 some (⟨v1.1,a1.Roots,a1.b7,a1.T,a1.Q⟩:b9)
def G8(a0:b9)(a1:Int)(a2:Int)(a3:I2):Option b9:=
 (bT a0 a2).bind λv1=>
 (da a3 v1).bind λv2=>
 (E8 v2 a1).bind λv3=>
 some v3
def aI(a0:b9)(a1:Int)(a2:Int)(a3:Int):Option (b9 × Int):=
 (K7 a0.S a1 a2).bind λv1=>
 if (v1.2 != 0) then
  some (a0,v1.2)
 else
 (O9 a0 a3).bind λv2=>
 if (!v2) then
  some (a0,3)
 else
 (G8 a0 v1.1 a3 (⟨a1,a2,a3⟩:I2)).bind λv3=>
 some (v3,0)
def aL(a0:r8):Option (b9 × Int):=
 (P5 a0.x a0.o.A).bind λv1=>
 if (v1.2 != 0) then
  some (a0.x,v1.2)
 else
 (P1 a0.x a0.o.C).bind λv2=>
 (aI a0.x v1.1 a0.o.B v2).bind λv3=>
 some (v3.1,v3.2)
def aA(a0:b9)(a1:Int)(a2:Int):Option b9:=
 (A1 a0.S.S a1).bind λv1=>
 if (v1.2==0) then
  (ix a0.S.S.b7 v1.1).bind λv2=>
  (U0 a0.S a1 (⟨v2.Val.Serial,v2.Val.Strong,x4 (v2.Val.Weak+a2),v2.Val.Prog,v2.Val.Started,v2.Val.Fields⟩:n8)).bind λv3=>
  some (⟨v3.1,a0.Roots,a0.b7,a0.T,a0.Q⟩:b9)
 else
 some a0
def R2(a0:l4)(a1:Int):Option (l4 × Int):=
 (A1 a0 a1).bind λv1=>
 if (v1.2 != 0) then
  some (a0,v1.2)
 else
 (ix a0.b7 v1.1).bind λv2=>
 if (v2.Gen==a0.Last) then
  (E9 a0 v1.1 (⟨3,v2.Gen,⟨0,0,0,0,false,[]⟩⟩:c9)).bind λv3=>
  some (v3,0)
 else
 (E9 a0 v1.1 (⟨0,x4 (v2.Gen+1),⟨0,0,0,0,false,[]⟩⟩:c9)).bind λv4=>
 some (v4,0)
def bg(a0:b9)(a1:Int):Option b9:=
 (aA a0 a1 (-1)).bind λv1=>
 (A1 v1.S.S a1).bind λv2=>
 if (v2.2 != 0) then
  some v1
 else
 (ix v1.S.S.b7 v2.1).bind λv3=>
 if ((v3.State==2)&&(v3.Val.Weak==0)) then
  (R2 v1.S.S a1).bind λv4=>
  some (⟨⟨v4.1,v1.S.Serial⟩,v1.Roots,v1.b7,v1.T,v1.Q⟩:b9)
 else
 some v1
def T7(a0:b9)(a1:Int)(a2:Int)(a3:Int):Option (b9 × Int):=
 (A6 (((decide (a1<0))||(decide (a1>=(a0.b7.length:Int))))==false) false (aS a0.Q a1)).bind λv1=>
 if (((decide (a1<0))||(decide (a1>=(a0.b7.length:Int))))||v1) then
  some (a0,7)
 else
 (O9 a0 a2).bind λv2=>
 if (!v2) then
  some (a0,3)
 else
 (km a0.b7 a1 a2 a3).bind λv3=>
 (aA (⟨a0.S,a0.Roots,v3.1,a0.T,a0.Q⟩:b9) a2 1).bind λv4=>
 (bg v4 v3.2.1).bind λv5=>
 some (v5,0)
def M4(a0:r8):Option (b9 × Int):=
 if (a0.o.B==(-1)) then
  (T7 a0.x a0.o.A 0 a0.o.C).bind λv1=>
  some (v1.1,v1.2)
 else
 (P5 a0.x a0.o.B).bind λv2=>
 if (v2.2 != 0) then
  some (a0.x,v2.2)
 else
 (T7 a0.x a0.o.A v2.1 a0.o.C).bind λv3=>
 some (v3.1,v3.2)
def aX(a0:r8):Option (b9 × Int):=
 (cS a0.x.b7 a0.o.B).bind λv1=>
 (C6 a0 v1.1 v1.2).bind λv2=>
 some (v2.1,v2.2)
def jw(a0:Int)(a1:Int):Option (Int × Int):=
 some (a0,a1)
def eH(a0:Int)(a1:Int):Option Int:=
 if (decide (a0<1)) then
  some 0
 else
 (rem (x4 ((x4 (5*a1))+1)) a0).bind λv1=>
 if (decide (v1<0)) then
  some (x4 (v1+a0))
 else
 some v1
def bf(a0:List g6)(a1:Int):Option Int:=
 jn (λ(_:Unit)=>
  some (-1)) (λκ8=>
  (jw (a0.length:Int) a1).bind λv10=>
  (lp (S:=Int) (E:=Int ⊕ Unit) (λ(s12:Int)=>
   if (decide (s12<v10.1)) then
    (eH v10.1 v10.2).bind λv14=>
    (rem (x4 (v14+s12)) v10.1).bind λv15=>
    (ix a0 v15).bind λv16=>
    if (v16.State==0) then
     some (.inr (.inr ()))
    else
    if ((v16.State==1)&&(v16.Key==a1)) then
     some (.inr (.inl v15))
    else
    some (.inl (x4 (s12+1)))
   else
   some (.inr (.inr ()))) 0).bind λe11=>
  match e11 with
  | .inl w=>some w
  | .inr w=>κ8 w)
def Z8(a0:List g6)(a1:Int):Option (Int × Int):=
 (bf a0 a1).bind λv1=>
 if (decide (v1<0)) then
  some (0,9)
 else
 (ix a0 v1).bind λv2=>
 some (v2.Val,0)
def F5(a0:List g6):Option (List g6):=
 app 24 [] a0
def eI(a0:List g6)(a1:Int)(a2:g6):Option (List g6):=
 (F5 a0).bind λv1=>
 (ix v1 a1).bind λv2=>
 some (v1.set (a1).toNat a2)
def bc(a0:List g6)(a1:Int):Option ((List g6) × Int × Int):=
 (bf a0 a1).bind λv1=>
 if (decide (v1<0)) then
  some (a0,0,9)
 else
 (eI a0 v1 (⟨2,0,0⟩:g6)).bind λv2=>
 (ix a0 v1).bind λv3=>
 some (v2,v3.Val,0)
def pw(a0:List g6)(a1:Int)(a2:Int):Option ((List g6) × Int):=
 (bf a0 a1).bind λv1=>
 if (decide (v1>=0)) then
  (eI a0 v1 (⟨1,a1,a2⟩:g6)).bind λv2=>
  some (v2,0)
 else
 jn (λ(_:Unit)=>
  some (a0,8)) (λκ11=>
  (jw (a0.length:Int) a1).bind λv13=>
  (lp (S:=Int) (E:=((List g6) × Int) ⊕ Unit) (λ(s15:Int)=>
   if (decide (s15<v13.1)) then
    (eH v13.1 v13.2).bind λv17=>
    (rem (x4 (v17+s15)) v13.1).bind λv18=>
    (ix a0 v18).bind λv19=>
    if (v19.State != 1) then
     (eI a0 v18 (⟨1,a1,a2⟩:g6)).bind λv20=>
     some (.inr (.inl (v20,0)))
    else
    some (.inl (x4 (s15+1)))
   else
   some (.inr (.inr ()))) 0).bind λe14=>
  match e14 with
  | .inl w=>some w
  | .inr w=>κ11 w)
def V5(a0:List g6)(a1:Int)(a2:Int):Option ((List g6) × Int × Int):=
 if (a1==0) then
  some (a0,0,2)
 else
 (Z8 a0 a1).bind λv1=>
 if (a2==0) then
  (bc a0 a1).bind λv2=>
  some (v2.1,v1.1,0)
 else
 (pw a0 a1 a2).bind λv3=>
 if (v3.2 != 0) then
  some (a0,0,v3.2)
 else
 some (v3.1,v1.1,0)
def aJ(a0:L7)(a1:b9):Option b9:=
 some (⟨a1.S,a1.Roots,a1.b7,a0.t,a1.Q⟩:b9)
def E5(a0:b9)(a1:Int)(a2:Int)(a3:L7):Option b9:=
 (bT a0 a2).bind λv1=>
 (aJ a3 v1).bind λv2=>
 (E8 v2 a1).bind λv3=>
 some v3
def cC(a0:b9)(a1:Int)(a2:Int):Option (b9 × Int):=
 if (a1==0) then
  some (a0,2)
 else
 (O9 a0 a1).bind λv1=>
 (A6 ((!v1)==false) false (O9 a0 a2)).bind λv2=>
 if ((!v1)||(!v2)) then
  some (a0,3)
 else
 (V5 a0.T a1 a2).bind λv3=>
 if (v3.2.2 != 0) then
  some (a0,v3.2.2)
 else
 (E5 a0 v3.2.1 a2 (⟨v3.1⟩:L7)).bind λv4=>
 some (v4,0)
def bI(a0:r8):Option (b9 × Int):=
 (P5 a0.x a0.o.A).bind λv1=>
 if (v1.2 != 0) then
  some (a0.x,v1.2)
 else
 (P1 a0.x a0.o.B).bind λv2=>
 (cC a0.x v1.1 v2).bind λv3=>
 some (v3.1,v3.2)
def vt(a0:List g6)(a1:Int):Option (Int × Int):=
 (Z8 a0 a1).bind λv1=>
 some (v1.1,v1.2)
def cE(a0:r8):Option (b9 × Int):=
 (P5 a0.x a0.o.B).bind λv1=>
 if (v1.2 != 0) then
  some (a0.x,v1.2)
 else
 (vt a0.x.T v1.1).bind λv2=>
 (C6 a0 v2.1 v2.2).bind λv3=>
 some (v3.1,v3.2)
def U3(a0:r8):Option (b9 × Int):=
 some (a0.x,0)
def xN(f:Fv)(a0:r8):Option (b9 × Int):=
 if f=some 203 then Z1 a0 else
 if f=some 204 then L9 a0 else
 if f=some 205 then bG a0 else
 if f=some 206 then bH a0 else
 if f=some 207 then aL a0 else
 if f=some 208 then M4 a0 else
 if f=some 209 then aX a0 else
 if f=some 210 then bI a0 else
 if f=some 211 then cE a0 else
 if f=some 212 then U3 a0 else
 none
def dm(a0:Int):Option Bool:=
 some (a0 != a0)
def iD(a0:Int)(a1:Int):Option Int:=
 (dm a0).bind λv1=>
 (dm a1).bind λv2=>
 if v1 then
  if v2 then
   some 0
  else
  some (-1)
 else
 if v2 then
  some 1
 else
 if (decide (a0<a1)) then
  some (-1)
 else
 if (decide (a0 > a1)) then
  some 1
 else
 some 0
def jr(a0:Int)(a1:Int)(a2:List (Int × Int)):Option Int:=
 (iD ((A0 a2 a0).getD (0:Int)) ((A0 a2 a1).getD (0:Int))).bind λv1=>
 some v1
def G5(a0:b6):Option (List Int):=
 jn (λ((j18,j19):(List (Int × Int)) × (List Int))=>
  (wq (λp q=>jr p q j18) j19).bind λv21=>
  some v21) (λκ17=>
  (lp (S:=Int × (List (Int × Int)) × (List Int)) (E:=((List (Int × Int)) × (List Int))) (λ((s23,s24,s25):Int × (List (Int × Int)) × (List Int))=>
   if (decide (s23<(a0.S.b7.length:Int))) then
    jn (λ((j32,j33):(List (Int × Int)) × (List Int))=>
     some (.inl (x4 (s23+1),j32,j33))) (λκ31=>
     (ix a0.S.b7 s23).bind λv35=>
     if (v35.State==1) then
      (eG s23 v35.Gen).bind λv36=>
      (app 8 s25 [v36]).bind λv37=>
      κ31 ((p6 s24 v36 v35.Val.Serial),v37)
     else
     κ31 (s24,s25))
   else
   some (.inr (s24,s25))) (0,[],[])).bind λe22=>
  κ17 e22)
def eQ(a0:b9):Option (List Int):=
 jn (λ(j16:List Int)=>
  some j16) (λκ15=>
  (G5 a0.S).bind λv17=>
  (lp (S:=Int × (List Int)) (E:=(List Int)) (λ((s19,s20):Int × (List Int))=>
   if (decide (s19<(v17.length:Int))) then
    jn (λ(j27:List Int)=>
     some (.inl (x4 (s19+1),j27))) (λκ26=>
     (ix v17 s19).bind λv28=>
     (y5 a0.S v28).bind λv29=>
     if (v29.1.Strong==0) then
      (app 8 s20 [v28]).bind λv30=>
      κ26 v30
     else
     κ26 s20)
   else
   some (.inr s20)) (0,[])).bind λe18=>
  κ15 e18)
def P9(a0:n8):Option Bool:=
 some ((decide (a0.Prog>=0))&&(!a0.Started))
def W8(a0:g8)(a1:g5):Option (g8 × Int):=
 (M5 a0).bind λv1=>
 if (decide (v1>=a0.Cap)) then
  some (a0,4)
 else
 (H8 a0.L 0 v1).bind λv2=>
 (app 24 v2 [a1]).bind λv3=>
 some ((⟨v3,a0.Cap⟩:g8),0)
def qf(a0:g8)(a1:g5):Option (g8 × Int):=
 (W8 a0 a1).bind λv1=>
 some (v1.1,v1.2)
def Y4(a0:b9)(a1:Int):Option b9:=
 (y5 a0.S a1).bind λv1=>
 (A6 ((v1.2 != 0)==false) false (P9 v1.1)).bind λv2=>
 if ((v1.2 != 0)||(!v2)) then
  some a0
 else
 (U0 a0.S a1 (⟨v1.1.Serial,v1.1.Strong,v1.1.Weak,v1.1.Prog,true,v1.1.Fields⟩:n8)).bind λv3=>
 (qf a0.Q (⟨1,a1,v1.1.Prog⟩:g5)).bind λv4=>
 (bT (⟨v3.1,a0.Roots,a0.b7,a0.T,v4.1⟩:b9) a1).bind λv5=>
 some v5
def al(a0:b9)(a1:List Int):Option (List Int):=
 jn (λ(j18:List Int)=>
  some j18) (λκ17=>
  (lp (S:=Int × (List (Int × Bool)) × (List Int)) (E:=(List Int)) (λ((s20,s21,s22):Int × (List (Int × Bool)) × (List Int))=>
   if (decide (s20<(a1.length:Int))) then
    jn (λ((j29,j30):(List Int) × (List (Int × Bool)))=>
     some (.inl (x4 (s20+1),j30,j29))) (λκ28=>
     (ix a1 s20).bind λv32=>
     (y5 a0.S v32).bind λv33=>
     if ((v33.2==0)==true) then
      if (!((A0 s21 v32).getD (false:Bool))) then
       (app 8 s22 [v32]).bind λv34=>
       κ28 (v34,(p6 s21 v32 true))
      else
      κ28 (s22,s21)
     else
     κ28 (s22,s21))
   else
   some (.inr s22)) (0,[],[])).bind λe19=>
  κ17 e19)
def fO(a0:b9)(a1:List Int):Option b9:=
 (gF a0.b7 a1).bind λv1=>
 jn (λ(j11:g8)=>
  some (⟨a0.S,a0.Roots,v1.1,a0.T,j11⟩:b9)) (λκ10=>
  (lp (S:=Int × g8) (E:=g8) (λ((s13,s14):Int × g8)=>
   if (decide (s13<(v1.2.length:Int))) then
    (ix v1.2 s13).bind λv17=>
    (ix v1.1 v17).bind λv18=>
    (qf s14 (⟨2,v17,v18.Call⟩:g5)).bind λv19=>
    some (.inl (x4 (s13+1),v19.1))
   else
   some (.inr s14)) (0,a0.Q)).bind λe12=>
  κ10 e12)
def qM(a0:List Int):Option (List Int):=
 some a0
def jF(a0:List Int):Option (List Int):=
 jn (λ(j10:List Int)=>
  some j10) (λκ9=>
  (qM a0).bind λv11=>
  (lp (S:=Int × (List Int)) (E:=(List Int)) (λ((s13,s14):Int × (List Int))=>
   if (decide (s13<(v11.length:Int))) then
    (ix v11 s13).bind λv17=>
    if ((v17 != 0)==true) then
     (app 8 s14 [v17]).bind λv18=>
     some (.inl (x4 (s13+1),v18))
    else
    some (.inl (x4 (s13+1),s14))
   else
   some (.inr s14)) (0,[])).bind λe12=>
  κ9 e12)
def bb(a0:List g6)(a1:List Int):Option ((List g6) × (List Int)):=
 jn (λ((j18,j19):(List g6) × (List Int))=>
  some (j18,j19)) (λκ17=>
  (lp (S:=(List g6) × Int × (List Int)) (E:=((List g6) × (List Int))) (λ((s22,s23,s24):(List g6) × Int × (List Int))=>
   if (decide (s23<(a1.length:Int))) then
    jn (λ((j31,j32):(List g6) × (List Int))=>
     some (.inl (j31,x4 (s23+1),j32))) (λκ30=>
     (ix a1 s23).bind λv34=>
     (bc s22 v34).bind λv35=>
     if (v35.2.2==0) then
      (app 8 s24 [v35.2.1]).bind λv36=>
      κ30 (v35.1,v36)
     else
     κ30 (s22,s24))
   else
   some (.inr (s22,s24))) (a0,0,[])).bind λe21=>
  κ17 e21)
def Z2(a0:l4)(a1:Int):Option (l4 × Int):=
 (H9 a0 a1).bind λv1=>
 if (v1.2 != 0) then
  some (a0,v1.2)
 else
 (ib a1).bind λv2=>
 (jO a1).bind λv3=>
 (E9 a0 v2 (⟨2,v3,v1.1⟩:c9)).bind λv4=>
 some (v4,0)
def bm(a0:b9)(a1:Int):Option b9:=
 (y5 a0.S a1).bind λv1=>
 (U0 a0.S a1 (⟨v1.1.Serial,0,v1.1.Weak,v1.1.Prog,v1.1.Started,[]⟩:n8)).bind λv2=>
 (Z2 v2.1.S a1).bind λv3=>
 if (v1.1.Weak==0) then
  (R2 v3.1 a1).bind λv4=>
  some (⟨⟨v4.1,v2.1.Serial⟩,a0.Roots,a0.b7,a0.T,a0.Q⟩:b9)
 else
 some (⟨⟨v3.1,v2.1.Serial⟩,a0.Roots,a0.b7,a0.T,a0.Q⟩:b9)
def cg(a0:b9)(a1:List Int):Option b9:=
 (al a0 a1).bind λv1=>
 (fO a0 v1).bind λv2=>
 jn (λ(j13:List Int)=>
  (bb v2.T v1).bind λv14=>
  (app 8 j13 v14.2).bind λv15=>
  jn (λ(j24:b9)=>
   jn (λ(j33:b9)=>
    some j33) (λκ32=>
    (lp (S:=Int × b9) (E:=b9) (λ((s35,s36):Int × b9)=>
     if (decide (s35<(v15.length:Int))) then
      (ix v15 s35).bind λv39=>
      (E8 s36 v39).bind λv40=>
      some (.inl (x4 (s35+1),v40))
     else
     some (.inr s36)) (0,j24)).bind λe34=>
    κ32 e34)) (λκ23=>
   (lp (S:=Int × b9) (E:=b9) (λ((s42,s43):Int × b9)=>
    if (decide (s42<(v1.length:Int))) then
     (ix v1 s42).bind λv46=>
     (bm s43 v46).bind λv47=>
     some (.inl (x4 (s42+1),v47))
    else
    some (.inr s43)) (0,(⟨v2.S,v2.Roots,v2.b7,v14.1,v2.Q⟩:b9))).bind λe41=>
   κ23 e41)) (λκ12=>
  (lp (S:=Int × (List Int)) (E:=(List Int)) (λ((s49,s50):Int × (List Int))=>
   if (decide (s49<(v1.length:Int))) then
    (ix v1 s49).bind λv53=>
    (y5 v2.S v53).bind λv54=>
    (jF v54.1.Fields).bind λv55=>
    (app 8 s50 v55).bind λv56=>
    some (.inl (x4 (s49+1),v56))
   else
   some (.inr s50)) (0,[])).bind λe48=>
  κ12 e48)
def T4(a0:b9):Option b9:=
 (lp (S:=b9) (E:=b9) (λ(s2:b9)=>
  (eQ s2).bind λv4=>
  if ((v4.length:Int)==0) then
   some (.inr s2)
  else
  (ix v4 0).bind λv5=>
  (y5 s2.S v5).bind λv6=>
  (P9 v6.1).bind λv7=>
  if v7 then
   (Y4 s2 v5).bind λv8=>
   some (.inl v8)
  else
  (cut v4 0 1).bind λv9=>
  (cg s2 v9).bind λv10=>
  some (.inl v10)) a0).bind λe1=>
 some e1
def fq(a0:b9)(a1:Int):Option Int:=
 (y5 a0.S a1).bind λv1=>
 some v1.1.Serial
def dX(a0:b9)(a1:Int):Option Int:=
 (P1 a0 a1).bind λv1=>
 (fq a0 v1).bind λv2=>
 some v2
def ae(a0:b9)(a1:b9)(a2:g9):Option Int:=
 if (a2.Kind==5) then
  (dX a0 a2.C).bind λv1=>
  some v1
 else
 jn (λ(j3:Bool)=>
  if j3 then
   (dX a0 a2.B).bind λv4=>
   some v4
  else
  if (a2.Kind==10) then
   (P1 a0 a2.A).bind λv5=>
   (P1 a0 a2.B).bind λv6=>
   if (v5==v6) then
    some 1
   else
   some 0
  else
  (dX a1 a2.A).bind λv7=>
  some v7) (λκ2=>
  if (a2.Kind==6) then
   κ2 (a2.Kind==6)
  else
  κ2 (a2.Kind==8))
def u6(a0:b9)(a1:g9):Option (b9 × Int × Int):=
 (X7 a1).bind λv1=>
 if (v1 != 0) then
  some (a0,0,v1)
 else
 (gO).bind λv2=>
 if (!((A0 v2 a1.Kind).isSome)) then
  some (a0,0,14)
 else
 (xN ((A0 v2 a1.Kind).getD (none:Fv)) (⟨a0,a1⟩:r8)).bind λv3=>
 if (v3.2 != 0) then
  some (a0,0,v3.2)
 else
 (T4 v3.1).bind λv5=>
 (ae v3.1 v5 a1).bind λv6=>
 some (v5,v6,0)
def nI(a0:b6):Option b6:=
 some a0
def mq(a0:b6)(a1:Int):Option (List Int):=
 (y5 a0 a1).bind λv1=>
 (jF v1.1.Fields).bind λv2=>
 some v2
def xS(a0:b6)(a1:Int):Option Int:=
 jn (λ(j31:Int)=>
  some j31) (λκ30=>
  (nI a0).bind λv32=>
  (G5 v32).bind λv33=>
  (lp (S:=Int × Int) (E:=Int) (λ((s35,s36):Int × Int)=>
   if (decide (s35<(v33.length:Int))) then
    jn (λ(j50:Int)=>
     some (.inl (x4 (s35+1),j50))) (λκ49=>
     (ix v33 s35).bind λv51=>
     (mq v32 v51).bind λv52=>
     (lp (S:=Int × Int) (E:=Int) (λ((s54,s55):Int × Int)=>
      if (decide (s54<(v52.length:Int))) then
       (ix v52 s54).bind λv58=>
       jn (λ(j60:Int)=>
        some (.inl (x4 (s54+1),j60))) (λκ59=>
        if (v58==a1) then
         κ59 (x4 (s55+1))
        else
        κ59 s55)
      else
      some (.inr s55)) (0,s36)).bind λe53=>
     κ49 e53)
   else
   some (.inr s36)) (0,0)).bind λe34=>
  κ30 e34)
def eE(a0:List g6):Option (List g6):=
 some a0
def lQ(a0:List g6):Option (List Int):=
 jn (λ(j13:List Int)=>
  some j13) (λκ12=>
  (lp (S:=Int × (List Int)) (E:=(List Int)) (λ((s15,s16):Int × (List Int))=>
   if (decide (s15<(a0.length:Int))) then
    jn (λ(j22:List Int)=>
     some (.inl (x4 (s15+1),j22))) (λκ21=>
     (ix a0 s15).bind λv23=>
     if (v23.State==1) then
      (app 8 s16 [v23.Key]).bind λv24=>
      κ21 v24
     else
     κ21 s16)
   else
   some (.inr s16)) (0,[])).bind λe14=>
  κ12 e14)
def gL(a0:k7)(a1:Int):Option Bool:=
 some ((a1 != 0)&&(a0.Val==a1))
def B5(a0:List g6)(a1:Int):Option (List k7):=
 jn (λ(j16:List k7)=>
  some j16) (λκ15=>
  (lQ a0).bind λv17=>
  (lp (S:=Int × (List k7)) (E:=(List k7)) (λ((s19,s20):Int × (List k7))=>
   if (decide (s19<(v17.length:Int))) then
    (ix v17 s19).bind λv23=>
    (Z8 a0 v23).bind λv24=>
    jn (λ(j28:List k7)=>
     some (.inl (x4 (s19+1),j28))) (λκ27=>
     (gL (⟨v23,v24.1⟩:k7) a1).bind λv29=>
     if v29 then
      (app 16 s20 [(⟨v23,v24.1⟩:k7)]).bind λv30=>
      κ27 v30
     else
     κ27 s20)
   else
   some (.inr s20)) (0,[])).bind λe18=>
  κ15 e18)
def kO(a0:List g6)(a1:Int):Option Int:=
 (eE a0).bind λv1=>
 (B5 v1 a1).bind λv2=>
 some (v2.length:Int)
def lj(a0:b6)(a1:List g6)(a2:Int):Option Int:=
 (xS a0 a2).bind λv1=>
 (kO a1 a2).bind λv2=>
 some (x4 (v1+v2))
def oa(a0:b6)(a1:List g6)(a2:Int):Option Int:=
 (y5 a0 a2).bind λv1=>
 if (v1.2 != 0) then
  some 0
 else
 (lj a0 a1 a2).bind λv2=>
 some (x4 (v1.1.Strong-v2))
def pc(a0:Int):Option Bool:=
 (J4 a0).bind λv1=>
 some v1
def nZ(a0:Int)(a1:n8)(a2:b6)(a3:List g6):Option Bool:=
 (oa a2 a3 a0).bind λv1=>
 (A6 ((decide (v1 > 0))==false) false (pc a1.Strong)).bind λv2=>
 some ((decide (v1 > 0))||v2)
def nY(a0:b6)(a1:List g6):Option (List Int):=
 jn (λ(j36:List Int)=>
  some j36) (λκ35=>
  jn (λ(j54:List Int)=>
   κ35 j54) (λκ53=>
   (G5 a0).bind λv55=>
   (lp (S:=Int × (List Int)) (E:=(List Int)) (λ((s57,s58):Int × (List Int))=>
    if (decide (s57<(v55.length:Int))) then
     jn (λ(j66:List Int)=>
      some (.inl (x4 (s57+1),j66))) (λκ65=>
      (ix v55 s57).bind λv67=>
      (y5 a0 v67).bind λv68=>
      (nZ v67 v68.1 a0 a1).bind λv69=>
      if v69 then
       (app 8 s58 [v67]).bind λv70=>
       κ65 v70
      else
      κ65 s58)
    else
    some (.inr s58)) (0,[])).bind λe56=>
   κ53 e56))
def cM(a0:b6)(a1:Int):Option Bool:=
 (y5 a0 a1).bind λv1=>
 some (v1.2==0)
def fM(a0:b6)(a1:List Int):Option (List (Int × Bool)):=
 (G5 a0).bind λv1=>
 (bk (v1.length:Int)).bind λv2=>
 jn (λ((j20,j21):e6 × (List (Int × Bool)))=>
  jn (λ(j68:List (Int × Bool))=>
   some j68) (λκ67=>
   (lp (S:=e6 × (List (Int × Bool))) (E:=(List (Int × Bool))) (λ((s70,s71):e6 × (List (Int × Bool)))=>
    (I4 s70).bind λv74=>
    if (decide (v74 > 0)) then
     (Y0 s70).bind λv75=>
     (mq a0 v75.2.1).bind λv76=>
     jn (λ((j94,j95):e6 × (List (Int × Bool)))=>
      some (.inl (j94,j95))) (λκ93=>
      (lp (S:=Int × e6 × (List (Int × Bool))) (E:=(e6 × (List (Int × Bool)))) (λ((s98,s99,s100):Int × e6 × (List (Int × Bool)))=>
       if (decide (s98<(v76.length:Int))) then
        jn (λ((j107,j108):e6 × (List (Int × Bool)))=>
         some (.inl (x4 (s98+1),j107,j108))) (λκ106=>
         (ix v76 s98).bind λv110=>
         (cM a0 v110).bind λv111=>
         if (v111==true) then
          if (!((A0 s100 v110).getD (false:Bool))) then
           (E0 s99 v110).bind λv112=>
           κ106 (v112.1,(p6 s100 v110 true))
          else
          κ106 (s99,s100)
         else
         κ106 (s99,s100))
       else
       some (.inr (s99,s100))) (0,v75.1,s71)).bind λe97=>
      κ93 e97)
    else
    some (.inr s71)) (j20,j21)).bind λe69=>
   κ67 e69)) (λκ19=>
  (lp (S:=Int × e6 × (List (Int × Bool))) (E:=(e6 × (List (Int × Bool)))) (λ((s114,s115,s116):Int × e6 × (List (Int × Bool)))=>
   if (decide (s114<(a1.length:Int))) then
    jn (λ((j123,j124):e6 × (List (Int × Bool)))=>
     some (.inl (x4 (s114+1),j123,j124))) (λκ122=>
     (ix a1 s114).bind λv126=>
     (cM a0 v126).bind λv127=>
     if (v127==true) then
      if (!((A0 s116 v126).getD (false:Bool))) then
       (E0 s115 v126).bind λv128=>
       κ122 (v128.1,(p6 s116 v126 true))
      else
      κ122 (s115,s116)
     else
     κ122 (s115,s116))
   else
   some (.inr (s115,s116))) (0,v2,[])).bind λe113=>
  κ19 e113)
def jk(a0:Int)(a1:List (Int × Bool)):Option Bool:=
 some ((A0 a1 a0).getD (false:Bool))
def Y1(a0:b6)(a1:List (Int × Bool)):Option (List Int):=
 jn (λ(j16:List Int)=>
  some j16) (λκ15=>
  (G5 a0).bind λv17=>
  (lp (S:=Int × (List Int)) (E:=(List Int)) (λ((s19,s20):Int × (List Int))=>
   if (decide (s19<(v17.length:Int))) then
    jn (λ(j27:List Int)=>
     some (.inl (x4 (s19+1),j27))) (λκ26=>
     (ix v17 s19).bind λv28=>
     (jk v28 a1).bind λv29=>
     if v29 then
      (app 8 s20 [v28]).bind λv30=>
      κ26 v30
     else
     κ26 s20)
   else
   some (.inr s20)) (0,[])).bind λe18=>
  κ15 e18)
def ka(a0:b6)(a1:List Int):Option (List Int):=
 (fM a0 a1).bind λv1=>
 (Y1 a0 v1).bind λv2=>
 some v2
def gM(a0:k7):Option Bool:=
 some true
def B6(a0:List g6):Option (List k7):=
 jn (λ(j16:List k7)=>
  some j16) (λκ15=>
  (lQ a0).bind λv17=>
  (lp (S:=Int × (List k7)) (E:=(List k7)) (λ((s19,s20):Int × (List k7))=>
   if (decide (s19<(v17.length:Int))) then
    (ix v17 s19).bind λv23=>
    (Z8 a0 v23).bind λv24=>
    jn (λ(j28:List k7)=>
     some (.inl (x4 (s19+1),j28))) (λκ27=>
     (gM (⟨v23,v24.1⟩:k7)).bind λv29=>
     if v29 then
      (app 16 s20 [(⟨v23,v24.1⟩:k7)]).bind λv30=>
      κ27 v30
     else
     κ27 s20)
   else
   some (.inr s20)) (0,[])).bind λe18=>
  κ15 e18)
def kP(a0:List g6):Option (List k7):=
 (eE a0).bind λv1=>
 (B6 v1).bind λv2=>
 some v2
def jN(a0:Int)(a1:b6):Option Bool:=
 (y5 a1 a0).bind λv1=>
 some (v1.2==0)
def tL(a0:b6)(a1:List g6)(a2:List Int):Option (List Int):=
 jn (λ(j20:List Int)=>
  some j20) (λκ19=>
  (kP a1).bind λv21=>
  (lp (S:=Int × (List Int)) (E:=(List Int)) (λ((s23,s24):Int × (List Int))=>
   if (decide (s23<(v21.length:Int))) then
    jn (λ(j33:List Int)=>
     some (.inl (x4 (s23+1),j33))) (λκ32=>
     (ix v21 s23).bind λv34=>
     (F0 a2 v34.Key).bind λv35=>
     (A6 (v35==true) false (jN v34.Key a0)).bind λv36=>
     (A6 ((v35&&v36)==true) false (jN v34.Val a0)).bind λv37=>
     if ((v35&&v36)&&v37) then
      (app 8 s24 [v34.Val]).bind λv38=>
      κ32 v38
     else
     κ32 s24)
   else
   some (.inr s24)) (0,[])).bind λe22=>
  κ19 e22)
def qt(a0:b6)(a1:List g6)(a2:List Int):Option ((List Int) × Int):=
 (ka a0 a2).bind λv1=>
 (lp (S:=(List Int) × Int) (E:=((List Int) × Int)) (λ((s3,s4):(List Int) × Int)=>
  (tL a0 a1 s3).bind λv7=>
  jn (λ(_:Unit)=>
   some (.inr (s3,s4))) (λκ15=>
   (lp (S:=Int) (E:=((List Int) × Int) ⊕ Unit) (λ(s18:Int)=>
    if (decide (s18<(v7.length:Int))) then
     (ix v7 s18).bind λv20=>
     (F0 s3 v20).bind λv21=>
     if (!v21) then
      (app 8 v7 s3).bind λv22=>
      (ka a0 v22).bind λv23=>
      some (.inr (.inl (v23,x4 (s4+1))))
     else
     some (.inl (x4 (s18+1)))
    else
    some (.inr (.inr ()))) 0).bind λe17=>
   match e17 with
   | .inl w=>some (.inl w)
   | .inr w=>κ15 w)) (v1,0)).bind λe2=>
 some e2
def tK(a0:b6)(a1:List g6)(a2:List Int):Option (List Int):=
 (qt a0 a1 a2).bind λv1=>
 some v1.1
def jl(a0:Int)(a1:List (Int × Bool)):Option Bool:=
 some (!((A0 a1 a0).getD (false:Bool)))
def Y2(a0:b6)(a1:List (Int × Bool)):Option (List Int):=
 jn (λ(j16:List Int)=>
  some j16) (λκ15=>
  (G5 a0).bind λv17=>
  (lp (S:=Int × (List Int)) (E:=(List Int)) (λ((s19,s20):Int × (List Int))=>
   if (decide (s19<(v17.length:Int))) then
    jn (λ(j27:List Int)=>
     some (.inl (x4 (s19+1),j27))) (λκ26=>
     (ix v17 s19).bind λv28=>
     (jl v28 a1).bind λv29=>
     if v29 then
      (app 8 s20 [v28]).bind λv30=>
      κ26 v30
     else
     κ26 s20)
   else
   some (.inr s20)) (0,[])).bind λe18=>
  κ15 e18)
def nH(a0:b6)(a1:List Int):Option (List Int):=
 (fM a0 a1).bind λv1=>
 (Y2 a0 v1).bind λv2=>
 some v2
def pj(a0:b6)(a1:List g6)(a2:List Int):Option (List Int):=
 (tK a0 a1 a2).bind λv1=>
 (nH a0 v1).bind λv2=>
 some v2
def dA(a0:b6)(a1:List g6):Option (List Int):=
 (nY a0 a1).bind λv1=>
 (pj a0 a1 v1).bind λv2=>
 some v2
def V4(a0:b9):Option (List Int):=
 (dA a0.S a0.T).bind λv1=>
 some v1
def iE(a0:Int)(a1:b9):Option Bool:=
 (y5 a1.S a0).bind λv1=>
 some ((decide (v1.1.Prog>=0))&&(!v1.1.Started))
def L0(a0:List Int)(a1:b9):Option (List Int):=
 jn (λ(j15:List Int)=>
  some j15) (λκ14=>
  (lp (S:=Int × (List Int)) (E:=(List Int)) (λ((s17,s18):Int × (List Int))=>
   if (decide (s17<(a0.length:Int))) then
    jn (λ(j25:List Int)=>
     some (.inl (x4 (s17+1),j25))) (λκ24=>
     (ix a0 s17).bind λv26=>
     (iE v26 a1).bind λv27=>
     if v27 then
      (app 8 s18 [v26]).bind λv28=>
      κ24 v28
     else
     κ24 s18)
   else
   some (.inr s18)) (0,[])).bind λe16=>
  κ14 e16)
def gK(a0:b9):Option (List Int):=
 (V4 a0).bind λv1=>
 (L0 v1 a0).bind λv2=>
 some v2
def aV(a0:b9):Option (b9 × Int × Int):=
 (gK a0).bind λv1=>
 jn (λ(j10:b9)=>
  if (decide ((v1.length:Int) > 0)) then
   some (j10,(v1.length:Int),0)
  else
  (V4 j10).bind λv11=>
  (cg j10 v11).bind λv12=>
  (T4 v12).bind λv13=>
  (G5 j10.S).bind λv14=>
  (G5 v13.S).bind λv15=>
  some (v13,0,x4 ((v14.length:Int)-(v15.length:Int)))) (λκ9=>
  (lp (S:=Int × b9) (E:=b9) (λ((s17,s18):Int × b9)=>
   if (decide (s17<(v1.length:Int))) then
    (ix v1 s17).bind λv21=>
    (Y4 s18 v21).bind λv22=>
    some (.inl (x4 (s17+1),v22))
   else
   some (.inr s18)) (0,a0)).bind λe16=>
  κ9 e16)
def hZ(a0:b9):Option Bool:=
 (bo a0.Q).bind λv1=>
 some (v1.2.2 != 0)
def ij(a0:b9)(a1:List g9):Option (b9 × (List Int)):=
 jn (λ((j11,j12):b9 × (List Int))=>
  some (j11,j12)) (λκ10=>
  (lp (S:=Int × b9 × (List Int)) (E:=(b9 × (List Int))) (λ((s15,s16,s17):Int × b9 × (List Int))=>
   if (decide (s15<(a1.length:Int))) then
    (ix a1 s15).bind λv20=>
    (u6 s16 v20).bind λv21=>
    (app 8 s17 [v21.2.1]).bind λv22=>
    some (.inl (x4 (s15+1),v21.1,v22))
   else
   some (.inr (s16,s17))) (0,a0,[])).bind λe14=>
  κ10 e14)
def nf(a0:b9)(a1:List (List g9)):Option (b9 × g5 × Int):=
 (bo a0.Q).bind λv1=>
 if (v1.2.2 != 0) then
  some (a0,(⟨0,0,0⟩:g5),v1.2.2)
 else
 jn (λ(j6:b9)=>
  (dS a1 v1.2.1.Prog).bind λv7=>
  (ij j6 v7).bind λv8=>
  if (v1.2.1.Kind==1) then
   (cD v8.1 5 0).bind λv9=>
   (T4 v9.1).bind λv10=>
   some (v10,v1.2.1,0)
  else
  some (v8.1,v1.2.1,0)) (λκ5=>
  if (v1.2.1.Kind==1) then
   (cD (⟨a0.S,a0.Roots,a0.b7,a0.T,v1.1⟩:b9) 5 v1.2.1.At).bind λv11=>
   (E8 v11.1 v1.2.1.At).bind λv12=>
   (T4 v12).bind λv13=>
   κ5 v13
  else
  κ5 (⟨a0.S,a0.Roots,a0.b7,a0.T,v1.1⟩:b9))
def hU(a0:b9)(a1:List (List g9))(a2:Int):Option (b9 × Int × Int × Int):=
 jn (λ((j14,j15,j16):Int × Int × b9)=>
  (hZ j16).bind λv18=>
  if (!v18) then
   some (j16,j14,j15,12)
  else
  some (j16,j14,j15,0)) (λκ13=>
  (lp (S:=Int × b9 × Int × Int × b9) (E:=(Int × Int × b9)) (λ((s20,s21,s22,s23,s24):Int × b9 × Int × Int × b9)=>
   (hZ s21).bind λv27=>
   if (!v27) then
    (bo s21.Q).bind λv28=>
    (bR a1 v28.2.1).bind λv29=>
    if (decide (v29 > s20)) then
     some (.inr (s22,s23,s24))
    else
    (nf s21 a1).bind λv30=>
    some (.inl (x4 (s20-v29),v30.1,x4 (s22+1),x4 (s20-v29),v30.1))
   else
   some (.inr (s22,s23,s24))) (a2,a0,0,a2,a0)).bind λe19=>
  κ13 e19)
def qs(a0:s7)(a1:List Int):Option (s7 × g7):=
 (V7 a1).bind λv1=>
 if (v1.2 != 0) then
  some (a0,(⟨0,v1.2⟩:g7))
 else
 (nh v1.1).bind λv2=>
 if (decide (v2.t=162)) then
  (u6 a0.X (⟨(Hd v2 162 0),(Hd v2 162 1),(Hd v2 162 2),(Hd v2 162 3)⟩:g9)).bind λv3=>
  some ((⟨v3.1,a0.Progs⟩:s7),(⟨v3.2.1,v3.2.2⟩:g7))
 else
 if (decide (v2.t=166)) then
  (aV a0.X).bind λv4=>
  some ((⟨v4.1,a0.Progs⟩:s7),(⟨x4 (v4.2.2-v4.2.1),0⟩:g7))
 else
 if (decide (v2.t=170)) then
  (hU a0.X a0.Progs (Hd v2 170 0)).bind λv5=>
  some ((⟨v5.1,a0.Progs⟩:s7),(⟨v5.2.1,v5.2.2.2⟩:g7))
 else
 some (a0,(⟨0,0⟩:g7))
def ng(a0:s7)(a1:List (List Int)):Option (s7 × (List g7)):=
 jn (λ((j11,j12):s7 × (List g7))=>
  some (j11,j12)) (λκ10=>
  (lp (S:=Int × s7 × (List g7)) (E:=(s7 × (List g7))) (λ((s15,s16,s17):Int × s7 × (List g7))=>
   if (decide (s15<(a1.length:Int))) then
    (ix a1 s15).bind λv20=>
    (qs s16 v20).bind λv21=>
    (app 16 s17 [v21.2]).bind λv22=>
    some (.inl (x4 (s15+1),v21.1,v22))
   else
   some (.inr (s16,s17))) (0,a0,[])).bind λe14=>
  κ10 e14)
def T6(a0:List g7):Option (List r9):=
 jn (λ(j9:List r9)=>
  some j9) (λκ8=>
  (lp (S:=Int × (List r9)) (E:=(List r9)) (λ((s11,s12):Int × (List r9))=>
   if (decide (s11<(a0.length:Int))) then
    (ix a0 s11).bind λv15=>
    (app 16 s12 [(⟨v15.V,v15.E⟩:r9)]).bind λv16=>
    some (.inl (x4 (s11+1),v16))
   else
   some (.inr s12)) (0,[])).bind λe10=>
  κ8 e10)
def eO(a0:List r9)(a1:List r9):Option Bool:=
 if ((a0.length:Int) != (a1.length:Int)) then
  some false
 else
 jn (λ(_:Unit)=>
  some true) (λκ6=>
  (lp (S:=Int) (E:=Bool ⊕ Unit) (λ(s9:Int)=>
   if (decide (s9<(a0.length:Int))) then
    (ix a0 s9).bind λv11=>
    (ix a1 s9).bind λv12=>
    if (!((v11.V==v12.V)&&((v11.E==v12.E)&&true))) then
     some (.inr (.inl false))
    else
    some (.inl (x4 (s9+1)))
   else
   some (.inr (.inr ()))) 0).bind λe8=>
  match e8 with
  | .inl w=>some w
  | .inr w=>κ6 w)
def gE:Option Bool:=
 (bh 3 5 8 [[(⟨2,2,5,0⟩:g9)]]).bind λv1=>
 (U1 3 5 8 [[(⟨2,2,5,0⟩:g9)]]).bind λv2=>
 (N9 v1.1 [[1,0,1,0],[5,0,0,0],[3,0,0,0],[11,0,0,0],[12,9,0,0],[3,2,0,0],[11,0,0,0],[2,9,0,0]]).bind λv3=>
 (ng v2.1 [[1,0,1,0],[5,0,0,0],[3,0,0,0],[11,0,0,0],[12,9,0,0],[3,2,0,0],[11,0,0,0],[2,9,0,0]]).bind λv4=>
 (A6 (((((v1.2==0)&&(v2.2==0))&&(decide ((v3.1.Gens.length:Int) > 0)))&&((v3.2.length:Int)==8))==true) [] (T6 v3.2)).bind λv5=>
 (A6 (((((v1.2==0)&&(v2.2==0))&&(decide ((v3.1.Gens.length:Int) > 0)))&&((v3.2.length:Int)==8))==true) [] (T6 v4.2)).bind λv6=>
 (A6 (((((v1.2==0)&&(v2.2==0))&&(decide ((v3.1.Gens.length:Int) > 0)))&&((v3.2.length:Int)==8))==true) false (eO v5 v6)).bind λv7=>
 (A6 ((((((v1.2==0)&&(v2.2==0))&&(decide ((v3.1.Gens.length:Int) > 0)))&&((v3.2.length:Int)==8))&&v7)==true) (⟨0,0⟩:g7) (ix v3.2 3)).bind λv8=>
 (A6 (((((((v1.2==0)&&(v2.2==0))&&(decide ((v3.1.Gens.length:Int) > 0)))&&((v3.2.length:Int)==8))&&v7)&&(v8.V==(-1)))==true) (⟨0,0⟩:g7) (ix v3.2 4)).bind λv9=>
 (A6 ((((((((v1.2==0)&&(v2.2==0))&&(decide ((v3.1.Gens.length:Int) > 0)))&&((v3.2.length:Int)==8))&&v7)&&(v8.V==(-1)))&&(v9.V==1))==true) (⟨0,0⟩:g7) (ix v3.2 6)).bind λv10=>
 (A6 (((((((((v1.2==0)&&(v2.2==0))&&(decide ((v3.1.Gens.length:Int) > 0)))&&((v3.2.length:Int)==8))&&v7)&&(v8.V==(-1)))&&(v9.V==1))&&(v10.V==1))==true) (⟨0,0⟩:g7) (ix v3.2 7)).bind λv11=>
 (A6 ((((((((((v1.2==0)&&(v2.2==0))&&(decide ((v3.1.Gens.length:Int) > 0)))&&((v3.2.length:Int)==8))&&v7)&&(v8.V==(-1)))&&(v9.V==1))&&(v10.V==1))&&(v11.E==6))==true) [] (eK v3.1)).bind λv12=>
 (A6 (((((((((((v1.2==0)&&(v2.2==0))&&(decide ((v3.1.Gens.length:Int) > 0)))&&((v3.2.length:Int)==8))&&v7)&&(v8.V==(-1)))&&(v9.V==1))&&(v10.V==1))&&(v11.E==6))&&((v12.length:Int)==0))==true) (0:Int) (ix v3.1.Gens 0)).bind λv13=>
 some (((((((((((v1.2==0)&&(v2.2==0))&&(decide ((v3.1.Gens.length:Int) > 0)))&&((v3.2.length:Int)==8))&&v7)&&(v8.V==(-1)))&&(v9.V==1))&&(v10.V==1))&&(v11.E==6))&&((v12.length:Int)==0))&&(v13==1))
def qj(a0:a8):Option Bool:=
 jn (λ(_:Unit)=>
  (A6 ((((((((decide ((a0.Nodes.length:Int)<=50))&&(decide ((a0.Pairs.length:Int)<=20)))&&(decide ((a0.Tasks.length:Int)<=100)))&&(decide ((a0.b7.length:Int)<=20)))&&(decide ((a0.Roots.length:Int)<=20)))&&(decide ((a0.Slots.length:Int)<=30)))&&(decide ((a0.Gens.length:Int)<=30)))==true) false (iy a0.Progs)).bind λv7=>
  some ((((((((decide ((a0.Nodes.length:Int)<=50))&&(decide ((a0.Pairs.length:Int)<=20)))&&(decide ((a0.Tasks.length:Int)<=100)))&&(decide ((a0.b7.length:Int)<=20)))&&(decide ((a0.Roots.length:Int)<=20)))&&(decide ((a0.Slots.length:Int)<=30)))&&(decide ((a0.Gens.length:Int)<=30)))&&v7)) (λκ5=>
  (lp (S:=Int) (E:=Bool ⊕ Unit) (λ(s9:Int)=>
   if ((decide (s9<(a0.Nodes.length:Int)))&&(decide (s9<60))) then
    (ix a0.Nodes s9).bind λv11=>
    if (decide ((v11.Fields.length:Int) > 10)) then
     some (.inr (.inl false))
    else
    some (.inl (x4 (s9+1)))
   else
   some (.inr (.inr ()))) 0).bind λe8=>
  match e8 with
  | .inl w=>some w
  | .inr w=>κ5 w)
def qQ(a0:g8):Option H2:=
 jn (λ(j9:List A7)=>
  some (⟨j9,a0.Cap⟩:H2)) (λκ8=>
  (lp (S:=Int × (List A7)) (E:=(List A7)) (λ((s11,s12):Int × (List A7))=>
   if (decide (s11<(a0.L.length:Int))) then
    (ix a0.L s11).bind λv15=>
    (app 24 s12 [(⟨v15.Kind,v15.At,v15.Prog⟩:A7)]).bind λv16=>
    some (.inl (x4 (s11+1),v16))
   else
   some (.inr s12)) (0,[])).bind λe10=>
  κ8 e10)
def qO(a0:List k8):Option (List w9):=
 jn (λ(j9:List w9)=>
  some j9) (λκ8=>
  (lp (S:=Int × (List w9)) (E:=(List w9)) (λ((s11,s12):Int × (List w9))=>
   if (decide (s11<(a0.length:Int))) then
    (ix a0 s11).bind λv15=>
    (app 24 s12 [(⟨v15.Target,v15.Intact,v15.Call⟩:w9)]).bind λv16=>
    some (.inl (x4 (s11+1),v16))
   else
   some (.inr s12)) (0,[])).bind λe10=>
  κ8 e10)
def qP(a0:List (List g9)):Option (List (List B1)):=
 jn (λ(j47:List (List B1))=>
  some j47) (λκ46=>
  (lp (S:=Int × (List (List B1))) (E:=(List (List B1))) (λ((s49,s50):Int × (List (List B1)))=>
   if (decide (s49<(a0.length:Int))) then
    jn (λ(j73:List (List B1))=>
     some (.inl (x4 (s49+1),j73))) (λκ72=>
     jn (λ(j83:List B1)=>
      (app 24 s50 [j83]).bind λv84=>
      κ72 v84) (λκ82=>
      (lp (S:=Int × (List B1)) (E:=(List B1)) (λ((s86,s87):Int × (List B1))=>
       (ix a0 s49).bind λv90=>
       if (decide (s86<(v90.length:Int))) then
        (ix v90 s86).bind λv91=>
        (app 32 s87 [(⟨v91.Kind,v91.A,v91.B,v91.C⟩:B1)]).bind λv92=>
        some (.inl (x4 (s86+1),v92))
       else
       some (.inr s87)) (0,[])).bind λe85=>
      κ82 e85))
   else
   some (.inr s50)) (0,[])).bind λe48=>
  κ46 e48)
def qi(a0:a8):Option T9:=
 jn (λ(j9:List C4)=>
  jn (λ(j18:List C0)=>
   (qQ (⟨a0.Tasks,0⟩:g8)).bind λv19=>
   (qO a0.b7).bind λv20=>
   (qP a0.Progs).bind λv21=>
   some (⟨j9,a0.Slots,a0.Gens,a0.Last,a0.Places,a0.Serial,a0.Roots,v20,j18,v19.L,v21⟩:T9)) (λκ17=>
   (lp (S:=Int × (List C0)) (E:=(List C0)) (λ((s23,s24):Int × (List C0))=>
    if (decide (s23<(a0.Pairs.length:Int))) then
     (ix a0.Pairs s23).bind λv27=>
     (app 16 s24 [(⟨v27.Key,v27.Val⟩:C0)]).bind λv28=>
     some (.inl (x4 (s23+1),v28))
    else
    some (.inr s24)) (0,[])).bind λe22=>
   κ17 e22)) (λκ8=>
  (lp (S:=Int × (List C4)) (E:=(List C4)) (λ((s30,s31):Int × (List C4))=>
   if (decide (s30<(a0.Nodes.length:Int))) then
    (ix a0.Nodes s30).bind λv34=>
    (app 56 s31 [(⟨v34.Serial,v34.Slot,v34.Prog,v34.Started,v34.Alive,v34.Stuck,v34.Fields⟩:C4)]).bind λv35=>
    some (.inl (x4 (s30+1),v35))
   else
   some (.inr s31)) (0,[])).bind λe29=>
  κ8 e29)
def jX(a0:List Int)(a1:List Int):Option Bool:=
 if ((a0.length:Int) != (a1.length:Int)) then
  some false
 else
 jn (λ(_:Unit)=>
  some true) (λκ6=>
  (lp (S:=Int) (E:=Bool ⊕ Unit) (λ(s9:Int)=>
   if (decide (s9<(a0.length:Int))) then
    (ix a0 s9).bind λv11=>
    (ix a1 s9).bind λv12=>
    if (v11 != v12) then
     some (.inr (.inl false))
    else
    some (.inl (x4 (s9+1)))
   else
   some (.inr (.inr ()))) 0).bind λe8=>
  match e8 with
  | .inl w=>some w
  | .inr w=>κ6 w)
def qA(a0:List C4)(a1:List C4):Option Bool:=
 if ((a0.length:Int) != (a1.length:Int)) then
  some false
 else
 jn (λ(_:Unit)=>
  some true) (λκ7=>
  (lp (S:=Int) (E:=Bool ⊕ Unit) (λ(s10:Int)=>
   if (decide (s10<(a0.length:Int))) then
    (ix a0 s10).bind λv12=>
    (ix a1 s10).bind λv13=>
    (A6 (((((((v12.Serial != v13.Serial)||(v12.Slot != v13.Slot))||(v12.Prog != v13.Prog))||(v12.Started != v13.Started))||(v12.Alive != v13.Alive))||(v12.Stuck != v13.Stuck))==false) false (jX v12.Fields v13.Fields)).bind λv14=>
    if (((((((v12.Serial != v13.Serial)||(v12.Slot != v13.Slot))||(v12.Prog != v13.Prog))||(v12.Started != v13.Started))||(v12.Alive != v13.Alive))||(v12.Stuck != v13.Stuck))||(!v14)) then
     some (.inr (.inl false))
    else
    some (.inl (x4 (s10+1)))
   else
   some (.inr (.inr ()))) 0).bind λe9=>
  match e9 with
  | .inl w=>some w
  | .inr w=>κ7 w)
def uE(a0:List w9)(a1:List w9):Option Bool:=
 if ((a0.length:Int) != (a1.length:Int)) then
  some false
 else
 jn (λ(_:Unit)=>
  some true) (λκ6=>
  (lp (S:=Int) (E:=Bool ⊕ Unit) (λ(s9:Int)=>
   if (decide (s9<(a0.length:Int))) then
    (ix a0 s9).bind λv11=>
    (ix a1 s9).bind λv12=>
    if (!((v11.Target==v12.Target)&&((v11.Intact==v12.Intact)&&((v11.Call==v12.Call)&&true)))) then
     some (.inr (.inl false))
    else
    some (.inl (x4 (s9+1)))
   else
   some (.inr (.inr ()))) 0).bind λe8=>
  match e8 with
  | .inl w=>some w
  | .inr w=>κ6 w)
def uG(a0:List C0)(a1:List C0):Option Bool:=
 if ((a0.length:Int) != (a1.length:Int)) then
  some false
 else
 jn (λ(_:Unit)=>
  some true) (λκ6=>
  (lp (S:=Int) (E:=Bool ⊕ Unit) (λ(s9:Int)=>
   if (decide (s9<(a0.length:Int))) then
    (ix a0 s9).bind λv11=>
    (ix a1 s9).bind λv12=>
    if (!((v11.Key==v12.Key)&&((v11.Val==v12.Val)&&true))) then
     some (.inr (.inl false))
    else
    some (.inl (x4 (s9+1)))
   else
   some (.inr (.inr ()))) 0).bind λe8=>
  match e8 with
  | .inl w=>some w
  | .inr w=>κ6 w)
def pL(a0:H2)(a1:H2):Option Bool:=
 if ((a0.Cap != a1.Cap)||((a0.L.length:Int) != (a1.L.length:Int))) then
  some false
 else
 jn (λ(_:Unit)=>
  some true) (λκ6=>
  (lp (S:=Int) (E:=Bool ⊕ Unit) (λ(s9:Int)=>
   if (decide (s9<(a0.L.length:Int))) then
    (ix a0.L s9).bind λv11=>
    (ix a1.L s9).bind λv12=>
    if (!((v11.Kind==v12.Kind)&&((v11.At==v12.At)&&((v11.Prog==v12.Prog)&&true)))) then
     some (.inr (.inl false))
    else
    some (.inl (x4 (s9+1)))
   else
   some (.inr (.inr ()))) 0).bind λe8=>
  match e8 with
  | .inl w=>some w
  | .inr w=>κ6 w)
def uI(a0:T9)(a1:T9):Option Bool:=
 (qA a0.Nodes a1.Nodes).bind λv1=>
 (A6 ((!v1)==false) false (jX a0.Slots a1.Slots)).bind λv2=>
 (A6 (((!v1)||(!v2))==false) false (jX a0.Gens a1.Gens)).bind λv3=>
 if ((((((!v1)||(!v2))||(!v3))||(a0.Last != a1.Last))||(a0.Places != a1.Places))||(a0.Serial != a1.Serial)) then
  some false
 else
 (jX a0.Roots a1.Roots).bind λv4=>
 (A6 (v4==true) false (uE a0.b7 a1.b7)).bind λv5=>
 (A6 ((v4&&v5)==true) false (uG a0.Pairs a1.Pairs)).bind λv6=>
 (A6 (((v4&&v5)&&v6)==true) false (pL (⟨a0.Tasks,0⟩:H2) (⟨a1.Tasks,0⟩:H2))).bind λv7=>
 some (((v4&&v5)&&v6)&&v7)
def iX(a0:Int)(a1:Int)(a2:List (List g9))(a3:List (List Int))(a4:List (List Int)):Option Bool:=
 (iy a2).bind λv1=>
 (A6 ((!v1)==false) false (aq a3 40)).bind λv2=>
 (A6 (((!v1)||(!v2))==false) false (aq a4 40)).bind λv3=>
 (A6 ((((!v1)||(!v2))||(!v3))==false) false gE).bind λv4=>
 if ((((!v1)||(!v2))||(!v3))||(!v4)) then
  (gE).bind λv5=>
  some v5
 else
 (rem (x4 a0) 24).bind λv6=>
 (rem (x4 a1) 10).bind λv7=>
 (bh (x4 (1+v6)) v7 8 a2).bind λv8=>
 if (v8.2 != 0) then
  some (v8.2==13)
 else
 (N9 v8.1 a3).bind λv9=>
 (N9 v9.1 a4).bind λv10=>
 (app 24 [] a3).bind λv11=>
 (app 24 v11 a4).bind λv12=>
 (N9 v8.1 v12).bind λv13=>
 (qj v10.1).bind λv14=>
 (A6 (v14==true) false (qj v13.1)).bind λv15=>
 (A6 ((v14&&v15)==true) ⟨[],[],[],0,0,0,[],[],[],[],[]⟩ (qi v10.1)).bind λv16=>
 (A6 ((v14&&v15)==true) ⟨[],[],[],0,0,0,[],[],[],[],[]⟩ (qi v13.1)).bind λv17=>
 (A6 ((v14&&v15)==true) false (uI v16 v17)).bind λv18=>
 if (((v14&&v15)&&v18)==true) then
  (T6 v9.2).bind λv19=>
  (T6 v10.2).bind λv20=>
  (app 16 v19 v20).bind λv21=>
  (T6 v13.2).bind λv22=>
  (eO v21 v22).bind λv23=>
  (A6 (v23==true) false (eO v19 v19)).bind λv24=>
  some (v23&&v24)
 else
 some false
structure xR where
 Serial:Int
 Strong:Int
 Weak:Int
 Prog:Int
 Started:Bool
 Fields:List Int
structure ml where
 State:Int
 Gen:Int
 Val:xR
structure J6 where
 State:Int
 Key:Int
 Val:Int
structure Gt where
 State:Int
 Gen:Int
 Val:Int
structure An where
 b7:List Gt
 Last:Int
structure jB where
 b7:List ml
 Last:Int
 Serial:Int
structure mo where
 S:jB
 Roots:List Int
 b7:List w9
 T:List J6
 Q:H2
structure nG where
 X:mo
 Progs:List (List B1)
def qy(a0:B1):Option Bool:=
 some ((decide (a0.Kind>=1))&&(decide (a0.Kind<=10)))
def ef(a0:Int)(a1:Int)(a2:Int)(a3:Int):Option Int:=
 if ((decide (a0<a1))||(decide (a0 > a2))) then
  some a3
 else
 some 0
def cL(a0:Int)(a1:Int)(a2:Int):Option Int:=
 if (a0 != 0) then
  some a0
 else
 if (a1 != 0) then
  some a1
 else
 some a2
def gz(a0:B1):Option Int:=
 (ef a0.A 0 5 6).bind λv1=>
 (ef a0.B 0 5 6).bind λv2=>
 if (a0.Kind==1) then
  (ef a0.B 0 4 1).bind λv3=>
  (ef a0.C (-1) 5 13).bind λv4=>
  (cL v1 v3 v4).bind λv5=>
  some v5
 else
 jn (λ(j7:Bool)=>
  if j7 then
   (cL v1 v2 0).bind λv8=>
   some v8
  else
  if (a0.Kind==3) then
   some v1
  else
  if (a0.Kind==4) then
   (ef a0.C 0 3 5).bind λv9=>
   (cL v1 v2 v9).bind λv10=>
   some v10
  else
  if (a0.Kind==5) then
   (ef a0.B 0 3 5).bind λv11=>
   (ef a0.C (-1) 5 6).bind λv12=>
   (cL v1 v11 v12).bind λv13=>
   some v13
  else
  if (a0.Kind==6) then
   (ef a0.A 0 5 7).bind λv14=>
   (ef a0.B (-1) 5 6).bind λv15=>
   (ef a0.C (-1) 5 13).bind λv16=>
   (cL v14 v15 v16).bind λv17=>
   some v17
  else
  if (a0.Kind==7) then
   (ef a0.B 0 5 7).bind λv18=>
   (cL v1 v18 0).bind λv19=>
   some v19
  else
  if (a0.Kind==8) then
   (ef a0.B (-1) 5 6).bind λv20=>
   (cL v1 v20 0).bind λv21=>
   some v21
  else
  if (a0.Kind==11) then
   some 0
  else
  if (a0.Kind==12) then
   (ef a0.A 0 200 12).bind λv22=>
   some v22
  else
  some 14) (λκ6=>
  if (a0.Kind==2) then
   κ6 (a0.Kind==2)
  else
  if (a0.Kind==9) then
   κ6 (a0.Kind==9)
  else
  κ6 (a0.Kind==10))
def qz(a0:List (List B1)):Option Bool:=
 if (decide ((a0.length:Int) > 6)) then
  some false
 else
 jn (λ(_:Unit)=>
  some true) (λκ20=>
  (lp (S:=Int) (E:=Bool ⊕ Unit) (λ(s23:Int)=>
   if (decide (s23<(a0.length:Int))) then
    jn (λ(_:Unit)=>
     some (.inl (x4 (s23+1)))) (λκ32=>
     (ix a0 s23).bind λv34=>
     if (decide ((v34.length:Int) > 6)) then
      some (.inr (.inl false))
     else
     (lp (S:=Int) (E:=Bool ⊕ Unit) (λ(s36:Int)=>
      if (decide (s36<(v34.length:Int))) then
       (ix v34 s36).bind λv38=>
       (qy v38).bind λv39=>
       (A6 ((!v39)==false) 0 (gz v38)).bind λv40=>
       if ((!v39)||(v40 != 0)) then
        some (.inr (.inl false))
       else
       some (.inl (x4 (s36+1)))
      else
      some (.inr (.inr ()))) 0).bind λe35=>
     match e35 with
     | .inl w=>some (.inr (.inl w))
     | .inr w=>κ32 w)
   else
   some (.inr (.inr ()))) 0).bind λe22=>
  match e22 with
  | .inl w=>some w
  | .inr w=>κ20 w)
def Kv(a0:Int)(a1:Int):Option An:=
 if ((((decide (a0<0))||(decide (a0 > 24)))||(decide (a1<0)))||(decide (a1 > 9))) then
  some (⟨[],0⟩:An)
 else
 (mk 24 a0 (⟨0,0,0⟩:Gt)).bind λv1=>
 some (⟨v1,a1⟩:An)
def DU(a0:Int)(a1:Int):Option jB:=
 (Kv a0 a1).bind λv1=>
 (mk 80 (v1.b7.length:Int) (⟨0,0,⟨0,0,0,0,false,[]⟩⟩:ml)).bind λv2=>
 some (⟨v2,v1.Last,0⟩:jB)
def Tl(a0:Int):Option (List w9):=
 jn (λ(j8:List w9)=>
  some j8) (λκ7=>
  (lp (S:=Int × (List w9)) (E:=(List w9)) (λ((s10,s11):Int × (List w9))=>
   if ((decide (s10<a0))&&(decide (a0<=6))) then
    (app 24 s11 [(⟨0,false,(-1)⟩:w9)]).bind λv14=>
    some (.inl (x4 (s10+1),v14))
   else
   some (.inr s11)) (0,[])).bind λe9=>
  κ7 e9)
def Kw(a0:Int):Option (List J6):=
 if ((decide (a0<1))||(decide (a0 > 8))) then
  some []
 else
 (mk 24 a0 (⟨0,0,0⟩:J6)).bind λv1=>
 some v1
def Tm:Option H2:=
 some (⟨[],30⟩:H2)
def uH(a0:Int)(a1:Int)(a2:Int):Option mo:=
 if ((((((decide (a0<1))||(decide (a0 > 24)))||(decide (a1<0)))||(decide (a1 > 9)))||(decide (a2<1)))||(decide (a2 > 8))) then
  some (⟨⟨[],0,0⟩,[],[],[],⟨[],0⟩⟩:mo)
 else
 (DU a0 a1).bind λv1=>
 (mk 8 6 (0:Int)).bind λv2=>
 (Tl 6).bind λv3=>
 (Kw a2).bind λv4=>
 (Tm).bind λv5=>
 some (⟨v1,v2,v3,v4,v5⟩:mo)
def DV(a0:Int)(a1:Int)(a2:Int)(a3:List (List B1)):Option (nG × Int):=
 (qz a3).bind λv1=>
 if (!v1) then
  some ((⟨⟨⟨[],0,0⟩,[],[],[],⟨[],0⟩⟩,[]⟩:nG),13)
 else
 (uH a0 a1 a2).bind λv2=>
 if ((v2.Roots.length:Int)==0) then
  some ((⟨⟨⟨[],0,0⟩,[],[],[],⟨[],0⟩⟩,[]⟩:nG),1)
 else
 some ((⟨v2,a3⟩:nG),0)
def mn(a0:List J6)(a1:Int):Option Int:=
 jn (λ(_:Unit)=>
  some (-1)) (λκ5=>
  (lp (S:=Int) (E:=Int ⊕ Unit) (λ(s8:Int)=>
   if (decide (s8<(a0.length:Int))) then
    (ix a0 s8).bind λv10=>
    if ((v10.State==1)&&(v10.Key==a1)) then
     some (.inr (.inl s8))
    else
    some (.inl (x4 (s8+1)))
   else
   some (.inr (.inr ()))) 0).bind λe7=>
  match e7 with
  | .inl w=>some w
  | .inr w=>κ5 w)
def jY(a0:List Int):Option (B1 × Int):=
 if ((a0.length:Int) != 4) then
  some ((⟨0,0,0,0⟩:B1),14)
 else
 (ix a0 0).bind λv1=>
 (ix a0 1).bind λv2=>
 (ix a0 2).bind λv3=>
 (ix a0 3).bind λv4=>
 (gz (⟨v1,v2,v3,v4⟩:B1)).bind λv5=>
 if (v5 != 0) then
  some ((⟨0,0,0,0⟩:B1),v5)
 else
 some ((⟨v1,v2,v3,v4⟩:B1),0)
def Ao(a0:List J6)(a1:Int)(a2:J6):Option (List J6):=
 (app 24 [] a0).bind λv1=>
 (ix v1 a1).bind λv2=>
 some (v1.set (a1).toNat a2)
def uF(a0:List J6)(a1:Int):Option ((List J6) × Int × Int):=
 (mn a0 a1).bind λv1=>
 if (decide (v1<0)) then
  some (a0,0,9)
 else
 (Ao a0 v1 (⟨2,0,0⟩:J6)).bind λv2=>
 (ix a0 v1).bind λv3=>
 some (v2,v3.Val,0)
def pK(a0:List J6)(a1:List Int):Option ((List J6) × (List Int)):=
 jn (λ((j18,j19):(List J6) × (List Int))=>
  some (j18,j19)) (λκ17=>
  (lp (S:=(List J6) × Int × (List Int)) (E:=((List J6) × (List Int))) (λ((s22,s23,s24):(List J6) × Int × (List Int))=>
   if (decide (s23<(a1.length:Int))) then
    jn (λ((j31,j32):(List J6) × (List Int))=>
     some (.inl (j31,x4 (s23+1),j32))) (λκ30=>
     (ix a1 s23).bind λv34=>
     (uF s22 v34).bind λv35=>
     if (v35.2.2==0) then
      (app 8 s24 [v35.2.1]).bind λv36=>
      κ30 (v35.1,v36)
     else
     κ30 (s22,s24))
   else
   some (.inr (s22,s24))) (a0,0,[])).bind λe21=>
  κ17 e21)
def DT(a0:List Int)(a1:Int):Option (Int × Int):=
 if ((decide (a1<0))||(decide (a1>=(a0.length:Int)))) then
  some (0,5)
 else
 (ix a0 a1).bind λv1=>
 some (v1,0)
end
end Go.Sh
