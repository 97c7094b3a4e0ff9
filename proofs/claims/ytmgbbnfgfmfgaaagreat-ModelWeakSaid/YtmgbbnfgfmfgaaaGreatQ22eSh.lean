/- A part. -/
import Derived.Test.YtmgbbnfgfmfgaaaGreatQ22eSh0
import Derived.Test.YtmgbbnfgfmfgaaaGreatQ22ePwD
import Derived.Test.YtmgbbnfgfmfgaaaGreatQ22ePwC
set_option linter.unusedVariables false
set_option linter.unusedSimpArgs false
set_option linter.unusedSectionVars false
namespace Go.Sh
set_option maxRecDepth 100000
noncomputable section
structure j5 where
 Kind:Int
 A:Int
 B:Int
 C:Int
structure b8 where
 Serial:Int
 Slot:Int
 Prog:Int
 Started:Bool
 Alive:Bool
 Stuck:Bool
 Fields:List Int
structure k9 where
 Target:Int
 Intact:Bool
 Call:Int
structure k7 where
 Key:Int
 Val:Int
structure g7 where
 Kind:Int
 At:Int
 Prog:Int
structure n9 where
 Serial:Int
 Strong:Int
 Weak:Int
 Prog:Int
 Started:Bool
 Fields:List Int
structure c9 where
 State:Int
 Gen:Int
 Val:n9
structure g6 where
 State:Int
 Key:Int
 Val:Int
structure l7 where
 part:Fv
 least:Int
 most:Int
 e:Int
structure l6 where
 b7:List c9
 Last:Int
structure b6 where
 S:l6
 Serial:Int
structure k8 where
 L:List g7
 Cap:Int
structure b9 where
 S:b6
 Roots:List Int
 b7:List k9
 T:List g6
 Q:k8
structure s6 where
 X:b9
 Progs:List (List j5)
structure a8 where
 Nodes:List b8
 Slots:List Int
 Gens:List Int
 Last:Int
 Places:Int
 Serial:Int
 Roots:List Int
 b7:List k9
 Pairs:List k7
 Tasks:List g7
 Progs:List (List j5)
structure g9 where
 V:Int
 E:Int
structure e6 where
 L:List Int
 Cap:Int
structure r9 where
 x:b9
 o:j5
structure K8 where
 r:Int
 h:Int
structure H3 where
 h:Int
 k:Int
 v:Int
structure K7 where
 t:List g6
structure z6 where
 V:Int
 E:Int
def hZ(a0:List (List j5)):Option Bool:=
 jn (λ(_:Unit)=>
  some (decide ((a0.length:Int)<=10))) (λκ5=>
  (lp (S:=Int) (E:=Bool ⊕ Unit) (λ(s8:Int)=>
   if ((decide (s8<(a0.length:Int)))&&(decide (s8<10))) then
    (ix a0 s8).bind λv10=>
    if (decide ((v10.length:Int) > 10)) then
     some (.inr (.inl false))
    else
    some (.inl (w9 (s8+1)))
   else
   some (.inr (.inr ()))) 0).bind λe7=>
  match e7 with
  | .inl w=>some w
  | .inr w=>κ5 w)
def gm(a0:List (List Int))(a1:Int):Option Bool:=
 jn (λ(_:Unit)=>
  some (decide ((a0.length:Int)<=a1))) (λκ5=>
  (lp (S:=Int) (E:=Bool ⊕ Unit) (λ(s8:Int)=>
   if ((decide (s8<(a0.length:Int)))&&(decide (s8<200))) then
    (ix a0 s8).bind λv10=>
    if (decide ((v10.length:Int) > 10)) then
     some (.inr (.inl false))
    else
    some (.inl (w9 (s8+1)))
   else
   some (.inr (.inr ()))) 0).bind λe7=>
  match e7 with
  | .inl w=>some w
  | .inr w=>κ5 w)
def fO(a0:j5):Option Bool:=
 some ((decide (a0.Kind>=1))&&(decide (a0.Kind<=10)))
def bk:Option l7:=
 some (⟨(some 251),0,5,6⟩:l7)
def W2:Option l7:=
 some (⟨(some 254),(-1),5,13⟩:l7)
def L9(a0:List l7):Option (List l7):=
 some a0
def bm:Option l7:=
 some (⟨(some 252),0,5,6⟩:l7)
def au:Option l7:=
 some (⟨(some 254),0,3,5⟩:l7)
def ar:Option l7:=
 some (⟨(some 252),0,3,5⟩:l7)
def Q8:Option l7:=
 some (⟨(some 254),(-1),5,6⟩:l7)
def bh:Option l7:=
 some (⟨(some 251),0,5,7⟩:l7)
def Q7:Option l7:=
 some (⟨(some 252),(-1),5,6⟩:l7)
def bj:Option l7:=
 some (⟨(some 252),0,5,7⟩:l7)
def mK:Option (List (Int × (List l7))):=
 (bk).bind λv1=>
 (W2).bind λv2=>
 (L9 [v1,(⟨(some 252),0,4,1⟩:l7),v2]).bind λv3=>
 (bm).bind λv4=>
 (L9 [v1,v4]).bind λv5=>
 (L9 [v1]).bind λv6=>
 (au).bind λv7=>
 (L9 [v1,v4,v7]).bind λv8=>
 (ar).bind λv9=>
 (Q8).bind λv10=>
 (L9 [v1,v9,v10]).bind λv11=>
 (bh).bind λv12=>
 (Q7).bind λv13=>
 (L9 [v12,v13,v2]).bind λv14=>
 (bj).bind λv15=>
 (L9 [v1,v15]).bind λv16=>
 (L9 [v1,v13]).bind λv17=>
 (L9 []).bind λv18=>
 (L9 [(⟨(some 251),0,200,12⟩:l7)]).bind λv19=>
 some (p8 (p8 (p8 (p8 (p8 (p8 (p8 (p8 (p8 (p8 (p8 (p8 [] 1 v3) 2 v5) 3 v6) 4 v8) 5 v11) 6 v14) 7 v16) 8 v17) 9 v5) 10 v5) 11 v18) 12 v19)
def rh(a0:j5):Option Int:=
 some a0.A
def rj(a0:j5):Option Int:=
 some a0.B
def rk(a0:j5):Option Int:=
 some a0.C
def sU(f:Fv)(a0:j5):Option Int:=
 if f=some 251 then rh a0 else
 if f=some 252 then rj a0 else
 if f=some 254 then rk a0 else
 none
def W1(a0:j5):Option Int:=
 (mK).bind λv1=>
 if (!((z8 v1 a0.Kind).isSome)) then
  some 14
 else
 jn (λ(_:Unit)=>
  some 0) (λκ8=>
  (lp (S:=Int) (E:=Int ⊕ Unit) (λ(s11:Int)=>
   if (decide (s11<(((z8 v1 a0.Kind).getD ([]:List l7)).length:Int))) then
    (ix ((z8 v1 a0.Kind).getD ([]:List l7)) s11).bind λv13=>
    (sU v13.part a0).bind λv14=>
    if ((decide (v14<v13.least))||(decide (v14 > v13.most))) then
     some (.inr (.inl v13.e))
    else
    some (.inl (w9 (s11+1)))
   else
   some (.inr (.inr ()))) 0).bind λe10=>
  match e10 with
  | .inl w=>some w
  | .inr w=>κ8 w)
def fP(a0:List (List j5)):Option Bool:=
 if (decide ((a0.length:Int) > 6)) then
  some false
 else
 jn (λ(_:Unit)=>
  some true) (λκ20=>
  (lp (S:=Int) (E:=Bool ⊕ Unit) (λ(s23:Int)=>
   if (decide (s23<(a0.length:Int))) then
    jn (λ(_:Unit)=>
     some (.inl (w9 (s23+1)))) (λκ32=>
     (ix a0 s23).bind λv34=>
     if (decide ((v34.length:Int) > 6)) then
      some (.inr (.inl false))
     else
     (lp (S:=Int) (E:=Bool ⊕ Unit) (λ(s36:Int)=>
      if (decide (s36<(v34.length:Int))) then
       (ix v34 s36).bind λv38=>
       (fO v38).bind λv39=>
       (D4 ((!v39)==false) 0 (W1 v38)).bind λv40=>
       if ((!v39)||(v40 != 0)) then
        some (.inr (.inl false))
       else
       some (.inl (w9 (s36+1)))
      else
      some (.inr (.inr ()))) 0).bind λe35=>
     match e35 with
     | .inl w=>some (.inr (.inl w))
     | .inr w=>κ32 w)
   else
   some (.inr (.inr ()))) 0).bind λe22=>
  match e22 with
  | .inl w=>some w
  | .inr w=>κ20 w)
def aE(a0:Int)(a1:Int):Option l6:=
 if ((((decide (a0<0))||(decide (a0 > 24)))||(decide (a1<0)))||(decide (a1 > 9))) then
  some (⟨[],0⟩:l6)
 else
 (mk 80 a0 (⟨0,0,⟨0,0,0,0,false,[]⟩⟩:c9)).bind λv1=>
 some (⟨v1,a1⟩:l6)
def jj(a0:Int)(a1:Int):Option b6:=
 (aE a0 a1).bind λv1=>
 some (⟨v1,0⟩:b6)
def Am(a0:Int):Option (List k9):=
 if ((decide (a0<0))||(decide (a0 > 6))) then
  some []
 else
 (mk 24 a0 (⟨0,false,0⟩:k9)).bind λv1=>
 jn (λ(j9:List k9)=>
  some j9) (λκ8=>
  (lp (S:=Int × (List k9)) (E:=(List k9)) (λ((s11,s12):Int × (List k9))=>
   if (decide (s11<(v1.length:Int))) then
    (ix s12 s11).bind λv15=>
    some (.inl (w9 (s11+1),(s12.set (s11).toNat (⟨v15.Target,v15.Intact,(-1)⟩:k9))))
   else
   some (.inr s12)) (0,v1)).bind λe10=>
  κ8 e10)
def sY(a0:Int):Option (List g6):=
 if ((decide (a0<1))||(decide (a0 > 8))) then
  some []
 else
 (mk 24 a0 (⟨0,0,0⟩:g6)).bind λv1=>
 some v1
def cM(a0:Int):Option k8:=
 some (⟨[],a0⟩:k8)
def yY:Option k8:=
 (cM 30).bind λv1=>
 some v1
def lB(a0:Int)(a1:Int)(a2:Int):Option b9:=
 if ((((((decide (a0<1))||(decide (a0 > 24)))||(decide (a1<0)))||(decide (a1 > 9)))||(decide (a2<1)))||(decide (a2 > 8))) then
  some (⟨⟨⟨[],0⟩,0⟩,[],[],[],⟨[],0⟩⟩:b9)
 else
 (jj a0 a1).bind λv1=>
 (mk 8 6 (0:Int)).bind λv2=>
 (Am 6).bind λv3=>
 (sY a2).bind λv4=>
 (yY).bind λv5=>
 some (⟨v1,v2,v3,v4,v5⟩:b9)
def P6(a0:Int)(a1:Int)(a2:Int)(a3:List (List j5)):Option (s6 × Int):=
 (fP a3).bind λv1=>
 if (!v1) then
  some ((⟨⟨⟨⟨[],0⟩,0⟩,[],[],[],⟨[],0⟩⟩,[]⟩:s6),13)
 else
 (lB a0 a1 a2).bind λv2=>
 if ((v2.Roots.length:Int)==0) then
  some ((⟨⟨⟨⟨[],0⟩,0⟩,[],[],[],⟨[],0⟩⟩,[]⟩:s6),1)
 else
 some ((⟨v2,a3⟩:s6),0)
def aV(a0:Int)(a1:Int)(a2:Int)(a3:List (List j5)):Option (a8 × Int):=
 (P6 a0 a1 a2 a3).bind λv1=>
 if (v1.2 != 0) then
  some ((⟨[],[],[],0,0,0,[],[],[],[],[]⟩:a8),v1.2)
 else
 (mk 8 a0 (0:Int)).bind λv2=>
 (mk 8 6 (0:Int)).bind λv3=>
 (Am 6).bind λv4=>
 some ((⟨[],v2,v2,a1,a2,0,v3,v4,[],[],a3⟩:a8),0)
def U6(a0:List Int):Option (j5 × Int):=
 if ((a0.length:Int) != 4) then
  some ((⟨0,0,0,0⟩:j5),14)
 else
 (ix a0 0).bind λv1=>
 (ix a0 1).bind λv2=>
 (ix a0 2).bind λv3=>
 (ix a0 3).bind λv4=>
 (W1 (⟨v1,v2,v3,v4⟩:j5)).bind λv5=>
 if (v5 != 0) then
  some ((⟨0,0,0,0⟩:j5),v5)
 else
 some ((⟨v1,v2,v3,v4⟩:j5),0)
def iw(a0:b8):Option Bool:=
 some a0.Stuck
def C5(a0:List b8):Option (List b8):=
 jn (λ(j15:List b8)=>
  some j15) (λκ14=>
  (lp (S:=Int × (List b8)) (E:=(List b8)) (λ((s17,s18):Int × (List b8))=>
   if (decide (s17<(a0.length:Int))) then
    jn (λ(j25:List b8)=>
     some (.inl (w9 (s17+1),j25))) (λκ24=>
     (ix a0 s17).bind λv26=>
     (iw v26).bind λv27=>
     if v27 then
      (app 56 s18 [v26]).bind λv28=>
      κ24 v28
     else
     κ24 s18)
   else
   some (.inr s18)) (0,[])).bind λe16=>
  κ14 e16)
def iz(a0:b8):Option Int:=
 some a0.Serial
def B6(a0:List b8):Option (List Int):=
 jn (λ(j10:List Int)=>
  some j10) (λκ9=>
  (lp (S:=Int × (List Int)) (E:=(List Int)) (λ((s12,s13):Int × (List Int))=>
   if (decide (s12<(a0.length:Int))) then
    (ix a0 s12).bind λv16=>
    (iz v16).bind λv17=>
    (app 8 s13 [v17]).bind λv18=>
    some (.inl (w9 (s12+1),v18))
   else
   some (.inr s13)) (0,[])).bind λe11=>
  κ9 e11)
def I5(a0:List b8):Option (List Int):=
 (B6 a0).bind λv1=>
 some v1
def aY(a0:Int):Option e6:=
 some (⟨[],a0⟩:e6)
def W4(a0:a8):Option k8:=
 (yY).bind λv1=>
 some (⟨a0.Tasks,v1.Cap⟩:k8)
def qj(a0:k8)(a1:Int):Option (k8 × Int):=
 some (a0,a1)
def gk(a0:k8):Option (List Int):=
 jn (λ(j10:List Int)=>
  some j10) (λκ9=>
  (qj a0 1).bind λv11=>
  (lp (S:=Int × (List Int)) (E:=(List Int)) (λ((s13,s14):Int × (List Int))=>
   if (decide (s13<(v11.1.L.length:Int))) then
    (ix v11.1.L s13).bind λv17=>
    if ((v17.Kind==v11.2)==true) then
     (app 8 s14 [v17.At]).bind λv18=>
     some (.inl (w9 (s13+1),v18))
    else
    some (.inl (w9 (s13+1),s14))
   else
   some (.inr s14)) (0,[])).bind λe12=>
  κ9 e12)
def F7(a0:List (List Int)):Option (List Int):=
 jn (λ(j11:Int)=>
  jn (λ(_:Unit)=>
   if (decide ((w9 (j11-(w9 (0-0)))) > 0)) then
    (mk 8 (w9 (j11-(w9 (0-0)))) (0:Int)).bind λv14=>
    jn (λ(j23:List Int)=>
     some j23) (λκ22=>
     (lp (S:=Int × (List Int)) (E:=(List Int)) (λ((s25,s26):Int × (List Int))=>
      if (decide (s25<(a0.length:Int))) then
       (ix a0 s25).bind λv29=>
       (app 8 s26 v29).bind λv30=>
       some (.inl (w9 (s25+1),v30))
      else
      some (.inr s26)) (0,[])).bind λe24=>
     κ22 e24)
   else
   jn (λ(j39:List Int)=>
    some j39) (λκ38=>
    (lp (S:=Int × (List Int)) (E:=(List Int)) (λ((s41,s42):Int × (List Int))=>
     if (decide (s41<(a0.length:Int))) then
      (ix a0 s41).bind λv45=>
      (app 8 s42 v45).bind λv46=>
      some (.inl (w9 (s41+1),v46))
     else
     some (.inr s42)) (0,[])).bind λe40=>
    κ38 e40)) (λκ12=>
   if (decide (j11<0)) then
    none
   else
   κ12 ())) (λκ10=>
  (lp (S:=Int × Int) (E:=Int) (λ((s48,s49):Int × Int)=>
   if (decide (s49<(a0.length:Int))) then
    jn (λ(j54:Int)=>
     some (.inl (j54,w9 (s49+1)))) (λκ53=>
     (ix a0 s49).bind λv55=>
     if (decide ((w9 (s48+(v55.length:Int)))<0)) then
      none
     else
     κ53 (w9 (s48+(v55.length:Int))))
   else
   some (.inr s48)) (0,0)).bind λe47=>
  κ10 e47)
def H5(a0:e6):Option Int:=
 some (a0.L.length:Int)
def T3(a0:List Int)(a1:Int)(a2:Int):Option (List Int):=
 (cut a0 a1 a2).bind λv1=>
 some v1
def D6(a0:e6)(a1:Int):Option (e6 × Int):=
 (H5 a0).bind λv1=>
 if (decide (v1>=a0.Cap)) then
  some (a0,4)
 else
 (T3 a0.L 0 v1).bind λv2=>
 (app 8 v2 [a1]).bind λv3=>
 some ((⟨v3,a0.Cap⟩:e6),0)
def iC(a0:e6)(a1:Int):Option (e6 × (List Int)):=
 (H5 a0).bind λv1=>
 (T3 a0.L 0 (if (if v1<a1 then v1 else a1) > 0 then (if v1<a1 then v1 else a1) else 0)).bind λv2=>
 (T3 a0.L (if (if v1<a1 then v1 else a1) > 0 then (if v1<a1 then v1 else a1) else 0) v1).bind λv3=>
 some ((⟨v3,a0.Cap⟩:e6),v2)
def W5(a0:e6):Option (e6 × Int × Int):=
 (iC a0 1).bind λv1=>
 if ((v1.2.length:Int)==0) then
  some (a0,0,10)
 else
 (ix v1.2 0).bind λv2=>
 some (v1.1,v2,0)
def fe(a0:b8)(a1:Int):Option Bool:=
 some (a0.Serial==a1)
def y9(a0:List b8)(a1:Int):Option Int:=
 jn (λ(_:Unit)=>
  some (-1)) (λκ6=>
  (lp (S:=Int) (E:=Int ⊕ Unit) (λ(s9:Int)=>
   if (decide (s9<(a0.length:Int))) then
    (ix a0 s9).bind λv11=>
    (fe v11 a1).bind λv12=>
    if v12 then
     some (.inr (.inl s9))
    else
    some (.inl (w9 (s9+1)))
   else
   some (.inr (.inr ()))) 0).bind λe8=>
  match e8 with
  | .inl w=>some w
  | .inr w=>κ6 w)
def J0(a0:a8)(a1:Int):Option Int:=
 (y9 a0.Nodes a1).bind λv1=>
 some v1
def cp(a0:k7)(a1:Int):Option Bool:=
 some (a0.Key==a1)
def C3(a0:List k7)(a1:Int):Option (List k7):=
 jn (λ(j15:List k7)=>
  some j15) (λκ14=>
  (lp (S:=Int × (List k7)) (E:=(List k7)) (λ((s17,s18):Int × (List k7))=>
   if (decide (s17<(a0.length:Int))) then
    jn (λ(j25:List k7)=>
     some (.inl (w9 (s17+1),j25))) (λκ24=>
     (ix a0 s17).bind λv26=>
     (cp v26 a1).bind λv27=>
     if v27 then
      (app 16 s18 [v26]).bind λv28=>
      κ24 v28
     else
     κ24 s18)
   else
   some (.inr s18)) (0,[])).bind λe16=>
  κ14 e16)
def fW(a0:k7):Option Int:=
 some a0.Val
def E1(a0:List k7):Option (List Int):=
 jn (λ(j10:List Int)=>
  some j10) (λκ9=>
  (lp (S:=Int × (List Int)) (E:=(List Int)) (λ((s12,s13):Int × (List Int))=>
   if (decide (s12<(a0.length:Int))) then
    (ix a0 s12).bind λv16=>
    (fW v16).bind λv17=>
    (app 8 s13 [v17]).bind λv18=>
    some (.inl (w9 (s12+1),v18))
   else
   some (.inr s13)) (0,[])).bind λe11=>
  κ9 e11)
def O7(a0:a8)(a1:Int):Option (List Int):=
 (C3 a0.Pairs a1).bind λv1=>
 (E1 v1).bind λv2=>
 some v2
def gE(a0:a8):Option (List (Int × Bool)):=
 (C5 a0.Nodes).bind λv1=>
 (I5 v1).bind λv2=>
 (aY (a0.Nodes.length:Int)).bind λv3=>
 (W4 a0).bind λv4=>
 (gk v4).bind λv5=>
 (F7 [a0.Roots,v5,v2]).bind λv6=>
 jn (λ((j22,j23):e6 × (List (Int × Bool)))=>
  jn (λ(j100:List (Int × Bool))=>
   some j100) (λκ99=>
   (lp (S:=e6 × (List (Int × Bool))) (E:=(List (Int × Bool))) (λ((s102,s103):e6 × (List (Int × Bool)))=>
    (H5 s102).bind λv106=>
    if (decide (v106 > 0)) then
     (W5 s102).bind λv107=>
     (J0 a0 v107.2.1).bind λv108=>
     (ix a0.Nodes v108).bind λv109=>
     jn (λ((j125,j126):e6 × (List (Int × Bool)))=>
      (O7 a0 v107.2.1).bind λv128=>
      jn (λ((j144,j145):e6 × (List (Int × Bool)))=>
       some (.inl (j144,j145))) (λκ143=>
       (lp (S:=Int × e6 × (List (Int × Bool))) (E:=(e6 × (List (Int × Bool)))) (λ((s148,s149,s150):Int × e6 × (List (Int × Bool)))=>
        if (decide (s148<(v128.length:Int))) then
         jn (λ((j156,j157):e6 × (List (Int × Bool)))=>
          some (.inl (w9 (s148+1),j156,j157))) (λκ155=>
          (ix v128 s148).bind λv159=>
          if (!((z8 s150 v159).getD (false:Bool))) then
           (D6 s149 v159).bind λv160=>
           κ155 (v160.1,(p8 s150 v159 true))
          else
          κ155 (s149,s150))
        else
        some (.inr (s149,s150))) (0,j125,j126)).bind λe147=>
       κ143 e147)) (λκ124=>
      (lp (S:=Int × e6 × (List (Int × Bool))) (E:=(e6 × (List (Int × Bool)))) (λ((s162,s163,s164):Int × e6 × (List (Int × Bool)))=>
       if (decide (s162<(v109.Fields.length:Int))) then
        jn (λ((j170,j171):e6 × (List (Int × Bool)))=>
         some (.inl (w9 (s162+1),j170,j171))) (λκ169=>
         (ix v109.Fields s162).bind λv173=>
         if (!((z8 s164 v173).getD (false:Bool))) then
          (D6 s163 v173).bind λv174=>
          κ169 (v174.1,(p8 s164 v173 true))
         else
         κ169 (s163,s164))
       else
       some (.inr (s163,s164))) (0,v107.1,s103)).bind λe161=>
      κ124 e161)
    else
    some (.inr s103)) (j22,j23)).bind λe101=>
   κ99 e101)) (λκ21=>
  (lp (S:=Int × e6 × (List (Int × Bool))) (E:=(e6 × (List (Int × Bool)))) (λ((s176,s177,s178):Int × e6 × (List (Int × Bool)))=>
   if (decide (s176<(v6.length:Int))) then
    jn (λ((j184,j185):e6 × (List (Int × Bool)))=>
     some (.inl (w9 (s176+1),j184,j185))) (λκ183=>
     (ix v6 s176).bind λv187=>
     if (!((z8 s178 v187).getD (false:Bool))) then
      (D6 s177 v187).bind λv188=>
      κ183 (v188.1,(p8 s178 v187 true))
     else
     κ183 (s177,s178))
   else
   some (.inr (s177,s178))) (0,v3,(p8 [] 0 true))).bind λe175=>
  κ21 e175)
def bx(a0:b8)(a1:List (Int × Bool)):Option Bool:=
 some (a0.Alive&&(!((z8 a1 a0.Serial).getD (false:Bool))))
def B9(a0:List b8)(a1:List (Int × Bool)):Option (List b8):=
 jn (λ(j15:List b8)=>
  some j15) (λκ14=>
  (lp (S:=Int × (List b8)) (E:=(List b8)) (λ((s17,s18):Int × (List b8))=>
   if (decide (s17<(a0.length:Int))) then
    jn (λ(j25:List b8)=>
     some (.inl (w9 (s17+1),j25))) (λκ24=>
     (ix a0 s17).bind λv26=>
     (bx v26 a1).bind λv27=>
     if v27 then
      (app 56 s18 [v26]).bind λv28=>
      κ24 v28
     else
     κ24 s18)
   else
   some (.inr s18)) (0,[])).bind λe16=>
  κ14 e16)
def da(a0:b8):Option Bool:=
 some ((decide (a0.Prog>=0))&&(!a0.Started))
def D3(a0:List b8):Option (List b8):=
 jn (λ(j15:List b8)=>
  some j15) (λκ14=>
  (lp (S:=Int × (List b8)) (E:=(List b8)) (λ((s17,s18):Int × (List b8))=>
   if (decide (s17<(a0.length:Int))) then
    jn (λ(j25:List b8)=>
     some (.inl (w9 (s17+1),j25))) (λκ24=>
     (ix a0 s17).bind λv26=>
     (da v26).bind λv27=>
     if v27 then
      (app 56 s18 [v26]).bind λv28=>
      κ24 v28
     else
     κ24 s18)
   else
   some (.inr s18)) (0,[])).bind λe16=>
  κ14 e16)
def kz(a0:a8):Option a8:=
 some a0
def iv(a0:k7):Option Int:=
 some a0.Val
def B5(a0:List k7):Option (List Int):=
 jn (λ(j10:List Int)=>
  some j10) (λκ9=>
  (lp (S:=Int × (List Int)) (E:=(List Int)) (λ((s12,s13):Int × (List Int))=>
   if (decide (s12<(a0.length:Int))) then
    (ix a0 s12).bind λv16=>
    (iv v16).bind λv17=>
    (app 8 s13 [v17]).bind λv18=>
    some (.inl (w9 (s12+1),v18))
   else
   some (.inr s13)) (0,[])).bind λe11=>
  κ9 e11)
def kV(a0:b8):Option Bool:=
 some a0.Alive
def B0(a0:List b8):Option (List b8):=
 jn (λ(j15:List b8)=>
  some j15) (λκ14=>
  (lp (S:=Int × (List b8)) (E:=(List b8)) (λ((s17,s18):Int × (List b8))=>
   if (decide (s17<(a0.length:Int))) then
    jn (λ(j25:List b8)=>
     some (.inl (w9 (s17+1),j25))) (λκ24=>
     (ix a0 s17).bind λv26=>
     (kV v26).bind λv27=>
     if v27 then
      (app 56 s18 [v26]).bind λv28=>
      κ24 v28
     else
     κ24 s18)
   else
   some (.inr s18)) (0,[])).bind λe16=>
  κ14 e16)
def dT(a0:a8)(a1:Int):Option Int:=
 jn (λ(j33:Int)=>
  some j33) (λκ32=>
  (kz a0).bind λv34=>
  (B5 v34.Pairs).bind λv35=>
  (W4 v34).bind λv36=>
  (gk v36).bind λv37=>
  jn (λ(j47:List (List Int))=>
   (F7 j47).bind λv48=>
   (lp (S:=Int × Int) (E:=Int) (λ((s50,s51):Int × Int)=>
    if (decide (s50<(v48.length:Int))) then
     (ix v48 s50).bind λv54=>
     jn (λ(j56:Int)=>
      some (.inl (w9 (s50+1),j56))) (λκ55=>
      if ((a1 != 0)&&(v54==a1)) then
       κ55 (w9 (s51+1))
      else
      κ55 s51)
    else
    some (.inr s51)) (0,0)).bind λe49=>
   κ32 e49) (λκ46=>
   (B0 v34.Nodes).bind λv57=>
   (lp (S:=Int × (List (List Int))) (E:=(List (List Int))) (λ((s59,s60):Int × (List (List Int)))=>
    if (decide (s59<(v57.length:Int))) then
     (ix v57 s59).bind λv63=>
     (app 24 s60 [v63.Fields]).bind λv64=>
     some (.inl (w9 (s59+1),v64))
    else
    some (.inr s60)) (0,[v34.Roots,v35,v37])).bind λe58=>
   κ46 e58))
def r7(a0:List b8):Option (List b8):=
 app 56 [] a0
def mY(a0:b8):Option b8:=
 some (⟨a0.Serial,a0.Slot,a0.Prog,a0.Started,a0.Alive,true,a0.Fields⟩:b8)
def Q9(a0:a8)(a1:Int):Option a8:=
 (J0 a0 a1).bind λv1=>
 (r7 a0.Nodes).bind λv2=>
 (ix v2 v1).bind λv3=>
 (mY v3).bind λv4=>
 some (⟨(v2.set (v1).toNat v4),a0.Slots,a0.Gens,a0.Last,a0.Places,a0.Serial,a0.Roots,a0.b7,a0.Pairs,a0.Tasks,a0.Progs⟩:a8)
def dH(a0:a8)(a1:Int):Option a8:=
 (dT a0 a1).bind λv1=>
 if (decide (v1<11)) then
  some a0
 else
 (Q9 a0 a1).bind λv2=>
 some v2
def iA(a0:b8):Option b8:=
 some (⟨a0.Serial,a0.Slot,a0.Prog,true,a0.Alive,a0.Stuck,a0.Fields⟩:b8)
def M8(a0:a8)(a1:Int):Option a8:=
 (J0 a0 a1).bind λv1=>
 (r7 a0.Nodes).bind λv2=>
 (ix v2 v1).bind λv3=>
 (iA v3).bind λv4=>
 some (⟨(v2.set (v1).toNat v4),a0.Slots,a0.Gens,a0.Last,a0.Places,a0.Serial,a0.Roots,a0.b7,a0.Pairs,a0.Tasks,a0.Progs⟩:a8)
def G3(a0:List g7):Option (List g7):=
 app 24 [] a0
def aX(a0:a8)(a1:Int):Option a8:=
 (dH a0 a1).bind λv1=>
 (J0 v1 a1).bind λv2=>
 (ix v1.Nodes v2).bind λv3=>
 (M8 v1 a1).bind λv4=>
 (G3 v4.Tasks).bind λv5=>
 (app 24 v5 [(⟨1,a1,v3.Prog⟩:g7)]).bind λv6=>
 some (⟨v4.Nodes,v4.Slots,v4.Gens,v4.Last,v4.Places,v4.Serial,v4.Roots,v4.b7,v4.Pairs,v6,v4.Progs⟩:a8)
def H0(a0:List Int)(a1:Int):Option Int:=
 jn (λ(_:Unit)=>
  some (-1)) (λκ5=>
  (lp (S:=Int) (E:=Int ⊕ Unit) (λ(s8:Int)=>
   if (decide (s8<(a0.length:Int))) then
    (ix a0 s8).bind λv10=>
    if (a1==v10) then
     some (.inr (.inl s8))
    else
    some (.inl (w9 (s8+1)))
   else
   some (.inr (.inr ()))) 0).bind λe7=>
  match e7 with
  | .inl w=>some w
  | .inr w=>κ5 w)
def E4(a0:List Int)(a1:Int):Option Bool:=
 (H0 a0 a1).bind λv1=>
 some (decide (v1>=0))
def cC(a0:k9)(a1:List Int):Option Bool:=
 (D4 ((a0.Intact&&(a0.Target != 0))==true) false (E4 a1 a0.Target)).bind λv1=>
 some ((a0.Intact&&(a0.Target != 0))&&v1)
def M2(a0:List k9)(a1:List Int):Option (List Int):=
 jn (λ(j15:List Int)=>
  some j15) (λκ14=>
  (lp (S:=Int × (List Int)) (E:=(List Int)) (λ((s17,s18):Int × (List Int))=>
   if (decide (s17<(a0.length:Int))) then
    jn (λ(j25:List Int)=>
     some (.inl (w9 (s17+1),j25))) (λκ24=>
     (ix a0 s17).bind λv26=>
     (cC v26 a1).bind λv27=>
     if v27 then
      (app 8 s18 [s17]).bind λv28=>
      κ24 v28
     else
     κ24 s18)
   else
   some (.inr s18)) (0,[])).bind λe16=>
  κ14 e16)
def bT(a0:List k9):Option (List k9):=
 (mk 24 (a0.length:Int) (⟨0,false,0⟩:k9)).bind λv1=>
 (wX v1 a0).bind λv2=>
 some v2
def gp(a0:List k9)(a1:List Int):Option ((List k9) × (List Int)):=
 (M2 a0 a1).bind λv1=>
 (bT a0).bind λv2=>
 jn (λ((j22,j23):(List Int) × (List k9))=>
  some (j23,j22)) (λκ21=>
  (lp (S:=Int × (List k9) × (List Int)) (E:=((List Int) × (List k9))) (λ((s26,s27,s28):Int × (List k9) × (List Int))=>
   if (decide (s26<(v1.length:Int))) then
    jn (λ((j36,j37):(List Int) × (List k9))=>
     some (.inl (w9 (s26+1),j37,j36))) (λκ35=>
     (ix v1 s26).bind λv39=>
     (ix s27 v39).bind λv40=>
     (ix (s27.set (v39).toNat (⟨v40.Target,false,v40.Call⟩:k9)) v39).bind λv41=>
     if (decide (v41.Call>=0)) then
      (app 8 s28 [v39]).bind λv42=>
      κ35 (v42,(s27.set (v39).toNat (⟨v40.Target,false,v40.Call⟩:k9)))
     else
     κ35 (s28,(s27.set (v39).toNat (⟨v40.Target,false,v40.Call⟩:k9))))
   else
   some (.inr (s28,s27))) (0,v2,[])).bind λe25=>
  κ21 e25)
def eX(a0:Int)(a1:List k9):Option g7:=
 (ix a1 a0).bind λv1=>
 some (⟨2,a0,v1.Call⟩:g7)
def B8(a0:List Int)(a1:List k9):Option (List g7):=
 jn (λ(j10:List g7)=>
  some j10) (λκ9=>
  (lp (S:=Int × (List g7)) (E:=(List g7)) (λ((s12,s13):Int × (List g7))=>
   if (decide (s12<(a0.length:Int))) then
    (ix a0 s12).bind λv16=>
    (eX v16 a1).bind λv17=>
    (app 24 s13 [v17]).bind λv18=>
    some (.inl (w9 (s12+1),v18))
   else
   some (.inr s13)) (0,[])).bind λe11=>
  κ9 e11)
def F4(a0:List (List g7)):Option (List g7):=
 jn (λ(j11:Int)=>
  jn (λ(_:Unit)=>
   if (decide ((w9 (j11-(w9 (0-0)))) > 0)) then
    (mk 24 (w9 (j11-(w9 (0-0)))) (⟨0,0,0⟩:g7)).bind λv14=>
    jn (λ(j23:List g7)=>
     some j23) (λκ22=>
     (lp (S:=Int × (List g7)) (E:=(List g7)) (λ((s25,s26):Int × (List g7))=>
      if (decide (s25<(a0.length:Int))) then
       (ix a0 s25).bind λv29=>
       (app 24 s26 v29).bind λv30=>
       some (.inl (w9 (s25+1),v30))
      else
      some (.inr s26)) (0,[])).bind λe24=>
     κ22 e24)
   else
   jn (λ(j39:List g7)=>
    some j39) (λκ38=>
    (lp (S:=Int × (List g7)) (E:=(List g7)) (λ((s41,s42):Int × (List g7))=>
     if (decide (s41<(a0.length:Int))) then
      (ix a0 s41).bind λv45=>
      (app 24 s42 v45).bind λv46=>
      some (.inl (w9 (s41+1),v46))
     else
     some (.inr s42)) (0,[])).bind λe40=>
    κ38 e40)) (λκ12=>
   if (decide (j11<0)) then
    none
   else
   κ12 ())) (λκ10=>
  (lp (S:=Int × Int) (E:=Int) (λ((s48,s49):Int × Int)=>
   if (decide (s49<(a0.length:Int))) then
    jn (λ(j54:Int)=>
     some (.inl (j54,w9 (s49+1)))) (λκ53=>
     (ix a0 s49).bind λv55=>
     if (decide ((w9 (s48+(v55.length:Int)))<0)) then
      none
     else
     κ53 (w9 (s48+(v55.length:Int))))
   else
   some (.inr s48)) (0,0)).bind λe47=>
  κ10 e47)
def eY(a0:k7)(a1:List Int):Option Bool:=
 (E4 a1 a0.Key).bind λv1=>
 some (!v1)
def C9(a0:List k7)(a1:List Int):Option (List k7):=
 jn (λ(j15:List k7)=>
  some j15) (λκ14=>
  (lp (S:=Int × (List k7)) (E:=(List k7)) (λ((s17,s18):Int × (List k7))=>
   if (decide (s17<(a0.length:Int))) then
    jn (λ(j25:List k7)=>
     some (.inl (w9 (s17+1),j25))) (λκ24=>
     (ix a0 s17).bind λv26=>
     (eY v26 a1).bind λv27=>
     if v27 then
      (app 16 s18 [v26]).bind λv28=>
      κ24 v28
     else
     κ24 s18)
   else
   some (.inr s18)) (0,[])).bind λe16=>
  κ14 e16)
def jD(a0:b8):Option b8:=
 some (⟨a0.Serial,a0.Slot,a0.Prog,a0.Started,false,a0.Stuck,[]⟩:b8)
def C7(a0:a8)(a1:Int):Option a8:=
 (J0 a0 a1).bind λv1=>
 (r7 a0.Nodes).bind λv2=>
 (ix v2 v1).bind λv3=>
 (jD v3).bind λv4=>
 some (⟨(v2.set (v1).toNat v4),a0.Slots,a0.Gens,a0.Last,a0.Places,a0.Serial,a0.Roots,a0.b7,a0.Pairs,a0.Tasks,a0.Progs⟩:a8)
def gI(a0:k9)(a1:Int):Option Bool:=
 some ((a1 != 0)&&(a0.Target==a1))
def T6(a0:List k9)(a1:Int):Option (List Int):=
 jn (λ(j15:List Int)=>
  some j15) (λκ14=>
  (lp (S:=Int × (List Int)) (E:=(List Int)) (λ((s17,s18):Int × (List Int))=>
   if (decide (s17<(a0.length:Int))) then
    jn (λ(j25:List Int)=>
     some (.inl (w9 (s17+1),j25))) (λκ24=>
     (ix a0 s17).bind λv26=>
     (gI v26 a1).bind λv27=>
     if v27 then
      (app 8 s18 [s17]).bind λv28=>
      κ24 v28
     else
     κ24 s18)
   else
   some (.inr s18)) (0,[])).bind λe16=>
  κ14 e16)
def dZ(a0:List k9)(a1:Int):Option Int:=
 (T6 a0 a1).bind λv1=>
 some (v1.length:Int)
def ck(a0:b8)(a1:Int):Option Bool:=
 some (a0.Serial != a1)
def C4(a0:List b8)(a1:Int):Option (List b8):=
 jn (λ(j15:List b8)=>
  some j15) (λκ14=>
  (lp (S:=Int × (List b8)) (E:=(List b8)) (λ((s17,s18):Int × (List b8))=>
   if (decide (s17<(a0.length:Int))) then
    jn (λ(j25:List b8)=>
     some (.inl (w9 (s17+1),j25))) (λκ24=>
     (ix a0 s17).bind λv26=>
     (ck v26 a1).bind λv27=>
     if v27 then
      (app 56 s18 [v26]).bind λv28=>
      κ24 v28
     else
     κ24 s18)
   else
   some (.inr s18)) (0,[])).bind λe16=>
  κ14 e16)
def y7(a0:List Int):Option (List Int):=
 app 8 [] a0
def O6(a0:a8)(a1:Int):Option a8:=
 (J0 a0 a1).bind λv1=>
 (D4 ((decide (v1<0))==false) (⟨0,0,0,false,false,false,[]⟩:b8) (ix a0.Nodes v1)).bind λv2=>
 (D4 (((decide (v1<0))||v2.Alive)==false) 0 (dZ a0.b7 a1)).bind λv3=>
 if (((decide (v1<0))||v2.Alive)||(decide (v3 > 0))) then
  some a0
 else
 (ix a0.Nodes v1).bind λv4=>
 (C4 a0.Nodes a1).bind λv5=>
 (y7 a0.Slots).bind λv6=>
 (y7 a0.Gens).bind λv7=>
 (ix v7 v4.Slot).bind λv8=>
 if (v8==a0.Last) then
  (ix v6 v4.Slot).bind λv9=>
  some (⟨v5,(v6.set (v4.Slot).toNat (-1)),v7,a0.Last,a0.Places,a0.Serial,a0.Roots,a0.b7,a0.Pairs,a0.Tasks,a0.Progs⟩:a8)
 else
 (ix v6 v4.Slot).bind λv10=>
 some (⟨v5,(v6.set (v4.Slot).toNat 0),(v7.set (v4.Slot).toNat (w9 (v8+1))),a0.Last,a0.Places,a0.Serial,a0.Roots,a0.b7,a0.Pairs,a0.Tasks,a0.Progs⟩:a8)
def eW(a0:a8)(a1:List Int):Option a8:=
 (gp a0.b7 a1).bind λv1=>
 (B8 v1.2 v1.1).bind λv2=>
 (F4 [a0.Tasks,v2]).bind λv3=>
 (C9 a0.Pairs a1).bind λv4=>
 jn (λ(j14:a8)=>
  some j14) (λκ13=>
  (lp (S:=Int × a8) (E:=a8) (λ((s16,s17):Int × a8)=>
   if (decide (s16<(a1.length:Int))) then
    (ix a1 s16).bind λv20=>
    (C7 s17 v20).bind λv21=>
    (O6 v21 v20).bind λv22=>
    some (.inl (w9 (s16+1),v22))
   else
   some (.inr s17)) (0,(⟨a0.Nodes,a0.Slots,a0.Gens,a0.Last,a0.Places,a0.Serial,a0.Roots,v1.1,v4,v3,a0.Progs⟩:a8))).bind λe15=>
  κ13 e15)
def aP(a0:b8)(a1:a8):Option Bool:=
 (D4 ((a0.Alive&&(!a0.Stuck))==true) 0 (dT a1 a0.Serial)).bind λv1=>
 some ((a0.Alive&&(!a0.Stuck))&&(v1==0))
def x4(a0:List b8)(a1:a8):Option Int:=
 jn (λ(_:Unit)=>
  some (-1)) (λκ6=>
  (lp (S:=Int) (E:=Int ⊕ Unit) (λ(s9:Int)=>
   if (decide (s9<(a0.length:Int))) then
    (ix a0 s9).bind λv11=>
    (aP v11 a1).bind λv12=>
    if v12 then
     some (.inr (.inl s9))
    else
    some (.inl (w9 (s9+1)))
   else
   some (.inr (.inr ()))) 0).bind λe8=>
  match e8 with
  | .inl w=>some w
  | .inr w=>κ6 w)
def H4(a0:a8):Option a8:=
 (lp (S:=a8) (E:=a8) (λ(s2:a8)=>
  (x4 s2.Nodes s2).bind λv4=>
  if (decide (v4<0)) then
   some (.inr s2)
  else
  (ix s2.Nodes v4).bind λv5=>
  (da v5).bind λv6=>
  if v6 then
   (aX s2 v5.Serial).bind λv7=>
   some (.inl v7)
  else
  (eW s2 [v5.Serial]).bind λv8=>
  some (.inl v8)) a0).bind λe1=>
 some e1
def ai(a0:a8):Option (List Int):=
 (B0 a0.Nodes).bind λv1=>
 (I5 v1).bind λv2=>
 some v2
def dq(a0:a8):Option (a8 × g9):=
 (gE a0).bind λv1=>
 (B9 a0.Nodes v1).bind λv2=>
 (D3 v2).bind λv3=>
 (I5 v3).bind λv4=>
 jn (λ(j13:a8)=>
  if (decide ((v4.length:Int) > 0)) then
   some (j13,(⟨w9 (0-(v4.length:Int)),0⟩:g9))
  else
  (I5 v2).bind λv14=>
  (eW j13 v14).bind λv15=>
  (H4 v15).bind λv16=>
  (ai j13).bind λv17=>
  (ai v16).bind λv18=>
  some (v16,(⟨w9 ((v17.length:Int)-(v18.length:Int)),0⟩:g9))) (λκ12=>
  (lp (S:=Int × a8) (E:=a8) (λ((s20,s21):Int × a8)=>
   if (decide (s20<(v4.length:Int))) then
    (ix v4 s20).bind λv24=>
    (aX s21 v24).bind λv25=>
    some (.inl (w9 (s20+1),v25))
   else
   some (.inr s21)) (0,a0)).bind λe19=>
  κ12 e19)
def dy(a0:List (List j5))(a1:Int):Option (List j5):=
 if ((decide (a1<0))||(decide (a1>=(a0.length:Int)))) then
  some []
 else
 (ix a0 a1).bind λv1=>
 some v1
def bF(a0:List (List j5))(a1:g7):Option Int:=
 (dy a0 a1.Prog).bind λv1=>
 some (w9 (1+(v1.length:Int)))
def V1(a0:a8)(a1:Int)(a2:Int):Option a8:=
 (dH a0 a2).bind λv1=>
 (y7 v1.Roots).bind λv2=>
 (ix v2 a1).bind λv3=>
 some (⟨v1.Nodes,v1.Slots,v1.Gens,v1.Last,v1.Places,v1.Serial,(v2.set (a1).toNat a2),v1.b7,v1.Pairs,v1.Tasks,v1.Progs⟩:a8)
def L5(a0:k8):Option Int:=
 some (a0.L.length:Int)
def G8(a0:List g7)(a1:Int)(a2:Int):Option (List g7):=
 (cut a0 a1 a2).bind λv1=>
 some v1
def bo(a0:k8)(a1:Int):Option (k8 × (List g7)):=
 (L5 a0).bind λv1=>
 (G8 a0.L 0 (if (if v1<a1 then v1 else a1) > 0 then (if v1<a1 then v1 else a1) else 0)).bind λv2=>
 (G8 a0.L (if (if v1<a1 then v1 else a1) > 0 then (if v1<a1 then v1 else a1) else 0) v1).bind λv3=>
 some ((⟨v3,a0.Cap⟩:k8),v2)
def cP(a0:k8):Option (k8 × g7 × Int):=
 (bo a0 1).bind λv1=>
 if ((v1.2.length:Int)==0) then
  some (a0,(⟨0,0,0⟩:g7),10)
 else
 (ix v1.2 0).bind λv2=>
 some (v1.1,v2,0)
def ba(a0:k8):Option (k8 × g7 × Int):=
 (cP a0).bind λv1=>
 some (v1.1,v1.2.1,v1.2.2)
def T2(a0:a8)(a1:Int):Option Int:=
 if (decide (a1<0)) then
  some 0
 else
 (ix a0.Roots a1).bind λv1=>
 some v1
def O0(a0:a8)(a1:Int):Option (b8 × Int):=
 (T2 a0 a1).bind λv1=>
 if (v1==0) then
  some ((⟨0,0,0,false,false,false,[]⟩:b8),2)
 else
 (J0 a0 v1).bind λv2=>
 (ix a0.Nodes v2).bind λv3=>
 some (v3,0)
def gH(a0:List Int)(a1:Int):Option Bool:=
 some ((decide (a1>=0))&&(decide (a1<(a0.length:Int))))
def mf(a0:List Int)(a1:Int)(a2:Int):Option ((List Int) × Int):=
 (gH a0 a1).bind λv1=>
 if (!v1) then
  some (a0,5)
 else
 (mk 8 (a0.length:Int) (0:Int)).bind λv2=>
 (wX v2 a0).bind λv3=>
 (ix v3 a1).bind λv4=>
 some ((v3.set (a1).toNat a2),0)
def fg(a0:b8)(a1:List Int):Option b8:=
 some (⟨a0.Serial,a0.Slot,a0.Prog,a0.Started,a0.Alive,a0.Stuck,a1⟩:b8)
def O5(a0:a8)(a1:Int)(a2:List Int):Option a8:=
 (J0 a0 a1).bind λv1=>
 (r7 a0.Nodes).bind λv2=>
 (ix v2 v1).bind λv3=>
 (fg v3 a2).bind λv4=>
 some (⟨(v2.set (v1).toNat v4),a0.Slots,a0.Gens,a0.Last,a0.Places,a0.Serial,a0.Roots,a0.b7,a0.Pairs,a0.Tasks,a0.Progs⟩:a8)
def iR(a0:a8)(a1:Int)(a2:j5):Option (a8 × Int):=
 (O0 a0 a2.A).bind λv1=>
 if (v1.2 != 0) then
  some (a0,v1.2)
 else
 (mf v1.1.Fields a2.B a1).bind λv2=>
 if (v2.2 != 0) then
  some (a0,v2.2)
 else
 (dH a0 a1).bind λv3=>
 (O5 v3 v1.1.Serial v2.1).bind λv4=>
 some (v4,0)
def J7(a0:a8)(a1:Int)(a2:j5):Option (a8 × g9):=
 (iR a0 a1 a2).bind λv1=>
 if (v1.2 != 0) then
  some (a0,(⟨0,v1.2⟩:g9))
 else
 (H4 v1.1).bind λv2=>
 some (v2,(⟨a1,0⟩:g9))
def aG(a0:k8)(a1:Int):Option Bool:=
 jn (λ(_:Unit)=>
  some false) (λκ6=>
  (qj a0 2).bind λv8=>
  (lp (S:=Int) (E:=Bool ⊕ Unit) (λ(s10:Int)=>
   if (decide (s10<(v8.1.L.length:Int))) then
    (ix v8.1.L s10).bind λv12=>
    if ((v12.Kind==v8.2)==true) then
     if (v12.At==a1) then
      some (.inr (.inl true))
     else
     some (.inl (w9 (s10+1)))
    else
    some (.inl (w9 (s10+1)))
   else
   some (.inr (.inr ()))) 0).bind λe9=>
  match e9 with
  | .inl w=>some w
  | .inr w=>κ6 w)
def jP(a0:List k9)(a1:Int):Option Bool:=
 some ((decide (a1>=0))&&(decide (a1<(a0.length:Int))))
def jO(a0:List k9)(a1:Int)(a2:Int)(a3:Int):Option ((List k9) × Int × Int):=
 (jP a0 a1).bind λv1=>
 if (!v1) then
  some (a0,0,7)
 else
 (bT a0).bind λv2=>
 (ix v2 a1).bind λv3=>
 (ix a0 a1).bind λv4=>
 some ((v2.set (a1).toNat (⟨a2,(a2 != 0),a3⟩:k9)),v4.Target,0)
def fh(a0:a8)(a1:Int)(a2:j5):Option (a8 × Int):=
 if ((decide (a2.B>=0))&&(a1==0)) then
  some (a0,2)
 else
 (W4 a0).bind λv1=>
 (aG v1 a2.A).bind λv2=>
 if v2 then
  some (a0,7)
 else
 (jO a0.b7 a2.A a1 a2.C).bind λv3=>
 if (v3.2.2 != 0) then
  some (a0,v3.2.2)
 else
 (O6 (⟨a0.Nodes,a0.Slots,a0.Gens,a0.Last,a0.Places,a0.Serial,a0.Roots,v3.1,a0.Pairs,a0.Tasks,a0.Progs⟩:a8) v3.2.1).bind λv4=>
 some (v4,0)
def I2(a0:a8)(a1:Int)(a2:j5):Option (a8 × g9):=
 (fh a0 a1 a2).bind λv1=>
 if (v1.2 != 0) then
  some (a0,(⟨0,v1.2⟩:g9))
 else
 (H4 v1.1).bind λv2=>
 some (v2,(⟨a1,0⟩:g9))
def ff(a0:k7)(a1:b8):Option Bool:=
 some (a0.Key != a1.Serial)
def D0(a0:List k7)(a1:b8):Option (List k7):=
 jn (λ(j15:List k7)=>
  some j15) (λκ14=>
  (lp (S:=Int × (List k7)) (E:=(List k7)) (λ((s17,s18):Int × (List k7))=>
   if (decide (s17<(a0.length:Int))) then
    jn (λ(j25:List k7)=>
     some (.inl (w9 (s17+1),j25))) (λκ24=>
     (ix a0 s17).bind λv26=>
     (ff v26 a1).bind λv27=>
     if v27 then
      (app 16 s18 [v26]).bind λv28=>
      κ24 v28
     else
     κ24 s18)
   else
   some (.inr s18)) (0,[])).bind λe16=>
  κ14 e16)
def iQ(a0:a8)(a1:Int)(a2:j5):Option (a8 × Int):=
 (O0 a0 a2.A).bind λv1=>
 if (v1.2 != 0) then
  some (a0,v1.2)
 else
 (D0 a0.Pairs v1.1).bind λv2=>
 if (a1==0) then
  some ((⟨a0.Nodes,a0.Slots,a0.Gens,a0.Last,a0.Places,a0.Serial,a0.Roots,a0.b7,v2,a0.Tasks,a0.Progs⟩:a8),0)
 else
 if (decide ((v2.length:Int)>=a0.Places)) then
  some (a0,8)
 else
 (dH a0 a1).bind λv3=>
 (app 16 v2 [(⟨v1.1.Serial,a1⟩:k7)]).bind λv4=>
 some ((⟨v3.Nodes,v3.Slots,v3.Gens,v3.Last,v3.Places,v3.Serial,v3.Roots,v3.b7,v4,v3.Tasks,v3.Progs⟩:a8),0)
def J6(a0:a8)(a1:Int)(a2:j5):Option (a8 × g9):=
 (iQ a0 a1 a2).bind λv1=>
 if (v1.2 != 0) then
  some (a0,(⟨0,v1.2⟩:g9))
 else
 (H4 v1.1).bind λv2=>
 some (v2,(⟨a1,0⟩:g9))
def qn(a0:Int):Option ((List Int) × Int):=
 if ((decide (a0<0))||(decide (a0 > 4))) then
  some ([],1)
 else
 (mk 8 a0 (0:Int)).bind λv1=>
 some (v1,0)
def aB(a0:a8)(a1:Int)(a2:Int):Option (a8 × g9):=
 (V1 a0 a1 a2).bind λv1=>
 (H4 v1).bind λv2=>
 (ix v2.Roots a1).bind λv3=>
 some (v2,(⟨v3,0⟩:g9))
def cZ(a0:a8)(a1:j5):Option (a8 × g9):=
 (qn a1.B).bind λv1=>
 if (v1.2 != 0) then
  some (a0,(⟨0,v1.2⟩:g9))
 else
 (H0 a0.Slots 0).bind λv2=>
 if (decide (v2<0)) then
  some (a0,(⟨0,4⟩:g9))
 else
 (y7 a0.Slots).bind λv3=>
 (ix v3 v2).bind λv4=>
 (r7 a0.Nodes).bind λv5=>
 (app 56 v5 [(⟨w9 (a0.Serial+1),v2,a1.C,false,true,false,v1.1⟩:b8)]).bind λv6=>
 (aB (⟨v6,(v3.set (v2).toNat (w9 (a0.Serial+1))),a0.Gens,a0.Last,a0.Places,w9 (a0.Serial+1),a0.Roots,a0.b7,a0.Pairs,a0.Tasks,a0.Progs⟩:a8) a1.A (w9 (a0.Serial+1))).bind λv7=>
 some (v7.1,v7.2)
def iE(a0:List Int)(a1:Int):Option (Int × Int):=
 (gH a0 a1).bind λv1=>
 if (!v1) then
  some (0,5)
 else
 (ix a0 a1).bind λv2=>
 some (v2,0)
def cD(a0:List k9)(a1:Int):Option (Int × Int):=
 (jP a0 a1).bind λv1=>
 if (!v1) then
  some (0,7)
 else
 (ix a0 a1).bind λv2=>
 if ((v2.Target==0)||(!v2.Intact)) then
  some (0,9)
 else
 some (v2.Target,0)
def bJ(a0:a8)(a1:j5):Option (Int × Int):=
 if (a1.Kind==2) then
  (ix a0.Roots a1.B).bind λv1=>
  some (v1,0)
 else
 if (a1.Kind==4) then
  (O0 a0 a1.B).bind λv2=>
  if (v2.2 != 0) then
   some (0,v2.2)
  else
  (iE v2.1.Fields a1.C).bind λv3=>
  some (v3.1,v3.2)
 else
 if (a1.Kind==7) then
  (cD a0.b7 a1.B).bind λv4=>
  some (v4.1,v4.2)
 else
 if (a1.Kind==9) then
  (O0 a0 a1.B).bind λv5=>
  if (v5.2 != 0) then
   some (0,v5.2)
  else
  (O7 a0 v5.1.Serial).bind λv6=>
  if (decide ((v6.length:Int) > 0)) then
   (ix v6 0).bind λv7=>
   some (v7,0)
  else
  some (0,9)
 else
 some (0,0)
def bK(a0:a8)(a1:j5):Option (a8 × g9):=
 if (a1.Kind==10) then
  (ix a0.Roots a1.A).bind λv1=>
  (ix a0.Roots a1.B).bind λv2=>
  if (v1==v2) then
   some (a0,(⟨1,0⟩:g9))
  else
  some (a0,(⟨0,0⟩:g9))
 else
 if (a1.Kind==5) then
  (T2 a0 a1.C).bind λv3=>
  (J7 a0 v3 a1).bind λv4=>
  some (v4.1,v4.2)
 else
 if (a1.Kind==6) then
  (T2 a0 a1.B).bind λv5=>
  (I2 a0 v5 a1).bind λv6=>
  some (v6.1,v6.2)
 else
 if (a1.Kind==8) then
  (T2 a0 a1.B).bind λv7=>
  (J6 a0 v7 a1).bind λv8=>
  some (v8.1,v8.2)
 else
 if (a1.Kind==1) then
  (cZ a0 a1).bind λv9=>
  some (v9.1,v9.2)
 else
 (bJ a0 a1).bind λv10=>
 if (v10.2 != 0) then
  some (a0,(⟨0,v10.2⟩:g9))
 else
 (aB a0 a1.A v10.1).bind λv11=>
 some (v11.1,v11.2)
def jc(a0:a8)(a1:List j5):Option a8:=
 jn (λ(j9:a8)=>
  some j9) (λκ8=>
  (lp (S:=Int × a8) (E:=a8) (λ((s11,s12):Int × a8)=>
   if (decide (s11<(a1.length:Int))) then
    (ix a1 s11).bind λv15=>
    (bK s12 v15).bind λv16=>
    some (.inl (w9 (s11+1),v16.1))
   else
   some (.inr s12)) (0,a0)).bind λe10=>
  κ8 e10)
def dc(a0:a8)(a1:g7):Option a8:=
 jn (λ(j3:a8)=>
  (W4 j3).bind λv4=>
  (ba v4).bind λv5=>
  jn (λ(j8:a8)=>
   (dy j8.Progs a1.Prog).bind λv9=>
   (jc j8 v9).bind λv10=>
   if (a1.Kind==1) then
    (V1 v10 5 0).bind λv11=>
    (H4 v11).bind λv12=>
    some v12
   else
   some v10) (λκ7=>
   if (a1.Kind==1) then
    (H4 (⟨j3.Nodes,j3.Slots,j3.Gens,j3.Last,j3.Places,j3.Serial,j3.Roots,j3.b7,j3.Pairs,v5.1.L,j3.Progs⟩:a8)).bind λv13=>
    κ7 v13
   else
   κ7 (⟨j3.Nodes,j3.Slots,j3.Gens,j3.Last,j3.Places,j3.Serial,j3.Roots,j3.b7,j3.Pairs,v5.1.L,j3.Progs⟩:a8))) (λκ2=>
  if (a1.Kind==1) then
   (V1 a0 5 a1.At).bind λv14=>
   κ2 v14
  else
  κ2 a0)
def gD(a0:a8)(a1:Int):Option (a8 × g9):=
 jn (λ((j11,j12):Int × a8)=>
  some (j12,(⟨j11,0⟩:g9))) (λκ10=>
  (lp (S:=Int × Int × a8) (E:=(a8 × g9) ⊕ (Int × a8)) (λ((s15,s16,s17):Int × Int × a8)=>
   if (decide ((s17.Tasks.length:Int) > 0)) then
    (ix s17.Tasks 0).bind λv20=>
    (bF s17.Progs v20).bind λv21=>
    if (decide (v21 > s15)) then
     some (.inr (.inl (s17,(⟨s16,12⟩:g9))))
    else
    (dc s17 v20).bind λv22=>
    some (.inl (w9 (s15-v21),w9 (s16+1),v22))
   else
   some (.inr (.inr (s16,s17)))) (a1,0,a0)).bind λe14=>
  match e14 with
  | .inl w=>some w
  | .inr w=>κ10 w)
def pb(a0:a8)(a1:List Int):Option (a8 × g9):=
 (U6 a1).bind λv1=>
 if (v1.2 != 0) then
  some (a0,(⟨0,v1.2⟩:g9))
 else
 if (v1.1.Kind==11) then
  (dq a0).bind λv2=>
  some (v2.1,v2.2)
 else
 if (v1.1.Kind==12) then
  (gD a0 v1.1.A).bind λv3=>
  some (v3.1,v3.2)
 else
 (bK a0 v1.1).bind λv4=>
 some (v4.1,v4.2)
def aW(a0:a8)(a1:List (List Int)):Option (a8 × (List g9)):=
 jn (λ((j11,j12):a8 × (List g9))=>
  some (j11,j12)) (λκ10=>
  (lp (S:=Int × a8 × (List g9)) (E:=(a8 × (List g9))) (λ((s15,s16,s17):Int × a8 × (List g9))=>
   if (decide (s15<(a1.length:Int))) then
    (ix a1 s15).bind λv20=>
    (pb s16 v20).bind λv21=>
    (app 16 s17 [v21.2]).bind λv22=>
    some (.inl (w9 (s15+1),v21.1,v22))
   else
   some (.inr (s16,s17))) (0,a0,[])).bind λe14=>
  κ10 e14)
def mM(a0:j5):Option OJ:=
 if (a0.Kind==11) then
  some (⟨166,[]⟩:OJ)
 else
 if (a0.Kind==12) then
  some (⟨170,[a0.A]⟩:OJ)
 else
 some (⟨162,[a0.Kind,a0.A,a0.B,a0.C]⟩:OJ)
def gA:Option (List (Int × Fv)):=
 some (p8 (p8 (p8 (p8 (p8 (p8 (p8 (p8 (p8 (p8 [] 1 (some 203)) 2 (some 204)) 3 (some 205)) 4 (some 206)) 5 (some 207)) 6 (some 208)) 7 (some 209)) 8 (some 210)) 9 (some 211)) 10 (some 212))
def V7(a0:Int):Option Bool:=
 some ((decide (a0>=(-1)))&&(decide (a0<6)))
def Q4(a0:l6):Option l6:=
 some a0
def y8(a0:List c9):Option (List c9):=
 app 80 [] a0
def E3(a0:l6)(a1:Int)(a2:c9):Option l6:=
 (y8 a0.b7).bind λv1=>
 (ix v1 a1).bind λv2=>
 some (⟨(v1.set (a1).toNat a2),a0.Last⟩:l6)
def dQ(a0:Int)(a1:Int):Option Int:=
 if ((((decide (a0<0))||(decide (a0>=24)))||(decide (a1<0)))||(decide (a1 > 9))) then
  some 0
 else
 some (w9 ((w9 (1+(w9 (a0*1))))+(w9 (a1*32))))
def L6(a0:l6)(a1:n9):Option (l6 × Int × Int):=
 jn (λ(_:Unit)=>
  some (a0,0,4)) (λκ9=>
  (Q4 a0).bind λv11=>
  (lp (S:=Int) (E:=(l6 × Int × Int) ⊕ Unit) (λ(s13:Int)=>
   if (decide (s13<(v11.b7.length:Int))) then
    (ix v11.b7 s13).bind λv15=>
    if ((v15.State==0)==true) then
     (ix a0.b7 s13).bind λv16=>
     (E3 a0 s13 (⟨1,v16.Gen,a1⟩:c9)).bind λv17=>
     (dQ s13 v16.Gen).bind λv18=>
     some (.inr (.inl (v17,v18,0)))
    else
    some (.inl (w9 (s13+1)))
   else
   some (.inr (.inr ()))) 0).bind λe12=>
  match e12 with
  | .inl w=>some w
  | .inr w=>κ9 w)
def X0(a0:b6)(a1:Int)(a2:Int):Option (b6 × Int × Int):=
 (qn a1).bind λv1=>
 if (v1.2 != 0) then
  some (a0,0,v1.2)
 else
 (V7 a2).bind λv2=>
 if (!v2) then
  some (a0,0,13)
 else
 (L6 a0.S (⟨w9 (a0.Serial+1),0,0,a2,false,v1.1⟩:n9)).bind λv3=>
 if (v3.2.2 != 0) then
  some (a0,0,v3.2.2)
 else
 some ((⟨v3.1,w9 (a0.Serial+1)⟩:b6),v3.2.1,0)
def eI(a0:Int):Option (Int × Int × Bool):=
 if (decide (a0<1)) then
  some ((-1),(-1),false)
 else
 (rem (w9 (a0-1)) 32).bind λv1=>
 (quo .i64 v1 1).bind λv2=>
 (quo .i64 (w9 (a0-1)) 32).bind λv3=>
 if ((decide (v2>=24))||(decide (v3 > 9))) then
  some ((-1),(-1),false)
 else
 some (v2,v3,true)
def gP(a0:Int):Option Int:=
 (eI a0).bind λv1=>
 some v1.1
def jx(a0:Int):Option Int:=
 (eI a0).bind λv1=>
 some v1.2.1
def A1(a0:l6)(a1:Int):Option (Int × Int):=
 if (a1==0) then
  some ((-1),2)
 else
 (gP a1).bind λv1=>
 if ((decide (v1<0))||(decide (v1>=(a0.b7.length:Int)))) then
  some ((-1),3)
 else
 (ix a0.b7 v1).bind λv2=>
 (jx a1).bind λv3=>
 if ((v2.Gen != v3)||((v2.State != 1)&&(v2.State != 2))) then
  some ((-1),3)
 else
 some (v1,0)
def G9(a0:l6)(a1:Int):Option (n9 × Int):=
 (A1 a0 a1).bind λv1=>
 if (v1.2 != 0) then
  some ((⟨0,0,0,0,false,[]⟩:n9),v1.2)
 else
 (ix a0.b7 v1.1).bind λv2=>
 if (v2.State==2) then
  some ((⟨0,0,0,0,false,[]⟩:n9),3)
 else
 some (v2.Val,0)
def y5(a0:b6)(a1:Int):Option (n9 × Int):=
 (G9 a0.S a1).bind λv1=>
 some (v1.1,v1.2)
def ko(a0:b9)(a1:Int):Option Bool:=
 (y5 a0.S a1).bind λv1=>
 some (v1.2==0)
def N7(a0:b9)(a1:Int):Option Bool:=
 (D4 ((a1==0)==false) false (ko a0 a1)).bind λv1=>
 some ((a1==0)||v1)
def I1(a0:Int):Option Bool:=
 some (decide (a0>=12))
def jt(a0:Int):Option (Int × Int):=
 (I1 a0).bind λv1=>
 if v1 then
  some (12,0)
 else
 some (w9 ((if 0 > a0 then 0 else a0)+1),0)
def pQ(a0:Int):Option Int:=
 (jt a0).bind λv1=>
 some v1.1
def aF(a0:l6)(a1:Int)(a2:n9):Option (l6 × Int):=
 (A1 a0 a1).bind λv1=>
 if (v1.2 != 0) then
  some (a0,v1.2)
 else
 (ix a0.b7 v1.1).bind λv2=>
 (E3 a0 v1.1 (⟨v2.State,v2.Gen,a2⟩:c9)).bind λv3=>
 some (v3,0)
def S9(a0:b6)(a1:Int)(a2:n9):Option (b6 × Int):=
 (aF a0.S a1 a2).bind λv1=>
 some ((⟨v1.1,a0.Serial⟩:b6),v1.2)
def Y7(a0:b9)(a1:Int):Option b9:=
 (y5 a0.S a1).bind λv1=>
 if (v1.2==0) then
  (pQ v1.1.Strong).bind λv2=>
  (S9 a0.S a1 (⟨v1.1.Serial,v2,v1.1.Weak,v1.1.Prog,v1.1.Started,v1.1.Fields⟩:n9)).bind λv3=>
  some (⟨v3.1,a0.Roots,a0.b7,a0.T,a0.Q⟩:b9)
 else
 some a0
def bI(a0:b9)(a1:Int):Option b9:=
 (Y7 a0 a1).bind λv1=>
 some v1
def T0(a0:K8)(a1:b9):Option b9:=
 (y7 a1.Roots).bind λv1=>
 (ix v1 a0.r).bind λv2=>
 some (⟨a1.S,(v1.set (a0.r).toNat a0.h),a1.b7,a1.T,a1.Q⟩:b9)
def fR(a0:Int):Option (Int × Int):=
 (I1 a0).bind λv1=>
 if v1 then
  some (12,0)
 else
 if (decide (a0<1)) then
  some (0,11)
 else
 some (w9 (a0-1),0)
def uF(a0:Int):Option (Int × Int):=
 (fR a0).bind λv1=>
 some (v1.1,v1.2)
def eK(a0:Int):Option Int:=
 (uF a0).bind λv1=>
 if (v1.2 != 0) then
  some a0
 else
 some v1.1
def P7(a0:b9)(a1:Int):Option b9:=
 (y5 a0.S a1).bind λv1=>
 if (v1.2==0) then
  (eK v1.1.Strong).bind λv2=>
  (S9 a0.S a1 (⟨v1.1.Serial,v2,v1.1.Weak,v1.1.Prog,v1.1.Started,v1.1.Fields⟩:n9)).bind λv3=>
  some (⟨v3.1,a0.Roots,a0.b7,a0.T,a0.Q⟩:b9)
 else
 some a0
def E2(a0:b9)(a1:Int):Option b9:=
 (P7 a0 a1).bind λv1=>
 some v1
def G5(a0:b9)(a1:Int)(a2:Int)(a3:K8):Option b9:=
 (bI a0 a2).bind λv1=>
 (T0 a3 v1).bind λv2=>
 (E2 v2 a1).bind λv3=>
 some v3
def bZ(a0:b9)(a1:Int)(a2:Int):Option (b9 × Int):=
 if ((decide (a1<0))||(decide (a1>=(a0.Roots.length:Int)))) then
  some (a0,6)
 else
 (N7 a0 a2).bind λv1=>
 if (!v1) then
  some (a0,3)
 else
 (ix a0.Roots a1).bind λv2=>
 (G5 a0 v2 a2 (⟨a1,a2⟩:K8)).bind λv3=>
 some (v3,0)
def C2(a0:r9)(a1:Int)(a2:Int):Option (b9 × Int):=
 if (a2 != 0) then
  some (a0.x,a2)
 else
 (bZ a0.x a0.o.A a1).bind λv1=>
 some (v1.1,v1.2)
def X9(a0:r9):Option (b9 × Int):=
 (X0 a0.x.S a0.o.B a0.o.C).bind λv1=>
 if (v1.2.2 != 0) then
  some (a0.x,v1.2.2)
 else
 (C2 (⟨⟨v1.1,a0.x.Roots,a0.x.b7,a0.x.T,a0.x.Q⟩,a0.o⟩:r9) v1.2.1 0).bind λv2=>
 some (v2.1,v2.2)
def N9(a0:b9)(a1:Int):Option Int:=
 if ((decide (a1<0))||(decide (a1>=(a0.Roots.length:Int)))) then
  some 0
 else
 (ix a0.Roots a1).bind λv1=>
 some v1
def L0(a0:r9):Option (b9 × Int):=
 (N9 a0.x a0.o.B).bind λv1=>
 (C2 a0 v1 0).bind λv2=>
 some (v2.1,v2.2)
def bt(a0:r9):Option (b9 × Int):=
 (C2 a0 0 0).bind λv1=>
 some (v1.1,v1.2)
def O4(a0:b9)(a1:Int):Option (Int × Int):=
 (N9 a0 a1).bind λv1=>
 if (v1==0) then
  some (0,2)
 else
 some (v1,0)
def J4(a0:b6)(a1:Int)(a2:Int):Option (Int × Int):=
 (y5 a0 a1).bind λv1=>
 if (v1.2 != 0) then
  some (0,v1.2)
 else
 (iE v1.1.Fields a2).bind λv2=>
 some (v2.1,v2.2)
def bu(a0:r9):Option (b9 × Int):=
 (O4 a0.x a0.o.B).bind λv1=>
 if (v1.2 != 0) then
  some (a0.x,v1.2)
 else
 (J4 a0.x.S v1.1 a0.o.C).bind λv2=>
 (C2 a0 v2.1 v2.2).bind λv3=>
 some (v3.1,v3.2)
def qi(a0:b6)(a1:Int)(a2:Int)(a3:Int):Option (b6 × Int):=
 (y5 a0 a1).bind λv1=>
 if (v1.2 != 0) then
  some (a0,v1.2)
 else
 (mf v1.1.Fields a2 a3).bind λv2=>
 if (v2.2 != 0) then
  some (a0,v2.2)
 else
 (S9 a0 a1 (⟨v1.1.Serial,v1.1.Strong,v1.1.Weak,v1.1.Prog,v1.1.Started,v2.1⟩:n9)).bind λv3=>
 some (v3.1,v3.2)
def cL(a0:H3)(a1:b9):Option b9:=
 (qi a1.S a0.h a0.k a0.v).bind λv1=>
 some (⟨v1.1,a1.Roots,a1.b7,a1.T,a1.Q⟩:b9)
def G0(a0:b9)(a1:Int)(a2:Int)(a3:H3):Option b9:=
 (bI a0 a2).bind λv1=>
 (cL a3 v1).bind λv2=>
 (E2 v2 a1).bind λv3=>
 some v3
def ax(a0:b9)(a1:Int)(a2:Int)(a3:Int):Option (b9 × Int):=
 (J4 a0.S a1 a2).bind λv1=>
 if (v1.2 != 0) then
  some (a0,v1.2)
 else
 (N7 a0 a3).bind λv2=>
 if (!v2) then
  some (a0,3)
 else
 (G0 a0 v1.1 a3 (⟨a1,a2,a3⟩:H3)).bind λv3=>
 some (v3,0)
def az(a0:r9):Option (b9 × Int):=
 (O4 a0.x a0.o.A).bind λv1=>
 if (v1.2 != 0) then
  some (a0.x,v1.2)
 else
 (N9 a0.x a0.o.C).bind λv2=>
 (ax a0.x v1.1 a0.o.B v2).bind λv3=>
 some (v3.1,v3.2)
def ah(a0:b9)(a1:Int)(a2:Int):Option b9:=
 (A1 a0.S.S a1).bind λv1=>
 if (v1.2==0) then
  (ix a0.S.S.b7 v1.1).bind λv2=>
  (S9 a0.S a1 (⟨v2.Val.Serial,v2.Val.Strong,w9 (v2.Val.Weak+a2),v2.Val.Prog,v2.Val.Started,v2.Val.Fields⟩:n9)).bind λv3=>
  some (⟨v3.1,a0.Roots,a0.b7,a0.T,a0.Q⟩:b9)
 else
 some a0
def Q3(a0:l6)(a1:Int):Option (l6 × Int):=
 (A1 a0 a1).bind λv1=>
 if (v1.2 != 0) then
  some (a0,v1.2)
 else
 (ix a0.b7 v1.1).bind λv2=>
 if (v2.Gen==a0.Last) then
  (E3 a0 v1.1 (⟨3,v2.Gen,⟨0,0,0,0,false,[]⟩⟩:c9)).bind λv3=>
  some (v3,0)
 else
 (E3 a0 v1.1 (⟨0,w9 (v2.Gen+1),⟨0,0,0,0,false,[]⟩⟩:c9)).bind λv4=>
 some (v4,0)
def aU(a0:b9)(a1:Int):Option b9:=
 (ah a0 a1 (-1)).bind λv1=>
 (A1 v1.S.S a1).bind λv2=>
 if (v2.2 != 0) then
  some v1
 else
 (ix v1.S.S.b7 v2.1).bind λv3=>
 if ((v3.State==2)&&(v3.Val.Weak==0)) then
  (Q3 v1.S.S a1).bind λv4=>
  some (⟨⟨v4.1,v1.S.Serial⟩,v1.Roots,v1.b7,v1.T,v1.Q⟩:b9)
 else
 some v1
def R7(a0:b9)(a1:Int)(a2:Int)(a3:Int):Option (b9 × Int):=
 (D4 (((decide (a1<0))||(decide (a1>=(a0.b7.length:Int))))==false) false (aG a0.Q a1)).bind λv1=>
 if (((decide (a1<0))||(decide (a1>=(a0.b7.length:Int))))||v1) then
  some (a0,7)
 else
 (N7 a0 a2).bind λv2=>
 if (!v2) then
  some (a0,3)
 else
 (jO a0.b7 a1 a2 a3).bind λv3=>
 (ah (⟨a0.S,a0.Roots,v3.1,a0.T,a0.Q⟩:b9) a2 1).bind λv4=>
 (aU v4 v3.2.1).bind λv5=>
 some (v5,0)
def L4(a0:r9):Option (b9 × Int):=
 if (a0.o.B==(-1)) then
  (R7 a0.x a0.o.A 0 a0.o.C).bind λv1=>
  some (v1.1,v1.2)
 else
 (O4 a0.x a0.o.B).bind λv2=>
 if (v2.2 != 0) then
  some (a0.x,v2.2)
 else
 (R7 a0.x a0.o.A v2.1 a0.o.C).bind λv3=>
 some (v3.1,v3.2)
def aN(a0:r9):Option (b9 × Int):=
 (cD a0.x.b7 a0.o.B).bind λv1=>
 (C2 a0 v1.1 v1.2).bind λv2=>
 some (v2.1,v2.2)
def jb(a0:Int)(a1:Int):Option (Int × Int):=
 some (a0,a1)
def dR(a0:Int)(a1:Int):Option Int:=
 if (decide (a0<1)) then
  some 0
 else
 (rem (w9 ((w9 (5*a1))+1)) a0).bind λv1=>
 if (decide (v1<0)) then
  some (w9 (v1+a0))
 else
 some v1
def aT(a0:List g6)(a1:Int):Option Int:=
 jn (λ(_:Unit)=>
  some (-1)) (λκ8=>
  (jb (a0.length:Int) a1).bind λv10=>
  (lp (S:=Int) (E:=Int ⊕ Unit) (λ(s12:Int)=>
   if (decide (s12<v10.1)) then
    (dR v10.1 v10.2).bind λv14=>
    (rem (w9 (v14+s12)) v10.1).bind λv15=>
    (ix a0 v15).bind λv16=>
    if (v16.State==0) then
     some (.inr (.inr ()))
    else
    if ((v16.State==1)&&(v16.Key==a1)) then
     some (.inr (.inl v15))
    else
    some (.inl (w9 (s12+1)))
   else
   some (.inr (.inr ()))) 0).bind λe11=>
  match e11 with
  | .inl w=>some w
  | .inr w=>κ8 w)
def Y6(a0:List g6)(a1:Int):Option (Int × Int):=
 (aT a0 a1).bind λv1=>
 if (decide (v1<0)) then
  some (0,9)
 else
 (ix a0 v1).bind λv2=>
 some (v2.Val,0)
def E9(a0:List g6):Option (List g6):=
 app 24 [] a0
def dS(a0:List g6)(a1:Int)(a2:g6):Option (List g6):=
 (E9 a0).bind λv1=>
 (ix v1 a1).bind λv2=>
 some (v1.set (a1).toNat a2)
def aS(a0:List g6)(a1:Int):Option ((List g6) × Int × Int):=
 (aT a0 a1).bind λv1=>
 if (decide (v1<0)) then
  some (a0,0,9)
 else
 (dS a0 v1 (⟨2,0,0⟩:g6)).bind λv2=>
 (ix a0 v1).bind λv3=>
 some (v2,v3.Val,0)
def oQ(a0:List g6)(a1:Int)(a2:Int):Option ((List g6) × Int):=
 (aT a0 a1).bind λv1=>
 if (decide (v1>=0)) then
  (dS a0 v1 (⟨1,a1,a2⟩:g6)).bind λv2=>
  some (v2,0)
 else
 jn (λ(_:Unit)=>
  some (a0,8)) (λκ11=>
  (jb (a0.length:Int) a1).bind λv13=>
  (lp (S:=Int) (E:=((List g6) × Int) ⊕ Unit) (λ(s15:Int)=>
   if (decide (s15<v13.1)) then
    (dR v13.1 v13.2).bind λv17=>
    (rem (w9 (v17+s15)) v13.1).bind λv18=>
    (ix a0 v18).bind λv19=>
    if (v19.State != 1) then
     (dS a0 v18 (⟨1,a1,a2⟩:g6)).bind λv20=>
     some (.inr (.inl (v20,0)))
    else
    some (.inl (w9 (s15+1)))
   else
   some (.inr (.inr ()))) 0).bind λe14=>
  match e14 with
  | .inl w=>some w
  | .inr w=>κ11 w)
def U3(a0:List g6)(a1:Int)(a2:Int):Option ((List g6) × Int × Int):=
 if (a1==0) then
  some (a0,0,2)
 else
 (Y6 a0 a1).bind λv1=>
 if (a2==0) then
  (aS a0 a1).bind λv2=>
  some (v2.1,v1.1,0)
 else
 (oQ a0 a1 a2).bind λv3=>
 if (v3.2 != 0) then
  some (a0,0,v3.2)
 else
 some (v3.1,v1.1,0)
def ay(a0:K7)(a1:b9):Option b9:=
 some (⟨a1.S,a1.Roots,a1.b7,a0.t,a1.Q⟩:b9)
def E0(a0:b9)(a1:Int)(a2:Int)(a3:K7):Option b9:=
 (bI a0 a2).bind λv1=>
 (ay a3 v1).bind λv2=>
 (E2 v2 a1).bind λv3=>
 some v3
def bY(a0:b9)(a1:Int)(a2:Int):Option (b9 × Int):=
 if (a1==0) then
  some (a0,2)
 else
 (N7 a0 a1).bind λv1=>
 (D4 ((!v1)==false) false (N7 a0 a2)).bind λv2=>
 if ((!v1)||(!v2)) then
  some (a0,3)
 else
 (U3 a0.T a1 a2).bind λv3=>
 if (v3.2.2 != 0) then
  some (a0,v3.2.2)
 else
 (E0 a0 v3.2.1 a2 (⟨v3.1⟩:K7)).bind λv4=>
 some (v4,0)
def bw(a0:r9):Option (b9 × Int):=
 (O4 a0.x a0.o.A).bind λv1=>
 if (v1.2 != 0) then
  some (a0.x,v1.2)
 else
 (N9 a0.x a0.o.B).bind λv2=>
 (bY a0.x v1.1 v2).bind λv3=>
 some (v3.1,v3.2)
def uH(a0:List g6)(a1:Int):Option (Int × Int):=
 (Y6 a0 a1).bind λv1=>
 some (v1.1,v1.2)
def cd(a0:r9):Option (b9 × Int):=
 (O4 a0.x a0.o.B).bind λv1=>
 if (v1.2 != 0) then
  some (a0.x,v1.2)
 else
 (uH a0.x.T v1.1).bind λv2=>
 (C2 a0 v2.1 v2.2).bind λv3=>
 some (v3.1,v3.2)
def T1(a0:r9):Option (b9 × Int):=
 some (a0.x,0)
def wY(f:Fv)(a0:r9):Option (b9 × Int):=
 if f=some 203 then X9 a0 else
 if f=some 204 then L0 a0 else
 if f=some 205 then bt a0 else
 if f=some 206 then bu a0 else
 if f=some 207 then az a0 else
 if f=some 208 then L4 a0 else
 if f=some 209 then aN a0 else
 if f=some 210 then bw a0 else
 if f=some 211 then cd a0 else
 if f=some 212 then T1 a0 else
 none
def cW(a0:Int):Option Bool:=
 some (a0 != a0)
def ic(a0:Int)(a1:Int):Option Int:=
 (cW a0).bind λv1=>
 (cW a1).bind λv2=>
 if v1 then
  if v2 then
   some 0
  else
  some (-1)
 else
 if v2 then
  some 1
 else
 if (decide (a0<a1)) then
  some (-1)
 else
 if (decide (a0 > a1)) then
  some 1
 else
 some 0
def iX(a0:Int)(a1:Int)(a2:List (Int × Int)):Option Int:=
 (ic ((z8 a2 a0).getD (0:Int)) ((z8 a2 a1).getD (0:Int))).bind λv1=>
 some v1
def F8(a0:b6):Option (List Int):=
 jn (λ((j18,j19):(List (Int × Int)) × (List Int))=>
  (vr (λp q=>iX p q j18) j19).bind λv21=>
  some v21) (λκ17=>
  (lp (S:=Int × (List (Int × Int)) × (List Int)) (E:=((List (Int × Int)) × (List Int))) (λ((s23,s24,s25):Int × (List (Int × Int)) × (List Int))=>
   if (decide (s23<(a0.S.b7.length:Int))) then
    jn (λ((j32,j33):(List (Int × Int)) × (List Int))=>
     some (.inl (w9 (s23+1),j32,j33))) (λκ31=>
     (ix a0.S.b7 s23).bind λv35=>
     if (v35.State==1) then
      (dQ s23 v35.Gen).bind λv36=>
      (app 8 s25 [v36]).bind λv37=>
      κ31 ((p8 s24 v36 v35.Val.Serial),v37)
     else
     κ31 (s24,s25))
   else
   some (.inr (s24,s25))) (0,[],[])).bind λe22=>
  κ17 e22)
def dW(a0:b9):Option (List Int):=
 jn (λ(j16:List Int)=>
  some j16) (λκ15=>
  (F8 a0.S).bind λv17=>
  (lp (S:=Int × (List Int)) (E:=(List Int)) (λ((s19,s20):Int × (List Int))=>
   if (decide (s19<(v17.length:Int))) then
    jn (λ(j27:List Int)=>
     some (.inl (w9 (s19+1),j27))) (λκ26=>
     (ix v17 s19).bind λv28=>
     (y5 a0.S v28).bind λv29=>
     if (v29.1.Strong==0) then
      (app 8 s20 [v28]).bind λv30=>
      κ26 v30
     else
     κ26 s20)
   else
   some (.inr s20)) (0,[])).bind λe18=>
  κ15 e18)
def O9(a0:n9):Option Bool:=
 some ((decide (a0.Prog>=0))&&(!a0.Started))
def V5(a0:k8)(a1:g7):Option (k8 × Int):=
 (L5 a0).bind λv1=>
 if (decide (v1>=a0.Cap)) then
  some (a0,4)
 else
 (G8 a0.L 0 v1).bind λv2=>
 (app 24 v2 [a1]).bind λv3=>
 some ((⟨v3,a0.Cap⟩:k8),0)
def pE(a0:k8)(a1:g7):Option (k8 × Int):=
 (V5 a0 a1).bind λv1=>
 some (v1.1,v1.2)
def W9(a0:b9)(a1:Int):Option b9:=
 (y5 a0.S a1).bind λv1=>
 (D4 ((v1.2 != 0)==false) false (O9 v1.1)).bind λv2=>
 if ((v1.2 != 0)||(!v2)) then
  some a0
 else
 (S9 a0.S a1 (⟨v1.1.Serial,v1.1.Strong,v1.1.Weak,v1.1.Prog,true,v1.1.Fields⟩:n9)).bind λv3=>
 (pE a0.Q (⟨1,a1,v1.1.Prog⟩:g7)).bind λv4=>
 (bI (⟨v3.1,a0.Roots,a0.b7,a0.T,v4.1⟩:b9) a1).bind λv5=>
 some v5
def Z6(a0:b9)(a1:List Int):Option (List Int):=
 jn (λ(j18:List Int)=>
  some j18) (λκ17=>
  (lp (S:=Int × (List (Int × Bool)) × (List Int)) (E:=(List Int)) (λ((s20,s21,s22):Int × (List (Int × Bool)) × (List Int))=>
   if (decide (s20<(a1.length:Int))) then
    jn (λ((j29,j30):(List Int) × (List (Int × Bool)))=>
     some (.inl (w9 (s20+1),j30,j29))) (λκ28=>
     (ix a1 s20).bind λv32=>
     (y5 a0.S v32).bind λv33=>
     if ((v33.2==0)==true) then
      if (!((z8 s21 v32).getD (false:Bool))) then
       (app 8 s22 [v32]).bind λv34=>
       κ28 (v34,(p8 s21 v32 true))
      else
      κ28 (s22,s21)
     else
     κ28 (s22,s21))
   else
   some (.inr s22)) (0,[],[])).bind λe19=>
  κ17 e19)
def fw(a0:b9)(a1:List Int):Option b9:=
 (gp a0.b7 a1).bind λv1=>
 jn (λ(j11:k8)=>
  some (⟨a0.S,a0.Roots,v1.1,a0.T,j11⟩:b9)) (λκ10=>
  (lp (S:=Int × k8) (E:=k8) (λ((s13,s14):Int × k8)=>
   if (decide (s13<(v1.2.length:Int))) then
    (ix v1.2 s13).bind λv17=>
    (ix v1.1 v17).bind λv18=>
    (pE s14 (⟨2,v17,v18.Call⟩:g7)).bind λv19=>
    some (.inl (w9 (s13+1),v19.1))
   else
   some (.inr s14)) (0,a0.Q)).bind λe12=>
  κ10 e12)
def qo(a0:List Int):Option (List Int):=
 some a0
def jk(a0:List Int):Option (List Int):=
 jn (λ(j10:List Int)=>
  some j10) (λκ9=>
  (qo a0).bind λv11=>
  (lp (S:=Int × (List Int)) (E:=(List Int)) (λ((s13,s14):Int × (List Int))=>
   if (decide (s13<(v11.length:Int))) then
    (ix v11 s13).bind λv17=>
    if ((v17 != 0)==true) then
     (app 8 s14 [v17]).bind λv18=>
     some (.inl (w9 (s13+1),v18))
    else
    some (.inl (w9 (s13+1),s14))
   else
   some (.inr s14)) (0,[])).bind λe12=>
  κ9 e12)
def aR(a0:List g6)(a1:List Int):Option ((List g6) × (List Int)):=
 jn (λ((j18,j19):(List g6) × (List Int))=>
  some (j18,j19)) (λκ17=>
  (lp (S:=(List g6) × Int × (List Int)) (E:=((List g6) × (List Int))) (λ((s22,s23,s24):(List g6) × Int × (List Int))=>
   if (decide (s23<(a1.length:Int))) then
    jn (λ((j31,j32):(List g6) × (List Int))=>
     some (.inl (j31,w9 (s23+1),j32))) (λκ30=>
     (ix a1 s23).bind λv34=>
     (aS s22 v34).bind λv35=>
     if (v35.2.2==0) then
      (app 8 s24 [v35.2.1]).bind λv36=>
      κ30 (v35.1,v36)
     else
     κ30 (s22,s24))
   else
   some (.inr (s22,s24))) (a0,0,[])).bind λe21=>
  κ17 e21)
def Y0(a0:l6)(a1:Int):Option (l6 × Int):=
 (G9 a0 a1).bind λv1=>
 if (v1.2 != 0) then
  some (a0,v1.2)
 else
 (gP a1).bind λv2=>
 (jx a1).bind λv3=>
 (E3 a0 v2 (⟨2,v3,v1.1⟩:c9)).bind λv4=>
 some (v4,0)
def aZ(a0:b9)(a1:Int):Option b9:=
 (y5 a0.S a1).bind λv1=>
 (S9 a0.S a1 (⟨v1.1.Serial,0,v1.1.Weak,v1.1.Prog,v1.1.Started,[]⟩:n9)).bind λv2=>
 (Y0 v2.1.S a1).bind λv3=>
 if (v1.1.Weak==0) then
  (Q3 v3.1 a1).bind λv4=>
  some (⟨⟨v4.1,v2.1.Serial⟩,a0.Roots,a0.b7,a0.T,a0.Q⟩:b9)
 else
 some (⟨⟨v3.1,v2.1.Serial⟩,a0.Roots,a0.b7,a0.T,a0.Q⟩:b9)
def bQ(a0:b9)(a1:List Int):Option b9:=
 (Z6 a0 a1).bind λv1=>
 (fw a0 v1).bind λv2=>
 jn (λ(j13:List Int)=>
  (aR v2.T v1).bind λv14=>
  (app 8 j13 v14.2).bind λv15=>
  jn (λ(j24:b9)=>
   jn (λ(j33:b9)=>
    some j33) (λκ32=>
    (lp (S:=Int × b9) (E:=b9) (λ((s35,s36):Int × b9)=>
     if (decide (s35<(v15.length:Int))) then
      (ix v15 s35).bind λv39=>
      (E2 s36 v39).bind λv40=>
      some (.inl (w9 (s35+1),v40))
     else
     some (.inr s36)) (0,j24)).bind λe34=>
    κ32 e34)) (λκ23=>
   (lp (S:=Int × b9) (E:=b9) (λ((s42,s43):Int × b9)=>
    if (decide (s42<(v1.length:Int))) then
     (ix v1 s42).bind λv46=>
     (aZ s43 v46).bind λv47=>
     some (.inl (w9 (s42+1),v47))
    else
    some (.inr s43)) (0,(⟨v2.S,v2.Roots,v2.b7,v14.1,v2.Q⟩:b9))).bind λe41=>
   κ23 e41)) (λκ12=>
  (lp (S:=Int × (List Int)) (E:=(List Int)) (λ((s49,s50):Int × (List Int))=>
   if (decide (s49<(v1.length:Int))) then
    (ix v1 s49).bind λv53=>
    (y5 v2.S v53).bind λv54=>
    (jk v54.1.Fields).bind λv55=>
    (app 8 s50 v55).bind λv56=>
    some (.inl (w9 (s49+1),v56))
   else
   some (.inr s50)) (0,[])).bind λe48=>
  κ12 e48)
def R5(a0:b9):Option b9:=
 (lp (S:=b9) (E:=b9) (λ(s2:b9)=>
  (dW s2).bind λv4=>
  if ((v4.length:Int)==0) then
   some (.inr s2)
  else
  (ix v4 0).bind λv5=>
  (y5 s2.S v5).bind λv6=>
  (O9 v6.1).bind λv7=>
  if v7 then
   (W9 s2 v5).bind λv8=>
   some (.inl v8)
  else
  (cut v4 0 1).bind λv9=>
  (bQ s2 v9).bind λv10=>
  some (.inl v10)) a0).bind λe1=>
 some e1
def eQ(a0:b9)(a1:Int):Option Int:=
 (y5 a0.S a1).bind λv1=>
 some v1.1.Serial
def dE(a0:b9)(a1:Int):Option Int:=
 (N9 a0 a1).bind λv1=>
 (eQ a0 v1).bind λv2=>
 some v2
def Z0(a0:b9)(a1:b9)(a2:j5):Option Int:=
 if (a2.Kind==5) then
  (dE a0 a2.C).bind λv1=>
  some v1
 else
 jn (λ(j3:Bool)=>
  if j3 then
   (dE a0 a2.B).bind λv4=>
   some v4
  else
  if (a2.Kind==10) then
   (N9 a0 a2.A).bind λv5=>
   (N9 a0 a2.B).bind λv6=>
   if (v5==v6) then
    some 1
   else
   some 0
  else
  (dE a1 a2.A).bind λv7=>
  some v7) (λκ2=>
  if (a2.Kind==6) then
   κ2 (a2.Kind==6)
  else
  κ2 (a2.Kind==8))
def u6(a0:b9)(a1:j5):Option (b9 × Int × Int):=
 (W1 a1).bind λv1=>
 if (v1 != 0) then
  some (a0,0,v1)
 else
 (gA).bind λv2=>
 if (!((z8 v2 a1.Kind).isSome)) then
  some (a0,0,14)
 else
 (wY ((z8 v2 a1.Kind).getD (none:Fv)) (⟨a0,a1⟩:r9)).bind λv3=>
 if (v3.2 != 0) then
  some (a0,0,v3.2)
 else
 (R5 v3.1).bind λv5=>
 (Z0 v3.1 v5 a1).bind λv6=>
 some (v5,v6,0)
def nk(a0:b6):Option b6:=
 some a0
def lU(a0:b6)(a1:Int):Option (List Int):=
 (y5 a0 a1).bind λv1=>
 (jk v1.1.Fields).bind λv2=>
 some v2
def xd(a0:b6)(a1:Int):Option Int:=
 jn (λ(j31:Int)=>
  some j31) (λκ30=>
  (nk a0).bind λv32=>
  (F8 v32).bind λv33=>
  (lp (S:=Int × Int) (E:=Int) (λ((s35,s36):Int × Int)=>
   if (decide (s35<(v33.length:Int))) then
    jn (λ(j50:Int)=>
     some (.inl (w9 (s35+1),j50))) (λκ49=>
     (ix v33 s35).bind λv51=>
     (lU v32 v51).bind λv52=>
     (lp (S:=Int × Int) (E:=Int) (λ((s54,s55):Int × Int)=>
      if (decide (s54<(v52.length:Int))) then
       (ix v52 s54).bind λv58=>
       jn (λ(j60:Int)=>
        some (.inl (w9 (s54+1),j60))) (λκ59=>
        if (v58==a1) then
         κ59 (w9 (s55+1))
        else
        κ59 s55)
      else
      some (.inr s55)) (0,s36)).bind λe53=>
     κ49 e53)
   else
   some (.inr s36)) (0,0)).bind λe34=>
  κ30 e34)
def dO(a0:List g6):Option (List g6):=
 some a0
def lA(a0:List g6):Option (List Int):=
 jn (λ(j13:List Int)=>
  some j13) (λκ12=>
  (lp (S:=Int × (List Int)) (E:=(List Int)) (λ((s15,s16):Int × (List Int))=>
   if (decide (s15<(a0.length:Int))) then
    jn (λ(j22:List Int)=>
     some (.inl (w9 (s15+1),j22))) (λκ21=>
     (ix a0 s15).bind λv23=>
     if (v23.State==1) then
      (app 8 s16 [v23.Key]).bind λv24=>
      κ21 v24
     else
     κ21 s16)
   else
   some (.inr s16)) (0,[])).bind λe14=>
  κ12 e14)
def gx(a0:k7)(a1:Int):Option Bool:=
 some ((a1 != 0)&&(a0.Val==a1))
def B2(a0:List g6)(a1:Int):Option (List k7):=
 jn (λ(j16:List k7)=>
  some j16) (λκ15=>
  (lA a0).bind λv17=>
  (lp (S:=Int × (List k7)) (E:=(List k7)) (λ((s19,s20):Int × (List k7))=>
   if (decide (s19<(v17.length:Int))) then
    (ix v17 s19).bind λv23=>
    (Y6 a0 v23).bind λv24=>
    jn (λ(j28:List k7)=>
     some (.inl (w9 (s19+1),j28))) (λκ27=>
     (gx (⟨v23,v24.1⟩:k7) a1).bind λv29=>
     if v29 then
      (app 16 s20 [(⟨v23,v24.1⟩:k7)]).bind λv30=>
      κ27 v30
     else
     κ27 s20)
   else
   some (.inr s20)) (0,[])).bind λe18=>
  κ15 e18)
def kh(a0:List g6)(a1:Int):Option Int:=
 (dO a0).bind λv1=>
 (B2 v1 a1).bind λv2=>
 some (v2.length:Int)
def kJ(a0:b6)(a1:List g6)(a2:Int):Option Int:=
 (xd a0 a2).bind λv1=>
 (kh a1 a2).bind λv2=>
 some (w9 (v1+v2))
def nD(a0:b6)(a1:List g6)(a2:Int):Option Int:=
 (y5 a0 a2).bind λv1=>
 if (v1.2 != 0) then
  some 0
 else
 (kJ a0 a1 a2).bind λv2=>
 some (w9 (v1.1.Strong-v2))
def oz(a0:Int):Option Bool:=
 (I1 a0).bind λv1=>
 some v1
def nC(a0:Int)(a1:n9)(a2:b6)(a3:List g6):Option Bool:=
 (nD a2 a3 a0).bind λv1=>
 (D4 ((decide (v1 > 0))==false) false (oz a1.Strong)).bind λv2=>
 some ((decide (v1 > 0))||v2)
def nB(a0:b6)(a1:List g6):Option (List Int):=
 jn (λ(j36:List Int)=>
  some j36) (λκ35=>
  jn (λ(j54:List Int)=>
   κ35 j54) (λκ53=>
   (F8 a0).bind λv55=>
   (lp (S:=Int × (List Int)) (E:=(List Int)) (λ((s57,s58):Int × (List Int))=>
    if (decide (s57<(v55.length:Int))) then
     jn (λ(j66:List Int)=>
      some (.inl (w9 (s57+1),j66))) (λκ65=>
      (ix v55 s57).bind λv67=>
      (y5 a0 v67).bind λv68=>
      (nC v67 v68.1 a0 a1).bind λv69=>
      if v69 then
       (app 8 s58 [v67]).bind λv70=>
       κ65 v70
      else
      κ65 s58)
    else
    some (.inr s58)) (0,[])).bind λe56=>
   κ53 e56))
def cu(a0:b6)(a1:Int):Option Bool:=
 (y5 a0 a1).bind λv1=>
 some (v1.2==0)
def fu(a0:b6)(a1:List Int):Option (List (Int × Bool)):=
 (F8 a0).bind λv1=>
 (aY (v1.length:Int)).bind λv2=>
 jn (λ((j20,j21):e6 × (List (Int × Bool)))=>
  jn (λ(j68:List (Int × Bool))=>
   some j68) (λκ67=>
   (lp (S:=e6 × (List (Int × Bool))) (E:=(List (Int × Bool))) (λ((s70,s71):e6 × (List (Int × Bool)))=>
    (H5 s70).bind λv74=>
    if (decide (v74 > 0)) then
     (W5 s70).bind λv75=>
     (lU a0 v75.2.1).bind λv76=>
     jn (λ((j94,j95):e6 × (List (Int × Bool)))=>
      some (.inl (j94,j95))) (λκ93=>
      (lp (S:=Int × e6 × (List (Int × Bool))) (E:=(e6 × (List (Int × Bool)))) (λ((s98,s99,s100):Int × e6 × (List (Int × Bool)))=>
       if (decide (s98<(v76.length:Int))) then
        jn (λ((j107,j108):e6 × (List (Int × Bool)))=>
         some (.inl (w9 (s98+1),j107,j108))) (λκ106=>
         (ix v76 s98).bind λv110=>
         (cu a0 v110).bind λv111=>
         if (v111==true) then
          if (!((z8 s100 v110).getD (false:Bool))) then
           (D6 s99 v110).bind λv112=>
           κ106 (v112.1,(p8 s100 v110 true))
          else
          κ106 (s99,s100)
         else
         κ106 (s99,s100))
       else
       some (.inr (s99,s100))) (0,v75.1,s71)).bind λe97=>
      κ93 e97)
    else
    some (.inr s71)) (j20,j21)).bind λe69=>
   κ67 e69)) (λκ19=>
  (lp (S:=Int × e6 × (List (Int × Bool))) (E:=(e6 × (List (Int × Bool)))) (λ((s114,s115,s116):Int × e6 × (List (Int × Bool)))=>
   if (decide (s114<(a1.length:Int))) then
    jn (λ((j123,j124):e6 × (List (Int × Bool)))=>
     some (.inl (w9 (s114+1),j123,j124))) (λκ122=>
     (ix a1 s114).bind λv126=>
     (cu a0 v126).bind λv127=>
     if (v127==true) then
      if (!((z8 s116 v126).getD (false:Bool))) then
       (D6 s115 v126).bind λv128=>
       κ122 (v128.1,(p8 s116 v126 true))
      else
      κ122 (s115,s116)
     else
     κ122 (s115,s116))
   else
   some (.inr (s115,s116))) (0,v2,[])).bind λe113=>
  κ19 e113)
def iT(a0:Int)(a1:List (Int × Bool)):Option Bool:=
 some ((z8 a1 a0).getD (false:Bool))
def W6(a0:b6)(a1:List (Int × Bool)):Option (List Int):=
 jn (λ(j16:List Int)=>
  some j16) (λκ15=>
  (F8 a0).bind λv17=>
  (lp (S:=Int × (List Int)) (E:=(List Int)) (λ((s19,s20):Int × (List Int))=>
   if (decide (s19<(v17.length:Int))) then
    jn (λ(j27:List Int)=>
     some (.inl (w9 (s19+1),j27))) (λκ26=>
     (ix v17 s19).bind λv28=>
     (iT v28 a1).bind λv29=>
     if v29 then
      (app 8 s20 [v28]).bind λv30=>
      κ26 v30
     else
     κ26 s20)
   else
   some (.inr s20)) (0,[])).bind λe18=>
  κ15 e18)
def jG(a0:b6)(a1:List Int):Option (List Int):=
 (fu a0 a1).bind λv1=>
 (W6 a0 v1).bind λv2=>
 some v2
def gy(a0:k7):Option Bool:=
 some true
def B3(a0:List g6):Option (List k7):=
 jn (λ(j16:List k7)=>
  some j16) (λκ15=>
  (lA a0).bind λv17=>
  (lp (S:=Int × (List k7)) (E:=(List k7)) (λ((s19,s20):Int × (List k7))=>
   if (decide (s19<(v17.length:Int))) then
    (ix v17 s19).bind λv23=>
    (Y6 a0 v23).bind λv24=>
    jn (λ(j28:List k7)=>
     some (.inl (w9 (s19+1),j28))) (λκ27=>
     (gy (⟨v23,v24.1⟩:k7)).bind λv29=>
     if v29 then
      (app 16 s20 [(⟨v23,v24.1⟩:k7)]).bind λv30=>
      κ27 v30
     else
     κ27 s20)
   else
   some (.inr s20)) (0,[])).bind λe18=>
  κ15 e18)
def ki(a0:List g6):Option (List k7):=
 (dO a0).bind λv1=>
 (B3 v1).bind λv2=>
 some v2
def jw(a0:Int)(a1:b6):Option Bool:=
 (y5 a1 a0).bind λv1=>
 some (v1.2==0)
def sN(a0:b6)(a1:List g6)(a2:List Int):Option (List Int):=
 jn (λ(j20:List Int)=>
  some j20) (λκ19=>
  (ki a1).bind λv21=>
  (lp (S:=Int × (List Int)) (E:=(List Int)) (λ((s23,s24):Int × (List Int))=>
   if (decide (s23<(v21.length:Int))) then
    jn (λ(j33:List Int)=>
     some (.inl (w9 (s23+1),j33))) (λκ32=>
     (ix v21 s23).bind λv34=>
     (E4 a2 v34.Key).bind λv35=>
     (D4 (v35==true) false (jw v34.Key a0)).bind λv36=>
     (D4 ((v35&&v36)==true) false (jw v34.Val a0)).bind λv37=>
     if ((v35&&v36)&&v37) then
      (app 8 s24 [v34.Val]).bind λv38=>
      κ32 v38
     else
     κ32 s24)
   else
   some (.inr s24)) (0,[])).bind λe22=>
  κ19 e22)
def pR(a0:b6)(a1:List g6)(a2:List Int):Option ((List Int) × Int):=
 (jG a0 a2).bind λv1=>
 (lp (S:=(List Int) × Int) (E:=((List Int) × Int)) (λ((s3,s4):(List Int) × Int)=>
  (sN a0 a1 s3).bind λv7=>
  jn (λ(_:Unit)=>
   some (.inr (s3,s4))) (λκ15=>
   (lp (S:=Int) (E:=((List Int) × Int) ⊕ Unit) (λ(s18:Int)=>
    if (decide (s18<(v7.length:Int))) then
     (ix v7 s18).bind λv20=>
     (E4 s3 v20).bind λv21=>
     if (!v21) then
      (app 8 v7 s3).bind λv22=>
      (jG a0 v22).bind λv23=>
      some (.inr (.inl (v23,w9 (s4+1))))
     else
     some (.inl (w9 (s18+1)))
    else
    some (.inr (.inr ()))) 0).bind λe17=>
   match e17 with
   | .inl w=>some (.inl w)
   | .inr w=>κ15 w)) (v1,0)).bind λe2=>
 some e2
def sM(a0:b6)(a1:List g6)(a2:List Int):Option (List Int):=
 (pR a0 a1 a2).bind λv1=>
 some v1.1
def iU(a0:Int)(a1:List (Int × Bool)):Option Bool:=
 some (!((z8 a1 a0).getD (false:Bool)))
def W7(a0:b6)(a1:List (Int × Bool)):Option (List Int):=
 jn (λ(j16:List Int)=>
  some j16) (λκ15=>
  (F8 a0).bind λv17=>
  (lp (S:=Int × (List Int)) (E:=(List Int)) (λ((s19,s20):Int × (List Int))=>
   if (decide (s19<(v17.length:Int))) then
    jn (λ(j27:List Int)=>
     some (.inl (w9 (s19+1),j27))) (λκ26=>
     (ix v17 s19).bind λv28=>
     (iU v28 a1).bind λv29=>
     if v29 then
      (app 8 s20 [v28]).bind λv30=>
      κ26 v30
     else
     κ26 s20)
   else
   some (.inr s20)) (0,[])).bind λe18=>
  κ15 e18)
def nj(a0:b6)(a1:List Int):Option (List Int):=
 (fu a0 a1).bind λv1=>
 (W7 a0 v1).bind λv2=>
 some v2
def oI(a0:b6)(a1:List g6)(a2:List Int):Option (List Int):=
 (sM a0 a1 a2).bind λv1=>
 (nj a0 v1).bind λv2=>
 some v2
def dg(a0:b6)(a1:List g6):Option (List Int):=
 (nB a0 a1).bind λv1=>
 (oI a0 a1 v1).bind λv2=>
 some v2
def U2(a0:b9):Option (List Int):=
 (dg a0.S a0.T).bind λv1=>
 some v1
def ig(a0:Int)(a1:b9):Option Bool:=
 (y5 a1.S a0).bind λv1=>
 some ((decide (v1.1.Prog>=0))&&(!v1.1.Started))
def J8(a0:List Int)(a1:b9):Option (List Int):=
 jn (λ(j15:List Int)=>
  some j15) (λκ14=>
  (lp (S:=Int × (List Int)) (E:=(List Int)) (λ((s17,s18):Int × (List Int))=>
   if (decide (s17<(a0.length:Int))) then
    jn (λ(j25:List Int)=>
     some (.inl (w9 (s17+1),j25))) (λκ24=>
     (ix a0 s17).bind λv26=>
     (ig v26 a1).bind λv27=>
     if v27 then
      (app 8 s18 [v26]).bind λv28=>
      κ24 v28
     else
     κ24 s18)
   else
   some (.inr s18)) (0,[])).bind λe16=>
  κ14 e16)
def gw(a0:b9):Option (List Int):=
 (U2 a0).bind λv1=>
 (J8 v1 a0).bind λv2=>
 some v2
def aK(a0:b9):Option (b9 × Int × Int):=
 (gw a0).bind λv1=>
 jn (λ(j10:b9)=>
  if (decide ((v1.length:Int) > 0)) then
   some (j10,(v1.length:Int),0)
  else
  (U2 j10).bind λv11=>
  (bQ j10 v11).bind λv12=>
  (R5 v12).bind λv13=>
  (F8 j10.S).bind λv14=>
  (F8 v13.S).bind λv15=>
  some (v13,0,w9 ((v14.length:Int)-(v15.length:Int)))) (λκ9=>
  (lp (S:=Int × b9) (E:=b9) (λ((s17,s18):Int × b9)=>
   if (decide (s17<(v1.length:Int))) then
    (ix v1 s17).bind λv21=>
    (W9 s18 v21).bind λv22=>
    some (.inl (w9 (s17+1),v22))
   else
   some (.inr s18)) (0,a0)).bind λe16=>
  κ9 e16)
def gN(a0:b9):Option Bool:=
 (ba a0.Q).bind λv1=>
 some (v1.2.2 != 0)
def gS(a0:b9)(a1:List j5):Option (b9 × (List Int)):=
 jn (λ((j11,j12):b9 × (List Int))=>
  some (j11,j12)) (λκ10=>
  (lp (S:=Int × b9 × (List Int)) (E:=(b9 × (List Int))) (λ((s15,s16,s17):Int × b9 × (List Int))=>
   if (decide (s15<(a1.length:Int))) then
    (ix a1 s15).bind λv20=>
    (u6 s16 v20).bind λv21=>
    (app 8 s17 [v21.2.1]).bind λv22=>
    some (.inl (w9 (s15+1),v21.1,v22))
   else
   some (.inr (s16,s17))) (0,a0,[])).bind λe14=>
  κ10 e14)
def mL(a0:b9)(a1:List (List j5)):Option (b9 × g7 × Int):=
 (ba a0.Q).bind λv1=>
 if (v1.2.2 != 0) then
  some (a0,(⟨0,0,0⟩:g7),v1.2.2)
 else
 jn (λ(j6:b9)=>
  (dy a1 v1.2.1.Prog).bind λv7=>
  (gS j6 v7).bind λv8=>
  if (v1.2.1.Kind==1) then
   (bZ v8.1 5 0).bind λv9=>
   (R5 v9.1).bind λv10=>
   some (v10,v1.2.1,0)
  else
  some (v8.1,v1.2.1,0)) (λκ5=>
  if (v1.2.1.Kind==1) then
   (bZ (⟨a0.S,a0.Roots,a0.b7,a0.T,v1.1⟩:b9) 5 v1.2.1.At).bind λv11=>
   (E2 v11.1 v1.2.1.At).bind λv12=>
   (R5 v12).bind λv13=>
   κ5 v13
  else
  κ5 (⟨a0.S,a0.Roots,a0.b7,a0.T,v1.1⟩:b9))
def gM(a0:b9)(a1:List (List j5))(a2:Int):Option (b9 × Int × Int × Int):=
 jn (λ((j14,j15,j16):Int × Int × b9)=>
  (gN j16).bind λv18=>
  if (!v18) then
   some (j16,j14,j15,12)
  else
  some (j16,j14,j15,0)) (λκ13=>
  (lp (S:=Int × b9 × Int × Int × b9) (E:=(Int × Int × b9)) (λ((s20,s21,s22,s23,s24):Int × b9 × Int × Int × b9)=>
   (gN s21).bind λv27=>
   if (!v27) then
    (ba s21.Q).bind λv28=>
    (bF a1 v28.2.1).bind λv29=>
    if (decide (v29 > s20)) then
     some (.inr (s22,s23,s24))
    else
    (mL s21 a1).bind λv30=>
    some (.inl (w9 (s20-v29),v30.1,w9 (s22+1),w9 (s20-v29),v30.1))
   else
   some (.inr (s22,s23,s24))) (a2,a0,0,a2,a0)).bind λe19=>
  κ13 e19)
def lu(a0:s6)(a1:List Int):Option (s6 × g9):=
 (U6 a1).bind λv1=>
 if (v1.2 != 0) then
  some (a0,(⟨0,v1.2⟩:g9))
 else
 (mM v1.1).bind λv2=>
 if (decide (v2.t=162)) then
  (u6 a0.X (⟨(FN v2 162 0),(FN v2 162 1),(FN v2 162 2),(FN v2 162 3)⟩:j5)).bind λv3=>
  some ((⟨v3.1,a0.Progs⟩:s6),(⟨v3.2.1,v3.2.2⟩:g9))
 else
 if (decide (v2.t=166)) then
  (aK a0.X).bind λv4=>
  some ((⟨v4.1,a0.Progs⟩:s6),(⟨w9 (v4.2.2-v4.2.1),0⟩:g9))
 else
 if (decide (v2.t=170)) then
  (gM a0.X a0.Progs (FN v2 170 0)).bind λv5=>
  some ((⟨v5.1,a0.Progs⟩:s6),(⟨v5.2.1,v5.2.2.2⟩:g9))
 else
 some (a0,(⟨0,0⟩:g9))
def ju(a0:s6)(a1:List (List Int)):Option (s6 × (List g9)):=
 jn (λ((j11,j12):s6 × (List g9))=>
  some (j11,j12)) (λκ10=>
  (lp (S:=Int × s6 × (List g9)) (E:=(s6 × (List g9))) (λ((s15,s16,s17):Int × s6 × (List g9))=>
   if (decide (s15<(a1.length:Int))) then
    (ix a1 s15).bind λv20=>
    (lu s16 v20).bind λv21=>
    (app 16 s17 [v21.2]).bind λv22=>
    some (.inl (w9 (s15+1),v21.1,v22))
   else
   some (.inr (s16,s17))) (0,a0,[])).bind λe14=>
  κ10 e14)
def pH(a0:List g9):Option (List z6):=
 jn (λ(j9:List z6)=>
  some j9) (λκ8=>
  (lp (S:=Int × (List z6)) (E:=(List z6)) (λ((s11,s12):Int × (List z6))=>
   if (decide (s11<(a0.length:Int))) then
    (ix a0 s11).bind λv15=>
    (app 16 s12 [(⟨v15.V,v15.E⟩:z6)]).bind λv16=>
    some (.inl (w9 (s11+1),v16))
   else
   some (.inr s12)) (0,[])).bind λe10=>
  κ8 e10)
def vL(a0:List z6)(a1:List z6):Option Bool:=
 if ((a0.length:Int) != (a1.length:Int)) then
  some false
 else
 jn (λ(_:Unit)=>
  some true) (λκ6=>
  (lp (S:=Int) (E:=Bool ⊕ Unit) (λ(s9:Int)=>
   if (decide (s9<(a0.length:Int))) then
    (ix a0 s9).bind λv11=>
    (ix a1 s9).bind λv12=>
    if (!((v11.V==v12.V)&&((v11.E==v12.E)&&true))) then
     some (.inr (.inl false))
    else
    some (.inl (w9 (s9+1)))
   else
   some (.inr (.inr ()))) 0).bind λe8=>
  match e8 with
  | .inl w=>some w
  | .inr w=>κ6 w)
def gn:Option Bool:=
 (aV 3 5 8 [[(⟨2,2,5,0⟩:j5)]]).bind λv1=>
 (P6 3 5 8 [[(⟨2,2,5,0⟩:j5)]]).bind λv2=>
 (aW v1.1 [[1,0,1,0],[5,0,0,0],[3,0,0,0],[11,0,0,0],[12,9,0,0],[3,2,0,0],[11,0,0,0],[2,9,0,0]]).bind λv3=>
 (ju v2.1 [[1,0,1,0],[5,0,0,0],[3,0,0,0],[11,0,0,0],[12,9,0,0],[3,2,0,0],[11,0,0,0],[2,9,0,0]]).bind λv4=>
 (D4 (((((v1.2==0)&&(v2.2==0))&&(decide ((v3.1.Gens.length:Int) > 0)))&&((v3.2.length:Int)==8))==true) [] (pH v3.2)).bind λv5=>
 (D4 (((((v1.2==0)&&(v2.2==0))&&(decide ((v3.1.Gens.length:Int) > 0)))&&((v3.2.length:Int)==8))==true) [] (pH v4.2)).bind λv6=>
 (D4 (((((v1.2==0)&&(v2.2==0))&&(decide ((v3.1.Gens.length:Int) > 0)))&&((v3.2.length:Int)==8))==true) false (vL v5 v6)).bind λv7=>
 (D4 ((((((v1.2==0)&&(v2.2==0))&&(decide ((v3.1.Gens.length:Int) > 0)))&&((v3.2.length:Int)==8))&&v7)==true) (⟨0,0⟩:g9) (ix v3.2 3)).bind λv8=>
 (D4 (((((((v1.2==0)&&(v2.2==0))&&(decide ((v3.1.Gens.length:Int) > 0)))&&((v3.2.length:Int)==8))&&v7)&&(v8.V==(-1)))==true) (⟨0,0⟩:g9) (ix v3.2 4)).bind λv9=>
 (D4 ((((((((v1.2==0)&&(v2.2==0))&&(decide ((v3.1.Gens.length:Int) > 0)))&&((v3.2.length:Int)==8))&&v7)&&(v8.V==(-1)))&&(v9.V==1))==true) (⟨0,0⟩:g9) (ix v3.2 6)).bind λv10=>
 (D4 (((((((((v1.2==0)&&(v2.2==0))&&(decide ((v3.1.Gens.length:Int) > 0)))&&((v3.2.length:Int)==8))&&v7)&&(v8.V==(-1)))&&(v9.V==1))&&(v10.V==1))==true) (⟨0,0⟩:g9) (ix v3.2 7)).bind λv11=>
 (D4 ((((((((((v1.2==0)&&(v2.2==0))&&(decide ((v3.1.Gens.length:Int) > 0)))&&((v3.2.length:Int)==8))&&v7)&&(v8.V==(-1)))&&(v9.V==1))&&(v10.V==1))&&(v11.E==6))==true) [] (ai v3.1)).bind λv12=>
 (D4 (((((((((((v1.2==0)&&(v2.2==0))&&(decide ((v3.1.Gens.length:Int) > 0)))&&((v3.2.length:Int)==8))&&v7)&&(v8.V==(-1)))&&(v9.V==1))&&(v10.V==1))&&(v11.E==6))&&((v12.length:Int)==0))==true) (0:Int) (ix v3.1.Gens 0)).bind λv13=>
 some (((((((((((v1.2==0)&&(v2.2==0))&&(decide ((v3.1.Gens.length:Int) > 0)))&&((v3.2.length:Int)==8))&&v7)&&(v8.V==(-1)))&&(v9.V==1))&&(v10.V==1))&&(v11.E==6))&&((v12.length:Int)==0))&&(v13==1))
def uu(a0:a8):Option Bool:=
 jn (λ(_:Unit)=>
  (D4 ((((((((decide ((a0.Nodes.length:Int)<=50))&&(decide ((a0.Pairs.length:Int)<=20)))&&(decide ((a0.Tasks.length:Int)<=100)))&&(decide ((a0.b7.length:Int)<=20)))&&(decide ((a0.Roots.length:Int)<=20)))&&(decide ((a0.Slots.length:Int)<=30)))&&(decide ((a0.Gens.length:Int)<=30)))==true) false (hZ a0.Progs)).bind λv7=>
  some ((((((((decide ((a0.Nodes.length:Int)<=50))&&(decide ((a0.Pairs.length:Int)<=20)))&&(decide ((a0.Tasks.length:Int)<=100)))&&(decide ((a0.b7.length:Int)<=20)))&&(decide ((a0.Roots.length:Int)<=20)))&&(decide ((a0.Slots.length:Int)<=30)))&&(decide ((a0.Gens.length:Int)<=30)))&&v7)) (λκ5=>
  (lp (S:=Int) (E:=Bool ⊕ Unit) (λ(s9:Int)=>
   if ((decide (s9<(a0.Nodes.length:Int)))&&(decide (s9<60))) then
    (ix a0.Nodes s9).bind λv11=>
    if (decide ((v11.Fields.length:Int) > 10)) then
     some (.inr (.inl false))
    else
    some (.inl (w9 (s9+1)))
   else
   some (.inr (.inr ()))) 0).bind λe8=>
  match e8 with
  | .inl w=>some w
  | .inr w=>κ5 w)
def pW(a0:List Int)(a1:Int):Option Int:=
 jn (λ(j11:Int)=>
  some j11) (λκ10=>
  (lp (S:=Int × Int) (E:=Int) (λ((s13,s14):Int × Int)=>
   if (decide (s14<(a0.length:Int))) then
    jn (λ(j19:Int)=>
     some (.inl (j19,w9 (s14+1)))) (λκ18=>
     (ix a0 s14).bind λv20=>
     if ((v20==a1)&&(a1 != 0)) then
      κ18 (w9 (s13+1))
     else
     κ18 s13)
   else
   some (.inr s13)) (0,0)).bind λe12=>
  κ10 e12)
def ld(a0:Int)(a1:Int)(a2:List (List j5))(a3:List (List Int))(a4:Int)(a5:Int):Option Bool:=
 (hZ a2).bind λv1=>
 (D4 ((!v1)==false) false (gm a3 60)).bind λv2=>
 (D4 (((!v1)||(!v2))==false) false gn).bind λv3=>
 if (((!v1)||(!v2))||(!v3)) then
  (gn).bind λv4=>
  some v4
 else
 (rem (w9 a0) 24).bind λv5=>
 (rem (w9 a1) 10).bind λv6=>
 (aV (w9 (1+v5)) v6 8 a2).bind λv7=>
 (P6 (w9 (1+v5)) v6 8 a2).bind λv8=>
 if ((v7.2 != v8.2)||(v7.2 != 0)) then
  some ((v7.2==v8.2)&&(v7.2==13))
 else
 (aW v7.1 a3).bind λv9=>
 (ju v8.1 a3).bind λv10=>
 (uu v9.1).bind λv11=>
 if ((!v11)||((v9.1.b7.length:Int) != 6)) then
  some false
 else
 (rem (w9 a4) 6).bind λv12=>
 (ix v9.1.b7 v12).bind λv13=>
 (rem (w9 a5) 6).bind λv14=>
 (lu v10.1 [7,v14,v12,0]).bind λv15=>
 (D4 ((v13.Target != 0)==true) [] (ai v9.1)).bind λv16=>
 (D4 ((v13.Target != 0)==true) 0 (pW v16 v13.Target)).bind λv17=>
 if (v13.Intact != ((v13.Target != 0)&&(decide (v17 > 0)))) then
  some false
 else
 if (!v13.Intact) then
  some ((v15.2.V==0)&&((v15.2.E==9)&&true))
 else
 some ((v15.2.V==v13.Target)&&((v15.2.E==0)&&true))
structure fp where
 Kind:Int
 A:Int
 B:Int
 C:Int
structure xc where
 Serial:Int
 Strong:Int
 Weak:Int
 Prog:Int
 Started:Bool
 Fields:List Int
structure lR where
 State:Int
 Gen:Int
 Val:xc
structure gY where
 Target:Int
 Intact:Bool
 Call:Int
structure I4 where
 State:Int
 Key:Int
 Val:Int
structure EY where
 Kind:Int
 At:Int
 Prog:Int
structure EX where
 State:Int
 Gen:Int
 Val:Int
structure yC where
 b7:List EX
 Last:Int
structure jg where
 b7:List lR
 Last:Int
 Serial:Int
structure pX where
 L:List EY
 Cap:Int
structure lT where
 S:jg
 Roots:List Int
 b7:List gY
 T:List I4
 Q:pX
structure ni where
 X:lT
 Progs:List (List fp)
def pY(a0:fp):Option Bool:=
 some ((decide (a0.Kind>=1))&&(decide (a0.Kind<=10)))
def dJ(a0:Int)(a1:Int)(a2:Int)(a3:Int):Option Int:=
 if ((decide (a0<a1))||(decide (a0 > a2))) then
  some a3
 else
 some 0
def cr(a0:Int)(a1:Int)(a2:Int):Option Int:=
 if (a0 != 0) then
  some a0
 else
 if (a1 != 0) then
  some a1
 else
 some a2
def gb(a0:fp):Option Int:=
 (dJ a0.A 0 5 6).bind λv1=>
 (dJ a0.B 0 5 6).bind λv2=>
 if (a0.Kind==1) then
  (dJ a0.B 0 4 1).bind λv3=>
  (dJ a0.C (-1) 5 13).bind λv4=>
  (cr v1 v3 v4).bind λv5=>
  some v5
 else
 jn (λ(j7:Bool)=>
  if j7 then
   (cr v1 v2 0).bind λv8=>
   some v8
  else
  if (a0.Kind==3) then
   some v1
  else
  if (a0.Kind==4) then
   (dJ a0.C 0 3 5).bind λv9=>
   (cr v1 v2 v9).bind λv10=>
   some v10
  else
  if (a0.Kind==5) then
   (dJ a0.B 0 3 5).bind λv11=>
   (dJ a0.C (-1) 5 6).bind λv12=>
   (cr v1 v11 v12).bind λv13=>
   some v13
  else
  if (a0.Kind==6) then
   (dJ a0.A 0 5 7).bind λv14=>
   (dJ a0.B (-1) 5 6).bind λv15=>
   (dJ a0.C (-1) 5 13).bind λv16=>
   (cr v14 v15 v16).bind λv17=>
   some v17
  else
  if (a0.Kind==7) then
   (dJ a0.B 0 5 7).bind λv18=>
   (cr v1 v18 0).bind λv19=>
   some v19
  else
  if (a0.Kind==8) then
   (dJ a0.B (-1) 5 6).bind λv20=>
   (cr v1 v20 0).bind λv21=>
   some v21
  else
  if (a0.Kind==11) then
   some 0
  else
  if (a0.Kind==12) then
   (dJ a0.A 0 200 12).bind λv22=>
   some v22
  else
  some 14) (λκ6=>
  if (a0.Kind==2) then
   κ6 (a0.Kind==2)
  else
  if (a0.Kind==9) then
   κ6 (a0.Kind==9)
  else
  κ6 (a0.Kind==10))
def pZ(a0:List (List fp)):Option Bool:=
 if (decide ((a0.length:Int) > 6)) then
  some false
 else
 jn (λ(_:Unit)=>
  some true) (λκ20=>
  (lp (S:=Int) (E:=Bool ⊕ Unit) (λ(s23:Int)=>
   if (decide (s23<(a0.length:Int))) then
    jn (λ(_:Unit)=>
     some (.inl (w9 (s23+1)))) (λκ32=>
     (ix a0 s23).bind λv34=>
     if (decide ((v34.length:Int) > 6)) then
      some (.inr (.inl false))
     else
     (lp (S:=Int) (E:=Bool ⊕ Unit) (λ(s36:Int)=>
      if (decide (s36<(v34.length:Int))) then
       (ix v34 s36).bind λv38=>
       (pY v38).bind λv39=>
       (D4 ((!v39)==false) 0 (gb v38)).bind λv40=>
       if ((!v39)||(v40 != 0)) then
        some (.inr (.inl false))
       else
       some (.inl (w9 (s36+1)))
      else
      some (.inr (.inr ()))) 0).bind λe35=>
     match e35 with
     | .inl w=>some (.inr (.inl w))
     | .inr w=>κ32 w)
   else
   some (.inr (.inr ()))) 0).bind λe22=>
  match e22 with
  | .inl w=>some w
  | .inr w=>κ20 w)
def IX(a0:Int)(a1:Int):Option yC:=
 if ((((decide (a0<0))||(decide (a0 > 24)))||(decide (a1<0)))||(decide (a1 > 9))) then
  some (⟨[],0⟩:yC)
 else
 (mk 24 a0 (⟨0,0,0⟩:EX)).bind λv1=>
 some (⟨v1,a1⟩:yC)
def Db(a0:Int)(a1:Int):Option jg:=
 (IX a0 a1).bind λv1=>
 (mk 80 (v1.b7.length:Int) (⟨0,0,⟨0,0,0,0,false,[]⟩⟩:lR)).bind λv2=>
 some (⟨v2,v1.Last,0⟩:jg)
def Rc(a0:Int):Option (List gY):=
 jn (λ(j8:List gY)=>
  some j8) (λκ7=>
  (lp (S:=Int × (List gY)) (E:=(List gY)) (λ((s10,s11):Int × (List gY))=>
   if ((decide (s10<a0))&&(decide (a0<=6))) then
    (app 24 s11 [(⟨0,false,(-1)⟩:gY)]).bind λv14=>
    some (.inl (w9 (s10+1),v14))
   else
   some (.inr s11)) (0,[])).bind λe9=>
  κ7 e9)
def IY(a0:Int):Option (List I4):=
 if ((decide (a0<1))||(decide (a0 > 8))) then
  some []
 else
 (mk 24 a0 (⟨0,0,0⟩:I4)).bind λv1=>
 some v1
def Re:Option pX:=
 some (⟨[],30⟩:pX)
def tT(a0:Int)(a1:Int)(a2:Int):Option lT:=
 if ((((((decide (a0<1))||(decide (a0 > 24)))||(decide (a1<0)))||(decide (a1 > 9)))||(decide (a2<1)))||(decide (a2 > 8))) then
  some (⟨⟨[],0,0⟩,[],[],[],⟨[],0⟩⟩:lT)
 else
 (Db a0 a1).bind λv1=>
 (mk 8 6 (0:Int)).bind λv2=>
 (Rc 6).bind λv3=>
 (IY a2).bind λv4=>
 (Re).bind λv5=>
 some (⟨v1,v2,v3,v4,v5⟩:lT)
def Dd(a0:Int)(a1:Int)(a2:Int)(a3:List (List fp)):Option (ni × Int):=
 (pZ a3).bind λv1=>
 if (!v1) then
  some ((⟨⟨⟨[],0,0⟩,[],[],[],⟨[],0⟩⟩,[]⟩:ni),13)
 else
 (tT a0 a1 a2).bind λv2=>
 if ((v2.Roots.length:Int)==0) then
  some ((⟨⟨⟨[],0,0⟩,[],[],[],⟨[],0⟩⟩,[]⟩:ni),1)
 else
 some ((⟨v2,a3⟩:ni),0)
def lS(a0:List I4)(a1:Int):Option Int:=
 jn (λ(_:Unit)=>
  some (-1)) (λκ5=>
  (lp (S:=Int) (E:=Int ⊕ Unit) (λ(s8:Int)=>
   if (decide (s8<(a0.length:Int))) then
    (ix a0 s8).bind λv10=>
    if ((v10.State==1)&&(v10.Key==a1)) then
     some (.inr (.inl s8))
    else
    some (.inl (w9 (s8+1)))
   else
   some (.inr (.inr ()))) 0).bind λe7=>
  match e7 with
  | .inl w=>some w
  | .inr w=>κ5 w)
def jF(a0:List Int):Option (fp × Int):=
 if ((a0.length:Int) != 4) then
  some ((⟨0,0,0,0⟩:fp),14)
 else
 (ix a0 0).bind λv1=>
 (ix a0 1).bind λv2=>
 (ix a0 2).bind λv3=>
 (ix a0 3).bind λv4=>
 (gb (⟨v1,v2,v3,v4⟩:fp)).bind λv5=>
 if (v5 != 0) then
  some ((⟨0,0,0,0⟩:fp),v5)
 else
 some ((⟨v1,v2,v3,v4⟩:fp),0)
def yD(a0:List I4)(a1:Int)(a2:I4):Option (List I4):=
 (app 24 [] a0).bind λv1=>
 (ix v1 a1).bind λv2=>
 some (v1.set (a1).toNat a2)
def tS(a0:List I4)(a1:Int):Option ((List I4) × Int × Int):=
 (lS a0 a1).bind λv1=>
 if (decide (v1<0)) then
  some (a0,0,9)
 else
 (yD a0 v1 (⟨2,0,0⟩:I4)).bind λv2=>
 (ix a0 v1).bind λv3=>
 some (v2,v3.Val,0)
def pg(a0:List I4)(a1:List Int):Option ((List I4) × (List Int)):=
 jn (λ((j18,j19):(List I4) × (List Int))=>
  some (j18,j19)) (λκ17=>
  (lp (S:=(List I4) × Int × (List Int)) (E:=((List I4) × (List Int))) (λ((s22,s23,s24):(List I4) × Int × (List Int))=>
   if (decide (s23<(a1.length:Int))) then
    jn (λ((j31,j32):(List I4) × (List Int))=>
     some (.inl (j31,w9 (s23+1),j32))) (λκ30=>
     (ix a1 s23).bind λv34=>
     (tS s22 v34).bind λv35=>
     if (v35.2.2==0) then
      (app 8 s24 [v35.2.1]).bind λv36=>
      κ30 (v35.1,v36)
     else
     κ30 (s22,s24))
   else
   some (.inr (s22,s24))) (a0,0,[])).bind λe21=>
  κ17 e21)
def Da(a0:List Int)(a1:Int):Option (Int × Int):=
 if ((decide (a1<0))||(decide (a1>=(a0.length:Int)))) then
  some (0,5)
 else
 (ix a0 a1).bind λv1=>
 some (v1,0)
end
end Go.Sh
