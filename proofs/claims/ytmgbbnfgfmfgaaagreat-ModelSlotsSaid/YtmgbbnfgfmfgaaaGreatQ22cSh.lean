/- A part. -/
import Derived.Test.YtmgbbnfgfmfgaaaGreatQ22cSh0
import Derived.Test.YtmgbbnfgfmfgaaaGreatQ22cPwD
import Derived.Test.YtmgbbnfgfmfgaaaGreatQ22cPwC
set_option linter.unusedVariables false
set_option linter.unusedSimpArgs false
set_option linter.unusedSectionVars false
namespace Go.Sh
set_option maxRecDepth 100000
noncomputable section
structure g7 where
 Kind:Int
 A:Int
 B:Int
 C:Int
structure b8 where
 Serial:Int
 Slot:Int
 Prog:Int
 Started:Bool
 Alive:Bool
 Stuck:Bool
 Fields:List Int
structure k7 where
 Target:Int
 Intact:Bool
 Call:Int
structure g8 where
 Key:Int
 Val:Int
structure g5 where
 Kind:Int
 At:Int
 Prog:Int
structure n7 where
 Serial:Int
 Strong:Int
 Weak:Int
 Prog:Int
 Started:Bool
 Fields:List Int
structure c8 where
 State:Int
 Gen:Int
 Val:n7
structure e6 where
 State:Int
 Key:Int
 Val:Int
structure l5 where
 part:Fv
 least:Int
 most:Int
 e:Int
structure l4 where
 b7:List c8
 Last:Int
structure b6 where
 S:l4
 Serial:Int
structure j5 where
 L:List g5
 Cap:Int
structure b9 where
 S:b6
 Roots:List Int
 b7:List k7
 T:List e6
 Q:j5
structure r8 where
 X:b9
 Progs:List (List g7)
structure a8 where
 Nodes:List b8
 Slots:List Int
 Gens:List Int
 Last:Int
 Places:Int
 Serial:Int
 Roots:List Int
 b7:List k7
 Pairs:List g8
 Tasks:List g5
 Progs:List (List g7)
structure g9 where
 V:Int
 E:Int
structure c9 where
 L:List Int
 Cap:Int
structure r7 where
 x:b9
 o:g7
structure K8 where
 r:Int
 h:Int
structure H0 where
 h:Int
 k:Int
 v:Int
structure K7 where
 t:List e6
structure y8 where
 V:Int
 E:Int
def ia(a0:List (List g7)):Option Bool:=
 jn (λ(_:Unit)=>
  some (decide ((a0.length:Int)<=10))) (λκ5=>
  (lp (S:=Int) (E:=Bool ⊕ Unit) (λ(s8:Int)=>
   if ((decide (s8<(a0.length:Int)))&&(decide (s8<10))) then
    (ix a0 s8).bind λv10=>
    if (decide ((v10.length:Int) > 10)) then
     some (.inr (.inl false))
    else
    some (.inl (u7 (s8+1)))
   else
   some (.inr (.inr ()))) 0).bind λe7=>
  match e7 with
  | .inl w=>some w
  | .inr w=>κ5 w)
def gp(a0:List (List Int))(a1:Int):Option Bool:=
 jn (λ(_:Unit)=>
  some (decide ((a0.length:Int)<=a1))) (λκ5=>
  (lp (S:=Int) (E:=Bool ⊕ Unit) (λ(s8:Int)=>
   if ((decide (s8<(a0.length:Int)))&&(decide (s8<200))) then
    (ix a0 s8).bind λv10=>
    if (decide ((v10.length:Int) > 10)) then
     some (.inr (.inl false))
    else
    some (.inl (u7 (s8+1)))
   else
   some (.inr (.inr ()))) 0).bind λe7=>
  match e7 with
  | .inl w=>some w
  | .inr w=>κ5 w)
def fR(a0:g7):Option Bool:=
 some ((decide (a0.Kind>=1))&&(decide (a0.Kind<=10)))
def bj:Option l5:=
 some (⟨(some 251),0,5,6⟩:l5)
def W2:Option l5:=
 some (⟨(some 254),(-1),5,13⟩:l5)
def L9(a0:List l5):Option (List l5):=
 some a0
def bk:Option l5:=
 some (⟨(some 252),0,5,6⟩:l5)
def aq:Option l5:=
 some (⟨(some 254),0,3,5⟩:l5)
def ao:Option l5:=
 some (⟨(some 252),0,3,5⟩:l5)
def Q5:Option l5:=
 some (⟨(some 254),(-1),5,6⟩:l5)
def bg:Option l5:=
 some (⟨(some 251),0,5,7⟩:l5)
def Q4:Option l5:=
 some (⟨(some 252),(-1),5,6⟩:l5)
def bh:Option l5:=
 some (⟨(some 252),0,5,7⟩:l5)
def mL:Option (List (Int × (List l5))):=
 (bj).bind λv1=>
 (W2).bind λv2=>
 (L9 [v1,(⟨(some 252),0,4,1⟩:l5),v2]).bind λv3=>
 (bk).bind λv4=>
 (L9 [v1,v4]).bind λv5=>
 (L9 [v1]).bind λv6=>
 (aq).bind λv7=>
 (L9 [v1,v4,v7]).bind λv8=>
 (ao).bind λv9=>
 (Q5).bind λv10=>
 (L9 [v1,v9,v10]).bind λv11=>
 (bg).bind λv12=>
 (Q4).bind λv13=>
 (L9 [v12,v13,v2]).bind λv14=>
 (bh).bind λv15=>
 (L9 [v1,v15]).bind λv16=>
 (L9 [v1,v13]).bind λv17=>
 (L9 []).bind λv18=>
 (L9 [(⟨(some 251),0,200,12⟩:l5)]).bind λv19=>
 some (o7 (o7 (o7 (o7 (o7 (o7 (o7 (o7 (o7 (o7 (o7 (o7 [] 1 v3) 2 v5) 3 v6) 4 v8) 5 v11) 6 v14) 7 v16) 8 v17) 9 v5) 10 v5) 11 v18) 12 v19)
def re(a0:g7):Option Int:=
 some a0.A
def rh(a0:g7):Option Int:=
 some a0.B
def rj(a0:g7):Option Int:=
 some a0.C
def sN(f:Fv)(a0:g7):Option Int:=
 if f=some 251 then re a0 else
 if f=some 252 then rh a0 else
 if f=some 254 then rj a0 else
 none
def W1(a0:g7):Option Int:=
 (mL).bind λv1=>
 if (!((y9 v1 a0.Kind).isSome)) then
  some 14
 else
 jn (λ(_:Unit)=>
  some 0) (λκ8=>
  (lp (S:=Int) (E:=Int ⊕ Unit) (λ(s11:Int)=>
   if (decide (s11<(((y9 v1 a0.Kind).getD ([]:List l5)).length:Int))) then
    (ix ((y9 v1 a0.Kind).getD ([]:List l5)) s11).bind λv13=>
    (sN v13.part a0).bind λv14=>
    if ((decide (v14<v13.least))||(decide (v14 > v13.most))) then
     some (.inr (.inl v13.e))
    else
    some (.inl (u7 (s11+1)))
   else
   some (.inr (.inr ()))) 0).bind λe10=>
  match e10 with
  | .inl w=>some w
  | .inr w=>κ8 w)
def fS(a0:List (List g7)):Option Bool:=
 if (decide ((a0.length:Int) > 6)) then
  some false
 else
 jn (λ(_:Unit)=>
  some true) (λκ20=>
  (lp (S:=Int) (E:=Bool ⊕ Unit) (λ(s23:Int)=>
   if (decide (s23<(a0.length:Int))) then
    jn (λ(_:Unit)=>
     some (.inl (u7 (s23+1)))) (λκ32=>
     (ix a0 s23).bind λv34=>
     if (decide ((v34.length:Int) > 6)) then
      some (.inr (.inl false))
     else
     (lp (S:=Int) (E:=Bool ⊕ Unit) (λ(s36:Int)=>
      if (decide (s36<(v34.length:Int))) then
       (ix v34 s36).bind λv38=>
       (fR v38).bind λv39=>
       (C7 ((!v39)==false) 0 (W1 v38)).bind λv40=>
       if ((!v39)||(v40 != 0)) then
        some (.inr (.inl false))
       else
       some (.inl (u7 (s36+1)))
      else
      some (.inr (.inr ()))) 0).bind λe35=>
     match e35 with
     | .inl w=>some (.inr (.inl w))
     | .inr w=>κ32 w)
   else
   some (.inr (.inr ()))) 0).bind λe22=>
  match e22 with
  | .inl w=>some w
  | .inr w=>κ20 w)
def aB(a0:Int)(a1:Int):Option l4:=
 if ((((decide (a0<0))||(decide (a0 > 24)))||(decide (a1<0)))||(decide (a1 > 9))) then
  some (⟨[],0⟩:l4)
 else
 (mk 80 a0 (⟨0,0,⟨0,0,0,0,false,[]⟩⟩:c8)).bind λv1=>
 some (⟨v1,a1⟩:l4)
def jm(a0:Int)(a1:Int):Option b6:=
 (aB a0 a1).bind λv1=>
 some (⟨v1,0⟩:b6)
def Ak(a0:Int):Option (List k7):=
 if ((decide (a0<0))||(decide (a0 > 6))) then
  some []
 else
 (mk 24 a0 (⟨0,false,0⟩:k7)).bind λv1=>
 jn (λ(j9:List k7)=>
  some j9) (λκ8=>
  (lp (S:=Int × (List k7)) (E:=(List k7)) (λ((s11,s12):Int × (List k7))=>
   if (decide (s11<(v1.length:Int))) then
    (ix s12 s11).bind λv15=>
    some (.inl (u7 (s11+1),(s12.set (s11).toNat (⟨v15.Target,v15.Intact,(-1)⟩:k7))))
   else
   some (.inr s12)) (0,v1)).bind λe10=>
  κ8 e10)
def sU(a0:Int):Option (List e6):=
 if ((decide (a0<1))||(decide (a0 > 8))) then
  some []
 else
 (mk 24 a0 (⟨0,0,0⟩:e6)).bind λv1=>
 some v1
def cL(a0:Int):Option j5:=
 some (⟨[],a0⟩:j5)
def yX:Option j5:=
 (cL 30).bind λv1=>
 some v1
def lD(a0:Int)(a1:Int)(a2:Int):Option b9:=
 if ((((((decide (a0<1))||(decide (a0 > 24)))||(decide (a1<0)))||(decide (a1 > 9)))||(decide (a2<1)))||(decide (a2 > 8))) then
  some (⟨⟨⟨[],0⟩,0⟩,[],[],[],⟨[],0⟩⟩:b9)
 else
 (jm a0 a1).bind λv1=>
 (mk 8 6 (0:Int)).bind λv2=>
 (Ak 6).bind λv3=>
 (sU a2).bind λv4=>
 (yX).bind λv5=>
 some (⟨v1,v2,v3,v4,v5⟩:b9)
def R8(a0:Int)(a1:Int)(a2:Int)(a3:List (List g7)):Option (r8 × Int):=
 (fS a3).bind λv1=>
 if (!v1) then
  some ((⟨⟨⟨⟨[],0⟩,0⟩,[],[],[],⟨[],0⟩⟩,[]⟩:r8),13)
 else
 (lD a0 a1 a2).bind λv2=>
 if ((v2.Roots.length:Int)==0) then
  some ((⟨⟨⟨⟨[],0⟩,0⟩,[],[],[],⟨[],0⟩⟩,[]⟩:r8),1)
 else
 some ((⟨v2,a3⟩:r8),0)
def aS(a0:Int)(a1:Int)(a2:Int)(a3:List (List g7)):Option (a8 × Int):=
 (R8 a0 a1 a2 a3).bind λv1=>
 if (v1.2 != 0) then
  some ((⟨[],[],[],0,0,0,[],[],[],[],[]⟩:a8),v1.2)
 else
 (mk 8 a0 (0:Int)).bind λv2=>
 (mk 8 6 (0:Int)).bind λv3=>
 (Ak 6).bind λv4=>
 some ((⟨[],v2,v2,a1,a2,0,v3,v4,[],[],a3⟩:a8),0)
def U6(a0:List Int):Option (g7 × Int):=
 if ((a0.length:Int) != 4) then
  some ((⟨0,0,0,0⟩:g7),14)
 else
 (ix a0 0).bind λv1=>
 (ix a0 1).bind λv2=>
 (ix a0 2).bind λv3=>
 (ix a0 3).bind λv4=>
 (W1 (⟨v1,v2,v3,v4⟩:g7)).bind λv5=>
 if (v5 != 0) then
  some ((⟨0,0,0,0⟩:g7),v5)
 else
 some ((⟨v1,v2,v3,v4⟩:g7),0)
def iy(a0:b8):Option Bool:=
 some a0.Stuck
def C4(a0:List b8):Option (List b8):=
 jn (λ(j15:List b8)=>
  some j15) (λκ14=>
  (lp (S:=Int × (List b8)) (E:=(List b8)) (λ((s17,s18):Int × (List b8))=>
   if (decide (s17<(a0.length:Int))) then
    jn (λ(j25:List b8)=>
     some (.inl (u7 (s17+1),j25))) (λκ24=>
     (ix a0 s17).bind λv26=>
     (iy v26).bind λv27=>
     if v27 then
      (app 56 s18 [v26]).bind λv28=>
      κ24 v28
     else
     κ24 s18)
   else
   some (.inr s18)) (0,[])).bind λe16=>
  κ14 e16)
def iA(a0:b8):Option Int:=
 some a0.Serial
def B5(a0:List b8):Option (List Int):=
 jn (λ(j10:List Int)=>
  some j10) (λκ9=>
  (lp (S:=Int × (List Int)) (E:=(List Int)) (λ((s12,s13):Int × (List Int))=>
   if (decide (s12<(a0.length:Int))) then
    (ix a0 s12).bind λv16=>
    (iA v16).bind λv17=>
    (app 8 s13 [v17]).bind λv18=>
    some (.inl (u7 (s12+1),v18))
   else
   some (.inr s13)) (0,[])).bind λe11=>
  κ9 e11)
def I3(a0:List b8):Option (List Int):=
 (B5 a0).bind λv1=>
 some v1
def aV(a0:Int):Option c9:=
 some (⟨[],a0⟩:c9)
def W3(a0:a8):Option j5:=
 (yX).bind λv1=>
 some (⟨a0.Tasks,v1.Cap⟩:j5)
def qi(a0:j5)(a1:Int):Option (j5 × Int):=
 some (a0,a1)
def gn(a0:j5):Option (List Int):=
 jn (λ(j10:List Int)=>
  some j10) (λκ9=>
  (qi a0 1).bind λv11=>
  (lp (S:=Int × (List Int)) (E:=(List Int)) (λ((s13,s14):Int × (List Int))=>
   if (decide (s13<(v11.1.L.length:Int))) then
    (ix v11.1.L s13).bind λv17=>
    if ((v17.Kind==v11.2)==true) then
     (app 8 s14 [v17.At]).bind λv18=>
     some (.inl (u7 (s13+1),v18))
    else
    some (.inl (u7 (s13+1),s14))
   else
   some (.inr s14)) (0,[])).bind λe12=>
  κ9 e12)
def F6(a0:List (List Int)):Option (List Int):=
 jn (λ(j11:Int)=>
  jn (λ(_:Unit)=>
   if (decide ((u7 (j11-(u7 (0-0)))) > 0)) then
    (mk 8 (u7 (j11-(u7 (0-0)))) (0:Int)).bind λv14=>
    jn (λ(j23:List Int)=>
     some j23) (λκ22=>
     (lp (S:=Int × (List Int)) (E:=(List Int)) (λ((s25,s26):Int × (List Int))=>
      if (decide (s25<(a0.length:Int))) then
       (ix a0 s25).bind λv29=>
       (app 8 s26 v29).bind λv30=>
       some (.inl (u7 (s25+1),v30))
      else
      some (.inr s26)) (0,[])).bind λe24=>
     κ22 e24)
   else
   jn (λ(j39:List Int)=>
    some j39) (λκ38=>
    (lp (S:=Int × (List Int)) (E:=(List Int)) (λ((s41,s42):Int × (List Int))=>
     if (decide (s41<(a0.length:Int))) then
      (ix a0 s41).bind λv45=>
      (app 8 s42 v45).bind λv46=>
      some (.inl (u7 (s41+1),v46))
     else
     some (.inr s42)) (0,[])).bind λe40=>
    κ38 e40)) (λκ12=>
   if (decide (j11<0)) then
    none
   else
   κ12 ())) (λκ10=>
  (lp (S:=Int × Int) (E:=Int) (λ((s48,s49):Int × Int)=>
   if (decide (s49<(a0.length:Int))) then
    jn (λ(j54:Int)=>
     some (.inl (j54,u7 (s49+1)))) (λκ53=>
     (ix a0 s49).bind λv55=>
     if (decide ((u7 (s48+(v55.length:Int)))<0)) then
      none
     else
     κ53 (u7 (s48+(v55.length:Int))))
   else
   some (.inr s48)) (0,0)).bind λe47=>
  κ10 e47)
def H3(a0:c9):Option Int:=
 some (a0.L.length:Int)
def T2(a0:List Int)(a1:Int)(a2:Int):Option (List Int):=
 (cut a0 a1 a2).bind λv1=>
 some v1
def D3(a0:c9)(a1:Int):Option (c9 × Int):=
 (H3 a0).bind λv1=>
 if (decide (v1>=a0.Cap)) then
  some (a0,4)
 else
 (T2 a0.L 0 v1).bind λv2=>
 (app 8 v2 [a1]).bind λv3=>
 some ((⟨v3,a0.Cap⟩:c9),0)
def iD(a0:c9)(a1:Int):Option (c9 × (List Int)):=
 (H3 a0).bind λv1=>
 (T2 a0.L 0 (if (if v1<a1 then v1 else a1) > 0 then (if v1<a1 then v1 else a1) else 0)).bind λv2=>
 (T2 a0.L (if (if v1<a1 then v1 else a1) > 0 then (if v1<a1 then v1 else a1) else 0) v1).bind λv3=>
 some ((⟨v3,a0.Cap⟩:c9),v2)
def W4(a0:c9):Option (c9 × Int × Int):=
 (iD a0 1).bind λv1=>
 if ((v1.2.length:Int)==0) then
  some (a0,0,10)
 else
 (ix v1.2 0).bind λv2=>
 some (v1.1,v2,0)
def ff(a0:b8)(a1:Int):Option Bool:=
 some (a0.Serial==a1)
def y7(a0:List b8)(a1:Int):Option Int:=
 jn (λ(_:Unit)=>
  some (-1)) (λκ6=>
  (lp (S:=Int) (E:=Int ⊕ Unit) (λ(s9:Int)=>
   if (decide (s9<(a0.length:Int))) then
    (ix a0 s9).bind λv11=>
    (ff v11 a1).bind λv12=>
    if v12 then
     some (.inr (.inl s9))
    else
    some (.inl (u7 (s9+1)))
   else
   some (.inr (.inr ()))) 0).bind λe8=>
  match e8 with
  | .inl w=>some w
  | .inr w=>κ6 w)
def I9(a0:a8)(a1:Int):Option Int:=
 (y7 a0.Nodes a1).bind λv1=>
 some v1
def cp(a0:g8)(a1:Int):Option Bool:=
 some (a0.Key==a1)
def C0(a0:List g8)(a1:Int):Option (List g8):=
 jn (λ(j15:List g8)=>
  some j15) (λκ14=>
  (lp (S:=Int × (List g8)) (E:=(List g8)) (λ((s17,s18):Int × (List g8))=>
   if (decide (s17<(a0.length:Int))) then
    jn (λ(j25:List g8)=>
     some (.inl (u7 (s17+1),j25))) (λκ24=>
     (ix a0 s17).bind λv26=>
     (cp v26 a1).bind λv27=>
     if v27 then
      (app 16 s18 [v26]).bind λv28=>
      κ24 v28
     else
     κ24 s18)
   else
   some (.inr s18)) (0,[])).bind λe16=>
  κ14 e16)
def fX(a0:g8):Option Int:=
 some a0.Val
def D8(a0:List g8):Option (List Int):=
 jn (λ(j10:List Int)=>
  some j10) (λκ9=>
  (lp (S:=Int × (List Int)) (E:=(List Int)) (λ((s12,s13):Int × (List Int))=>
   if (decide (s12<(a0.length:Int))) then
    (ix a0 s12).bind λv16=>
    (fX v16).bind λv17=>
    (app 8 s13 [v17]).bind λv18=>
    some (.inl (u7 (s12+1),v18))
   else
   some (.inr s13)) (0,[])).bind λe11=>
  κ9 e11)
def O8(a0:a8)(a1:Int):Option (List Int):=
 (C0 a0.Pairs a1).bind λv1=>
 (D8 v1).bind λv2=>
 some v2
def gG(a0:a8):Option (List (Int × Bool)):=
 (C4 a0.Nodes).bind λv1=>
 (I3 v1).bind λv2=>
 (aV (a0.Nodes.length:Int)).bind λv3=>
 (W3 a0).bind λv4=>
 (gn v4).bind λv5=>
 (F6 [a0.Roots,v5,v2]).bind λv6=>
 jn (λ((j22,j23):c9 × (List (Int × Bool)))=>
  jn (λ(j100:List (Int × Bool))=>
   some j100) (λκ99=>
   (lp (S:=c9 × (List (Int × Bool))) (E:=(List (Int × Bool))) (λ((s102,s103):c9 × (List (Int × Bool)))=>
    (H3 s102).bind λv106=>
    if (decide (v106 > 0)) then
     (W4 s102).bind λv107=>
     (I9 a0 v107.2.1).bind λv108=>
     (ix a0.Nodes v108).bind λv109=>
     jn (λ((j125,j126):c9 × (List (Int × Bool)))=>
      (O8 a0 v107.2.1).bind λv128=>
      jn (λ((j144,j145):c9 × (List (Int × Bool)))=>
       some (.inl (j144,j145))) (λκ143=>
       (lp (S:=Int × c9 × (List (Int × Bool))) (E:=(c9 × (List (Int × Bool)))) (λ((s148,s149,s150):Int × c9 × (List (Int × Bool)))=>
        if (decide (s148<(v128.length:Int))) then
         jn (λ((j156,j157):c9 × (List (Int × Bool)))=>
          some (.inl (u7 (s148+1),j156,j157))) (λκ155=>
          (ix v128 s148).bind λv159=>
          if (!((y9 s150 v159).getD (false:Bool))) then
           (D3 s149 v159).bind λv160=>
           κ155 (v160.1,(o7 s150 v159 true))
          else
          κ155 (s149,s150))
        else
        some (.inr (s149,s150))) (0,j125,j126)).bind λe147=>
       κ143 e147)) (λκ124=>
      (lp (S:=Int × c9 × (List (Int × Bool))) (E:=(c9 × (List (Int × Bool)))) (λ((s162,s163,s164):Int × c9 × (List (Int × Bool)))=>
       if (decide (s162<(v109.Fields.length:Int))) then
        jn (λ((j170,j171):c9 × (List (Int × Bool)))=>
         some (.inl (u7 (s162+1),j170,j171))) (λκ169=>
         (ix v109.Fields s162).bind λv173=>
         if (!((y9 s164 v173).getD (false:Bool))) then
          (D3 s163 v173).bind λv174=>
          κ169 (v174.1,(o7 s164 v173 true))
         else
         κ169 (s163,s164))
       else
       some (.inr (s163,s164))) (0,v107.1,s103)).bind λe161=>
      κ124 e161)
    else
    some (.inr s103)) (j22,j23)).bind λe101=>
   κ99 e101)) (λκ21=>
  (lp (S:=Int × c9 × (List (Int × Bool))) (E:=(c9 × (List (Int × Bool)))) (λ((s176,s177,s178):Int × c9 × (List (Int × Bool)))=>
   if (decide (s176<(v6.length:Int))) then
    jn (λ((j184,j185):c9 × (List (Int × Bool)))=>
     some (.inl (u7 (s176+1),j184,j185))) (λκ183=>
     (ix v6 s176).bind λv187=>
     if (!((y9 s178 v187).getD (false:Bool))) then
      (D3 s177 v187).bind λv188=>
      κ183 (v188.1,(o7 s178 v187 true))
     else
     κ183 (s177,s178))
   else
   some (.inr (s177,s178))) (0,v3,(o7 [] 0 true))).bind λe175=>
  κ21 e175)
def bw(a0:b8)(a1:List (Int × Bool)):Option Bool:=
 some (a0.Alive&&(!((y9 a1 a0.Serial).getD (false:Bool))))
def B7(a0:List b8)(a1:List (Int × Bool)):Option (List b8):=
 jn (λ(j15:List b8)=>
  some j15) (λκ14=>
  (lp (S:=Int × (List b8)) (E:=(List b8)) (λ((s17,s18):Int × (List b8))=>
   if (decide (s17<(a0.length:Int))) then
    jn (λ(j25:List b8)=>
     some (.inl (u7 (s17+1),j25))) (λκ24=>
     (ix a0 s17).bind λv26=>
     (bw v26 a1).bind λv27=>
     if v27 then
      (app 56 s18 [v26]).bind λv28=>
      κ24 v28
     else
     κ24 s18)
   else
   some (.inr s18)) (0,[])).bind λe16=>
  κ14 e16)
def cZ(a0:b8):Option Bool:=
 some ((decide (a0.Prog>=0))&&(!a0.Started))
def D2(a0:List b8):Option (List b8):=
 jn (λ(j15:List b8)=>
  some j15) (λκ14=>
  (lp (S:=Int × (List b8)) (E:=(List b8)) (λ((s17,s18):Int × (List b8))=>
   if (decide (s17<(a0.length:Int))) then
    jn (λ(j25:List b8)=>
     some (.inl (u7 (s17+1),j25))) (λκ24=>
     (ix a0 s17).bind λv26=>
     (cZ v26).bind λv27=>
     if v27 then
      (app 56 s18 [v26]).bind λv28=>
      κ24 v28
     else
     κ24 s18)
   else
   some (.inr s18)) (0,[])).bind λe16=>
  κ14 e16)
def kD(a0:a8):Option a8:=
 some a0
def iw(a0:g8):Option Int:=
 some a0.Val
def B4(a0:List g8):Option (List Int):=
 jn (λ(j10:List Int)=>
  some j10) (λκ9=>
  (lp (S:=Int × (List Int)) (E:=(List Int)) (λ((s12,s13):Int × (List Int))=>
   if (decide (s12<(a0.length:Int))) then
    (ix a0 s12).bind λv16=>
    (iw v16).bind λv17=>
    (app 8 s13 [v17]).bind λv18=>
    some (.inl (u7 (s12+1),v18))
   else
   some (.inr s13)) (0,[])).bind λe11=>
  κ9 e11)
def kW(a0:b8):Option Bool:=
 some a0.Alive
def A8(a0:List b8):Option (List b8):=
 jn (λ(j15:List b8)=>
  some j15) (λκ14=>
  (lp (S:=Int × (List b8)) (E:=(List b8)) (λ((s17,s18):Int × (List b8))=>
   if (decide (s17<(a0.length:Int))) then
    jn (λ(j25:List b8)=>
     some (.inl (u7 (s17+1),j25))) (λκ24=>
     (ix a0 s17).bind λv26=>
     (kW v26).bind λv27=>
     if v27 then
      (app 56 s18 [v26]).bind λv28=>
      κ24 v28
     else
     κ24 s18)
   else
   some (.inr s18)) (0,[])).bind λe16=>
  κ14 e16)
def dV(a0:a8)(a1:Int):Option Int:=
 jn (λ(j33:Int)=>
  some j33) (λκ32=>
  (kD a0).bind λv34=>
  (B4 v34.Pairs).bind λv35=>
  (W3 v34).bind λv36=>
  (gn v36).bind λv37=>
  jn (λ(j47:List (List Int))=>
   (F6 j47).bind λv48=>
   (lp (S:=Int × Int) (E:=Int) (λ((s50,s51):Int × Int)=>
    if (decide (s50<(v48.length:Int))) then
     (ix v48 s50).bind λv54=>
     jn (λ(j56:Int)=>
      some (.inl (u7 (s50+1),j56))) (λκ55=>
      if ((a1 != 0)&&(v54==a1)) then
       κ55 (u7 (s51+1))
      else
      κ55 s51)
    else
    some (.inr s51)) (0,0)).bind λe49=>
   κ32 e49) (λκ46=>
   (A8 v34.Nodes).bind λv57=>
   (lp (S:=Int × (List (List Int))) (E:=(List (List Int))) (λ((s59,s60):Int × (List (List Int)))=>
    if (decide (s59<(v57.length:Int))) then
     (ix v57 s59).bind λv63=>
     (app 24 s60 [v63.Fields]).bind λv64=>
     some (.inl (u7 (s59+1),v64))
    else
    some (.inr s60)) (0,[v34.Roots,v35,v37])).bind λe58=>
   κ46 e58))
def p8(a0:List b8):Option (List b8):=
 app 56 [] a0
def nb(a0:b8):Option b8:=
 some (⟨a0.Serial,a0.Slot,a0.Prog,a0.Started,a0.Alive,true,a0.Fields⟩:b8)
def Q6(a0:a8)(a1:Int):Option a8:=
 (I9 a0 a1).bind λv1=>
 (p8 a0.Nodes).bind λv2=>
 (ix v2 v1).bind λv3=>
 (nb v3).bind λv4=>
 some (⟨(v2.set (v1).toNat v4),a0.Slots,a0.Gens,a0.Last,a0.Places,a0.Serial,a0.Roots,a0.b7,a0.Pairs,a0.Tasks,a0.Progs⟩:a8)
def dI(a0:a8)(a1:Int):Option a8:=
 (dV a0 a1).bind λv1=>
 if (decide (v1<11)) then
  some a0
 else
 (Q6 a0 a1).bind λv2=>
 some v2
def iB(a0:b8):Option b8:=
 some (⟨a0.Serial,a0.Slot,a0.Prog,true,a0.Alive,a0.Stuck,a0.Fields⟩:b8)
def M9(a0:a8)(a1:Int):Option a8:=
 (I9 a0 a1).bind λv1=>
 (p8 a0.Nodes).bind λv2=>
 (ix v2 v1).bind λv3=>
 (iB v3).bind λv4=>
 some (⟨(v2.set (v1).toNat v4),a0.Slots,a0.Gens,a0.Last,a0.Places,a0.Serial,a0.Roots,a0.b7,a0.Pairs,a0.Tasks,a0.Progs⟩:a8)
def G2(a0:List g5):Option (List g5):=
 app 24 [] a0
def aU(a0:a8)(a1:Int):Option a8:=
 (dI a0 a1).bind λv1=>
 (I9 v1 a1).bind λv2=>
 (ix v1.Nodes v2).bind λv3=>
 (M9 v1 a1).bind λv4=>
 (G2 v4.Tasks).bind λv5=>
 (app 24 v5 [(⟨1,a1,v3.Prog⟩:g5)]).bind λv6=>
 some (⟨v4.Nodes,v4.Slots,v4.Gens,v4.Last,v4.Places,v4.Serial,v4.Roots,v4.b7,v4.Pairs,v6,v4.Progs⟩:a8)
def G9(a0:List Int)(a1:Int):Option Int:=
 jn (λ(_:Unit)=>
  some (-1)) (λκ5=>
  (lp (S:=Int) (E:=Int ⊕ Unit) (λ(s8:Int)=>
   if (decide (s8<(a0.length:Int))) then
    (ix a0 s8).bind λv10=>
    if (a1==v10) then
     some (.inr (.inl s8))
    else
    some (.inl (u7 (s8+1)))
   else
   some (.inr (.inr ()))) 0).bind λe7=>
  match e7 with
  | .inl w=>some w
  | .inr w=>κ5 w)
def E2(a0:List Int)(a1:Int):Option Bool:=
 (G9 a0 a1).bind λv1=>
 some (decide (v1>=0))
def cC(a0:k7)(a1:List Int):Option Bool:=
 (C7 ((a0.Intact&&(a0.Target != 0))==true) false (E2 a1 a0.Target)).bind λv1=>
 some ((a0.Intact&&(a0.Target != 0))&&v1)
def M3(a0:List k7)(a1:List Int):Option (List Int):=
 jn (λ(j15:List Int)=>
  some j15) (λκ14=>
  (lp (S:=Int × (List Int)) (E:=(List Int)) (λ((s17,s18):Int × (List Int))=>
   if (decide (s17<(a0.length:Int))) then
    jn (λ(j25:List Int)=>
     some (.inl (u7 (s17+1),j25))) (λκ24=>
     (ix a0 s17).bind λv26=>
     (cC v26 a1).bind λv27=>
     if v27 then
      (app 8 s18 [s17]).bind λv28=>
      κ24 v28
     else
     κ24 s18)
   else
   some (.inr s18)) (0,[])).bind λe16=>
  κ14 e16)
def bT(a0:List k7):Option (List k7):=
 (mk 24 (a0.length:Int) (⟨0,false,0⟩:k7)).bind λv1=>
 (wX v1 a0).bind λv2=>
 some v2
def gr(a0:List k7)(a1:List Int):Option ((List k7) × (List Int)):=
 (M3 a0 a1).bind λv1=>
 (bT a0).bind λv2=>
 jn (λ((j22,j23):(List Int) × (List k7))=>
  some (j23,j22)) (λκ21=>
  (lp (S:=Int × (List k7) × (List Int)) (E:=((List Int) × (List k7))) (λ((s26,s27,s28):Int × (List k7) × (List Int))=>
   if (decide (s26<(v1.length:Int))) then
    jn (λ((j36,j37):(List Int) × (List k7))=>
     some (.inl (u7 (s26+1),j37,j36))) (λκ35=>
     (ix v1 s26).bind λv39=>
     (ix s27 v39).bind λv40=>
     (ix (s27.set (v39).toNat (⟨v40.Target,false,v40.Call⟩:k7)) v39).bind λv41=>
     if (decide (v41.Call>=0)) then
      (app 8 s28 [v39]).bind λv42=>
      κ35 (v42,(s27.set (v39).toNat (⟨v40.Target,false,v40.Call⟩:k7)))
     else
     κ35 (s28,(s27.set (v39).toNat (⟨v40.Target,false,v40.Call⟩:k7))))
   else
   some (.inr (s28,s27))) (0,v2,[])).bind λe25=>
  κ21 e25)
def eY(a0:Int)(a1:List k7):Option g5:=
 (ix a1 a0).bind λv1=>
 some (⟨2,a0,v1.Call⟩:g5)
def B6(a0:List Int)(a1:List k7):Option (List g5):=
 jn (λ(j10:List g5)=>
  some j10) (λκ9=>
  (lp (S:=Int × (List g5)) (E:=(List g5)) (λ((s12,s13):Int × (List g5))=>
   if (decide (s12<(a0.length:Int))) then
    (ix a0 s12).bind λv16=>
    (eY v16 a1).bind λv17=>
    (app 24 s13 [v17]).bind λv18=>
    some (.inl (u7 (s12+1),v18))
   else
   some (.inr s13)) (0,[])).bind λe11=>
  κ9 e11)
def F1(a0:List (List g5)):Option (List g5):=
 jn (λ(j11:Int)=>
  jn (λ(_:Unit)=>
   if (decide ((u7 (j11-(u7 (0-0)))) > 0)) then
    (mk 24 (u7 (j11-(u7 (0-0)))) (⟨0,0,0⟩:g5)).bind λv14=>
    jn (λ(j23:List g5)=>
     some j23) (λκ22=>
     (lp (S:=Int × (List g5)) (E:=(List g5)) (λ((s25,s26):Int × (List g5))=>
      if (decide (s25<(a0.length:Int))) then
       (ix a0 s25).bind λv29=>
       (app 24 s26 v29).bind λv30=>
       some (.inl (u7 (s25+1),v30))
      else
      some (.inr s26)) (0,[])).bind λe24=>
     κ22 e24)
   else
   jn (λ(j39:List g5)=>
    some j39) (λκ38=>
    (lp (S:=Int × (List g5)) (E:=(List g5)) (λ((s41,s42):Int × (List g5))=>
     if (decide (s41<(a0.length:Int))) then
      (ix a0 s41).bind λv45=>
      (app 24 s42 v45).bind λv46=>
      some (.inl (u7 (s41+1),v46))
     else
     some (.inr s42)) (0,[])).bind λe40=>
    κ38 e40)) (λκ12=>
   if (decide (j11<0)) then
    none
   else
   κ12 ())) (λκ10=>
  (lp (S:=Int × Int) (E:=Int) (λ((s48,s49):Int × Int)=>
   if (decide (s49<(a0.length:Int))) then
    jn (λ(j54:Int)=>
     some (.inl (j54,u7 (s49+1)))) (λκ53=>
     (ix a0 s49).bind λv55=>
     if (decide ((u7 (s48+(v55.length:Int)))<0)) then
      none
     else
     κ53 (u7 (s48+(v55.length:Int))))
   else
   some (.inr s48)) (0,0)).bind λe47=>
  κ10 e47)
def eZ(a0:g8)(a1:List Int):Option Bool:=
 (E2 a1 a0.Key).bind λv1=>
 some (!v1)
def C9(a0:List g8)(a1:List Int):Option (List g8):=
 jn (λ(j15:List g8)=>
  some j15) (λκ14=>
  (lp (S:=Int × (List g8)) (E:=(List g8)) (λ((s17,s18):Int × (List g8))=>
   if (decide (s17<(a0.length:Int))) then
    jn (λ(j25:List g8)=>
     some (.inl (u7 (s17+1),j25))) (λκ24=>
     (ix a0 s17).bind λv26=>
     (eZ v26 a1).bind λv27=>
     if v27 then
      (app 16 s18 [v26]).bind λv28=>
      κ24 v28
     else
     κ24 s18)
   else
   some (.inr s18)) (0,[])).bind λe16=>
  κ14 e16)
def jF(a0:b8):Option b8:=
 some (⟨a0.Serial,a0.Slot,a0.Prog,a0.Started,false,a0.Stuck,[]⟩:b8)
def C6(a0:a8)(a1:Int):Option a8:=
 (I9 a0 a1).bind λv1=>
 (p8 a0.Nodes).bind λv2=>
 (ix v2 v1).bind λv3=>
 (jF v3).bind λv4=>
 some (⟨(v2.set (v1).toNat v4),a0.Slots,a0.Gens,a0.Last,a0.Places,a0.Serial,a0.Roots,a0.b7,a0.Pairs,a0.Tasks,a0.Progs⟩:a8)
def gJ(a0:k7)(a1:Int):Option Bool:=
 some ((a1 != 0)&&(a0.Target==a1))
def T4(a0:List k7)(a1:Int):Option (List Int):=
 jn (λ(j15:List Int)=>
  some j15) (λκ14=>
  (lp (S:=Int × (List Int)) (E:=(List Int)) (λ((s17,s18):Int × (List Int))=>
   if (decide (s17<(a0.length:Int))) then
    jn (λ(j25:List Int)=>
     some (.inl (u7 (s17+1),j25))) (λκ24=>
     (ix a0 s17).bind λv26=>
     (gJ v26 a1).bind λv27=>
     if v27 then
      (app 8 s18 [s17]).bind λv28=>
      κ24 v28
     else
     κ24 s18)
   else
   some (.inr s18)) (0,[])).bind λe16=>
  κ14 e16)
def ef(a0:List k7)(a1:Int):Option Int:=
 (T4 a0 a1).bind λv1=>
 some (v1.length:Int)
def ck(a0:b8)(a1:Int):Option Bool:=
 some (a0.Serial != a1)
def C2(a0:List b8)(a1:Int):Option (List b8):=
 jn (λ(j15:List b8)=>
  some j15) (λκ14=>
  (lp (S:=Int × (List b8)) (E:=(List b8)) (λ((s17,s18):Int × (List b8))=>
   if (decide (s17<(a0.length:Int))) then
    jn (λ(j25:List b8)=>
     some (.inl (u7 (s17+1),j25))) (λκ24=>
     (ix a0 s17).bind λv26=>
     (ck v26 a1).bind λv27=>
     if v27 then
      (app 56 s18 [v26]).bind λv28=>
      κ24 v28
     else
     κ24 s18)
   else
   some (.inr s18)) (0,[])).bind λe16=>
  κ14 e16)
def y5(a0:List Int):Option (List Int):=
 app 8 [] a0
def O7(a0:a8)(a1:Int):Option a8:=
 (I9 a0 a1).bind λv1=>
 (C7 ((decide (v1<0))==false) (⟨0,0,0,false,false,false,[]⟩:b8) (ix a0.Nodes v1)).bind λv2=>
 (C7 (((decide (v1<0))||v2.Alive)==false) 0 (ef a0.b7 a1)).bind λv3=>
 if (((decide (v1<0))||v2.Alive)||(decide (v3 > 0))) then
  some a0
 else
 (ix a0.Nodes v1).bind λv4=>
 (C2 a0.Nodes a1).bind λv5=>
 (y5 a0.Slots).bind λv6=>
 (y5 a0.Gens).bind λv7=>
 (ix v7 v4.Slot).bind λv8=>
 if (v8==a0.Last) then
  (ix v6 v4.Slot).bind λv9=>
  some (⟨v5,(v6.set (v4.Slot).toNat (-1)),v7,a0.Last,a0.Places,a0.Serial,a0.Roots,a0.b7,a0.Pairs,a0.Tasks,a0.Progs⟩:a8)
 else
 (ix v6 v4.Slot).bind λv10=>
 some (⟨v5,(v6.set (v4.Slot).toNat 0),(v7.set (v4.Slot).toNat (u7 (v8+1))),a0.Last,a0.Places,a0.Serial,a0.Roots,a0.b7,a0.Pairs,a0.Tasks,a0.Progs⟩:a8)
def eX(a0:a8)(a1:List Int):Option a8:=
 (gr a0.b7 a1).bind λv1=>
 (B6 v1.2 v1.1).bind λv2=>
 (F1 [a0.Tasks,v2]).bind λv3=>
 (C9 a0.Pairs a1).bind λv4=>
 jn (λ(j14:a8)=>
  some j14) (λκ13=>
  (lp (S:=Int × a8) (E:=a8) (λ((s16,s17):Int × a8)=>
   if (decide (s16<(a1.length:Int))) then
    (ix a1 s16).bind λv20=>
    (C6 s17 v20).bind λv21=>
    (O7 v21 v20).bind λv22=>
    some (.inl (u7 (s16+1),v22))
   else
   some (.inr s17)) (0,(⟨a0.Nodes,a0.Slots,a0.Gens,a0.Last,a0.Places,a0.Serial,a0.Roots,v1.1,v4,v3,a0.Progs⟩:a8))).bind λe15=>
  κ13 e15)
def aM(a0:b8)(a1:a8):Option Bool:=
 (C7 ((a0.Alive&&(!a0.Stuck))==true) 0 (dV a1 a0.Serial)).bind λv1=>
 some ((a0.Alive&&(!a0.Stuck))&&(v1==0))
def w8(a0:List b8)(a1:a8):Option Int:=
 jn (λ(_:Unit)=>
  some (-1)) (λκ6=>
  (lp (S:=Int) (E:=Int ⊕ Unit) (λ(s9:Int)=>
   if (decide (s9<(a0.length:Int))) then
    (ix a0 s9).bind λv11=>
    (aM v11 a1).bind λv12=>
    if v12 then
     some (.inr (.inl s9))
    else
    some (.inl (u7 (s9+1)))
   else
   some (.inr (.inr ()))) 0).bind λe8=>
  match e8 with
  | .inl w=>some w
  | .inr w=>κ6 w)
def H2(a0:a8):Option a8:=
 (lp (S:=a8) (E:=a8) (λ(s2:a8)=>
  (w8 s2.Nodes s2).bind λv4=>
  if (decide (v4<0)) then
   some (.inr s2)
  else
  (ix s2.Nodes v4).bind λv5=>
  (cZ v5).bind λv6=>
  if v6 then
   (aU s2 v5.Serial).bind λv7=>
   some (.inl v7)
  else
  (eX s2 [v5.Serial]).bind λv8=>
  some (.inl v8)) a0).bind λe1=>
 some e1
def dU(a0:a8):Option (List Int):=
 (A8 a0.Nodes).bind λv1=>
 (I3 v1).bind λv2=>
 some v2
def dp(a0:a8):Option (a8 × g9):=
 (gG a0).bind λv1=>
 (B7 a0.Nodes v1).bind λv2=>
 (D2 v2).bind λv3=>
 (I3 v3).bind λv4=>
 jn (λ(j13:a8)=>
  if (decide ((v4.length:Int) > 0)) then
   some (j13,(⟨u7 (0-(v4.length:Int)),0⟩:g9))
  else
  (I3 v2).bind λv14=>
  (eX j13 v14).bind λv15=>
  (H2 v15).bind λv16=>
  (dU j13).bind λv17=>
  (dU v16).bind λv18=>
  some (v16,(⟨u7 ((v17.length:Int)-(v18.length:Int)),0⟩:g9))) (λκ12=>
  (lp (S:=Int × a8) (E:=a8) (λ((s20,s21):Int × a8)=>
   if (decide (s20<(v4.length:Int))) then
    (ix v4 s20).bind λv24=>
    (aU s21 v24).bind λv25=>
    some (.inl (u7 (s20+1),v25))
   else
   some (.inr s21)) (0,a0)).bind λe19=>
  κ12 e19)
def dy(a0:List (List g7))(a1:Int):Option (List g7):=
 if ((decide (a1<0))||(decide (a1>=(a0.length:Int)))) then
  some []
 else
 (ix a0 a1).bind λv1=>
 some v1
def bE(a0:List (List g7))(a1:g5):Option Int:=
 (dy a0 a1.Prog).bind λv1=>
 some (u7 (1+(v1.length:Int)))
def V1(a0:a8)(a1:Int)(a2:Int):Option a8:=
 (dI a0 a2).bind λv1=>
 (y5 v1.Roots).bind λv2=>
 (ix v2 a1).bind λv3=>
 some (⟨v1.Nodes,v1.Slots,v1.Gens,v1.Last,v1.Places,v1.Serial,(v2.set (a1).toNat a2),v1.b7,v1.Pairs,v1.Tasks,v1.Progs⟩:a8)
def L5(a0:j5):Option Int:=
 some (a0.L.length:Int)
def G7(a0:List g5)(a1:Int)(a2:Int):Option (List g5):=
 (cut a0 a1 a2).bind λv1=>
 some v1
def bm(a0:j5)(a1:Int):Option (j5 × (List g5)):=
 (L5 a0).bind λv1=>
 (G7 a0.L 0 (if (if v1<a1 then v1 else a1) > 0 then (if v1<a1 then v1 else a1) else 0)).bind λv2=>
 (G7 a0.L (if (if v1<a1 then v1 else a1) > 0 then (if v1<a1 then v1 else a1) else 0) v1).bind λv3=>
 some ((⟨v3,a0.Cap⟩:j5),v2)
def cM(a0:j5):Option (j5 × g5 × Int):=
 (bm a0 1).bind λv1=>
 if ((v1.2.length:Int)==0) then
  some (a0,(⟨0,0,0⟩:g5),10)
 else
 (ix v1.2 0).bind λv2=>
 some (v1.1,v2,0)
def aY(a0:j5):Option (j5 × g5 × Int):=
 (cM a0).bind λv1=>
 some (v1.1,v1.2.1,v1.2.2)
def T0(a0:a8)(a1:Int):Option Int:=
 if (decide (a1<0)) then
  some 0
 else
 (ix a0.Roots a1).bind λv1=>
 some v1
def O1(a0:a8)(a1:Int):Option (b8 × Int):=
 (T0 a0 a1).bind λv1=>
 if (v1==0) then
  some ((⟨0,0,0,false,false,false,[]⟩:b8),2)
 else
 (I9 a0 v1).bind λv2=>
 (ix a0.Nodes v2).bind λv3=>
 some (v3,0)
def gI(a0:List Int)(a1:Int):Option Bool:=
 some ((decide (a1>=0))&&(decide (a1<(a0.length:Int))))
def mh(a0:List Int)(a1:Int)(a2:Int):Option ((List Int) × Int):=
 (gI a0 a1).bind λv1=>
 if (!v1) then
  some (a0,5)
 else
 (mk 8 (a0.length:Int) (0:Int)).bind λv2=>
 (wX v2 a0).bind λv3=>
 (ix v3 a1).bind λv4=>
 some ((v3.set (a1).toNat a2),0)
def fh(a0:b8)(a1:List Int):Option b8:=
 some (⟨a0.Serial,a0.Slot,a0.Prog,a0.Started,a0.Alive,a0.Stuck,a1⟩:b8)
def O6(a0:a8)(a1:Int)(a2:List Int):Option a8:=
 (I9 a0 a1).bind λv1=>
 (p8 a0.Nodes).bind λv2=>
 (ix v2 v1).bind λv3=>
 (fh v3 a2).bind λv4=>
 some (⟨(v2.set (v1).toNat v4),a0.Slots,a0.Gens,a0.Last,a0.Places,a0.Serial,a0.Roots,a0.b7,a0.Pairs,a0.Tasks,a0.Progs⟩:a8)
def iS(a0:a8)(a1:Int)(a2:g7):Option (a8 × Int):=
 (O1 a0 a2.A).bind λv1=>
 if (v1.2 != 0) then
  some (a0,v1.2)
 else
 (mh v1.1.Fields a2.B a1).bind λv2=>
 if (v2.2 != 0) then
  some (a0,v2.2)
 else
 (dI a0 a1).bind λv3=>
 (O6 v3 v1.1.Serial v2.1).bind λv4=>
 some (v4,0)
def J7(a0:a8)(a1:Int)(a2:g7):Option (a8 × g9):=
 (iS a0 a1 a2).bind λv1=>
 if (v1.2 != 0) then
  some (a0,(⟨0,v1.2⟩:g9))
 else
 (H2 v1.1).bind λv2=>
 some (v2,(⟨a1,0⟩:g9))
def aD(a0:j5)(a1:Int):Option Bool:=
 jn (λ(_:Unit)=>
  some false) (λκ6=>
  (qi a0 2).bind λv8=>
  (lp (S:=Int) (E:=Bool ⊕ Unit) (λ(s10:Int)=>
   if (decide (s10<(v8.1.L.length:Int))) then
    (ix v8.1.L s10).bind λv12=>
    if ((v12.Kind==v8.2)==true) then
     if (v12.At==a1) then
      some (.inr (.inl true))
     else
     some (.inl (u7 (s10+1)))
    else
    some (.inl (u7 (s10+1)))
   else
   some (.inr (.inr ()))) 0).bind λe9=>
  match e9 with
  | .inl w=>some w
  | .inr w=>κ6 w)
def jT(a0:List k7)(a1:Int):Option Bool:=
 some ((decide (a1>=0))&&(decide (a1<(a0.length:Int))))
def jS(a0:List k7)(a1:Int)(a2:Int)(a3:Int):Option ((List k7) × Int × Int):=
 (jT a0 a1).bind λv1=>
 if (!v1) then
  some (a0,0,7)
 else
 (bT a0).bind λv2=>
 (ix v2 a1).bind λv3=>
 (ix a0 a1).bind λv4=>
 some ((v2.set (a1).toNat (⟨a2,(a2 != 0),a3⟩:k7)),v4.Target,0)
def fi(a0:a8)(a1:Int)(a2:g7):Option (a8 × Int):=
 if ((decide (a2.B>=0))&&(a1==0)) then
  some (a0,2)
 else
 (W3 a0).bind λv1=>
 (aD v1 a2.A).bind λv2=>
 if v2 then
  some (a0,7)
 else
 (jS a0.b7 a2.A a1 a2.C).bind λv3=>
 if (v3.2.2 != 0) then
  some (a0,v3.2.2)
 else
 (O7 (⟨a0.Nodes,a0.Slots,a0.Gens,a0.Last,a0.Places,a0.Serial,a0.Roots,v3.1,a0.Pairs,a0.Tasks,a0.Progs⟩:a8) v3.2.1).bind λv4=>
 some (v4,0)
def I0(a0:a8)(a1:Int)(a2:g7):Option (a8 × g9):=
 (fi a0 a1 a2).bind λv1=>
 if (v1.2 != 0) then
  some (a0,(⟨0,v1.2⟩:g9))
 else
 (H2 v1.1).bind λv2=>
 some (v2,(⟨a1,0⟩:g9))
def fg(a0:g8)(a1:b8):Option Bool:=
 some (a0.Key != a1.Serial)
def D0(a0:List g8)(a1:b8):Option (List g8):=
 jn (λ(j15:List g8)=>
  some j15) (λκ14=>
  (lp (S:=Int × (List g8)) (E:=(List g8)) (λ((s17,s18):Int × (List g8))=>
   if (decide (s17<(a0.length:Int))) then
    jn (λ(j25:List g8)=>
     some (.inl (u7 (s17+1),j25))) (λκ24=>
     (ix a0 s17).bind λv26=>
     (fg v26 a1).bind λv27=>
     if v27 then
      (app 16 s18 [v26]).bind λv28=>
      κ24 v28
     else
     κ24 s18)
   else
   some (.inr s18)) (0,[])).bind λe16=>
  κ14 e16)
def iR(a0:a8)(a1:Int)(a2:g7):Option (a8 × Int):=
 (O1 a0 a2.A).bind λv1=>
 if (v1.2 != 0) then
  some (a0,v1.2)
 else
 (D0 a0.Pairs v1.1).bind λv2=>
 if (a1==0) then
  some ((⟨a0.Nodes,a0.Slots,a0.Gens,a0.Last,a0.Places,a0.Serial,a0.Roots,a0.b7,v2,a0.Tasks,a0.Progs⟩:a8),0)
 else
 if (decide ((v2.length:Int)>=a0.Places)) then
  some (a0,8)
 else
 (dI a0 a1).bind λv3=>
 (app 16 v2 [(⟨v1.1.Serial,a1⟩:g8)]).bind λv4=>
 some ((⟨v3.Nodes,v3.Slots,v3.Gens,v3.Last,v3.Places,v3.Serial,v3.Roots,v3.b7,v4,v3.Tasks,v3.Progs⟩:a8),0)
def J6(a0:a8)(a1:Int)(a2:g7):Option (a8 × g9):=
 (iR a0 a1 a2).bind λv1=>
 if (v1.2 != 0) then
  some (a0,(⟨0,v1.2⟩:g9))
 else
 (H2 v1.1).bind λv2=>
 some (v2,(⟨a1,0⟩:g9))
def qm(a0:Int):Option ((List Int) × Int):=
 if ((decide (a0<0))||(decide (a0 > 4))) then
  some ([],1)
 else
 (mk 8 a0 (0:Int)).bind λv1=>
 some (v1,0)
def az(a0:a8)(a1:Int)(a2:Int):Option (a8 × g9):=
 (V1 a0 a1 a2).bind λv1=>
 (H2 v1).bind λv2=>
 (ix v2.Roots a1).bind λv3=>
 some (v2,(⟨v3,0⟩:g9))
def cY(a0:a8)(a1:g7):Option (a8 × g9):=
 (qm a1.B).bind λv1=>
 if (v1.2 != 0) then
  some (a0,(⟨0,v1.2⟩:g9))
 else
 (G9 a0.Slots 0).bind λv2=>
 if (decide (v2<0)) then
  some (a0,(⟨0,4⟩:g9))
 else
 (y5 a0.Slots).bind λv3=>
 (ix v3 v2).bind λv4=>
 (p8 a0.Nodes).bind λv5=>
 (app 56 v5 [(⟨u7 (a0.Serial+1),v2,a1.C,false,true,false,v1.1⟩:b8)]).bind λv6=>
 (az (⟨v6,(v3.set (v2).toNat (u7 (a0.Serial+1))),a0.Gens,a0.Last,a0.Places,u7 (a0.Serial+1),a0.Roots,a0.b7,a0.Pairs,a0.Tasks,a0.Progs⟩:a8) a1.A (u7 (a0.Serial+1))).bind λv7=>
 some (v7.1,v7.2)
def iG(a0:List Int)(a1:Int):Option (Int × Int):=
 (gI a0 a1).bind λv1=>
 if (!v1) then
  some (0,5)
 else
 (ix a0 a1).bind λv2=>
 some (v2,0)
def cD(a0:List k7)(a1:Int):Option (Int × Int):=
 (jT a0 a1).bind λv1=>
 if (!v1) then
  some (0,7)
 else
 (ix a0 a1).bind λv2=>
 if ((v2.Target==0)||(!v2.Intact)) then
  some (0,9)
 else
 some (v2.Target,0)
def bI(a0:a8)(a1:g7):Option (Int × Int):=
 if (a1.Kind==2) then
  (ix a0.Roots a1.B).bind λv1=>
  some (v1,0)
 else
 if (a1.Kind==4) then
  (O1 a0 a1.B).bind λv2=>
  if (v2.2 != 0) then
   some (0,v2.2)
  else
  (iG v2.1.Fields a1.C).bind λv3=>
  some (v3.1,v3.2)
 else
 if (a1.Kind==7) then
  (cD a0.b7 a1.B).bind λv4=>
  some (v4.1,v4.2)
 else
 if (a1.Kind==9) then
  (O1 a0 a1.B).bind λv5=>
  if (v5.2 != 0) then
   some (0,v5.2)
  else
  (O8 a0 v5.1.Serial).bind λv6=>
  if (decide ((v6.length:Int) > 0)) then
   (ix v6 0).bind λv7=>
   some (v7,0)
  else
  some (0,9)
 else
 some (0,0)
def bJ(a0:a8)(a1:g7):Option (a8 × g9):=
 if (a1.Kind==10) then
  (ix a0.Roots a1.A).bind λv1=>
  (ix a0.Roots a1.B).bind λv2=>
  if (v1==v2) then
   some (a0,(⟨1,0⟩:g9))
  else
  some (a0,(⟨0,0⟩:g9))
 else
 if (a1.Kind==5) then
  (T0 a0 a1.C).bind λv3=>
  (J7 a0 v3 a1).bind λv4=>
  some (v4.1,v4.2)
 else
 if (a1.Kind==6) then
  (T0 a0 a1.B).bind λv5=>
  (I0 a0 v5 a1).bind λv6=>
  some (v6.1,v6.2)
 else
 if (a1.Kind==8) then
  (T0 a0 a1.B).bind λv7=>
  (J6 a0 v7 a1).bind λv8=>
  some (v8.1,v8.2)
 else
 if (a1.Kind==1) then
  (cY a0 a1).bind λv9=>
  some (v9.1,v9.2)
 else
 (bI a0 a1).bind λv10=>
 if (v10.2 != 0) then
  some (a0,(⟨0,v10.2⟩:g9))
 else
 (az a0 a1.A v10.1).bind λv11=>
 some (v11.1,v11.2)
def jf(a0:a8)(a1:List g7):Option a8:=
 jn (λ(j9:a8)=>
  some j9) (λκ8=>
  (lp (S:=Int × a8) (E:=a8) (λ((s11,s12):Int × a8)=>
   if (decide (s11<(a1.length:Int))) then
    (ix a1 s11).bind λv15=>
    (bJ s12 v15).bind λv16=>
    some (.inl (u7 (s11+1),v16.1))
   else
   some (.inr s12)) (0,a0)).bind λe10=>
  κ8 e10)
def db(a0:a8)(a1:g5):Option a8:=
 jn (λ(j3:a8)=>
  (W3 j3).bind λv4=>
  (aY v4).bind λv5=>
  jn (λ(j8:a8)=>
   (dy j8.Progs a1.Prog).bind λv9=>
   (jf j8 v9).bind λv10=>
   if (a1.Kind==1) then
    (V1 v10 5 0).bind λv11=>
    (H2 v11).bind λv12=>
    some v12
   else
   some v10) (λκ7=>
   if (a1.Kind==1) then
    (H2 (⟨j3.Nodes,j3.Slots,j3.Gens,j3.Last,j3.Places,j3.Serial,j3.Roots,j3.b7,j3.Pairs,v5.1.L,j3.Progs⟩:a8)).bind λv13=>
    κ7 v13
   else
   κ7 (⟨j3.Nodes,j3.Slots,j3.Gens,j3.Last,j3.Places,j3.Serial,j3.Roots,j3.b7,j3.Pairs,v5.1.L,j3.Progs⟩:a8))) (λκ2=>
  if (a1.Kind==1) then
   (V1 a0 5 a1.At).bind λv14=>
   κ2 v14
  else
  κ2 a0)
def gF(a0:a8)(a1:Int):Option (a8 × g9):=
 jn (λ((j11,j12):Int × a8)=>
  some (j12,(⟨j11,0⟩:g9))) (λκ10=>
  (lp (S:=Int × Int × a8) (E:=(a8 × g9) ⊕ (Int × a8)) (λ((s15,s16,s17):Int × Int × a8)=>
   if (decide ((s17.Tasks.length:Int) > 0)) then
    (ix s17.Tasks 0).bind λv20=>
    (bE s17.Progs v20).bind λv21=>
    if (decide (v21 > s15)) then
     some (.inr (.inl (s17,(⟨s16,12⟩:g9))))
    else
    (db s17 v20).bind λv22=>
    some (.inl (u7 (s15-v21),u7 (s16+1),v22))
   else
   some (.inr (.inr (s16,s17)))) (a1,0,a0)).bind λe14=>
  match e14 with
  | .inl w=>some w
  | .inr w=>κ10 w)
def pc(a0:a8)(a1:List Int):Option (a8 × g9):=
 (U6 a1).bind λv1=>
 if (v1.2 != 0) then
  some (a0,(⟨0,v1.2⟩:g9))
 else
 if (v1.1.Kind==11) then
  (dp a0).bind λv2=>
  some (v2.1,v2.2)
 else
 if (v1.1.Kind==12) then
  (gF a0 v1.1.A).bind λv3=>
  some (v3.1,v3.2)
 else
 (bJ a0 v1.1).bind λv4=>
 some (v4.1,v4.2)
def aT(a0:a8)(a1:List (List Int)):Option (a8 × (List g9)):=
 jn (λ((j11,j12):a8 × (List g9))=>
  some (j11,j12)) (λκ10=>
  (lp (S:=Int × a8 × (List g9)) (E:=(a8 × (List g9))) (λ((s15,s16,s17):Int × a8 × (List g9))=>
   if (decide (s15<(a1.length:Int))) then
    (ix a1 s15).bind λv20=>
    (pc s16 v20).bind λv21=>
    (app 16 s17 [v21.2]).bind λv22=>
    some (.inl (u7 (s15+1),v21.1,v22))
   else
   some (.inr (s16,s17))) (0,a0,[])).bind λe14=>
  κ10 e14)
def mO(a0:g7):Option OM:=
 if (a0.Kind==11) then
  some (⟨166,[]⟩:OM)
 else
 if (a0.Kind==12) then
  some (⟨170,[a0.A]⟩:OM)
 else
 some (⟨162,[a0.Kind,a0.A,a0.B,a0.C]⟩:OM)
def gC:Option (List (Int × Fv)):=
 some (o7 (o7 (o7 (o7 (o7 (o7 (o7 (o7 (o7 (o7 [] 1 (some 203)) 2 (some 204)) 3 (some 205)) 4 (some 206)) 5 (some 207)) 6 (some 208)) 7 (some 209)) 8 (some 210)) 9 (some 211)) 10 (some 212))
def V7(a0:Int):Option Bool:=
 some ((decide (a0>=(-1)))&&(decide (a0<6)))
def Q3(a0:l4):Option l4:=
 some a0
def y6(a0:List c8):Option (List c8):=
 app 80 [] a0
def E1(a0:l4)(a1:Int)(a2:c8):Option l4:=
 (y6 a0.b7).bind λv1=>
 (ix v1 a1).bind λv2=>
 some (⟨(v1.set (a1).toNat a2),a0.Last⟩:l4)
def dR(a0:Int)(a1:Int):Option Int:=
 if ((((decide (a0<0))||(decide (a0>=24)))||(decide (a1<0)))||(decide (a1 > 9))) then
  some 0
 else
 some (u7 ((u7 (1+(u7 (a0*1))))+(u7 (a1*32))))
def L6(a0:l4)(a1:n7):Option (l4 × Int × Int):=
 jn (λ(_:Unit)=>
  some (a0,0,4)) (λκ9=>
  (Q3 a0).bind λv11=>
  (lp (S:=Int) (E:=(l4 × Int × Int) ⊕ Unit) (λ(s13:Int)=>
   if (decide (s13<(v11.b7.length:Int))) then
    (ix v11.b7 s13).bind λv15=>
    if ((v15.State==0)==true) then
     (ix a0.b7 s13).bind λv16=>
     (E1 a0 s13 (⟨1,v16.Gen,a1⟩:c8)).bind λv17=>
     (dR s13 v16.Gen).bind λv18=>
     some (.inr (.inl (v17,v18,0)))
    else
    some (.inl (u7 (s13+1)))
   else
   some (.inr (.inr ()))) 0).bind λe12=>
  match e12 with
  | .inl w=>some w
  | .inr w=>κ9 w)
def W9(a0:b6)(a1:Int)(a2:Int):Option (b6 × Int × Int):=
 (qm a1).bind λv1=>
 if (v1.2 != 0) then
  some (a0,0,v1.2)
 else
 (V7 a2).bind λv2=>
 if (!v2) then
  some (a0,0,13)
 else
 (L6 a0.S (⟨u7 (a0.Serial+1),0,0,a2,false,v1.1⟩:n7)).bind λv3=>
 if (v3.2.2 != 0) then
  some (a0,0,v3.2.2)
 else
 some ((⟨v3.1,u7 (a0.Serial+1)⟩:b6),v3.2.1,0)
def eI(a0:Int):Option (Int × Int × Bool):=
 if (decide (a0<1)) then
  some ((-1),(-1),false)
 else
 (rem (u7 (a0-1)) 32).bind λv1=>
 (quo .i64 v1 1).bind λv2=>
 (quo .i64 (u7 (a0-1)) 32).bind λv3=>
 if ((decide (v2>=24))||(decide (v3 > 9))) then
  some ((-1),(-1),false)
 else
 some (v2,v3,true)
def gQ(a0:Int):Option Int:=
 (eI a0).bind λv1=>
 some v1.1
def jy(a0:Int):Option Int:=
 (eI a0).bind λv1=>
 some v1.2.1
def z7(a0:l4)(a1:Int):Option (Int × Int):=
 if (a1==0) then
  some ((-1),2)
 else
 (gQ a1).bind λv1=>
 if ((decide (v1<0))||(decide (v1>=(a0.b7.length:Int)))) then
  some ((-1),3)
 else
 (ix a0.b7 v1).bind λv2=>
 (jy a1).bind λv3=>
 if ((v2.Gen != v3)||((v2.State != 1)&&(v2.State != 2))) then
  some ((-1),3)
 else
 some (v1,0)
def G8(a0:l4)(a1:Int):Option (n7 × Int):=
 (z7 a0 a1).bind λv1=>
 if (v1.2 != 0) then
  some ((⟨0,0,0,0,false,[]⟩:n7),v1.2)
 else
 (ix a0.b7 v1.1).bind λv2=>
 if (v2.State==2) then
  some ((⟨0,0,0,0,false,[]⟩:n7),3)
 else
 some (v2.Val,0)
def x6(a0:b6)(a1:Int):Option (n7 × Int):=
 (G8 a0.S a1).bind λv1=>
 some (v1.1,v1.2)
def kq(a0:b9)(a1:Int):Option Bool:=
 (x6 a0.S a1).bind λv1=>
 some (v1.2==0)
def N8(a0:b9)(a1:Int):Option Bool:=
 (C7 ((a1==0)==false) false (kq a0 a1)).bind λv1=>
 some ((a1==0)||v1)
def H9(a0:Int):Option Bool:=
 some (decide (a0>=12))
def jw(a0:Int):Option (Int × Int):=
 (H9 a0).bind λv1=>
 if v1 then
  some (12,0)
 else
 some (u7 ((if 0 > a0 then 0 else a0)+1),0)
def pP(a0:Int):Option Int:=
 (jw a0).bind λv1=>
 some v1.1
def aC(a0:l4)(a1:Int)(a2:n7):Option (l4 × Int):=
 (z7 a0 a1).bind λv1=>
 if (v1.2 != 0) then
  some (a0,v1.2)
 else
 (ix a0.b7 v1.1).bind λv2=>
 (E1 a0 v1.1 (⟨v2.State,v2.Gen,a2⟩:c8)).bind λv3=>
 some (v3,0)
def R6(a0:b6)(a1:Int)(a2:n7):Option (b6 × Int):=
 (aC a0.S a1 a2).bind λv1=>
 some ((⟨v1.1,a0.Serial⟩:b6),v1.2)
def Y7(a0:b9)(a1:Int):Option b9:=
 (x6 a0.S a1).bind λv1=>
 if (v1.2==0) then
  (pP v1.1.Strong).bind λv2=>
  (R6 a0.S a1 (⟨v1.1.Serial,v2,v1.1.Weak,v1.1.Prog,v1.1.Started,v1.1.Fields⟩:n7)).bind λv3=>
  some (⟨v3.1,a0.Roots,a0.b7,a0.T,a0.Q⟩:b9)
 else
 some a0
def bH(a0:b9)(a1:Int):Option b9:=
 (Y7 a0 a1).bind λv1=>
 some v1
def R9(a0:K8)(a1:b9):Option b9:=
 (y5 a1.Roots).bind λv1=>
 (ix v1 a0.r).bind λv2=>
 some (⟨a1.S,(v1.set (a0.r).toNat a0.h),a1.b7,a1.T,a1.Q⟩:b9)
def fU(a0:Int):Option (Int × Int):=
 (H9 a0).bind λv1=>
 if v1 then
  some (12,0)
 else
 if (decide (a0<1)) then
  some (0,11)
 else
 some (u7 (a0-1),0)
def uF(a0:Int):Option (Int × Int):=
 (fU a0).bind λv1=>
 some (v1.1,v1.2)
def eK(a0:Int):Option Int:=
 (uF a0).bind λv1=>
 if (v1.2 != 0) then
  some a0
 else
 some v1.1
def P7(a0:b9)(a1:Int):Option b9:=
 (x6 a0.S a1).bind λv1=>
 if (v1.2==0) then
  (eK v1.1.Strong).bind λv2=>
  (R6 a0.S a1 (⟨v1.1.Serial,v2,v1.1.Weak,v1.1.Prog,v1.1.Started,v1.1.Fields⟩:n7)).bind λv3=>
  some (⟨v3.1,a0.Roots,a0.b7,a0.T,a0.Q⟩:b9)
 else
 some a0
def E0(a0:b9)(a1:Int):Option b9:=
 (P7 a0 a1).bind λv1=>
 some v1
def G4(a0:b9)(a1:Int)(a2:Int)(a3:K8):Option b9:=
 (bH a0 a2).bind λv1=>
 (R9 a3 v1).bind λv2=>
 (E0 v2 a1).bind λv3=>
 some v3
def bZ(a0:b9)(a1:Int)(a2:Int):Option (b9 × Int):=
 if ((decide (a1<0))||(decide (a1>=(a0.Roots.length:Int)))) then
  some (a0,6)
 else
 (N8 a0 a2).bind λv1=>
 if (!v1) then
  some (a0,3)
 else
 (ix a0.Roots a1).bind λv2=>
 (G4 a0 v2 a2 (⟨a1,a2⟩:K8)).bind λv3=>
 some (v3,0)
def B9(a0:r7)(a1:Int)(a2:Int):Option (b9 × Int):=
 if (a2 != 0) then
  some (a0.x,a2)
 else
 (bZ a0.x a0.o.A a1).bind λv1=>
 some (v1.1,v1.2)
def X9(a0:r7):Option (b9 × Int):=
 (W9 a0.x.S a0.o.B a0.o.C).bind λv1=>
 if (v1.2.2 != 0) then
  some (a0.x,v1.2.2)
 else
 (B9 (⟨⟨v1.1,a0.x.Roots,a0.x.b7,a0.x.T,a0.x.Q⟩,a0.o⟩:r7) v1.2.1 0).bind λv2=>
 some (v2.1,v2.2)
def O0(a0:b9)(a1:Int):Option Int:=
 if ((decide (a1<0))||(decide (a1>=(a0.Roots.length:Int)))) then
  some 0
 else
 (ix a0.Roots a1).bind λv1=>
 some v1
def K9(a0:r7):Option (b9 × Int):=
 (O0 a0.x a0.o.B).bind λv1=>
 (B9 a0 v1 0).bind λv2=>
 some (v2.1,v2.2)
def br(a0:r7):Option (b9 × Int):=
 (B9 a0 0 0).bind λv1=>
 some (v1.1,v1.2)
def O5(a0:b9)(a1:Int):Option (Int × Int):=
 (O0 a0 a1).bind λv1=>
 if (v1==0) then
  some (0,2)
 else
 some (v1,0)
def J4(a0:b6)(a1:Int)(a2:Int):Option (Int × Int):=
 (x6 a0 a1).bind λv1=>
 if (v1.2 != 0) then
  some (0,v1.2)
 else
 (iG v1.1.Fields a2).bind λv2=>
 some (v2.1,v2.2)
def bt(a0:r7):Option (b9 × Int):=
 (O5 a0.x a0.o.B).bind λv1=>
 if (v1.2 != 0) then
  some (a0.x,v1.2)
 else
 (J4 a0.x.S v1.1 a0.o.C).bind λv2=>
 (B9 a0 v2.1 v2.2).bind λv3=>
 some (v3.1,v3.2)
def qh(a0:b6)(a1:Int)(a2:Int)(a3:Int):Option (b6 × Int):=
 (x6 a0 a1).bind λv1=>
 if (v1.2 != 0) then
  some (a0,v1.2)
 else
 (mh v1.1.Fields a2 a3).bind λv2=>
 if (v2.2 != 0) then
  some (a0,v2.2)
 else
 (R6 a0 a1 (⟨v1.1.Serial,v1.1.Strong,v1.1.Weak,v1.1.Prog,v1.1.Started,v2.1⟩:n7)).bind λv3=>
 some (v3.1,v3.2)
def cK(a0:H0)(a1:b9):Option b9:=
 (qh a1.S a0.h a0.k a0.v).bind λv1=>
 some (⟨v1.1,a1.Roots,a1.b7,a1.T,a1.Q⟩:b9)
def F9(a0:b9)(a1:Int)(a2:Int)(a3:H0):Option b9:=
 (bH a0 a2).bind λv1=>
 (cK a3 v1).bind λv2=>
 (E0 v2 a1).bind λv3=>
 some v3
def au(a0:b9)(a1:Int)(a2:Int)(a3:Int):Option (b9 × Int):=
 (J4 a0.S a1 a2).bind λv1=>
 if (v1.2 != 0) then
  some (a0,v1.2)
 else
 (N8 a0 a3).bind λv2=>
 if (!v2) then
  some (a0,3)
 else
 (F9 a0 v1.1 a3 (⟨a1,a2,a3⟩:H0)).bind λv3=>
 some (v3,0)
def ax(a0:r7):Option (b9 × Int):=
 (O5 a0.x a0.o.A).bind λv1=>
 if (v1.2 != 0) then
  some (a0.x,v1.2)
 else
 (O0 a0.x a0.o.C).bind λv2=>
 (au a0.x v1.1 a0.o.B v2).bind λv3=>
 some (v3.1,v3.2)
def ah(a0:b9)(a1:Int)(a2:Int):Option b9:=
 (z7 a0.S.S a1).bind λv1=>
 if (v1.2==0) then
  (ix a0.S.S.b7 v1.1).bind λv2=>
  (R6 a0.S a1 (⟨v2.Val.Serial,v2.Val.Strong,u7 (v2.Val.Weak+a2),v2.Val.Prog,v2.Val.Started,v2.Val.Fields⟩:n7)).bind λv3=>
  some (⟨v3.1,a0.Roots,a0.b7,a0.T,a0.Q⟩:b9)
 else
 some a0
def Q2(a0:l4)(a1:Int):Option (l4 × Int):=
 (z7 a0 a1).bind λv1=>
 if (v1.2 != 0) then
  some (a0,v1.2)
 else
 (ix a0.b7 v1.1).bind λv2=>
 if (v2.Gen==a0.Last) then
  (E1 a0 v1.1 (⟨3,v2.Gen,⟨0,0,0,0,false,[]⟩⟩:c8)).bind λv3=>
  some (v3,0)
 else
 (E1 a0 v1.1 (⟨0,u7 (v2.Gen+1),⟨0,0,0,0,false,[]⟩⟩:c8)).bind λv4=>
 some (v4,0)
def aR(a0:b9)(a1:Int):Option b9:=
 (ah a0 a1 (-1)).bind λv1=>
 (z7 v1.S.S a1).bind λv2=>
 if (v2.2 != 0) then
  some v1
 else
 (ix v1.S.S.b7 v2.1).bind λv3=>
 if ((v3.State==2)&&(v3.Val.Weak==0)) then
  (Q2 v1.S.S a1).bind λv4=>
  some (⟨⟨v4.1,v1.S.Serial⟩,v1.Roots,v1.b7,v1.T,v1.Q⟩:b9)
 else
 some v1
def R4(a0:b9)(a1:Int)(a2:Int)(a3:Int):Option (b9 × Int):=
 (C7 (((decide (a1<0))||(decide (a1>=(a0.b7.length:Int))))==false) false (aD a0.Q a1)).bind λv1=>
 if (((decide (a1<0))||(decide (a1>=(a0.b7.length:Int))))||v1) then
  some (a0,7)
 else
 (N8 a0 a2).bind λv2=>
 if (!v2) then
  some (a0,3)
 else
 (jS a0.b7 a1 a2 a3).bind λv3=>
 (ah (⟨a0.S,a0.Roots,v3.1,a0.T,a0.Q⟩:b9) a2 1).bind λv4=>
 (aR v4 v3.2.1).bind λv5=>
 some (v5,0)
def L4(a0:r7):Option (b9 × Int):=
 if (a0.o.B==(-1)) then
  (R4 a0.x a0.o.A 0 a0.o.C).bind λv1=>
  some (v1.1,v1.2)
 else
 (O5 a0.x a0.o.B).bind λv2=>
 if (v2.2 != 0) then
  some (a0.x,v2.2)
 else
 (R4 a0.x a0.o.A v2.1 a0.o.C).bind λv3=>
 some (v3.1,v3.2)
def aK(a0:r7):Option (b9 × Int):=
 (cD a0.x.b7 a0.o.B).bind λv1=>
 (B9 a0 v1.1 v1.2).bind λv2=>
 some (v2.1,v2.2)
def je(a0:Int)(a1:Int):Option (Int × Int):=
 some (a0,a1)
def dS(a0:Int)(a1:Int):Option Int:=
 if (decide (a0<1)) then
  some 0
 else
 (rem (u7 ((u7 (5*a1))+1)) a0).bind λv1=>
 if (decide (v1<0)) then
  some (u7 (v1+a0))
 else
 some v1
def aQ(a0:List e6)(a1:Int):Option Int:=
 jn (λ(_:Unit)=>
  some (-1)) (λκ8=>
  (je (a0.length:Int) a1).bind λv10=>
  (lp (S:=Int) (E:=Int ⊕ Unit) (λ(s12:Int)=>
   if (decide (s12<v10.1)) then
    (dS v10.1 v10.2).bind λv14=>
    (rem (u7 (v14+s12)) v10.1).bind λv15=>
    (ix a0 v15).bind λv16=>
    if (v16.State==0) then
     some (.inr (.inr ()))
    else
    if ((v16.State==1)&&(v16.Key==a1)) then
     some (.inr (.inl v15))
    else
    some (.inl (u7 (s12+1)))
   else
   some (.inr (.inr ()))) 0).bind λe11=>
  match e11 with
  | .inl w=>some w
  | .inr w=>κ8 w)
def Y6(a0:List e6)(a1:Int):Option (Int × Int):=
 (aQ a0 a1).bind λv1=>
 if (decide (v1<0)) then
  some (0,9)
 else
 (ix a0 v1).bind λv2=>
 some (v2.Val,0)
def E7(a0:List e6):Option (List e6):=
 app 24 [] a0
def dT(a0:List e6)(a1:Int)(a2:e6):Option (List e6):=
 (E7 a0).bind λv1=>
 (ix v1 a1).bind λv2=>
 some (v1.set (a1).toNat a2)
def aP(a0:List e6)(a1:Int):Option ((List e6) × Int × Int):=
 (aQ a0 a1).bind λv1=>
 if (decide (v1<0)) then
  some (a0,0,9)
 else
 (dT a0 v1 (⟨2,0,0⟩:e6)).bind λv2=>
 (ix a0 v1).bind λv3=>
 some (v2,v3.Val,0)
def oR(a0:List e6)(a1:Int)(a2:Int):Option ((List e6) × Int):=
 (aQ a0 a1).bind λv1=>
 if (decide (v1>=0)) then
  (dT a0 v1 (⟨1,a1,a2⟩:e6)).bind λv2=>
  some (v2,0)
 else
 jn (λ(_:Unit)=>
  some (a0,8)) (λκ11=>
  (je (a0.length:Int) a1).bind λv13=>
  (lp (S:=Int) (E:=((List e6) × Int) ⊕ Unit) (λ(s15:Int)=>
   if (decide (s15<v13.1)) then
    (dS v13.1 v13.2).bind λv17=>
    (rem (u7 (v17+s15)) v13.1).bind λv18=>
    (ix a0 v18).bind λv19=>
    if (v19.State != 1) then
     (dT a0 v18 (⟨1,a1,a2⟩:e6)).bind λv20=>
     some (.inr (.inl (v20,0)))
    else
    some (.inl (u7 (s15+1)))
   else
   some (.inr (.inr ()))) 0).bind λe14=>
  match e14 with
  | .inl w=>some w
  | .inr w=>κ11 w)
def U4(a0:List e6)(a1:Int)(a2:Int):Option ((List e6) × Int × Int):=
 if (a1==0) then
  some (a0,0,2)
 else
 (Y6 a0 a1).bind λv1=>
 if (a2==0) then
  (aP a0 a1).bind λv2=>
  some (v2.1,v1.1,0)
 else
 (oR a0 a1 a2).bind λv3=>
 if (v3.2 != 0) then
  some (a0,0,v3.2)
 else
 some (v3.1,v1.1,0)
def aw(a0:K7)(a1:b9):Option b9:=
 some (⟨a1.S,a1.Roots,a1.b7,a0.t,a1.Q⟩:b9)
def D7(a0:b9)(a1:Int)(a2:Int)(a3:K7):Option b9:=
 (bH a0 a2).bind λv1=>
 (aw a3 v1).bind λv2=>
 (E0 v2 a1).bind λv3=>
 some v3
def bY(a0:b9)(a1:Int)(a2:Int):Option (b9 × Int):=
 if (a1==0) then
  some (a0,2)
 else
 (N8 a0 a1).bind λv1=>
 (C7 ((!v1)==false) false (N8 a0 a2)).bind λv2=>
 if ((!v1)||(!v2)) then
  some (a0,3)
 else
 (U4 a0.T a1 a2).bind λv3=>
 if (v3.2.2 != 0) then
  some (a0,v3.2.2)
 else
 (D7 a0 v3.2.1 a2 (⟨v3.1⟩:K7)).bind λv4=>
 some (v4,0)
def bu(a0:r7):Option (b9 × Int):=
 (O5 a0.x a0.o.A).bind λv1=>
 if (v1.2 != 0) then
  some (a0.x,v1.2)
 else
 (O0 a0.x a0.o.B).bind λv2=>
 (bY a0.x v1.1 v2).bind λv3=>
 some (v3.1,v3.2)
def uH(a0:List e6)(a1:Int):Option (Int × Int):=
 (Y6 a0 a1).bind λv1=>
 some (v1.1,v1.2)
def cd(a0:r7):Option (b9 × Int):=
 (O5 a0.x a0.o.B).bind λv1=>
 if (v1.2 != 0) then
  some (a0.x,v1.2)
 else
 (uH a0.x.T v1.1).bind λv2=>
 (B9 a0 v2.1 v2.2).bind λv3=>
 some (v3.1,v3.2)
def S9(a0:r7):Option (b9 × Int):=
 some (a0.x,0)
def wZ(f:Fv)(a0:r7):Option (b9 × Int):=
 if f=some 203 then X9 a0 else
 if f=some 204 then K9 a0 else
 if f=some 205 then br a0 else
 if f=some 206 then bt a0 else
 if f=some 207 then ax a0 else
 if f=some 208 then L4 a0 else
 if f=some 209 then aK a0 else
 if f=some 210 then bu a0 else
 if f=some 211 then cd a0 else
 if f=some 212 then S9 a0 else
 none
def cV(a0:Int):Option Bool:=
 some (a0 != a0)
def ig(a0:Int)(a1:Int):Option Int:=
 (cV a0).bind λv1=>
 (cV a1).bind λv2=>
 if v1 then
  if v2 then
   some 0
  else
  some (-1)
 else
 if v2 then
  some 1
 else
 if (decide (a0<a1)) then
  some (-1)
 else
 if (decide (a0 > a1)) then
  some 1
 else
 some 0
def iY(a0:Int)(a1:Int)(a2:List (Int × Int)):Option Int:=
 (ig ((y9 a2 a0).getD (0:Int)) ((y9 a2 a1).getD (0:Int))).bind λv1=>
 some v1
def F7(a0:b6):Option (List Int):=
 jn (λ((j18,j19):(List (Int × Int)) × (List Int))=>
  (vt (λp q=>iY p q j18) j19).bind λv21=>
  some v21) (λκ17=>
  (lp (S:=Int × (List (Int × Int)) × (List Int)) (E:=((List (Int × Int)) × (List Int))) (λ((s23,s24,s25):Int × (List (Int × Int)) × (List Int))=>
   if (decide (s23<(a0.S.b7.length:Int))) then
    jn (λ((j32,j33):(List (Int × Int)) × (List Int))=>
     some (.inl (u7 (s23+1),j32,j33))) (λκ31=>
     (ix a0.S.b7 s23).bind λv35=>
     if (v35.State==1) then
      (dR s23 v35.Gen).bind λv36=>
      (app 8 s25 [v36]).bind λv37=>
      κ31 ((o7 s24 v36 v35.Val.Serial),v37)
     else
     κ31 (s24,s25))
   else
   some (.inr (s24,s25))) (0,[],[])).bind λe22=>
  κ17 e22)
def dY(a0:b9):Option (List Int):=
 jn (λ(j16:List Int)=>
  some j16) (λκ15=>
  (F7 a0.S).bind λv17=>
  (lp (S:=Int × (List Int)) (E:=(List Int)) (λ((s19,s20):Int × (List Int))=>
   if (decide (s19<(v17.length:Int))) then
    jn (λ(j27:List Int)=>
     some (.inl (u7 (s19+1),j27))) (λκ26=>
     (ix v17 s19).bind λv28=>
     (x6 a0.S v28).bind λv29=>
     if (v29.1.Strong==0) then
      (app 8 s20 [v28]).bind λv30=>
      κ26 v30
     else
     κ26 s20)
   else
   some (.inr s20)) (0,[])).bind λe18=>
  κ15 e18)
def O9(a0:n7):Option Bool:=
 some ((decide (a0.Prog>=0))&&(!a0.Started))
def V5(a0:j5)(a1:g5):Option (j5 × Int):=
 (L5 a0).bind λv1=>
 if (decide (v1>=a0.Cap)) then
  some (a0,4)
 else
 (G7 a0.L 0 v1).bind λv2=>
 (app 24 v2 [a1]).bind λv3=>
 some ((⟨v3,a0.Cap⟩:j5),0)
def pE(a0:j5)(a1:g5):Option (j5 × Int):=
 (V5 a0 a1).bind λv1=>
 some (v1.1,v1.2)
def W8(a0:b9)(a1:Int):Option b9:=
 (x6 a0.S a1).bind λv1=>
 (C7 ((v1.2 != 0)==false) false (O9 v1.1)).bind λv2=>
 if ((v1.2 != 0)||(!v2)) then
  some a0
 else
 (R6 a0.S a1 (⟨v1.1.Serial,v1.1.Strong,v1.1.Weak,v1.1.Prog,true,v1.1.Fields⟩:n7)).bind λv3=>
 (pE a0.Q (⟨1,a1,v1.1.Prog⟩:g5)).bind λv4=>
 (bH (⟨v3.1,a0.Roots,a0.b7,a0.T,v4.1⟩:b9) a1).bind λv5=>
 some v5
def Z6(a0:b9)(a1:List Int):Option (List Int):=
 jn (λ(j18:List Int)=>
  some j18) (λκ17=>
  (lp (S:=Int × (List (Int × Bool)) × (List Int)) (E:=(List Int)) (λ((s20,s21,s22):Int × (List (Int × Bool)) × (List Int))=>
   if (decide (s20<(a1.length:Int))) then
    jn (λ((j29,j30):(List Int) × (List (Int × Bool)))=>
     some (.inl (u7 (s20+1),j30,j29))) (λκ28=>
     (ix a1 s20).bind λv32=>
     (x6 a0.S v32).bind λv33=>
     if ((v33.2==0)==true) then
      if (!((y9 s21 v32).getD (false:Bool))) then
       (app 8 s22 [v32]).bind λv34=>
       κ28 (v34,(o7 s21 v32 true))
      else
      κ28 (s22,s21)
     else
     κ28 (s22,s21))
   else
   some (.inr s22)) (0,[],[])).bind λe19=>
  κ17 e19)
def fz(a0:b9)(a1:List Int):Option b9:=
 (gr a0.b7 a1).bind λv1=>
 jn (λ(j11:j5)=>
  some (⟨a0.S,a0.Roots,v1.1,a0.T,j11⟩:b9)) (λκ10=>
  (lp (S:=Int × j5) (E:=j5) (λ((s13,s14):Int × j5)=>
   if (decide (s13<(v1.2.length:Int))) then
    (ix v1.2 s13).bind λv17=>
    (ix v1.1 v17).bind λv18=>
    (pE s14 (⟨2,v17,v18.Call⟩:g5)).bind λv19=>
    some (.inl (u7 (s13+1),v19.1))
   else
   some (.inr s14)) (0,a0.Q)).bind λe12=>
  κ10 e12)
def qn(a0:List Int):Option (List Int):=
 some a0
def jo(a0:List Int):Option (List Int):=
 jn (λ(j10:List Int)=>
  some j10) (λκ9=>
  (qn a0).bind λv11=>
  (lp (S:=Int × (List Int)) (E:=(List Int)) (λ((s13,s14):Int × (List Int))=>
   if (decide (s13<(v11.length:Int))) then
    (ix v11 s13).bind λv17=>
    if ((v17 != 0)==true) then
     (app 8 s14 [v17]).bind λv18=>
     some (.inl (u7 (s13+1),v18))
    else
    some (.inl (u7 (s13+1),s14))
   else
   some (.inr s14)) (0,[])).bind λe12=>
  κ9 e12)
def aO(a0:List e6)(a1:List Int):Option ((List e6) × (List Int)):=
 jn (λ((j18,j19):(List e6) × (List Int))=>
  some (j18,j19)) (λκ17=>
  (lp (S:=(List e6) × Int × (List Int)) (E:=((List e6) × (List Int))) (λ((s22,s23,s24):(List e6) × Int × (List Int))=>
   if (decide (s23<(a1.length:Int))) then
    jn (λ((j31,j32):(List e6) × (List Int))=>
     some (.inl (j31,u7 (s23+1),j32))) (λκ30=>
     (ix a1 s23).bind λv34=>
     (aP s22 v34).bind λv35=>
     if (v35.2.2==0) then
      (app 8 s24 [v35.2.1]).bind λv36=>
      κ30 (v35.1,v36)
     else
     κ30 (s22,s24))
   else
   some (.inr (s22,s24))) (a0,0,[])).bind λe21=>
  κ17 e21)
def Y0(a0:l4)(a1:Int):Option (l4 × Int):=
 (G8 a0 a1).bind λv1=>
 if (v1.2 != 0) then
  some (a0,v1.2)
 else
 (gQ a1).bind λv2=>
 (jy a1).bind λv3=>
 (E1 a0 v2 (⟨2,v3,v1.1⟩:c8)).bind λv4=>
 some (v4,0)
def aX(a0:b9)(a1:Int):Option b9:=
 (x6 a0.S a1).bind λv1=>
 (R6 a0.S a1 (⟨v1.1.Serial,0,v1.1.Weak,v1.1.Prog,v1.1.Started,[]⟩:n7)).bind λv2=>
 (Y0 v2.1.S a1).bind λv3=>
 if (v1.1.Weak==0) then
  (Q2 v3.1 a1).bind λv4=>
  some (⟨⟨v4.1,v2.1.Serial⟩,a0.Roots,a0.b7,a0.T,a0.Q⟩:b9)
 else
 some (⟨⟨v3.1,v2.1.Serial⟩,a0.Roots,a0.b7,a0.T,a0.Q⟩:b9)
def bQ(a0:b9)(a1:List Int):Option b9:=
 (Z6 a0 a1).bind λv1=>
 (fz a0 v1).bind λv2=>
 jn (λ(j13:List Int)=>
  (aO v2.T v1).bind λv14=>
  (app 8 j13 v14.2).bind λv15=>
  jn (λ(j24:b9)=>
   jn (λ(j33:b9)=>
    some j33) (λκ32=>
    (lp (S:=Int × b9) (E:=b9) (λ((s35,s36):Int × b9)=>
     if (decide (s35<(v15.length:Int))) then
      (ix v15 s35).bind λv39=>
      (E0 s36 v39).bind λv40=>
      some (.inl (u7 (s35+1),v40))
     else
     some (.inr s36)) (0,j24)).bind λe34=>
    κ32 e34)) (λκ23=>
   (lp (S:=Int × b9) (E:=b9) (λ((s42,s43):Int × b9)=>
    if (decide (s42<(v1.length:Int))) then
     (ix v1 s42).bind λv46=>
     (aX s43 v46).bind λv47=>
     some (.inl (u7 (s42+1),v47))
    else
    some (.inr s43)) (0,(⟨v2.S,v2.Roots,v2.b7,v14.1,v2.Q⟩:b9))).bind λe41=>
   κ23 e41)) (λκ12=>
  (lp (S:=Int × (List Int)) (E:=(List Int)) (λ((s49,s50):Int × (List Int))=>
   if (decide (s49<(v1.length:Int))) then
    (ix v1 s49).bind λv53=>
    (x6 v2.S v53).bind λv54=>
    (jo v54.1.Fields).bind λv55=>
    (app 8 s50 v55).bind λv56=>
    some (.inl (u7 (s49+1),v56))
   else
   some (.inr s50)) (0,[])).bind λe48=>
  κ12 e48)
def R2(a0:b9):Option b9:=
 (lp (S:=b9) (E:=b9) (λ(s2:b9)=>
  (dY s2).bind λv4=>
  if ((v4.length:Int)==0) then
   some (.inr s2)
  else
  (ix v4 0).bind λv5=>
  (x6 s2.S v5).bind λv6=>
  (O9 v6.1).bind λv7=>
  if v7 then
   (W8 s2 v5).bind λv8=>
   some (.inl v8)
  else
  (cut v4 0 1).bind λv9=>
  (bQ s2 v9).bind λv10=>
  some (.inl v10)) a0).bind λe1=>
 some e1
def eT(a0:b9)(a1:Int):Option Int:=
 (x6 a0.S a1).bind λv1=>
 some v1.1.Serial
def dF(a0:b9)(a1:Int):Option Int:=
 (O0 a0 a1).bind λv1=>
 (eT a0 v1).bind λv2=>
 some v2
def Z0(a0:b9)(a1:b9)(a2:g7):Option Int:=
 if (a2.Kind==5) then
  (dF a0 a2.C).bind λv1=>
  some v1
 else
 jn (λ(j3:Bool)=>
  if j3 then
   (dF a0 a2.B).bind λv4=>
   some v4
  else
  if (a2.Kind==10) then
   (O0 a0 a2.A).bind λv5=>
   (O0 a0 a2.B).bind λv6=>
   if (v5==v6) then
    some 1
   else
   some 0
  else
  (dF a1 a2.A).bind λv7=>
  some v7) (λκ2=>
  if (a2.Kind==6) then
   κ2 (a2.Kind==6)
  else
  κ2 (a2.Kind==8))
def u4(a0:b9)(a1:g7):Option (b9 × Int × Int):=
 (W1 a1).bind λv1=>
 if (v1 != 0) then
  some (a0,0,v1)
 else
 (gC).bind λv2=>
 if (!((y9 v2 a1.Kind).isSome)) then
  some (a0,0,14)
 else
 (wZ ((y9 v2 a1.Kind).getD (none:Fv)) (⟨a0,a1⟩:r7)).bind λv3=>
 if (v3.2 != 0) then
  some (a0,0,v3.2)
 else
 (R2 v3.1).bind λv5=>
 (Z0 v3.1 v5 a1).bind λv6=>
 some (v5,v6,0)
def np(a0:b6):Option b6:=
 some a0
def lW(a0:b6)(a1:Int):Option (List Int):=
 (x6 a0 a1).bind λv1=>
 (jo v1.1.Fields).bind λv2=>
 some v2
def xe(a0:b6)(a1:Int):Option Int:=
 jn (λ(j31:Int)=>
  some j31) (λκ30=>
  (np a0).bind λv32=>
  (F7 v32).bind λv33=>
  (lp (S:=Int × Int) (E:=Int) (λ((s35,s36):Int × Int)=>
   if (decide (s35<(v33.length:Int))) then
    jn (λ(j50:Int)=>
     some (.inl (u7 (s35+1),j50))) (λκ49=>
     (ix v33 s35).bind λv51=>
     (lW v32 v51).bind λv52=>
     (lp (S:=Int × Int) (E:=Int) (λ((s54,s55):Int × Int)=>
      if (decide (s54<(v52.length:Int))) then
       (ix v52 s54).bind λv58=>
       jn (λ(j60:Int)=>
        some (.inl (u7 (s54+1),j60))) (λκ59=>
        if (v58==a1) then
         κ59 (u7 (s55+1))
        else
        κ59 s55)
      else
      some (.inr s55)) (0,s36)).bind λe53=>
     κ49 e53)
   else
   some (.inr s36)) (0,0)).bind λe34=>
  κ30 e34)
def dP(a0:List e6):Option (List e6):=
 some a0
def lC(a0:List e6):Option (List Int):=
 jn (λ(j13:List Int)=>
  some j13) (λκ12=>
  (lp (S:=Int × (List Int)) (E:=(List Int)) (λ((s15,s16):Int × (List Int))=>
   if (decide (s15<(a0.length:Int))) then
    jn (λ(j22:List Int)=>
     some (.inl (u7 (s15+1),j22))) (λκ21=>
     (ix a0 s15).bind λv23=>
     if (v23.State==1) then
      (app 8 s16 [v23.Key]).bind λv24=>
      κ21 v24
     else
     κ21 s16)
   else
   some (.inr s16)) (0,[])).bind λe14=>
  κ12 e14)
def gz(a0:g8)(a1:Int):Option Bool:=
 some ((a1 != 0)&&(a0.Val==a1))
def B1(a0:List e6)(a1:Int):Option (List g8):=
 jn (λ(j16:List g8)=>
  some j16) (λκ15=>
  (lC a0).bind λv17=>
  (lp (S:=Int × (List g8)) (E:=(List g8)) (λ((s19,s20):Int × (List g8))=>
   if (decide (s19<(v17.length:Int))) then
    (ix v17 s19).bind λv23=>
    (Y6 a0 v23).bind λv24=>
    jn (λ(j28:List g8)=>
     some (.inl (u7 (s19+1),j28))) (λκ27=>
     (gz (⟨v23,v24.1⟩:g8) a1).bind λv29=>
     if v29 then
      (app 16 s20 [(⟨v23,v24.1⟩:g8)]).bind λv30=>
      κ27 v30
     else
     κ27 s20)
   else
   some (.inr s20)) (0,[])).bind λe18=>
  κ15 e18)
def km(a0:List e6)(a1:Int):Option Int:=
 (dP a0).bind λv1=>
 (B1 v1 a1).bind λv2=>
 some (v2.length:Int)
def kL(a0:b6)(a1:List e6)(a2:Int):Option Int:=
 (xe a0 a2).bind λv1=>
 (km a1 a2).bind λv2=>
 some (u7 (v1+v2))
def nG(a0:b6)(a1:List e6)(a2:Int):Option Int:=
 (x6 a0 a2).bind λv1=>
 if (v1.2 != 0) then
  some 0
 else
 (kL a0 a1 a2).bind λv2=>
 some (u7 (v1.1.Strong-v2))
def oD(a0:Int):Option Bool:=
 (H9 a0).bind λv1=>
 some v1
def nF(a0:Int)(a1:n7)(a2:b6)(a3:List e6):Option Bool:=
 (nG a2 a3 a0).bind λv1=>
 (C7 ((decide (v1 > 0))==false) false (oD a1.Strong)).bind λv2=>
 some ((decide (v1 > 0))||v2)
def nE(a0:b6)(a1:List e6):Option (List Int):=
 jn (λ(j36:List Int)=>
  some j36) (λκ35=>
  jn (λ(j54:List Int)=>
   κ35 j54) (λκ53=>
   (F7 a0).bind λv55=>
   (lp (S:=Int × (List Int)) (E:=(List Int)) (λ((s57,s58):Int × (List Int))=>
    if (decide (s57<(v55.length:Int))) then
     jn (λ(j66:List Int)=>
      some (.inl (u7 (s57+1),j66))) (λκ65=>
      (ix v55 s57).bind λv67=>
      (x6 a0 v67).bind λv68=>
      (nF v67 v68.1 a0 a1).bind λv69=>
      if v69 then
       (app 8 s58 [v67]).bind λv70=>
       κ65 v70
      else
      κ65 s58)
    else
    some (.inr s58)) (0,[])).bind λe56=>
   κ53 e56))
def cu(a0:b6)(a1:Int):Option Bool:=
 (x6 a0 a1).bind λv1=>
 some (v1.2==0)
def fw(a0:b6)(a1:List Int):Option (List (Int × Bool)):=
 (F7 a0).bind λv1=>
 (aV (v1.length:Int)).bind λv2=>
 jn (λ((j20,j21):c9 × (List (Int × Bool)))=>
  jn (λ(j68:List (Int × Bool))=>
   some j68) (λκ67=>
   (lp (S:=c9 × (List (Int × Bool))) (E:=(List (Int × Bool))) (λ((s70,s71):c9 × (List (Int × Bool)))=>
    (H3 s70).bind λv74=>
    if (decide (v74 > 0)) then
     (W4 s70).bind λv75=>
     (lW a0 v75.2.1).bind λv76=>
     jn (λ((j94,j95):c9 × (List (Int × Bool)))=>
      some (.inl (j94,j95))) (λκ93=>
      (lp (S:=Int × c9 × (List (Int × Bool))) (E:=(c9 × (List (Int × Bool)))) (λ((s98,s99,s100):Int × c9 × (List (Int × Bool)))=>
       if (decide (s98<(v76.length:Int))) then
        jn (λ((j107,j108):c9 × (List (Int × Bool)))=>
         some (.inl (u7 (s98+1),j107,j108))) (λκ106=>
         (ix v76 s98).bind λv110=>
         (cu a0 v110).bind λv111=>
         if (v111==true) then
          if (!((y9 s100 v110).getD (false:Bool))) then
           (D3 s99 v110).bind λv112=>
           κ106 (v112.1,(o7 s100 v110 true))
          else
          κ106 (s99,s100)
         else
         κ106 (s99,s100))
       else
       some (.inr (s99,s100))) (0,v75.1,s71)).bind λe97=>
      κ93 e97)
    else
    some (.inr s71)) (j20,j21)).bind λe69=>
   κ67 e69)) (λκ19=>
  (lp (S:=Int × c9 × (List (Int × Bool))) (E:=(c9 × (List (Int × Bool)))) (λ((s114,s115,s116):Int × c9 × (List (Int × Bool)))=>
   if (decide (s114<(a1.length:Int))) then
    jn (λ((j123,j124):c9 × (List (Int × Bool)))=>
     some (.inl (u7 (s114+1),j123,j124))) (λκ122=>
     (ix a1 s114).bind λv126=>
     (cu a0 v126).bind λv127=>
     if (v127==true) then
      if (!((y9 s116 v126).getD (false:Bool))) then
       (D3 s115 v126).bind λv128=>
       κ122 (v128.1,(o7 s116 v126 true))
      else
      κ122 (s115,s116)
     else
     κ122 (s115,s116))
   else
   some (.inr (s115,s116))) (0,v2,[])).bind λe113=>
  κ19 e113)
def iU(a0:Int)(a1:List (Int × Bool)):Option Bool:=
 some ((y9 a1 a0).getD (false:Bool))
def W5(a0:b6)(a1:List (Int × Bool)):Option (List Int):=
 jn (λ(j16:List Int)=>
  some j16) (λκ15=>
  (F7 a0).bind λv17=>
  (lp (S:=Int × (List Int)) (E:=(List Int)) (λ((s19,s20):Int × (List Int))=>
   if (decide (s19<(v17.length:Int))) then
    jn (λ(j27:List Int)=>
     some (.inl (u7 (s19+1),j27))) (λκ26=>
     (ix v17 s19).bind λv28=>
     (iU v28 a1).bind λv29=>
     if v29 then
      (app 8 s20 [v28]).bind λv30=>
      κ26 v30
     else
     κ26 s20)
   else
   some (.inr s20)) (0,[])).bind λe18=>
  κ15 e18)
def jJ(a0:b6)(a1:List Int):Option (List Int):=
 (fw a0 a1).bind λv1=>
 (W5 a0 v1).bind λv2=>
 some v2
def gA(a0:g8):Option Bool:=
 some true
def B2(a0:List e6):Option (List g8):=
 jn (λ(j16:List g8)=>
  some j16) (λκ15=>
  (lC a0).bind λv17=>
  (lp (S:=Int × (List g8)) (E:=(List g8)) (λ((s19,s20):Int × (List g8))=>
   if (decide (s19<(v17.length:Int))) then
    (ix v17 s19).bind λv23=>
    (Y6 a0 v23).bind λv24=>
    jn (λ(j28:List g8)=>
     some (.inl (u7 (s19+1),j28))) (λκ27=>
     (gA (⟨v23,v24.1⟩:g8)).bind λv29=>
     if v29 then
      (app 16 s20 [(⟨v23,v24.1⟩:g8)]).bind λv30=>
      κ27 v30
     else
     κ27 s20)
   else
   some (.inr s20)) (0,[])).bind λe18=>
  κ15 e18)
def ko(a0:List e6):Option (List g8):=
 (dP a0).bind λv1=>
 (B2 v1).bind λv2=>
 some v2
def jx(a0:Int)(a1:b6):Option Bool:=
 (x6 a1 a0).bind λv1=>
 some (v1.2==0)
def sJ(a0:b6)(a1:List e6)(a2:List Int):Option (List Int):=
 jn (λ(j20:List Int)=>
  some j20) (λκ19=>
  (ko a1).bind λv21=>
  (lp (S:=Int × (List Int)) (E:=(List Int)) (λ((s23,s24):Int × (List Int))=>
   if (decide (s23<(v21.length:Int))) then
    jn (λ(j33:List Int)=>
     some (.inl (u7 (s23+1),j33))) (λκ32=>
     (ix v21 s23).bind λv34=>
     (E2 a2 v34.Key).bind λv35=>
     (C7 (v35==true) false (jx v34.Key a0)).bind λv36=>
     (C7 ((v35&&v36)==true) false (jx v34.Val a0)).bind λv37=>
     if ((v35&&v36)&&v37) then
      (app 8 s24 [v34.Val]).bind λv38=>
      κ32 v38
     else
     κ32 s24)
   else
   some (.inr s24)) (0,[])).bind λe22=>
  κ19 e22)
def pS(a0:b6)(a1:List e6)(a2:List Int):Option ((List Int) × Int):=
 (jJ a0 a2).bind λv1=>
 (lp (S:=(List Int) × Int) (E:=((List Int) × Int)) (λ((s3,s4):(List Int) × Int)=>
  (sJ a0 a1 s3).bind λv7=>
  jn (λ(_:Unit)=>
   some (.inr (s3,s4))) (λκ15=>
   (lp (S:=Int) (E:=((List Int) × Int) ⊕ Unit) (λ(s18:Int)=>
    if (decide (s18<(v7.length:Int))) then
     (ix v7 s18).bind λv20=>
     (E2 s3 v20).bind λv21=>
     if (!v21) then
      (app 8 v7 s3).bind λv22=>
      (jJ a0 v22).bind λv23=>
      some (.inr (.inl (v23,u7 (s4+1))))
     else
     some (.inl (u7 (s18+1)))
    else
    some (.inr (.inr ()))) 0).bind λe17=>
   match e17 with
   | .inl w=>some (.inl w)
   | .inr w=>κ15 w)) (v1,0)).bind λe2=>
 some e2
def sI(a0:b6)(a1:List e6)(a2:List Int):Option (List Int):=
 (pS a0 a1 a2).bind λv1=>
 some v1.1
def iV(a0:Int)(a1:List (Int × Bool)):Option Bool:=
 some (!((y9 a1 a0).getD (false:Bool)))
def W6(a0:b6)(a1:List (Int × Bool)):Option (List Int):=
 jn (λ(j16:List Int)=>
  some j16) (λκ15=>
  (F7 a0).bind λv17=>
  (lp (S:=Int × (List Int)) (E:=(List Int)) (λ((s19,s20):Int × (List Int))=>
   if (decide (s19<(v17.length:Int))) then
    jn (λ(j27:List Int)=>
     some (.inl (u7 (s19+1),j27))) (λκ26=>
     (ix v17 s19).bind λv28=>
     (iV v28 a1).bind λv29=>
     if v29 then
      (app 8 s20 [v28]).bind λv30=>
      κ26 v30
     else
     κ26 s20)
   else
   some (.inr s20)) (0,[])).bind λe18=>
  κ15 e18)
def nn(a0:b6)(a1:List Int):Option (List Int):=
 (fw a0 a1).bind λv1=>
 (W6 a0 v1).bind λv2=>
 some v2
def oK(a0:b6)(a1:List e6)(a2:List Int):Option (List Int):=
 (sI a0 a1 a2).bind λv1=>
 (nn a0 v1).bind λv2=>
 some v2
def df(a0:b6)(a1:List e6):Option (List Int):=
 (nE a0 a1).bind λv1=>
 (oK a0 a1 v1).bind λv2=>
 some v2
def U3(a0:b9):Option (List Int):=
 (df a0.S a0.T).bind λv1=>
 some v1
def ij(a0:Int)(a1:b9):Option Bool:=
 (x6 a1.S a0).bind λv1=>
 some ((decide (v1.1.Prog>=0))&&(!v1.1.Started))
def J9(a0:List Int)(a1:b9):Option (List Int):=
 jn (λ(j15:List Int)=>
  some j15) (λκ14=>
  (lp (S:=Int × (List Int)) (E:=(List Int)) (λ((s17,s18):Int × (List Int))=>
   if (decide (s17<(a0.length:Int))) then
    jn (λ(j25:List Int)=>
     some (.inl (u7 (s17+1),j25))) (λκ24=>
     (ix a0 s17).bind λv26=>
     (ij v26 a1).bind λv27=>
     if v27 then
      (app 8 s18 [v26]).bind λv28=>
      κ24 v28
     else
     κ24 s18)
   else
   some (.inr s18)) (0,[])).bind λe16=>
  κ14 e16)
def gy(a0:b9):Option (List Int):=
 (U3 a0).bind λv1=>
 (J9 v1 a0).bind λv2=>
 some v2
def aG(a0:b9):Option (b9 × Int × Int):=
 (gy a0).bind λv1=>
 jn (λ(j10:b9)=>
  if (decide ((v1.length:Int) > 0)) then
   some (j10,(v1.length:Int),0)
  else
  (U3 j10).bind λv11=>
  (bQ j10 v11).bind λv12=>
  (R2 v12).bind λv13=>
  (F7 j10.S).bind λv14=>
  (F7 v13.S).bind λv15=>
  some (v13,0,u7 ((v14.length:Int)-(v15.length:Int)))) (λκ9=>
  (lp (S:=Int × b9) (E:=b9) (λ((s17,s18):Int × b9)=>
   if (decide (s17<(v1.length:Int))) then
    (ix v1 s17).bind λv21=>
    (W8 s18 v21).bind λv22=>
    some (.inl (u7 (s17+1),v22))
   else
   some (.inr s18)) (0,a0)).bind λe16=>
  κ9 e16)
def gO(a0:b9):Option Bool:=
 (aY a0.Q).bind λv1=>
 some (v1.2.2 != 0)
def gT(a0:b9)(a1:List g7):Option (b9 × (List Int)):=
 jn (λ((j11,j12):b9 × (List Int))=>
  some (j11,j12)) (λκ10=>
  (lp (S:=Int × b9 × (List Int)) (E:=(b9 × (List Int))) (λ((s15,s16,s17):Int × b9 × (List Int))=>
   if (decide (s15<(a1.length:Int))) then
    (ix a1 s15).bind λv20=>
    (u4 s16 v20).bind λv21=>
    (app 8 s17 [v21.2.1]).bind λv22=>
    some (.inl (u7 (s15+1),v21.1,v22))
   else
   some (.inr (s16,s17))) (0,a0,[])).bind λe14=>
  κ10 e14)
def mM(a0:b9)(a1:List (List g7)):Option (b9 × g5 × Int):=
 (aY a0.Q).bind λv1=>
 if (v1.2.2 != 0) then
  some (a0,(⟨0,0,0⟩:g5),v1.2.2)
 else
 jn (λ(j6:b9)=>
  (dy a1 v1.2.1.Prog).bind λv7=>
  (gT j6 v7).bind λv8=>
  if (v1.2.1.Kind==1) then
   (bZ v8.1 5 0).bind λv9=>
   (R2 v9.1).bind λv10=>
   some (v10,v1.2.1,0)
  else
  some (v8.1,v1.2.1,0)) (λκ5=>
  if (v1.2.1.Kind==1) then
   (bZ (⟨a0.S,a0.Roots,a0.b7,a0.T,v1.1⟩:b9) 5 v1.2.1.At).bind λv11=>
   (E0 v11.1 v1.2.1.At).bind λv12=>
   (R2 v12).bind λv13=>
   κ5 v13
  else
  κ5 (⟨a0.S,a0.Roots,a0.b7,a0.T,v1.1⟩:b9))
def gN(a0:b9)(a1:List (List g7))(a2:Int):Option (b9 × Int × Int × Int):=
 jn (λ((j14,j15,j16):Int × Int × b9)=>
  (gO j16).bind λv18=>
  if (!v18) then
   some (j16,j14,j15,12)
  else
  some (j16,j14,j15,0)) (λκ13=>
  (lp (S:=Int × b9 × Int × Int × b9) (E:=(Int × Int × b9)) (λ((s20,s21,s22,s23,s24):Int × b9 × Int × Int × b9)=>
   (gO s21).bind λv27=>
   if (!v27) then
    (aY s21.Q).bind λv28=>
    (bE a1 v28.2.1).bind λv29=>
    if (decide (v29 > s20)) then
     some (.inr (s22,s23,s24))
    else
    (mM s21 a1).bind λv30=>
    some (.inl (u7 (s20-v29),v30.1,u7 (s22+1),u7 (s20-v29),v30.1))
   else
   some (.inr (s22,s23,s24))) (a2,a0,0,a2,a0)).bind λe19=>
  κ13 e19)
def pR(a0:r8)(a1:List Int):Option (r8 × g9):=
 (U6 a1).bind λv1=>
 if (v1.2 != 0) then
  some (a0,(⟨0,v1.2⟩:g9))
 else
 (mO v1.1).bind λv2=>
 if (decide (v2.t=162)) then
  (u4 a0.X (⟨(FH v2 162 0),(FH v2 162 1),(FH v2 162 2),(FH v2 162 3)⟩:g7)).bind λv3=>
  some ((⟨v3.1,a0.Progs⟩:r8),(⟨v3.2.1,v3.2.2⟩:g9))
 else
 if (decide (v2.t=166)) then
  (aG a0.X).bind λv4=>
  some ((⟨v4.1,a0.Progs⟩:r8),(⟨u7 (v4.2.2-v4.2.1),0⟩:g9))
 else
 if (decide (v2.t=170)) then
  (gN a0.X a0.Progs (FH v2 170 0)).bind λv5=>
  some ((⟨v5.1,a0.Progs⟩:r8),(⟨v5.2.1,v5.2.2.2⟩:g9))
 else
 some (a0,(⟨0,0⟩:g9))
def mN(a0:r8)(a1:List (List Int)):Option (r8 × (List g9)):=
 jn (λ((j11,j12):r8 × (List g9))=>
  some (j11,j12)) (λκ10=>
  (lp (S:=Int × r8 × (List g9)) (E:=(r8 × (List g9))) (λ((s15,s16,s17):Int × r8 × (List g9))=>
   if (decide (s15<(a1.length:Int))) then
    (ix a1 s15).bind λv20=>
    (pR s16 v20).bind λv21=>
    (app 16 s17 [v21.2]).bind λv22=>
    some (.inl (u7 (s15+1),v21.1,v22))
   else
   some (.inr (s16,s17))) (0,a0,[])).bind λe14=>
  κ10 e14)
def pH(a0:List g9):Option (List y8):=
 jn (λ(j9:List y8)=>
  some j9) (λκ8=>
  (lp (S:=Int × (List y8)) (E:=(List y8)) (λ((s11,s12):Int × (List y8))=>
   if (decide (s11<(a0.length:Int))) then
    (ix a0 s11).bind λv15=>
    (app 16 s12 [(⟨v15.V,v15.E⟩:y8)]).bind λv16=>
    some (.inl (u7 (s11+1),v16))
   else
   some (.inr s12)) (0,[])).bind λe10=>
  κ8 e10)
def vJ(a0:List y8)(a1:List y8):Option Bool:=
 if ((a0.length:Int) != (a1.length:Int)) then
  some false
 else
 jn (λ(_:Unit)=>
  some true) (λκ6=>
  (lp (S:=Int) (E:=Bool ⊕ Unit) (λ(s9:Int)=>
   if (decide (s9<(a0.length:Int))) then
    (ix a0 s9).bind λv11=>
    (ix a1 s9).bind λv12=>
    if (!((v11.V==v12.V)&&((v11.E==v12.E)&&true))) then
     some (.inr (.inl false))
    else
    some (.inl (u7 (s9+1)))
   else
   some (.inr (.inr ()))) 0).bind λe8=>
  match e8 with
  | .inl w=>some w
  | .inr w=>κ6 w)
def gq:Option Bool:=
 (aS 3 5 8 [[(⟨2,2,5,0⟩:g7)]]).bind λv1=>
 (R8 3 5 8 [[(⟨2,2,5,0⟩:g7)]]).bind λv2=>
 (aT v1.1 [[1,0,1,0],[5,0,0,0],[3,0,0,0],[11,0,0,0],[12,9,0,0],[3,2,0,0],[11,0,0,0],[2,9,0,0]]).bind λv3=>
 (mN v2.1 [[1,0,1,0],[5,0,0,0],[3,0,0,0],[11,0,0,0],[12,9,0,0],[3,2,0,0],[11,0,0,0],[2,9,0,0]]).bind λv4=>
 (C7 (((((v1.2==0)&&(v2.2==0))&&(decide ((v3.1.Gens.length:Int) > 0)))&&((v3.2.length:Int)==8))==true) [] (pH v3.2)).bind λv5=>
 (C7 (((((v1.2==0)&&(v2.2==0))&&(decide ((v3.1.Gens.length:Int) > 0)))&&((v3.2.length:Int)==8))==true) [] (pH v4.2)).bind λv6=>
 (C7 (((((v1.2==0)&&(v2.2==0))&&(decide ((v3.1.Gens.length:Int) > 0)))&&((v3.2.length:Int)==8))==true) false (vJ v5 v6)).bind λv7=>
 (C7 ((((((v1.2==0)&&(v2.2==0))&&(decide ((v3.1.Gens.length:Int) > 0)))&&((v3.2.length:Int)==8))&&v7)==true) (⟨0,0⟩:g9) (ix v3.2 3)).bind λv8=>
 (C7 (((((((v1.2==0)&&(v2.2==0))&&(decide ((v3.1.Gens.length:Int) > 0)))&&((v3.2.length:Int)==8))&&v7)&&(v8.V==(-1)))==true) (⟨0,0⟩:g9) (ix v3.2 4)).bind λv9=>
 (C7 ((((((((v1.2==0)&&(v2.2==0))&&(decide ((v3.1.Gens.length:Int) > 0)))&&((v3.2.length:Int)==8))&&v7)&&(v8.V==(-1)))&&(v9.V==1))==true) (⟨0,0⟩:g9) (ix v3.2 6)).bind λv10=>
 (C7 (((((((((v1.2==0)&&(v2.2==0))&&(decide ((v3.1.Gens.length:Int) > 0)))&&((v3.2.length:Int)==8))&&v7)&&(v8.V==(-1)))&&(v9.V==1))&&(v10.V==1))==true) (⟨0,0⟩:g9) (ix v3.2 7)).bind λv11=>
 (C7 ((((((((((v1.2==0)&&(v2.2==0))&&(decide ((v3.1.Gens.length:Int) > 0)))&&((v3.2.length:Int)==8))&&v7)&&(v8.V==(-1)))&&(v9.V==1))&&(v10.V==1))&&(v11.E==6))==true) [] (dU v3.1)).bind λv12=>
 (C7 (((((((((((v1.2==0)&&(v2.2==0))&&(decide ((v3.1.Gens.length:Int) > 0)))&&((v3.2.length:Int)==8))&&v7)&&(v8.V==(-1)))&&(v9.V==1))&&(v10.V==1))&&(v11.E==6))&&((v12.length:Int)==0))==true) (0:Int) (ix v3.1.Gens 0)).bind λv13=>
 some (((((((((((v1.2==0)&&(v2.2==0))&&(decide ((v3.1.Gens.length:Int) > 0)))&&((v3.2.length:Int)==8))&&v7)&&(v8.V==(-1)))&&(v9.V==1))&&(v10.V==1))&&(v11.E==6))&&((v12.length:Int)==0))&&(v13==1))
def ur(a0:a8):Option Bool:=
 jn (λ(_:Unit)=>
  (C7 ((((((((decide ((a0.Nodes.length:Int)<=50))&&(decide ((a0.Pairs.length:Int)<=20)))&&(decide ((a0.Tasks.length:Int)<=100)))&&(decide ((a0.b7.length:Int)<=20)))&&(decide ((a0.Roots.length:Int)<=20)))&&(decide ((a0.Slots.length:Int)<=30)))&&(decide ((a0.Gens.length:Int)<=30)))==true) false (ia a0.Progs)).bind λv7=>
  some ((((((((decide ((a0.Nodes.length:Int)<=50))&&(decide ((a0.Pairs.length:Int)<=20)))&&(decide ((a0.Tasks.length:Int)<=100)))&&(decide ((a0.b7.length:Int)<=20)))&&(decide ((a0.Roots.length:Int)<=20)))&&(decide ((a0.Slots.length:Int)<=30)))&&(decide ((a0.Gens.length:Int)<=30)))&&v7)) (λκ5=>
  (lp (S:=Int) (E:=Bool ⊕ Unit) (λ(s9:Int)=>
   if ((decide (s9<(a0.Nodes.length:Int)))&&(decide (s9<60))) then
    (ix a0.Nodes s9).bind λv11=>
    if (decide ((v11.Fields.length:Int) > 10)) then
     some (.inr (.inl false))
    else
    some (.inl (u7 (s9+1)))
   else
   some (.inr (.inr ()))) 0).bind λe8=>
  match e8 with
  | .inl w=>some w
  | .inr w=>κ5 w)
def jR(a0:Int)(a1:Int)(a2:List (List g7))(a3:List (List Int)):Option Bool:=
 (ia a2).bind λv1=>
 (C7 ((!v1)==false) false (gp a3 60)).bind λv2=>
 (C7 (((!v1)||(!v2))==false) false gq).bind λv3=>
 if (((!v1)||(!v2))||(!v3)) then
  (gq).bind λv4=>
  some v4
 else
 (rem (u7 a0) 24).bind λv5=>
 (rem (u7 a1) 10).bind λv6=>
 (aS (u7 (1+v5)) v6 8 a2).bind λv7=>
 if (v7.2 != 0) then
  some (v7.2==13)
 else
 (aT v7.1 a3).bind λv8=>
 (ur v8.1).bind λv9=>
 if (((!v9)||((v8.1.Slots.length:Int) != (u7 (1+v5))))||((v8.1.Gens.length:Int) != (u7 (1+v5)))) then
  some false
 else
 jn (λ(j26:Int)=>
  jn (λ(_:Unit)=>
   some (j26==(v8.1.Nodes.length:Int))) (λκ33=>
   (lp (S:=Int) (E:=Bool ⊕ Unit) (λ(s36:Int)=>
    if (decide (s36<(v8.1.Nodes.length:Int))) then
     (ix v8.1.Nodes s36).bind λv38=>
     (C7 (((decide (v38.Slot<0))||(decide (v38.Slot>=(u7 (1+v5)))))==false) (0:Int) (ix v8.1.Slots v38.Slot)).bind λv39=>
     (C7 (((((decide (v38.Slot<0))||(decide (v38.Slot>=(u7 (1+v5)))))||(v39 != v38.Serial))==false)&&((decide (s36 > 0))==true)) (⟨0,0,0,false,false,false,[]⟩:b8) (ix v8.1.Nodes (u7 (s36-1)))).bind λv40=>
     if ((((decide (v38.Slot<0))||(decide (v38.Slot>=(u7 (1+v5)))))||(v39 != v38.Serial))||((decide (s36 > 0))&&(decide (v38.Serial<=v40.Serial)))) then
      some (.inr (.inl false))
     else
     some (.inl (u7 (s36+1)))
    else
    some (.inr (.inr ()))) 0).bind λe35=>
   match e35 with
   | .inl w=>some w
   | .inr w=>κ33 w)) (λκ25=>
  (lp (S:=Int × Int) (E:=Bool ⊕ Int) (λ((s42,s43):Int × Int)=>
   if (decide (s43<(u7 (1+v5)))) then
    jn (λ(j51:Int)=>
     some (.inl (j51,u7 (s43+1)))) (λκ50=>
     (ix v8.1.Gens s43).bind λv52=>
     (C7 (((decide (v52<0))||(decide (v52 > v8.1.Last)))==false) (0:Int) (ix v8.1.Slots s43)).bind λv53=>
     (C7 ((((decide (v52<0))||(decide (v52 > v8.1.Last)))||(decide (v53<(-1))))==false) (0:Int) (ix v8.1.Slots s43)).bind λv54=>
     if ((((decide (v52<0))||(decide (v52 > v8.1.Last)))||(decide (v53<(-1))))||(decide (v54 > v8.1.Serial))) then
      some (.inr (.inl false))
     else
     (ix v8.1.Slots s43).bind λv55=>
     if (decide (v55 > 0)) then
      κ50 (u7 (s42+1))
     else
     κ50 s42)
   else
   some (.inr (.inr s42))) (0,0)).bind λe41=>
  match e41 with
  | .inl w=>some w
  | .inr w=>κ25 w)
structure fu where
 Kind:Int
 A:Int
 B:Int
 C:Int
structure xd where
 Serial:Int
 Strong:Int
 Weak:Int
 Prog:Int
 Started:Bool
 Fields:List Int
structure lT where
 State:Int
 Gen:Int
 Val:xd
structure gZ where
 Target:Int
 Intact:Bool
 Call:Int
structure I2 where
 State:Int
 Key:Int
 Val:Int
structure ES where
 Kind:Int
 At:Int
 Prog:Int
structure ER where
 State:Int
 Gen:Int
 Val:Int
structure yB where
 b7:List ER
 Last:Int
structure jj where
 b7:List lT
 Last:Int
 Serial:Int
structure pX where
 L:List ES
 Cap:Int
structure lV where
 S:jj
 Roots:List Int
 b7:List gZ
 T:List I2
 Q:pX
structure nm where
 X:lV
 Progs:List (List fu)
def pY(a0:fu):Option Bool:=
 some ((decide (a0.Kind>=1))&&(decide (a0.Kind<=10)))
def dK(a0:Int)(a1:Int)(a2:Int)(a3:Int):Option Int:=
 if ((decide (a0<a1))||(decide (a0 > a2))) then
  some a3
 else
 some 0
def cr(a0:Int)(a1:Int)(a2:Int):Option Int:=
 if (a0 != 0) then
  some a0
 else
 if (a1 != 0) then
  some a1
 else
 some a2
def gi(a0:fu):Option Int:=
 (dK a0.A 0 5 6).bind λv1=>
 (dK a0.B 0 5 6).bind λv2=>
 if (a0.Kind==1) then
  (dK a0.B 0 4 1).bind λv3=>
  (dK a0.C (-1) 5 13).bind λv4=>
  (cr v1 v3 v4).bind λv5=>
  some v5
 else
 jn (λ(j7:Bool)=>
  if j7 then
   (cr v1 v2 0).bind λv8=>
   some v8
  else
  if (a0.Kind==3) then
   some v1
  else
  if (a0.Kind==4) then
   (dK a0.C 0 3 5).bind λv9=>
   (cr v1 v2 v9).bind λv10=>
   some v10
  else
  if (a0.Kind==5) then
   (dK a0.B 0 3 5).bind λv11=>
   (dK a0.C (-1) 5 6).bind λv12=>
   (cr v1 v11 v12).bind λv13=>
   some v13
  else
  if (a0.Kind==6) then
   (dK a0.A 0 5 7).bind λv14=>
   (dK a0.B (-1) 5 6).bind λv15=>
   (dK a0.C (-1) 5 13).bind λv16=>
   (cr v14 v15 v16).bind λv17=>
   some v17
  else
  if (a0.Kind==7) then
   (dK a0.B 0 5 7).bind λv18=>
   (cr v1 v18 0).bind λv19=>
   some v19
  else
  if (a0.Kind==8) then
   (dK a0.B (-1) 5 6).bind λv20=>
   (cr v1 v20 0).bind λv21=>
   some v21
  else
  if (a0.Kind==11) then
   some 0
  else
  if (a0.Kind==12) then
   (dK a0.A 0 200 12).bind λv22=>
   some v22
  else
  some 14) (λκ6=>
  if (a0.Kind==2) then
   κ6 (a0.Kind==2)
  else
  if (a0.Kind==9) then
   κ6 (a0.Kind==9)
  else
  κ6 (a0.Kind==10))
def pZ(a0:List (List fu)):Option Bool:=
 if (decide ((a0.length:Int) > 6)) then
  some false
 else
 jn (λ(_:Unit)=>
  some true) (λκ20=>
  (lp (S:=Int) (E:=Bool ⊕ Unit) (λ(s23:Int)=>
   if (decide (s23<(a0.length:Int))) then
    jn (λ(_:Unit)=>
     some (.inl (u7 (s23+1)))) (λκ32=>
     (ix a0 s23).bind λv34=>
     if (decide ((v34.length:Int) > 6)) then
      some (.inr (.inl false))
     else
     (lp (S:=Int) (E:=Bool ⊕ Unit) (λ(s36:Int)=>
      if (decide (s36<(v34.length:Int))) then
       (ix v34 s36).bind λv38=>
       (pY v38).bind λv39=>
       (C7 ((!v39)==false) 0 (gi v38)).bind λv40=>
       if ((!v39)||(v40 != 0)) then
        some (.inr (.inl false))
       else
       some (.inl (u7 (s36+1)))
      else
      some (.inr (.inr ()))) 0).bind λe35=>
     match e35 with
     | .inl w=>some (.inr (.inl w))
     | .inr w=>κ32 w)
   else
   some (.inr (.inr ()))) 0).bind λe22=>
  match e22 with
  | .inl w=>some w
  | .inr w=>κ20 w)
def IX(a0:Int)(a1:Int):Option yB:=
 if ((((decide (a0<0))||(decide (a0 > 24)))||(decide (a1<0)))||(decide (a1 > 9))) then
  some (⟨[],0⟩:yB)
 else
 (mk 24 a0 (⟨0,0,0⟩:ER)).bind λv1=>
 some (⟨v1,a1⟩:yB)
def CU(a0:Int)(a1:Int):Option jj:=
 (IX a0 a1).bind λv1=>
 (mk 80 (v1.b7.length:Int) (⟨0,0,⟨0,0,0,0,false,[]⟩⟩:lT)).bind λv2=>
 some (⟨v2,v1.Last,0⟩:jj)
def Re(a0:Int):Option (List gZ):=
 jn (λ(j8:List gZ)=>
  some j8) (λκ7=>
  (lp (S:=Int × (List gZ)) (E:=(List gZ)) (λ((s10,s11):Int × (List gZ))=>
   if ((decide (s10<a0))&&(decide (a0<=6))) then
    (app 24 s11 [(⟨0,false,(-1)⟩:gZ)]).bind λv14=>
    some (.inl (u7 (s10+1),v14))
   else
   some (.inr s11)) (0,[])).bind λe9=>
  κ7 e9)
def IY(a0:Int):Option (List I2):=
 if ((decide (a0<1))||(decide (a0 > 8))) then
  some []
 else
 (mk 24 a0 (⟨0,0,0⟩:I2)).bind λv1=>
 some v1
def Rf:Option pX:=
 some (⟨[],30⟩:pX)
def tR(a0:Int)(a1:Int)(a2:Int):Option lV:=
 if ((((((decide (a0<1))||(decide (a0 > 24)))||(decide (a1<0)))||(decide (a1 > 9)))||(decide (a2<1)))||(decide (a2 > 8))) then
  some (⟨⟨[],0,0⟩,[],[],[],⟨[],0⟩⟩:lV)
 else
 (CU a0 a1).bind λv1=>
 (mk 8 6 (0:Int)).bind λv2=>
 (Re 6).bind λv3=>
 (IY a2).bind λv4=>
 (Rf).bind λv5=>
 some (⟨v1,v2,v3,v4,v5⟩:lV)
def CV(a0:Int)(a1:Int)(a2:Int)(a3:List (List fu)):Option (nm × Int):=
 (pZ a3).bind λv1=>
 if (!v1) then
  some ((⟨⟨⟨[],0,0⟩,[],[],[],⟨[],0⟩⟩,[]⟩:nm),13)
 else
 (tR a0 a1 a2).bind λv2=>
 if ((v2.Roots.length:Int)==0) then
  some ((⟨⟨⟨[],0,0⟩,[],[],[],⟨[],0⟩⟩,[]⟩:nm),1)
 else
 some ((⟨v2,a3⟩:nm),0)
def lU(a0:List I2)(a1:Int):Option Int:=
 jn (λ(_:Unit)=>
  some (-1)) (λκ5=>
  (lp (S:=Int) (E:=Int ⊕ Unit) (λ(s8:Int)=>
   if (decide (s8<(a0.length:Int))) then
    (ix a0 s8).bind λv10=>
    if ((v10.State==1)&&(v10.Key==a1)) then
     some (.inr (.inl s8))
    else
    some (.inl (u7 (s8+1)))
   else
   some (.inr (.inr ()))) 0).bind λe7=>
  match e7 with
  | .inl w=>some w
  | .inr w=>κ5 w)
def jI(a0:List Int):Option (fu × Int):=
 if ((a0.length:Int) != 4) then
  some ((⟨0,0,0,0⟩:fu),14)
 else
 (ix a0 0).bind λv1=>
 (ix a0 1).bind λv2=>
 (ix a0 2).bind λv3=>
 (ix a0 3).bind λv4=>
 (gi (⟨v1,v2,v3,v4⟩:fu)).bind λv5=>
 if (v5 != 0) then
  some ((⟨0,0,0,0⟩:fu),v5)
 else
 some ((⟨v1,v2,v3,v4⟩:fu),0)
def yC(a0:List I2)(a1:Int)(a2:I2):Option (List I2):=
 (app 24 [] a0).bind λv1=>
 (ix v1 a1).bind λv2=>
 some (v1.set (a1).toNat a2)
def tQ(a0:List I2)(a1:Int):Option ((List I2) × Int × Int):=
 (lU a0 a1).bind λv1=>
 if (decide (v1<0)) then
  some (a0,0,9)
 else
 (yC a0 v1 (⟨2,0,0⟩:I2)).bind λv2=>
 (ix a0 v1).bind λv3=>
 some (v2,v3.Val,0)
def pg(a0:List I2)(a1:List Int):Option ((List I2) × (List Int)):=
 jn (λ((j18,j19):(List I2) × (List Int))=>
  some (j18,j19)) (λκ17=>
  (lp (S:=(List I2) × Int × (List Int)) (E:=((List I2) × (List Int))) (λ((s22,s23,s24):(List I2) × Int × (List Int))=>
   if (decide (s23<(a1.length:Int))) then
    jn (λ((j31,j32):(List I2) × (List Int))=>
     some (.inl (j31,u7 (s23+1),j32))) (λκ30=>
     (ix a1 s23).bind λv34=>
     (tQ s22 v34).bind λv35=>
     if (v35.2.2==0) then
      (app 8 s24 [v35.2.1]).bind λv36=>
      κ30 (v35.1,v36)
     else
     κ30 (s22,s24))
   else
   some (.inr (s22,s24))) (a0,0,[])).bind λe21=>
  κ17 e21)
def CT(a0:List Int)(a1:Int):Option (Int × Int):=
 if ((decide (a1<0))||(decide (a1>=(a0.length:Int)))) then
  some (0,5)
 else
 (ix a0 a1).bind λv1=>
 some (v1,0)
end
end Go.Sh
