/- A part. -/
import Derived.Test.YtjlokngooekbcaaGreatESh0
import Derived.Test.YtjlokngooekbcaaGreatEPwD
import Derived.Test.YtjlokngooekbcaaGreatEPwC
set_option linter.unusedVariables false
set_option linter.unusedSimpArgs false
set_option linter.unusedSectionVars false
namespace Go.Sh
set_option maxRecDepth 100000
noncomputable section
structure n7 where
 Serial:Int
 Strong:Int
 Weak:Int
 Prog:Int
 Started:Bool
 Fields:List Int
structure c4 where
 State:Int
 Gen:Int
 Val:n7
structure g6 where
 Cells:List c4
 Last:Int
structure a7 where
 S:g6
 Serial:Int
structure g9 where
 Target:Int
 Intact:Bool
 Call:Int
structure c9 where
 State:Int
 Key:Int
 Val:Int
structure l5 where
 Kind:Int
 At:Int
 Prog:Int
structure g7 where
 L:List l5
 Cap:Int
structure b7 where
 S:a7
 Roots:List Int
 Cells:List g9
 T:List c9
 Q:g7
structure k8 where
 Kind:Int
 A:Int
 B:Int
 C:Int
structure D2 where
 Serial:Int
 Strong:Int
 Weak:Int
 Prog:Int
 Started:Bool
 Fields:List Int
structure n8 where
 State:Int
 Gen:Int
 Val:D2
structure m9 where
 Target:Int
 Intact:Bool
 Call:Int
structure k7 where
 State:Int
 Key:Int
 Val:Int
structure o8 where
 Kind:Int
 At:Int
 Prog:Int
structure l4 where
 Cells:List n8
 Last:Int
 Serial:Int
structure y4 where
 L:List o8
 Cap:Int
structure c5 where
 S:l4
 Roots:List Int
 Cells:List m9
 T:List k7
 Q:y4
structure z6 where
 State:Int
 Gen:Int
 Val:Int
structure y9 where
 Cells:List z6
 Last:Int
structure B0 where
 Key:Int
 Val:Int
structure s6 where
 Kind:Int
 A:Int
 B:Int
 C:Int
structure k9 where
 part:Fv
 least:Int
 most:Int
 e:Int
structure p7 where
 X:b7
 Progs:List (List k8)
structure m8 where
 V:Int
 E:Int
structure w7 where
 x:b7
 o:k8
structure J5 where
 r:Int
 h:Int
structure I3 where
 h:Int
 k:Int
 v:Int
structure J4 where
 t:List c9
structure p6 where
 Key:Int
 Val:Int
structure l7 where
 L:List Int
 Cap:Int
structure z8 where
 X:c5
 Progs:List (List s6)
structure E9 where
 V:Int
 E:Int
def qJ(a0:a7):Option Bool:=
 jn (λ(_:Unit)=>
  some (decide ((a0.S.Cells.length:Int)<=30))) (λκ5=>
  (lp (S:=Int) (E:=Bool ⊕ Unit) (λ(s8:Int)=>
   if ((decide (s8<(a0.S.Cells.length:Int)))&&(decide (s8<30))) then
    (ix a0.S.Cells s8).bind λv10=>
    if (decide ((v10.Val.Fields.length:Int) > 10)) then
     some (.inr (.inl false))
    else
    some (.inl (A1 (s8+1)))
   else
   some (.inr (.inr ()))) 0).bind λe7=>
  match e7 with
  | .inl w=>some w
  | .inr w=>κ5 w)
def qI(a0:b7):Option Bool:=
 (qJ a0.S).bind λv1=>
 some ((((v1&&(decide ((a0.Roots.length:Int)<=20)))&&(decide ((a0.Cells.length:Int)<=20)))&&(decide ((a0.T.length:Int)<=20)))&&(decide ((a0.Q.L.length:Int)<=60)))
def yf(a0:n7):Option D2:=
 some (⟨a0.Serial,a0.Strong,a0.Weak,a0.Prog,a0.Started,a0.Fields⟩:D2)
def ye(a0:a7):Option l4:=
 jn (λ(j10:List n8)=>
  some (⟨j10,a0.S.Last,a0.Serial⟩:l4)) (λκ9=>
  (lp (S:=Int × (List n8)) (E:=(List n8)) (λ((s12,s13):Int × (List n8))=>
   if (decide (s12<(a0.S.Cells.length:Int))) then
    (ix a0.S.Cells s12).bind λv16=>
    (yf v16.Val).bind λv17=>
    (app 80 s13 [(⟨v16.State,v16.Gen,v17⟩:n8)]).bind λv18=>
    some (.inl (A1 (s12+1),v18))
   else
   some (.inr s13)) (0,[])).bind λe11=>
  κ9 e11)
def qH(a0:List g9):Option (List m9):=
 jn (λ(j9:List m9)=>
  some j9) (λκ8=>
  (lp (S:=Int × (List m9)) (E:=(List m9)) (λ((s11,s12):Int × (List m9))=>
   if (decide (s11<(a0.length:Int))) then
    (ix a0 s11).bind λv15=>
    (app 24 s12 [(⟨v15.Target,v15.Intact,v15.Call⟩:m9)]).bind λv16=>
    some (.inl (A1 (s11+1),v16))
   else
   some (.inr s12)) (0,[])).bind λe10=>
  κ8 e10)
def yg(a0:List c9):Option (List k7):=
 jn (λ(j9:List k7)=>
  some j9) (λκ8=>
  (lp (S:=Int × (List k7)) (E:=(List k7)) (λ((s11,s12):Int × (List k7))=>
   if (decide (s11<(a0.length:Int))) then
    (ix a0 s11).bind λv15=>
    (app 24 s12 [(⟨v15.State,v15.Key,v15.Val⟩:k7)]).bind λv16=>
    some (.inl (A1 (s11+1),v16))
   else
   some (.inr s12)) (0,[])).bind λe10=>
  κ8 e10)
def qL(a0:g7):Option y4:=
 jn (λ(j9:List o8)=>
  some (⟨j9,a0.Cap⟩:y4)) (λκ8=>
  (lp (S:=Int × (List o8)) (E:=(List o8)) (λ((s11,s12):Int × (List o8))=>
   if (decide (s11<(a0.L.length:Int))) then
    (ix a0.L s11).bind λv15=>
    (app 24 s12 [(⟨v15.Kind,v15.At,v15.Prog⟩:o8)]).bind λv16=>
    some (.inl (A1 (s11+1),v16))
   else
   some (.inr s12)) (0,[])).bind λe10=>
  κ8 e10)
def dW(a0:b7):Option c5:=
 (ye a0.S).bind λv1=>
 (qH a0.Cells).bind λv2=>
 (yg a0.T).bind λv3=>
 (qL a0.Q).bind λv4=>
 some (⟨v1,a0.Roots,v2,v3,v4⟩:c5)
def K6(a0:l4):Option y9:=
 jn (λ(j9:List z6)=>
  some (⟨j9,a0.Last⟩:y9)) (λκ8=>
  (lp (S:=Int × (List z6)) (E:=(List z6)) (λ((s11,s12):Int × (List z6))=>
   if (decide (s11<(a0.Cells.length:Int))) then
    (ix a0.Cells s11).bind λv15=>
    (app 24 s12 [(⟨v15.State,v15.Gen,s11⟩:z6)]).bind λv16=>
    some (.inl (A1 (s11+1),v16))
   else
   some (.inr s12)) (0,[])).bind λe10=>
  κ8 e10)
def qc(a0:y9):Option Bool:=
 if (((decide ((a0.Cells.length:Int) > 24))||(decide (a0.Last<0)))||(decide (a0.Last > 9))) then
  some false
 else
 jn (λ(_:Unit)=>
  some true) (λκ5=>
  (lp (S:=Int) (E:=Bool ⊕ Unit) (λ(s8:Int)=>
   if (decide (s8<(a0.Cells.length:Int))) then
    (ix a0.Cells s8).bind λv10=>
    if ((((decide (v10.State<0))||(decide (v10.State > 3)))||(decide (v10.Gen<0)))||(decide (v10.Gen > a0.Last))) then
     some (.inr (.inl false))
    else
    some (.inl (A1 (s8+1)))
   else
   some (.inr (.inr ()))) 0).bind λe7=>
  match e7 with
  | .inl w=>some w
  | .inr w=>κ5 w)
def gP(a0:n8):Option Bool:=
 some ((a0.State==1)||(a0.State==2))
def qe(a0:l4):Option Bool:=
 (K6 a0).bind λv1=>
 (qc v1).bind λv2=>
 if ((!v2)||(decide (a0.Serial<0))) then
  some false
 else
 jn (λ(_:Unit)=>
  some true) (λκ22=>
  (lp (S:=Int) (E:=Bool ⊕ Unit) (λ(s25:Int)=>
   if (decide (s25<(a0.Cells.length:Int))) then
    jn (λ(_:Unit)=>
     some (.inl (A1 (s25+1)))) (λκ34=>
     (ix a0.Cells s25).bind λv36=>
     (gP v36).bind λv37=>
     if (!v37) then
      if ((((((v36.Val.Serial != 0)||(v36.Val.Strong != 0))||(v36.Val.Weak != 0))||(v36.Val.Prog != 0))||v36.Val.Started)||((v36.Val.Fields.length:Int) != 0)) then
       some (.inr (.inl false))
      else
      κ34 ()
     else
     if (((((((decide (v36.Val.Serial<1))||(decide (v36.Val.Serial > a0.Serial)))||(decide (v36.Val.Strong<0)))||(decide (v36.Val.Weak<0)))||(decide (v36.Val.Prog<(-1))))||(decide (v36.Val.Prog > 5)))||(decide ((v36.Val.Fields.length:Int) > 4))) then
      some (.inr (.inl false))
     else
     (lp (S:=Int) (E:=Bool ⊕ Unit) (λ(s39:Int)=>
      if (decide (s39<s25)) then
       (ix a0.Cells s39).bind λv41=>
       (gP v41).bind λv42=>
       if (v42&&(v41.Val.Serial==v36.Val.Serial)) then
        some (.inr (.inl false))
       else
       some (.inl (A1 (s39+1)))
      else
      some (.inr (.inr ()))) 0).bind λe38=>
     match e38 with
     | .inl w=>some (.inr (.inl w))
     | .inr w=>κ34 w)
   else
   some (.inr (.inr ()))) 0).bind λe24=>
  match e24 with
  | .inl w=>some w
  | .inr w=>κ22 w)
def bW(a0:List k7)(a1:Int):Option Int:=
 jn (λ(_:Unit)=>
  some (-1)) (λκ5=>
  (lp (S:=Int) (E:=Int ⊕ Unit) (λ(s8:Int)=>
   if (decide (s8<(a0.length:Int))) then
    (ix a0 s8).bind λv10=>
    if ((v10.State==1)&&(v10.Key==a1)) then
     some (.inr (.inl s8))
    else
    some (.inl (A1 (s8+1)))
   else
   some (.inr (.inr ()))) 0).bind λe7=>
  match e7 with
  | .inl w=>some w
  | .inr w=>κ5 w)
def uc(a0:Int)(a1:Int):Option Int:=
 if (decide (a0<1)) then
  some 0
 else
 (rem (A1 ((A1 (5*a1))+1)) a0).bind λv1=>
 if (decide (v1<0)) then
  some (A1 (v1+a0))
 else
 some v1
def qh(a0:List k7):Option Bool:=
 if ((decide ((a0.length:Int)<1))||(decide ((a0.length:Int) > 8))) then
  some false
 else
 jn (λ(_:Unit)=>
  some true) (λκ22=>
  (lp (S:=Int) (E:=Bool ⊕ Unit) (λ(s25:Int)=>
   if (decide (s25<(a0.length:Int))) then
    jn (λ(_:Unit)=>
     some (.inl (A1 (s25+1)))) (λκ35=>
     (ix a0 s25).bind λv37=>
     if (((decide (v37.State<0))||(decide (v37.State > 2)))||((v37.State != 1)&&((v37.Key != 0)||(v37.Val != 0)))) then
      some (.inr (.inl false))
     else
     if (v37.State != 1) then
      κ35 ()
     else
     (bW a0 v37.Key).bind λv38=>
     if (v38 != s25) then
      some (.inr (.inl false))
     else
     (uc (a0.length:Int) v37.Key).bind λv39=>
     (lp (S:=Int) (E:=Bool ⊕ Unit) (λ(s41:Int)=>
      if (s41 != s25) then
       (ix a0 s41).bind λv43=>
       if (v43.State==0) then
        some (.inr (.inl false))
       else
       (rem (A1 (s41+1)) (a0.length:Int)).bind λv44=>
       some (.inl v44)
      else
      some (.inr (.inr ()))) v39).bind λe40=>
     match e40 with
     | .inl w=>some (.inr (.inl w))
     | .inr w=>κ35 w)
   else
   some (.inr (.inr ()))) 0).bind λe24=>
  match e24 with
  | .inl w=>some w
  | .inr w=>κ22 w)
def fM(a0:Int)(a1:Int):Option Int:=
 if ((((decide (a0<0))||(decide (a0 > 23)))||(decide (a1<0)))||(decide (a1 > 9))) then
  some 0
 else
 some (A1 ((A1 (1+a0))+(A1 (32*a1))))
def lk(a0:Int):Option Bool:=
 if ((decide (a0<1))||(decide (a0 > 400))) then
  some false
 else
 (rem (A1 (a0-1)) 32).bind λv1=>
 (quo .i64 (A1 (a0-1)) 32).bind λv2=>
 (fM v1 v2).bind λv3=>
 some (v3==a0)
def lj(a0:Int):Option Int:=
 (lk a0).bind λv1=>
 if (!v1) then
  some (-1)
 else
 (rem (A1 (a0-1)) 32).bind λv2=>
 some v2
def xO(a0:Int):Option Int:=
 (lk a0).bind λv1=>
 if (!v1) then
  some (-1)
 else
 (quo .i64 (A1 (a0-1)) 32).bind λv2=>
 some v2
def P6(a0:y9)(a1:Int):Option (Int × Int):=
 if (a1==0) then
  some ((-1),2)
 else
 (lj a1).bind λv1=>
 if ((decide (v1<0))||(decide (v1>=(a0.Cells.length:Int)))) then
  some ((-1),3)
 else
 (ix a0.Cells v1).bind λv2=>
 (xO a1).bind λv3=>
 if ((v2.Gen != v3)||((v2.State != 1)&&(v2.State != 2))) then
  some ((-1),3)
 else
 some (v1,0)
def tR(a0:y9)(a1:Int):Option (Int × Int):=
 (P6 a0 a1).bind λv1=>
 if (v1.2 != 0) then
  some (0,v1.2)
 else
 (ix a0.Cells v1.1).bind λv2=>
 if (v2.State==2) then
  some (0,3)
 else
 some (v2.Val,0)
def G9(a0:l4)(a1:Int):Option (D2 × Int):=
 (K6 a0).bind λv1=>
 (tR v1 a1).bind λv2=>
 if (v2.2 != 0) then
  some ((⟨0,0,0,0,false,[]⟩:D2),v2.2)
 else
 (ix a0.Cells v2.1).bind λv3=>
 some (v3.Val,0)
def qo(a0:c5):Option Bool:=
 jn (λ(_:Unit)=>
  some ((a0.Q.Cap==30)&&(decide ((a0.Q.L.length:Int)<=30)))) (λκ30=>
  (lp (S:=Int) (E:=Bool ⊕ Unit) (λ(s33:Int)=>
   if (decide (s33<(a0.Q.L.length:Int))) then
    jn (λ(_:Unit)=>
     some (.inl (A1 (s33+1)))) (λκ47=>
     (ix a0.Q.L s33).bind λv49=>
     if ((((v49.Kind != 1)&&(v49.Kind != 2))||(decide (v49.Prog<0)))||(decide (v49.Prog > 5))) then
      some (.inr (.inl false))
     else
     jn (λ(_:Unit)=>
      (G9 a0.S v49.At).bind λv56=>
      if (((v49.Kind==1)&&((v56.2 != 0)||(!v56.1.Started)))||((v49.Kind==2)&&((decide (v49.At<0))||(decide (v49.At > 5))))) then
       some (.inr (.inl false))
      else
      κ47 ()) (λκ54=>
      (lp (S:=Int) (E:=Bool ⊕ Unit) (λ(s58:Int)=>
       if (decide (s58<s33)) then
        (ix a0.Q.L s58).bind λv60=>
        if ((v60.Kind==v49.Kind)&&(v60.At==v49.At)) then
         some (.inr (.inl false))
        else
        some (.inl (A1 (s58+1)))
       else
       some (.inr (.inr ()))) 0).bind λe57=>
      match e57 with
      | .inl w=>some (.inr (.inl w))
      | .inr w=>κ54 w))
   else
   some (.inr (.inr ()))) 0).bind λe32=>
  match e32 with
  | .inl w=>some w
  | .inr w=>κ30 w)
def ab(a0:c5)(a1:Int):Option Bool:=
 (G9 a0.S a1).bind λv1=>
 some (v1.2==0)
def ae(a0:c5)(a1:Int):Option Bool:=
 (u5 ((a1==0)==false) false (ab a0 a1)).bind λv1=>
 some ((a1==0)||v1)
def iH(a0:l4)(a1:List Int):Option (List Int):=
 (app 8 [] a1).bind λv1=>
 jn (λ(j36:List Int)=>
  some j36) (λκ35=>
  (lp (S:=Int × (List Int)) (E:=(List Int)) (λ((s38,s39):Int × (List Int))=>
   if (decide (s38<(s39.length:Int))) then
    jn (λ(j56:List Int)=>
     some (.inl (A1 (s38+1),j56))) (λκ55=>
     (lp (S:=Int × (List Int)) (E:=(List Int)) (λ((s58,s59):Int × (List Int))=>
      if (decide (s58 > 0)) then
       (K6 a0).bind λv62=>
       (ix s59 (A1 (s58-1))).bind λv63=>
       (P6 v62 v63).bind λv64=>
       (ix s59 s58).bind λv65=>
       (P6 v62 v65).bind λv66=>
       (u5 (((decide (v64.1<0))||(decide (v66.1<0)))==false) (⟨0,0,⟨0,0,0,0,false,[]⟩⟩:n8) (ix a0.Cells v64.1)).bind λv67=>
       (u5 (((decide (v64.1<0))||(decide (v66.1<0)))==false) (⟨0,0,⟨0,0,0,0,false,[]⟩⟩:n8) (ix a0.Cells v66.1)).bind λv68=>
       if (((decide (v64.1<0))||(decide (v66.1<0)))||(decide (v67.Val.Serial<=v68.Val.Serial))) then
        some (.inr s59)
       else
       (ix (s59.set (s58).toNat v63) (A1 (s58-1))).bind λv69=>
       some (.inl (A1 (s58-1),((s59.set (s58).toNat v63).set (A1 (s58-1)).toNat v65)))
      else
      some (.inr s59)) (s38,s39)).bind λe57=>
     κ55 e57)
   else
   some (.inr s39)) (1,v1)).bind λe37=>
  κ35 e37)
def T6(a0:l4):Option (List Int):=
 jn (λ(j15:List Int)=>
  (iH a0 j15).bind λv16=>
  some v16) (λκ14=>
  (lp (S:=Int × (List Int)) (E:=(List Int)) (λ((s18,s19):Int × (List Int))=>
   if (decide (s18<(a0.Cells.length:Int))) then
    jn (λ(j26:List Int)=>
     some (.inl (A1 (s18+1),j26))) (λκ25=>
     (ix a0.Cells s18).bind λv27=>
     if (v27.State==1) then
      (fM s18 v27.Gen).bind λv28=>
      (app 8 s19 [v28]).bind λv29=>
      κ25 v29
     else
     κ25 s19)
   else
   some (.inr s19)) (0,[])).bind λe17=>
  κ14 e17)
def ud(a0:List k7):Option (List Int):=
 jn (λ(j13:List Int)=>
  some j13) (λκ12=>
  (lp (S:=Int × (List Int)) (E:=(List Int)) (λ((s15,s16):Int × (List Int))=>
   if (decide (s15<(a0.length:Int))) then
    jn (λ(j22:List Int)=>
     some (.inl (A1 (s15+1),j22))) (λκ21=>
     (ix a0 s15).bind λv23=>
     if (v23.State==1) then
      (app 8 s16 [v23.Key]).bind λv24=>
      κ21 v24
     else
     κ21 s16)
   else
   some (.inr s16)) (0,[])).bind λe14=>
  κ12 e14)
def qg(a0:List k7)(a1:Int):Option (Int × Int):=
 (bW a0 a1).bind λv1=>
 if (decide (v1<0)) then
  some (0,9)
 else
 (ix a0 v1).bind λv2=>
 some (v2.Val,0)
def gQ(a0:List k7):Option (List B0):=
 (ud a0).bind λv1=>
 jn (λ(j11:List B0)=>
  some j11) (λκ10=>
  (lp (S:=Int × (List B0)) (E:=(List B0)) (λ((s13,s14):Int × (List B0))=>
   if (decide (s13<(v1.length:Int))) then
    (ix v1 s13).bind λv17=>
    (qg a0 v17).bind λv18=>
    (app 16 s14 [(⟨v17,v18.1⟩:B0)]).bind λv19=>
    some (.inl (A1 (s13+1),v19))
   else
   some (.inr s14)) (0,[])).bind λe12=>
  κ10 e12)
def qn(a0:c5):Option Bool:=
 jn (λ(_:Unit)=>
  (T6 a0.S).bind λv8=>
  jn (λ(_:Unit)=>
   (gQ a0.T).bind λv30=>
   jn (λ(_:Unit)=>
    some true) (λκ37=>
    (lp (S:=Int) (E:=Bool ⊕ Unit) (λ(s40:Int)=>
     if (decide (s40<(v30.length:Int))) then
      (ix v30 s40).bind λv42=>
      (ab a0 v42.Key).bind λv43=>
      (u5 ((!v43)==false) false (ab a0 v42.Val)).bind λv44=>
      if ((!v43)||(!v44)) then
       some (.inr (.inl false))
      else
      some (.inl (A1 (s40+1)))
     else
     some (.inr (.inr ()))) 0).bind λe39=>
    match e39 with
    | .inl w=>some w
    | .inr w=>κ37 w)) (λκ28=>
   (lp (S:=Int) (E:=Bool ⊕ Unit) (λ(s46:Int)=>
    if (decide (s46<(v8.length:Int))) then
     jn (λ(_:Unit)=>
      some (.inl (A1 (s46+1)))) (λκ55=>
      (ix v8 s46).bind λv57=>
      (G9 a0.S v57).bind λv58=>
      (lp (S:=Int) (E:=Bool ⊕ Unit) (λ(s60:Int)=>
       if (decide (s60<(v58.1.Fields.length:Int))) then
        (ix v58.1.Fields s60).bind λv62=>
        (ae a0 v62).bind λv63=>
        if (!v63) then
         some (.inr (.inl false))
        else
        some (.inl (A1 (s60+1)))
       else
       some (.inr (.inr ()))) 0).bind λe59=>
      match e59 with
      | .inl w=>some (.inr (.inl w))
      | .inr w=>κ55 w)
    else
    some (.inr (.inr ()))) 0).bind λe45=>
   match e45 with
   | .inl w=>some w
   | .inr w=>κ28 w)) (λκ6=>
  (lp (S:=Int) (E:=Bool ⊕ Unit) (λ(s65:Int)=>
   if (decide (s65<(a0.Roots.length:Int))) then
    (ix a0.Roots s65).bind λv67=>
    (ae a0 v67).bind λv68=>
    if (!v68) then
     some (.inr (.inl false))
    else
    some (.inl (A1 (s65+1)))
   else
   some (.inr (.inr ()))) 0).bind λe64=>
  match e64 with
  | .inl w=>some w
  | .inr w=>κ6 w)
def eT(a0:y4)(a1:Int):Option Bool:=
 jn (λ(_:Unit)=>
  some false) (λκ5=>
  (lp (S:=Int) (E:=Bool ⊕ Unit) (λ(s8:Int)=>
   if (decide (s8<(a0.L.length:Int))) then
    (ix a0.L s8).bind λv10=>
    if ((v10.Kind==2)&&(v10.At==a1)) then
     some (.inr (.inl true))
    else
    some (.inl (A1 (s8+1)))
   else
   some (.inr (.inr ()))) 0).bind λe7=>
  match e7 with
  | .inl w=>some w
  | .inr w=>κ5 w)
def qm(a0:c5):Option Bool:=
 jn (λ(_:Unit)=>
  some true) (λκ9=>
  (lp (S:=Int) (E:=Bool ⊕ Unit) (λ(s12:Int)=>
   if (decide (s12<(a0.Cells.length:Int))) then
    (ix a0.Cells s12).bind λv14=>
    (K6 a0.S).bind λv15=>
    (P6 v15 v14.Target).bind λv16=>
    (u5 ((((((decide (v14.Call<(-1)))||(decide (v14.Call > 5)))||((v14.Target==0)&&v14.Intact))||((v14.Target != 0)&&(v16.2 != 0)))==false)&&(v14.Intact==true)) false (ab a0 v14.Target)).bind λv17=>
    (u5 (((((((decide (v14.Call<(-1)))||(decide (v14.Call > 5)))||((v14.Target==0)&&v14.Intact))||((v14.Target != 0)&&(v16.2 != 0)))==false)&&(v14.Intact==true))&&((!v17)==false)) false (eT a0.Q s12)).bind λv18=>
    if (((((decide (v14.Call<(-1)))||(decide (v14.Call > 5)))||((v14.Target==0)&&v14.Intact))||((v14.Target != 0)&&(v16.2 != 0)))||(v14.Intact&&((!v17)||v18))) then
     some (.inr (.inl false))
    else
    some (.inl (A1 (s12+1)))
   else
   some (.inr (.inr ()))) 0).bind λe11=>
  match e11 with
  | .inl w=>some w
  | .inr w=>κ9 w)
def sg(a0:Int)(a1:Int):Option Int:=
 (fM a0 a1).bind λv1=>
 some v1
def mY(a0:List m9)(a1:Int):Option Int:=
 jn (λ(j11:Int)=>
  some j11) (λκ10=>
  (lp (S:=Int × Int) (E:=Int) (λ((s13,s14):Int × Int)=>
   if (decide (s14<(a0.length:Int))) then
    jn (λ(j19:Int)=>
     some (.inl (j19,A1 (s14+1)))) (λκ18=>
     (ix a0 s14).bind λv20=>
     if ((v20.Target==a1)&&(a1 != 0)) then
      κ18 (A1 (s13+1))
     else
     κ18 s13)
   else
   some (.inr s13)) (0,0)).bind λe12=>
  κ10 e12)
def qp(a0:c5):Option Bool:=
 jn (λ(_:Unit)=>
  some true) (λκ12=>
  (lp (S:=Int) (E:=Bool ⊕ Unit) (λ(s15:Int)=>
   if (decide (s15<(a0.S.Cells.length:Int))) then
    jn (λ(_:Unit)=>
     some (.inl (A1 (s15+1)))) (λκ20=>
     (ix a0.S.Cells s15).bind λv22=>
     if ((v22.State != 1)&&(v22.State != 2)) then
      κ20 ()
     else
     (sg s15 v22.Gen).bind λv23=>
     (mY a0.Cells v23).bind λv24=>
     if ((v22.Val.Weak != v24)||((v22.State==2)&&(((decide (v22.Val.Weak<1))||(decide ((v22.Val.Fields.length:Int) > 0)))||(v22.Val.Strong != 0)))) then
      some (.inr (.inl false))
     else
     κ20 ())
   else
   some (.inr (.inr ()))) 0).bind λe14=>
  match e14 with
  | .inl w=>some w
  | .inr w=>κ12 w)
def pd(a0:y4):Option (List Int):=
 jn (λ(j13:List Int)=>
  some j13) (λκ12=>
  (lp (S:=Int × (List Int)) (E:=(List Int)) (λ((s15,s16):Int × (List Int))=>
   if (decide (s15<(a0.L.length:Int))) then
    jn (λ(j22:List Int)=>
     some (.inl (A1 (s15+1),j22))) (λκ21=>
     (ix a0.L s15).bind λv23=>
     if (v23.Kind==1) then
      (app 8 s16 [v23.At]).bind λv24=>
      κ21 v24
     else
     κ21 s16)
   else
   some (.inr s16)) (0,[])).bind λe14=>
  κ12 e14)
def qk(a0:c5):Option (List Int):=
 jn (λ(j13:List Int)=>
  (pd a0.Q).bind λv14=>
  (app 8 j13 v14).bind λv15=>
  some v15) (λκ12=>
  (lp (S:=Int × (List Int)) (E:=(List Int)) (λ((s17,s18):Int × (List Int))=>
   if (decide (s17<(a0.Roots.length:Int))) then
    jn (λ(j24:List Int)=>
     some (.inl (A1 (s17+1),j24))) (λκ23=>
     (ix a0.Roots s17).bind λv25=>
     if (v25 != 0) then
      (app 8 s18 [v25]).bind λv26=>
      κ23 v26
     else
     κ23 s18)
   else
   some (.inr s18)) (0,[])).bind λe16=>
  κ12 e16)
def bq(a0:Int):Option Bool:=
 some (decide (a0>=12))
def lz(a0:l4)(a1:Int):Option Bool:=
 (G9 a0 a1).bind λv1=>
 (bq v1.1.Strong).bind λv2=>
 some v2
def eP(a0:List Int):Option (List Int):=
 jn (λ(j13:List Int)=>
  some j13) (λκ12=>
  (lp (S:=Int × (List Int)) (E:=(List Int)) (λ((s15,s16):Int × (List Int))=>
   if (decide (s15<(a0.length:Int))) then
    jn (λ(j22:List Int)=>
     some (.inl (A1 (s15+1),j22))) (λκ21=>
     (ix a0 s15).bind λv23=>
     if (v23 != 0) then
      (app 8 s16 [v23]).bind λv24=>
      κ21 v24
     else
     κ21 s16)
   else
   some (.inr s16)) (0,[])).bind λe14=>
  κ12 e14)
def tZ(a0:l4)(a1:Int):Option (List Int):=
 (G9 a0 a1).bind λv1=>
 if (v1.2 != 0) then
  some []
 else
 (eP v1.1.Fields).bind λv2=>
 some v2
def cT(a0:List Int)(a1:Int):Option Int:=
 jn (λ(j11:Int)=>
  some j11) (λκ10=>
  (lp (S:=Int × Int) (E:=Int) (λ((s13,s14):Int × Int)=>
   if (decide (s14<(a0.length:Int))) then
    jn (λ(j19:Int)=>
     some (.inl (j19,A1 (s14+1)))) (λκ18=>
     (ix a0 s14).bind λv20=>
     if ((v20==a1)&&(a1 != 0)) then
      κ18 (A1 (s13+1))
     else
     κ18 s13)
   else
   some (.inr s13)) (0,0)).bind λe12=>
  κ10 e12)
def ED(a0:l4)(a1:Int):Option Int:=
 (T6 a0).bind λv1=>
 jn (λ(j11:Int)=>
  some j11) (λκ10=>
  (lp (S:=Int × Int) (E:=Int) (λ((s13,s14):Int × Int)=>
   if (decide (s14<(v1.length:Int))) then
    (ix v1 s14).bind λv17=>
    (tZ a0 v17).bind λv18=>
    (cT v18 a1).bind λv19=>
    some (.inl (A1 (s13+v19),A1 (s14+1)))
   else
   some (.inr s13)) (0,0)).bind λe12=>
  κ10 e12)
def qi(a0:List k7)(a1:Int):Option Int:=
 (gQ a0).bind λv1=>
 jn (λ(j12:Int)=>
  some j12) (λκ11=>
  (lp (S:=Int × Int) (E:=Int) (λ((s14,s15):Int × Int)=>
   if (decide (s15<(v1.length:Int))) then
    jn (λ(j20:Int)=>
     some (.inl (j20,A1 (s15+1)))) (λκ19=>
     (ix v1 s15).bind λv21=>
     if ((v21.Val==a1)&&(a1 != 0)) then
      κ19 (A1 (s14+1))
     else
     κ19 s14)
   else
   some (.inr s14)) (0,0)).bind λe13=>
  κ11 e13)
def qj(a0:l4)(a1:List k7)(a2:Int):Option Int:=
 (ED a0 a2).bind λv1=>
 (qi a1 a2).bind λv2=>
 some (A1 (v1+v2))
def pc(a0:l4)(a1:List k7)(a2:Int):Option Int:=
 (G9 a0 a2).bind λv1=>
 if (v1.2 != 0) then
  some 0
 else
 (qj a0 a1 a2).bind λv2=>
 some (A1 (v1.1.Strong-v2))
def uj(a0:l4)(a1:List k7)(a2:List Int):Option Bool:=
 (T6 a0).bind λv1=>
 jn (λ(_:Unit)=>
  some true) (λκ9=>
  (lp (S:=Int) (E:=Bool ⊕ Unit) (λ(s12:Int)=>
   if (decide (s12<(v1.length:Int))) then
    (ix v1 s12).bind λv14=>
    (lz a0 v14).bind λv15=>
    (u5 ((!v15)==true) 0 (pc a0 a1 v14)).bind λv16=>
    (u5 ((!v15)==true) 0 (cT a2 v14)).bind λv17=>
    if ((!v15)&&(v16 != v17)) then
     some (.inr (.inl false))
    else
    some (.inl (A1 (s12+1)))
   else
   some (.inr (.inr ()))) 0).bind λe11=>
  match e11 with
  | .inl w=>some w
  | .inr w=>κ9 w)
def ql(a0:c5):Option Bool:=
 (qe a0.S).bind λv1=>
 (u5 ((!v1)==false) false (qh a0.T)).bind λv2=>
 if ((((!v1)||(!v2))||((a0.Roots.length:Int) != 6))||((a0.Cells.length:Int) != 6)) then
  some false
 else
 (qo a0).bind λv3=>
 (u5 (v3==true) false (qn a0)).bind λv4=>
 (u5 ((v3&&v4)==true) false (qm a0)).bind λv5=>
 (u5 (((v3&&v4)&&v5)==true) false (qp a0)).bind λv6=>
 (u5 ((((v3&&v4)&&v5)&&v6)==true) [] (qk a0)).bind λv7=>
 (u5 ((((v3&&v4)&&v5)&&v6)==true) false (uj a0.S a0.T v7)).bind λv8=>
 some ((((v3&&v4)&&v5)&&v6)&&v8)
def qK(a0:b7):Option Bool:=
 (qI a0).bind λv1=>
 (u5 ((v1&&(decide (a0.S.Serial<1000000000)))==true) ⟨⟨[],0,0⟩,[],[],[],⟨[],0⟩⟩ (dW a0)).bind λv2=>
 (u5 ((v1&&(decide (a0.S.Serial<1000000000)))==true) false (ql v2)).bind λv3=>
 some ((v1&&(decide (a0.S.Serial<1000000000)))&&v3)
def lC(a0:c5):Option (List Int):=
 (T6 a0.S).bind λv1=>
 jn (λ(j16:List Int)=>
  some j16) (λκ15=>
  (lp (S:=Int × (List Int)) (E:=(List Int)) (λ((s18,s19):Int × (List Int))=>
   if (decide (s18<(v1.length:Int))) then
    jn (λ(j26:List Int)=>
     some (.inl (A1 (s18+1),j26))) (λκ25=>
     (ix v1 s18).bind λv27=>
     (G9 a0.S v27).bind λv28=>
     if (v28.1.Strong==0) then
      (app 8 s19 [v27]).bind λv29=>
      κ25 v29
     else
     κ25 s19)
   else
   some (.inr s19)) (0,[])).bind λe17=>
  κ15 e17)
def jN(a0:c5):Option Bool:=
 (lC a0).bind λv1=>
 some ((v1.length:Int)==0)
def uX(a0:List (List k8)):Option Bool:=
 jn (λ(_:Unit)=>
  some (decide ((a0.length:Int)<=10))) (λκ5=>
  (lp (S:=Int) (E:=Bool ⊕ Unit) (λ(s8:Int)=>
   if ((decide (s8<(a0.length:Int)))&&(decide (s8<10))) then
    (ix a0 s8).bind λv10=>
    if (decide ((v10.length:Int) > 10)) then
     some (.inr (.inl false))
    else
    some (.inl (A1 (s8+1)))
   else
   some (.inr (.inr ()))) 0).bind λe7=>
  match e7 with
  | .inl w=>some w
  | .inr w=>κ5 w)
def lT(a0:List (List k8)):Option (List (List s6)):=
 jn (λ(j47:List (List s6))=>
  some j47) (λκ46=>
  (lp (S:=Int × (List (List s6))) (E:=(List (List s6))) (λ((s49,s50):Int × (List (List s6)))=>
   if (decide (s49<(a0.length:Int))) then
    jn (λ(j73:List (List s6))=>
     some (.inl (A1 (s49+1),j73))) (λκ72=>
     jn (λ(j83:List s6)=>
      (app 24 s50 [j83]).bind λv84=>
      κ72 v84) (λκ82=>
      (lp (S:=Int × (List s6)) (E:=(List s6)) (λ((s86,s87):Int × (List s6))=>
       (ix a0 s49).bind λv90=>
       if (decide (s86<(v90.length:Int))) then
        (ix v90 s86).bind λv91=>
        (app 32 s87 [(⟨v91.Kind,v91.A,v91.B,v91.C⟩:s6)]).bind λv92=>
        some (.inl (A1 (s86+1),v92))
       else
       some (.inr s87)) (0,[])).bind λe85=>
      κ82 e85))
   else
   some (.inr s50)) (0,[])).bind λe48=>
  κ46 e48)
def T3(a0:s6):Option Bool:=
 some ((decide (a0.Kind>=1))&&(decide (a0.Kind<=10)))
def bM(a0:Int)(a1:Int)(a2:Int)(a3:Int):Option Int:=
 if ((decide (a0<a1))||(decide (a0 > a2))) then
  some a3
 else
 some 0
def ah(a0:Int)(a1:Int)(a2:Int):Option Int:=
 if (a0 != 0) then
  some a0
 else
 if (a1 != 0) then
  some a1
 else
 some a2
def bt(a0:s6):Option Int:=
 (bM a0.A 0 5 6).bind λv1=>
 (bM a0.B 0 5 6).bind λv2=>
 if (a0.Kind==1) then
  (bM a0.B 0 4 1).bind λv3=>
  (bM a0.C (-1) 5 13).bind λv4=>
  (ah v1 v3 v4).bind λv5=>
  some v5
 else
 jn (λ(j7:Bool)=>
  if j7 then
   (ah v1 v2 0).bind λv8=>
   some v8
  else
  if (a0.Kind==3) then
   some v1
  else
  if (a0.Kind==4) then
   (bM a0.C 0 3 5).bind λv9=>
   (ah v1 v2 v9).bind λv10=>
   some v10
  else
  if (a0.Kind==5) then
   (bM a0.B 0 3 5).bind λv11=>
   (bM a0.C (-1) 5 6).bind λv12=>
   (ah v1 v11 v12).bind λv13=>
   some v13
  else
  if (a0.Kind==6) then
   (bM a0.A 0 5 7).bind λv14=>
   (bM a0.B (-1) 5 6).bind λv15=>
   (bM a0.C (-1) 5 13).bind λv16=>
   (ah v14 v15 v16).bind λv17=>
   some v17
  else
  if (a0.Kind==7) then
   (bM a0.B 0 5 7).bind λv18=>
   (ah v1 v18 0).bind λv19=>
   some v19
  else
  if (a0.Kind==8) then
   (bM a0.B (-1) 5 6).bind λv20=>
   (ah v1 v20 0).bind λv21=>
   some v21
  else
  if (a0.Kind==11) then
   some 0
  else
  if (a0.Kind==12) then
   (bM a0.A 0 200 12).bind λv22=>
   some v22
  else
  some 14) (λκ6=>
  if (a0.Kind==2) then
   κ6 (a0.Kind==2)
  else
  if (a0.Kind==9) then
   κ6 (a0.Kind==9)
  else
  κ6 (a0.Kind==10))
def gS(a0:List (List s6)):Option Bool:=
 if (decide ((a0.length:Int) > 6)) then
  some false
 else
 jn (λ(_:Unit)=>
  some true) (λκ20=>
  (lp (S:=Int) (E:=Bool ⊕ Unit) (λ(s23:Int)=>
   if (decide (s23<(a0.length:Int))) then
    jn (λ(_:Unit)=>
     some (.inl (A1 (s23+1)))) (λκ32=>
     (ix a0 s23).bind λv34=>
     if (decide ((v34.length:Int) > 6)) then
      some (.inr (.inl false))
     else
     (lp (S:=Int) (E:=Bool ⊕ Unit) (λ(s36:Int)=>
      if (decide (s36<(v34.length:Int))) then
       (ix v34 s36).bind λv38=>
       (T3 v38).bind λv39=>
       (u5 ((!v39)==false) 0 (bt v38)).bind λv40=>
       if ((!v39)||(v40 != 0)) then
        some (.inr (.inl false))
       else
       some (.inl (A1 (s36+1)))
      else
      some (.inr (.inr ()))) 0).bind λe35=>
     match e35 with
     | .inl w=>some (.inr (.inl w))
     | .inr w=>κ32 w)
   else
   some (.inr (.inr ()))) 0).bind λe22=>
  match e22 with
  | .inl w=>some w
  | .inr w=>κ20 w)
def rG(a0:k8):Option Bool:=
 some ((decide (a0.Kind>=1))&&(decide (a0.Kind<=10)))
def au:Option k9:=
 some (⟨(some 233),0,5,6⟩:k9)
def U2:Option k9:=
 some (⟨(some 236),(-1),5,13⟩:k9)
def K8(a0:List k9):Option (List k9):=
 some a0
def aw:Option k9:=
 some (⟨(some 234),0,5,6⟩:k9)
def Y2:Option k9:=
 some (⟨(some 236),0,3,5⟩:k9)
def Y1:Option k9:=
 some (⟨(some 234),0,3,5⟩:k9)
def Q2:Option k9:=
 some (⟨(some 236),(-1),5,6⟩:k9)
def aq:Option k9:=
 some (⟨(some 233),0,5,7⟩:k9)
def Q1:Option k9:=
 some (⟨(some 234),(-1),5,6⟩:k9)
def ar:Option k9:=
 some (⟨(some 234),0,5,7⟩:k9)
def mn:Option (List (Int × (List k9))):=
 (au).bind λv1=>
 (U2).bind λv2=>
 (K8 [v1,(⟨(some 234),0,4,1⟩:k9),v2]).bind λv3=>
 (aw).bind λv4=>
 (K8 [v1,v4]).bind λv5=>
 (K8 [v1]).bind λv6=>
 (Y2).bind λv7=>
 (K8 [v1,v4,v7]).bind λv8=>
 (Y1).bind λv9=>
 (Q2).bind λv10=>
 (K8 [v1,v9,v10]).bind λv11=>
 (aq).bind λv12=>
 (Q1).bind λv13=>
 (K8 [v12,v13,v2]).bind λv14=>
 (ar).bind λv15=>
 (K8 [v1,v15]).bind λv16=>
 (K8 [v1,v13]).bind λv17=>
 (K8 []).bind λv18=>
 (K8 [(⟨(some 233),0,200,12⟩:k9)]).bind λv19=>
 some (u9 (u9 (u9 (u9 (u9 (u9 (u9 (u9 (u9 (u9 (u9 (u9 [] 1 v3) 2 v5) 3 v6) 4 v8) 5 v11) 6 v14) 7 v16) 8 v17) 9 v5) 10 v5) 11 v18) 12 v19)
def rH(a0:k8):Option Int:=
 some a0.A
def rI(a0:k8):Option Int:=
 some a0.B
def rJ(a0:k8):Option Int:=
 some a0.C
def th(f:Fv)(a0:k8):Option Int:=
 if f=some 233 then rH a0 else
 if f=some 234 then rI a0 else
 if f=some 236 then rJ a0 else
 none
def aI(a0:k8):Option Int:=
 (mn).bind λv1=>
 if (!((D1 v1 a0.Kind).isSome)) then
  some 14
 else
 jn (λ(_:Unit)=>
  some 0) (λκ8=>
  (lp (S:=Int) (E:=Int ⊕ Unit) (λ(s11:Int)=>
   if (decide (s11<(((D1 v1 a0.Kind).getD ([]:List k9)).length:Int))) then
    (ix ((D1 v1 a0.Kind).getD ([]:List k9)) s11).bind λv13=>
    (th v13.part a0).bind λv14=>
    if ((decide (v14<v13.least))||(decide (v14 > v13.most))) then
     some (.inr (.inl v13.e))
    else
    some (.inl (A1 (s11+1)))
   else
   some (.inr (.inr ()))) 0).bind λe10=>
  match e10 with
  | .inl w=>some w
  | .inr w=>κ8 w)
def yv(a0:List (List k8)):Option Bool:=
 if (decide ((a0.length:Int) > 6)) then
  some false
 else
 jn (λ(_:Unit)=>
  some true) (λκ20=>
  (lp (S:=Int) (E:=Bool ⊕ Unit) (λ(s23:Int)=>
   if (decide (s23<(a0.length:Int))) then
    jn (λ(_:Unit)=>
     some (.inl (A1 (s23+1)))) (λκ32=>
     (ix a0 s23).bind λv34=>
     if (decide ((v34.length:Int) > 6)) then
      some (.inr (.inl false))
     else
     (lp (S:=Int) (E:=Bool ⊕ Unit) (λ(s36:Int)=>
      if (decide (s36<(v34.length:Int))) then
       (ix v34 s36).bind λv38=>
       (rG v38).bind λv39=>
       (u5 ((!v39)==false) 0 (aI v38)).bind λv40=>
       if ((!v39)||(v40 != 0)) then
        some (.inr (.inl false))
       else
       some (.inl (A1 (s36+1)))
      else
      some (.inr (.inr ()))) 0).bind λe35=>
     match e35 with
     | .inl w=>some (.inr (.inl w))
     | .inr w=>κ32 w)
   else
   some (.inr (.inr ()))) 0).bind λe22=>
  match e22 with
  | .inl w=>some w
  | .inr w=>κ20 w)
def cH(a0:Int)(a1:Int):Option g6:=
 if ((((decide (a0<0))||(decide (a0 > 24)))||(decide (a1<0)))||(decide (a1 > 9))) then
  some (⟨[],0⟩:g6)
 else
 (mk 80 a0 (⟨0,0,⟨0,0,0,0,false,[]⟩⟩:c4)).bind λv1=>
 some (⟨v1,a1⟩:g6)
def qA(a0:Int)(a1:Int):Option a7:=
 (cH a0 a1).bind λv1=>
 some (⟨v1,0⟩:a7)
def IB(a0:Int):Option (List g9):=
 if ((decide (a0<0))||(decide (a0 > 6))) then
  some []
 else
 (mk 24 a0 (⟨0,false,0⟩:g9)).bind λv1=>
 jn (λ(j9:List g9)=>
  some j9) (λκ8=>
  (lp (S:=Int × (List g9)) (E:=(List g9)) (λ((s11,s12):Int × (List g9))=>
   if (decide (s11<(v1.length:Int))) then
    (ix s12 s11).bind λv15=>
    some (.inl (A1 (s11+1),(s12.set (s11).toNat (⟨v15.Target,v15.Intact,(-1)⟩:g9))))
   else
   some (.inr s12)) (0,v1)).bind λe10=>
  κ8 e10)
def tu(a0:Int):Option (List c9):=
 if ((decide (a0<1))||(decide (a0 > 8))) then
  some []
 else
 (mk 24 a0 (⟨0,0,0⟩:c9)).bind λv1=>
 some v1
def bK(a0:Int):Option g7:=
 some (⟨[],a0⟩:g7)
def Io:Option g7:=
 (bK 30).bind λv1=>
 some v1
def oO(a0:Int)(a1:Int)(a2:Int):Option b7:=
 if ((((((decide (a0<1))||(decide (a0 > 24)))||(decide (a1<0)))||(decide (a1 > 9)))||(decide (a2<1)))||(decide (a2 > 8))) then
  some (⟨⟨⟨[],0⟩,0⟩,[],[],[],⟨[],0⟩⟩:b7)
 else
 (qA a0 a1).bind λv1=>
 (mk 8 6 (0:Int)).bind λv2=>
 (IB 6).bind λv3=>
 (tu a2).bind λv4=>
 (Io).bind λv5=>
 some (⟨v1,v2,v3,v4,v5⟩:b7)
def ij(a0:Int)(a1:Int)(a2:Int)(a3:List (List k8)):Option (p7 × Int):=
 (yv a3).bind λv1=>
 if (!v1) then
  some ((⟨⟨⟨⟨[],0⟩,0⟩,[],[],[],⟨[],0⟩⟩,[]⟩:p7),13)
 else
 (oO a0 a1 a2).bind λv2=>
 if ((v2.Roots.length:Int)==0) then
  some ((⟨⟨⟨⟨[],0⟩,0⟩,[],[],[],⟨[],0⟩⟩,[]⟩:p7),1)
 else
 some ((⟨v2,a3⟩:p7),0)
def X7(a0:List Int):Option (k8 × Int):=
 if ((a0.length:Int) != 4) then
  some ((⟨0,0,0,0⟩:k8),14)
 else
 (ix a0 0).bind λv1=>
 (ix a0 1).bind λv2=>
 (ix a0 2).bind λv3=>
 (ix a0 3).bind λv4=>
 (aI (⟨v1,v2,v3,v4⟩:k8)).bind λv5=>
 if (v5 != 0) then
  some ((⟨0,0,0,0⟩:k8),v5)
 else
 some ((⟨v1,v2,v3,v4⟩:k8),0)
def mr(a0:k8):Option RR:=
 if (a0.Kind==11) then
  some (⟨136,[]⟩:RR)
 else
 if (a0.Kind==12) then
  some (⟨140,[a0.A]⟩:RR)
 else
 some (⟨132,[a0.Kind,a0.A,a0.B,a0.C]⟩:RR)
def fv:Option (List (Int × Fv)):=
 some (u9 (u9 (u9 (u9 (u9 (u9 (u9 (u9 (u9 (u9 [] 1 (some 151)) 2 (some 152)) 3 (some 153)) 4 (some 154)) 5 (some 155)) 6 (some 156)) 7 (some 157)) 8 (some 158)) 9 (some 159)) 10 (some 160))
def FM(a0:Int):Option ((List Int) × Int):=
 if ((decide (a0<0))||(decide (a0 > 4))) then
  some ([],1)
 else
 (mk 8 a0 (0:Int)).bind λv1=>
 some (v1,0)
def T9(a0:Int):Option Bool:=
 some ((decide (a0>=(-1)))&&(decide (a0<6)))
def P8(a0:g6):Option g6:=
 some a0
def A8(a0:List c4):Option (List c4):=
 app 80 [] a0
def E3(a0:g6)(a1:Int)(a2:c4):Option g6:=
 (A8 a0.Cells).bind λv1=>
 (ix v1 a1).bind λv2=>
 some (⟨(v1.set (a1).toNat a2),a0.Last⟩:g6)
def cQ(a0:Int)(a1:Int):Option Int:=
 if ((((decide (a0<0))||(decide (a0>=24)))||(decide (a1<0)))||(decide (a1 > 9))) then
  some 0
 else
 some (A1 ((A1 (1+(A1 (a0*1))))+(A1 (a1*32))))
def K7(a0:g6)(a1:n7):Option (g6 × Int × Int):=
 jn (λ(_:Unit)=>
  some (a0,0,4)) (λκ9=>
  (P8 a0).bind λv11=>
  (lp (S:=Int) (E:=(g6 × Int × Int) ⊕ Unit) (λ(s13:Int)=>
   if (decide (s13<(v11.Cells.length:Int))) then
    (ix v11.Cells s13).bind λv15=>
    if ((v15.State==0)==true) then
     (ix a0.Cells s13).bind λv16=>
     (E3 a0 s13 (⟨1,v16.Gen,a1⟩:c4)).bind λv17=>
     (cQ s13 v16.Gen).bind λv18=>
     some (.inr (.inl (v17,v18,0)))
    else
    some (.inl (A1 (s13+1)))
   else
   some (.inr (.inr ()))) 0).bind λe12=>
  match e12 with
  | .inl w=>some w
  | .inr w=>κ9 w)
def U8(a0:a7)(a1:Int)(a2:Int):Option (a7 × Int × Int):=
 (FM a1).bind λv1=>
 if (v1.2 != 0) then
  some (a0,0,v1.2)
 else
 (T9 a2).bind λv2=>
 if (!v2) then
  some (a0,0,13)
 else
 (K7 a0.S (⟨A1 (a0.Serial+1),0,0,a2,false,v1.1⟩:n7)).bind λv3=>
 if (v3.2.2 != 0) then
  some (a0,0,v3.2.2)
 else
 some ((⟨v3.1,A1 (a0.Serial+1)⟩:a7),v3.2.1,0)
def dx(a0:Int):Option (Int × Int × Bool):=
 if (decide (a0<1)) then
  some ((-1),(-1),false)
 else
 (rem (A1 (a0-1)) 32).bind λv1=>
 (quo .i64 v1 1).bind λv2=>
 (quo .i64 (A1 (a0-1)) 32).bind λv3=>
 if ((decide (v2>=24))||(decide (v3 > 9))) then
  some ((-1),(-1),false)
 else
 some (v2,v3,true)
def fF(a0:Int):Option Int:=
 (dx a0).bind λv1=>
 some v1.1
def iw(a0:Int):Option Int:=
 (dx a0).bind λv1=>
 some v1.2.1
def y8(a0:g6)(a1:Int):Option (Int × Int):=
 if (a1==0) then
  some ((-1),2)
 else
 (fF a1).bind λv1=>
 if ((decide (v1<0))||(decide (v1>=(a0.Cells.length:Int)))) then
  some ((-1),3)
 else
 (ix a0.Cells v1).bind λv2=>
 (iw a1).bind λv3=>
 if ((v2.Gen != v3)||((v2.State != 1)&&(v2.State != 2))) then
  some ((-1),3)
 else
 some (v1,0)
def F0(a0:g6)(a1:Int):Option (n7 × Int):=
 (y8 a0 a1).bind λv1=>
 if (v1.2 != 0) then
  some ((⟨0,0,0,0,false,[]⟩:n7),v1.2)
 else
 (ix a0.Cells v1.1).bind λv2=>
 if (v2.State==2) then
  some ((⟨0,0,0,0,false,[]⟩:n7),3)
 else
 some (v2.Val,0)
def A7(a0:a7)(a1:Int):Option (n7 × Int):=
 (F0 a0.S a1).bind λv1=>
 some (v1.1,v1.2)
def jx(a0:b7)(a1:Int):Option Bool:=
 (A7 a0.S a1).bind λv1=>
 some (v1.2==0)
def M4(a0:b7)(a1:Int):Option Bool:=
 (u5 ((a1==0)==false) false (jx a0 a1)).bind λv1=>
 some ((a1==0)||v1)
def H8(a0:Int):Option Bool:=
 some (decide (a0>=12))
def hZ(a0:Int):Option (Int × Int):=
 (H8 a0).bind λv1=>
 if v1 then
  some (12,0)
 else
 some (A1 ((if 0 > a0 then 0 else a0)+1),0)
def pP(a0:Int):Option Int:=
 (hZ a0).bind λv1=>
 some v1.1
def L7(a0:g6)(a1:Int)(a2:n7):Option (g6 × Int):=
 (y8 a0 a1).bind λv1=>
 if (v1.2 != 0) then
  some (a0,v1.2)
 else
 (ix a0.Cells v1.1).bind λv2=>
 (E3 a0 v1.1 (⟨v2.State,v2.Gen,a2⟩:c4)).bind λv3=>
 some (v3,0)
def L8(a0:a7)(a1:Int)(a2:n7):Option (a7 × Int):=
 (L7 a0.S a1 a2).bind λv1=>
 some ((⟨v1.1,a0.Serial⟩:a7),v1.2)
def W0(a0:b7)(a1:Int):Option b7:=
 (A7 a0.S a1).bind λv1=>
 if (v1.2==0) then
  (pP v1.1.Strong).bind λv2=>
  (L8 a0.S a1 (⟨v1.1.Serial,v2,v1.1.Weak,v1.1.Prog,v1.1.Started,v1.1.Fields⟩:n7)).bind λv3=>
  some (⟨v3.1,a0.Roots,a0.Cells,a0.T,a0.Q⟩:b7)
 else
 some a0
def aL(a0:b7)(a1:Int):Option b7:=
 (W0 a0 a1).bind λv1=>
 some v1
def O0(a0:List Int):Option (List Int):=
 app 8 [] a0
def R1(a0:J5)(a1:b7):Option b7:=
 (O0 a1.Roots).bind λv1=>
 (ix v1 a0.r).bind λv2=>
 some (⟨a1.S,(v1.set (a0.r).toNat a0.h),a1.Cells,a1.T,a1.Q⟩:b7)
def eE(a0:Int):Option (Int × Int):=
 (H8 a0).bind λv1=>
 if v1 then
  some (12,0)
 else
 if (decide (a0<1)) then
  some (0,11)
 else
 some (A1 (a0-1),0)
def vm(a0:Int):Option (Int × Int):=
 (eE a0).bind λv1=>
 some (v1.1,v1.2)
def dy(a0:Int):Option Int:=
 (vm a0).bind λv1=>
 if (v1.2 != 0) then
  some a0
 else
 some v1.1
def P2(a0:b7)(a1:Int):Option b7:=
 (A7 a0.S a1).bind λv1=>
 if (v1.2==0) then
  (dy v1.1.Strong).bind λv2=>
  (L8 a0.S a1 (⟨v1.1.Serial,v2,v1.1.Weak,v1.1.Prog,v1.1.Started,v1.1.Fields⟩:n7)).bind λv3=>
  some (⟨v3.1,a0.Roots,a0.Cells,a0.T,a0.Q⟩:b7)
 else
 some a0
def E2(a0:b7)(a1:Int):Option b7:=
 (P2 a0 a1).bind λv1=>
 some v1
def G8(a0:b7)(a1:Int)(a2:Int)(a3:J5):Option b7:=
 (aL a0 a2).bind λv1=>
 (R1 a3 v1).bind λv2=>
 (E2 v2 a1).bind λv3=>
 some v3
def bl(a0:b7)(a1:Int)(a2:Int):Option (b7 × Int):=
 if ((decide (a1<0))||(decide (a1>=(a0.Roots.length:Int)))) then
  some (a0,6)
 else
 (M4 a0 a2).bind λv1=>
 if (!v1) then
  some (a0,3)
 else
 (ix a0.Roots a1).bind λv2=>
 (G8 a0 v2 a2 (⟨a1,a2⟩:J5)).bind λv3=>
 some (v3,0)
def D4(a0:w7)(a1:Int)(a2:Int):Option (b7 × Int):=
 if (a2 != 0) then
  some (a0.x,a2)
 else
 (bl a0.x a0.o.A a1).bind λv1=>
 some (v1.1,v1.2)
def V1(a0:w7):Option (b7 × Int):=
 (U8 a0.x.S a0.o.B a0.o.C).bind λv1=>
 if (v1.2.2 != 0) then
  some (a0.x,v1.2.2)
 else
 (D4 (⟨⟨v1.1,a0.x.Roots,a0.x.Cells,a0.x.T,a0.x.Q⟩,a0.o⟩:w7) v1.2.1 0).bind λv2=>
 some (v2.1,v2.2)
def M8(a0:b7)(a1:Int):Option Int:=
 if ((decide (a1<0))||(decide (a1>=(a0.Roots.length:Int)))) then
  some 0
 else
 (ix a0.Roots a1).bind λv1=>
 some v1
def J8(a0:w7):Option (b7 × Int):=
 (M8 a0.x a0.o.B).bind λv1=>
 (D4 a0 v1 0).bind λv2=>
 some (v2.1,v2.2)
def aB(a0:w7):Option (b7 × Int):=
 (D4 a0 0 0).bind λv1=>
 some (v1.1,v1.2)
def N7(a0:b7)(a1:Int):Option (Int × Int):=
 (M8 a0 a1).bind λv1=>
 if (v1==0) then
  some (0,2)
 else
 some (v1,0)
def nA(a0:List Int)(a1:Int):Option Bool:=
 some ((decide (a1>=0))&&(decide (a1<(a0.length:Int))))
def wj(a0:List Int)(a1:Int):Option (Int × Int):=
 (nA a0 a1).bind λv1=>
 if (!v1) then
  some (0,5)
 else
 (ix a0 a1).bind λv2=>
 some (v2,0)
def aZ(a0:a7)(a1:Int)(a2:Int):Option (Int × Int):=
 (A7 a0 a1).bind λv1=>
 if (v1.2 != 0) then
  some (0,v1.2)
 else
 (wj v1.1.Fields a2).bind λv2=>
 some (v2.1,v2.2)
def aC(a0:w7):Option (b7 × Int):=
 (N7 a0.x a0.o.B).bind λv1=>
 if (v1.2 != 0) then
  some (a0.x,v1.2)
 else
 (aZ a0.x.S v1.1 a0.o.C).bind λv2=>
 (D4 a0 v2.1 v2.2).bind λv3=>
 some (v3.1,v3.2)
def AY(a0:List Int)(a1:Int)(a2:Int):Option ((List Int) × Int):=
 (nA a0 a1).bind λv1=>
 if (!v1) then
  some (a0,5)
 else
 (mk 8 (a0.length:Int) (0:Int)).bind λv2=>
 (Bk v2 a0).bind λv3=>
 (ix v3 a1).bind λv4=>
 some ((v3.set (a1).toNat a2),0)
def qB(a0:a7)(a1:Int)(a2:Int)(a3:Int):Option (a7 × Int):=
 (A7 a0 a1).bind λv1=>
 if (v1.2 != 0) then
  some (a0,v1.2)
 else
 (AY v1.1.Fields a2 a3).bind λv2=>
 if (v2.2 != 0) then
  some (a0,v2.2)
 else
 (L8 a0 a1 (⟨v1.1.Serial,v1.1.Strong,v1.1.Weak,v1.1.Prog,v1.1.Started,v2.1⟩:n7)).bind λv3=>
 some (v3.1,v3.2)
def bH(a0:I3)(a1:b7):Option b7:=
 (qB a1.S a0.h a0.k a0.v).bind λv1=>
 some (⟨v1.1,a1.Roots,a1.Cells,a1.T,a1.Q⟩:b7)
def J6(a0:b7)(a1:Int)(a2:Int)(a3:I3):Option b7:=
 (aL a0 a2).bind λv1=>
 (bH a3 v1).bind λv2=>
 (E2 v2 a1).bind λv3=>
 some v3
def eH(a0:b7)(a1:Int)(a2:Int)(a3:Int):Option (b7 × Int):=
 (aZ a0.S a1 a2).bind λv1=>
 if (v1.2 != 0) then
  some (a0,v1.2)
 else
 (M4 a0 a3).bind λv2=>
 if (!v2) then
  some (a0,3)
 else
 (J6 a0 v1.1 a3 (⟨a1,a2,a3⟩:I3)).bind λv3=>
 some (v3,0)
def Y5(a0:w7):Option (b7 × Int):=
 (N7 a0.x a0.o.A).bind λv1=>
 if (v1.2 != 0) then
  some (a0.x,v1.2)
 else
 (M8 a0.x a0.o.C).bind λv2=>
 (eH a0.x v1.1 a0.o.B v2).bind λv3=>
 some (v3.1,v3.2)
def xY(a0:g7)(a1:Int):Option (g7 × Int):=
 some (a0,a1)
def iV(a0:g7)(a1:Int):Option Bool:=
 jn (λ(_:Unit)=>
  some false) (λκ6=>
  (xY a0 2).bind λv8=>
  (lp (S:=Int) (E:=Bool ⊕ Unit) (λ(s10:Int)=>
   if (decide (s10<(v8.1.L.length:Int))) then
    (ix v8.1.L s10).bind λv12=>
    if ((v12.Kind==v8.2)==true) then
     if (v12.At==a1) then
      some (.inr (.inl true))
     else
     some (.inl (A1 (s10+1)))
    else
    some (.inl (A1 (s10+1)))
   else
   some (.inr (.inr ()))) 0).bind λe9=>
  match e9 with
  | .inl w=>some w
  | .inr w=>κ6 w)
def lW(a0:List g9)(a1:Int):Option Bool:=
 some ((decide (a1>=0))&&(decide (a1<(a0.length:Int))))
def ba(a0:List g9):Option (List g9):=
 (mk 24 (a0.length:Int) (⟨0,false,0⟩:g9)).bind λv1=>
 (Bk v1 a0).bind λv2=>
 some v2
def uY(a0:List g9)(a1:Int)(a2:Int)(a3:Int):Option ((List g9) × Int × Int):=
 (lW a0 a1).bind λv1=>
 if (!v1) then
  some (a0,0,7)
 else
 (ba a0).bind λv2=>
 (ix v2 a1).bind λv3=>
 (ix a0 a1).bind λv4=>
 some ((v2.set (a1).toNat (⟨a2,(a2 != 0),a3⟩:g9)),v4.Target,0)
def cS(a0:b7)(a1:Int)(a2:Int):Option b7:=
 (y8 a0.S.S a1).bind λv1=>
 if (v1.2==0) then
  (ix a0.S.S.Cells v1.1).bind λv2=>
  (L8 a0.S a1 (⟨v2.Val.Serial,v2.Val.Strong,A1 (v2.Val.Weak+a2),v2.Val.Prog,v2.Val.Started,v2.Val.Fields⟩:n7)).bind λv3=>
  some (⟨v3.1,a0.Roots,a0.Cells,a0.T,a0.Q⟩:b7)
 else
 some a0
def P7(a0:g6)(a1:Int):Option (g6 × Int):=
 (y8 a0 a1).bind λv1=>
 if (v1.2 != 0) then
  some (a0,v1.2)
 else
 (ix a0.Cells v1.1).bind λv2=>
 if (v2.Gen==a0.Last) then
  (E3 a0 v1.1 (⟨3,v2.Gen,⟨0,0,0,0,false,[]⟩⟩:c4)).bind λv3=>
  some (v3,0)
 else
 (E3 a0 v1.1 (⟨0,A1 (v2.Gen+1),⟨0,0,0,0,false,[]⟩⟩:c4)).bind λv4=>
 some (v4,0)
def fu(a0:b7)(a1:Int):Option b7:=
 (cS a0 a1 (-1)).bind λv1=>
 (y8 v1.S.S a1).bind λv2=>
 if (v2.2 != 0) then
  some v1
 else
 (ix v1.S.S.Cells v2.1).bind λv3=>
 if ((v3.State==2)&&(v3.Val.Weak==0)) then
  (P7 v1.S.S a1).bind λv4=>
  some (⟨⟨v4.1,v1.S.Serial⟩,v1.Roots,v1.Cells,v1.T,v1.Q⟩:b7)
 else
 some v1
def bm(a0:b7)(a1:Int)(a2:Int)(a3:Int):Option (b7 × Int):=
 (u5 (((decide (a1<0))||(decide (a1>=(a0.Cells.length:Int))))==false) false (iV a0.Q a1)).bind λv1=>
 if (((decide (a1<0))||(decide (a1>=(a0.Cells.length:Int))))||v1) then
  some (a0,7)
 else
 (M4 a0 a2).bind λv2=>
 if (!v2) then
  some (a0,3)
 else
 (uY a0.Cells a1 a2 a3).bind λv3=>
 (cS (⟨a0.S,a0.Roots,v3.1,a0.T,a0.Q⟩:b7) a2 1).bind λv4=>
 (fu v4 v3.2.1).bind λv5=>
 some (v5,0)
def V2(a0:w7):Option (b7 × Int):=
 if (a0.o.B==(-1)) then
  (bm a0.x a0.o.A 0 a0.o.C).bind λv1=>
  some (v1.1,v1.2)
 else
 (N7 a0.x a0.o.B).bind λv2=>
 if (v2.2 != 0) then
  some (a0.x,v2.2)
 else
 (bm a0.x a0.o.A v2.1 a0.o.C).bind λv3=>
 some (v3.1,v3.2)
def lV(a0:List g9)(a1:Int):Option (Int × Int):=
 (lW a0 a1).bind λv1=>
 if (!v1) then
  some (0,7)
 else
 (ix a0 a1).bind λv2=>
 if ((v2.Target==0)||(!v2.Intact)) then
  some (0,9)
 else
 some (v2.Target,0)
def Z3(a0:w7):Option (b7 × Int):=
 (lV a0.x.Cells a0.o.B).bind λv1=>
 (D4 a0 v1.1 v1.2).bind λv2=>
 some (v2.1,v2.2)
def gL(a0:Int)(a1:Int):Option (Int × Int):=
 some (a0,a1)
def bk(a0:Int)(a1:Int):Option Int:=
 if (decide (a0<1)) then
  some 0
 else
 (rem (A1 ((A1 (5*a1))+1)) a0).bind λv1=>
 if (decide (v1<0)) then
  some (A1 (v1+a0))
 else
 some v1
def aa(a0:List c9)(a1:Int):Option Int:=
 jn (λ(_:Unit)=>
  some (-1)) (λκ8=>
  (gL (a0.length:Int) a1).bind λv10=>
  (lp (S:=Int) (E:=Int ⊕ Unit) (λ(s12:Int)=>
   if (decide (s12<v10.1)) then
    (bk v10.1 v10.2).bind λv14=>
    (rem (A1 (v14+s12)) v10.1).bind λv15=>
    (ix a0 v15).bind λv16=>
    if (v16.State==0) then
     some (.inr (.inr ()))
    else
    if ((v16.State==1)&&(v16.Key==a1)) then
     some (.inr (.inl v15))
    else
    some (.inl (A1 (s12+1)))
   else
   some (.inr (.inr ()))) 0).bind λe11=>
  match e11 with
  | .inl w=>some w
  | .inr w=>κ8 w)
def N5(a0:List c9)(a1:Int):Option (Int × Int):=
 (aa a0 a1).bind λv1=>
 if (decide (v1<0)) then
  some (0,9)
 else
 (ix a0 v1).bind λv2=>
 some (v2.Val,0)
def F1(a0:List c9):Option (List c9):=
 app 24 [] a0
def cR(a0:List c9)(a1:Int)(a2:c9):Option (List c9):=
 (F1 a0).bind λv1=>
 (ix v1 a1).bind λv2=>
 some (v1.set (a1).toNat a2)
def Z9(a0:List c9)(a1:Int):Option ((List c9) × Int × Int):=
 (aa a0 a1).bind λv1=>
 if (decide (v1<0)) then
  some (a0,0,9)
 else
 (cR a0 v1 (⟨2,0,0⟩:c9)).bind λv2=>
 (ix a0 v1).bind λv3=>
 some (v2,v3.Val,0)
def oM(a0:List c9)(a1:Int)(a2:Int):Option ((List c9) × Int):=
 (aa a0 a1).bind λv1=>
 if (decide (v1>=0)) then
  (cR a0 v1 (⟨1,a1,a2⟩:c9)).bind λv2=>
  some (v2,0)
 else
 jn (λ(_:Unit)=>
  some (a0,8)) (λκ11=>
  (gL (a0.length:Int) a1).bind λv13=>
  (lp (S:=Int) (E:=((List c9) × Int) ⊕ Unit) (λ(s15:Int)=>
   if (decide (s15<v13.1)) then
    (bk v13.1 v13.2).bind λv17=>
    (rem (A1 (v17+s15)) v13.1).bind λv18=>
    (ix a0 v18).bind λv19=>
    if (v19.State != 1) then
     (cR a0 v18 (⟨1,a1,a2⟩:c9)).bind λv20=>
     some (.inr (.inl (v20,0)))
    else
    some (.inl (A1 (s15+1)))
   else
   some (.inr (.inr ()))) 0).bind λe14=>
  match e14 with
  | .inl w=>some w
  | .inr w=>κ11 w)
def V8(a0:List c9)(a1:Int)(a2:Int):Option ((List c9) × Int × Int):=
 if (a1==0) then
  some (a0,0,2)
 else
 (N5 a0 a1).bind λv1=>
 if (a2==0) then
  (Z9 a0 a1).bind λv2=>
  some (v2.1,v1.1,0)
 else
 (oM a0 a1 a2).bind λv3=>
 if (v3.2 != 0) then
  some (a0,0,v3.2)
 else
 some (v3.1,v1.1,0)
def Y4(a0:J4)(a1:b7):Option b7:=
 some (⟨a1.S,a1.Roots,a1.Cells,a0.t,a1.Q⟩:b7)
def L0(a0:b7)(a1:Int)(a2:Int)(a3:J4):Option b7:=
 (aL a0 a2).bind λv1=>
 (Y4 a3 v1).bind λv2=>
 (E2 v2 a1).bind λv3=>
 some v3
def gM(a0:b7)(a1:Int)(a2:Int):Option (b7 × Int):=
 if (a1==0) then
  some (a0,2)
 else
 (M4 a0 a1).bind λv1=>
 (u5 ((!v1)==false) false (M4 a0 a2)).bind λv2=>
 if ((!v1)||(!v2)) then
  some (a0,3)
 else
 (V8 a0.T a1 a2).bind λv3=>
 if (v3.2.2 != 0) then
  some (a0,v3.2.2)
 else
 (L0 a0 v3.2.1 a2 (⟨v3.1⟩:J4)).bind λv4=>
 some (v4,0)
def aD(a0:w7):Option (b7 × Int):=
 (N7 a0.x a0.o.A).bind λv1=>
 if (v1.2 != 0) then
  some (a0.x,v1.2)
 else
 (M8 a0.x a0.o.B).bind λv2=>
 (gM a0.x v1.1 v2).bind λv3=>
 some (v3.1,v3.2)
def vo(a0:List c9)(a1:Int):Option (Int × Int):=
 (N5 a0 a1).bind λv1=>
 some (v1.1,v1.2)
def bo(a0:w7):Option (b7 × Int):=
 (N7 a0.x a0.o.B).bind λv1=>
 if (v1.2 != 0) then
  some (a0.x,v1.2)
 else
 (vo a0.x.T v1.1).bind λv2=>
 (D4 a0 v2.1 v2.2).bind λv3=>
 some (v3.1,v3.2)
def R2(a0:w7):Option (b7 × Int):=
 some (a0.x,0)
def xC(f:Fv)(a0:w7):Option (b7 × Int):=
 if f=some 151 then V1 a0 else
 if f=some 152 then J8 a0 else
 if f=some 153 then aB a0 else
 if f=some 154 then aC a0 else
 if f=some 155 then Y5 a0 else
 if f=some 156 then V2 a0 else
 if f=some 157 then Z3 a0 else
 if f=some 158 then aD a0 else
 if f=some 159 then bo a0 else
 if f=some 160 then R2 a0 else
 none
def bR(a0:Int):Option Bool:=
 some (a0 != a0)
def fV(a0:Int)(a1:Int):Option Int:=
 (bR a0).bind λv1=>
 (bR a1).bind λv2=>
 if v1 then
  if v2 then
   some 0
  else
  some (-1)
 else
 if v2 then
  some 1
 else
 if (decide (a0<a1)) then
  some (-1)
 else
 if (decide (a0 > a1)) then
  some 1
 else
 some 0
def gI(a0:Int)(a1:Int)(a2:List (Int × Int)):Option Int:=
 (fV ((D1 a2 a0).getD (0:Int)) ((D1 a2 a1).getD (0:Int))).bind λv1=>
 some v1
def F2(a0:a7):Option (List Int):=
 jn (λ((j18,j19):(List (Int × Int)) × (List Int))=>
  (wa (λp q=>gI p q j18) j19).bind λv21=>
  some v21) (λκ17=>
  (lp (S:=Int × (List (Int × Int)) × (List Int)) (E:=((List (Int × Int)) × (List Int))) (λ((s23,s24,s25):Int × (List (Int × Int)) × (List Int))=>
   if (decide (s23<(a0.S.Cells.length:Int))) then
    jn (λ((j32,j33):(List (Int × Int)) × (List Int))=>
     some (.inl (A1 (s23+1),j32,j33))) (λκ31=>
     (ix a0.S.Cells s23).bind λv35=>
     if (v35.State==1) then
      (cQ s23 v35.Gen).bind λv36=>
      (app 8 s25 [v36]).bind λv37=>
      κ31 ((u9 s24 v36 v35.Val.Serial),v37)
     else
     κ31 (s24,s25))
   else
   some (.inr (s24,s25))) (0,[],[])).bind λe22=>
  κ17 e22)
def cX(a0:b7):Option (List Int):=
 jn (λ(j16:List Int)=>
  some j16) (λκ15=>
  (F2 a0.S).bind λv17=>
  (lp (S:=Int × (List Int)) (E:=(List Int)) (λ((s19,s20):Int × (List Int))=>
   if (decide (s19<(v17.length:Int))) then
    jn (λ(j27:List Int)=>
     some (.inl (A1 (s19+1),j27))) (λκ26=>
     (ix v17 s19).bind λv28=>
     (A7 a0.S v28).bind λv29=>
     if (v29.1.Strong==0) then
      (app 8 s20 [v28]).bind λv30=>
      κ26 v30
     else
     κ26 s20)
   else
   some (.inr s20)) (0,[])).bind λe18=>
  κ15 e18)
def N9(a0:n7):Option Bool:=
 some ((decide (a0.Prog>=0))&&(!a0.Started))
def K5(a0:g7):Option Int:=
 some (a0.L.length:Int)
def H3(a0:List l5)(a1:Int)(a2:Int):Option (List l5):=
 (cut a0 a1 a2).bind λv1=>
 some v1
def T5(a0:g7)(a1:l5):Option (g7 × Int):=
 (K5 a0).bind λv1=>
 if (decide (v1>=a0.Cap)) then
  some (a0,4)
 else
 (H3 a0.L 0 v1).bind λv2=>
 (app 24 v2 [a1]).bind λv3=>
 some ((⟨v3,a0.Cap⟩:g7),0)
def pB(a0:g7)(a1:l5):Option (g7 × Int):=
 (T5 a0 a1).bind λv1=>
 some (v1.1,v1.2)
def U6(a0:b7)(a1:Int):Option b7:=
 (A7 a0.S a1).bind λv1=>
 (u5 ((v1.2 != 0)==false) false (N9 v1.1)).bind λv2=>
 if ((v1.2 != 0)||(!v2)) then
  some a0
 else
 (L8 a0.S a1 (⟨v1.1.Serial,v1.1.Strong,v1.1.Weak,v1.1.Prog,true,v1.1.Fields⟩:n7)).bind λv3=>
 (pB a0.Q (⟨1,a1,v1.1.Prog⟩:l5)).bind λv4=>
 (aL (⟨v3.1,a0.Roots,a0.Cells,a0.T,v4.1⟩:b7) a1).bind λv5=>
 some v5
def W9(a0:b7)(a1:List Int):Option (List Int):=
 jn (λ(j18:List Int)=>
  some j18) (λκ17=>
  (lp (S:=Int × (List (Int × Bool)) × (List Int)) (E:=(List Int)) (λ((s20,s21,s22):Int × (List (Int × Bool)) × (List Int))=>
   if (decide (s20<(a1.length:Int))) then
    jn (λ((j29,j30):(List Int) × (List (Int × Bool)))=>
     some (.inl (A1 (s20+1),j30,j29))) (λκ28=>
     (ix a1 s20).bind λv32=>
     (A7 a0.S v32).bind λv33=>
     if ((v33.2==0)==true) then
      if (!((D1 s21 v32).getD (false:Bool))) then
       (app 8 s22 [v32]).bind λv34=>
       κ28 (v34,(u9 s21 v32 true))
      else
      κ28 (s22,s21)
     else
     κ28 (s22,s21))
   else
   some (.inr s22)) (0,[],[])).bind λe19=>
  κ17 e19)
def T8(a0:List Int)(a1:Int):Option Int:=
 jn (λ(_:Unit)=>
  some (-1)) (λκ5=>
  (lp (S:=Int) (E:=Int ⊕ Unit) (λ(s8:Int)=>
   if (decide (s8<(a0.length:Int))) then
    (ix a0 s8).bind λv10=>
    if (a1==v10) then
     some (.inr (.inl s8))
    else
    some (.inl (A1 (s8+1)))
   else
   some (.inr (.inr ()))) 0).bind λe7=>
  match e7 with
  | .inl w=>some w
  | .inr w=>κ5 w)
def G7(a0:List Int)(a1:Int):Option Bool:=
 (T8 a0 a1).bind λv1=>
 some (decide (v1>=0))
def bC(a0:g9)(a1:List Int):Option Bool:=
 (u5 ((a0.Intact&&(a0.Target != 0))==true) false (G7 a1 a0.Target)).bind λv1=>
 some ((a0.Intact&&(a0.Target != 0))&&v1)
def L4(a0:List g9)(a1:List Int):Option (List Int):=
 jn (λ(j15:List Int)=>
  some j15) (λκ14=>
  (lp (S:=Int × (List Int)) (E:=(List Int)) (λ((s17,s18):Int × (List Int))=>
   if (decide (s17<(a0.length:Int))) then
    jn (λ(j25:List Int)=>
     some (.inl (A1 (s17+1),j25))) (λκ24=>
     (ix a0 s17).bind λv26=>
     (bC v26 a1).bind λv27=>
     if v27 then
      (app 8 s18 [s17]).bind λv28=>
      κ24 v28
     else
     κ24 s18)
   else
   some (.inr s18)) (0,[])).bind λe16=>
  κ14 e16)
def iX(a0:List g9)(a1:List Int):Option ((List g9) × (List Int)):=
 (L4 a0 a1).bind λv1=>
 (ba a0).bind λv2=>
 jn (λ((j22,j23):(List Int) × (List g9))=>
  some (j23,j22)) (λκ21=>
  (lp (S:=Int × (List g9) × (List Int)) (E:=((List Int) × (List g9))) (λ((s26,s27,s28):Int × (List g9) × (List Int))=>
   if (decide (s26<(v1.length:Int))) then
    jn (λ((j36,j37):(List Int) × (List g9))=>
     some (.inl (A1 (s26+1),j37,j36))) (λκ35=>
     (ix v1 s26).bind λv39=>
     (ix s27 v39).bind λv40=>
     (ix (s27.set (v39).toNat (⟨v40.Target,false,v40.Call⟩:g9)) v39).bind λv41=>
     if (decide (v41.Call>=0)) then
      (app 8 s28 [v39]).bind λv42=>
      κ35 (v42,(s27.set (v39).toNat (⟨v40.Target,false,v40.Call⟩:g9)))
     else
     κ35 (s28,(s27.set (v39).toNat (⟨v40.Target,false,v40.Call⟩:g9))))
   else
   some (.inr (s28,s27))) (0,v2,[])).bind λe25=>
  κ21 e25)
def dR(a0:b7)(a1:List Int):Option b7:=
 (iX a0.Cells a1).bind λv1=>
 jn (λ(j11:g7)=>
  some (⟨a0.S,a0.Roots,v1.1,a0.T,j11⟩:b7)) (λκ10=>
  (lp (S:=Int × g7) (E:=g7) (λ((s13,s14):Int × g7)=>
   if (decide (s13<(v1.2.length:Int))) then
    (ix v1.2 s13).bind λv17=>
    (ix v1.1 v17).bind λv18=>
    (pB s14 (⟨2,v17,v18.Call⟩:l5)).bind λv19=>
    some (.inl (A1 (s13+1),v19.1))
   else
   some (.inr s14)) (0,a0.Q)).bind λe12=>
  κ10 e12)
def qF(a0:List Int):Option (List Int):=
 some a0
def gW(a0:List Int):Option (List Int):=
 jn (λ(j10:List Int)=>
  some j10) (λκ9=>
  (qF a0).bind λv11=>
  (lp (S:=Int × (List Int)) (E:=(List Int)) (λ((s13,s14):Int × (List Int))=>
   if (decide (s13<(v11.length:Int))) then
    (ix v11 s13).bind λv17=>
    if ((v17 != 0)==true) then
     (app 8 s14 [v17]).bind λv18=>
     some (.inl (A1 (s13+1),v18))
    else
    some (.inl (A1 (s13+1),s14))
   else
   some (.inr s14)) (0,[])).bind λe12=>
  κ9 e12)
def Z7(a0:List c9)(a1:List Int):Option ((List c9) × (List Int)):=
 jn (λ((j18,j19):(List c9) × (List Int))=>
  some (j18,j19)) (λκ17=>
  (lp (S:=(List c9) × Int × (List Int)) (E:=((List c9) × (List Int))) (λ((s22,s23,s24):(List c9) × Int × (List Int))=>
   if (decide (s23<(a1.length:Int))) then
    jn (λ((j31,j32):(List c9) × (List Int))=>
     some (.inl (j31,A1 (s23+1),j32))) (λκ30=>
     (ix a1 s23).bind λv34=>
     (Z9 s22 v34).bind λv35=>
     if (v35.2.2==0) then
      (app 8 s24 [v35.2.1]).bind λv36=>
      κ30 (v35.1,v36)
     else
     κ30 (s22,s24))
   else
   some (.inr (s22,s24))) (a0,0,[])).bind λe21=>
  κ17 e21)
def V3(a0:g6)(a1:Int):Option (g6 × Int):=
 (F0 a0 a1).bind λv1=>
 if (v1.2 != 0) then
  some (a0,v1.2)
 else
 (fF a1).bind λv2=>
 (iw a1).bind λv3=>
 (E3 a0 v2 (⟨2,v3,v1.1⟩:c4)).bind λv4=>
 some (v4,0)
def ai(a0:b7)(a1:Int):Option b7:=
 (A7 a0.S a1).bind λv1=>
 (L8 a0.S a1 (⟨v1.1.Serial,0,v1.1.Weak,v1.1.Prog,v1.1.Started,[]⟩:n7)).bind λv2=>
 (V3 v2.1.S a1).bind λv3=>
 if (v1.1.Weak==0) then
  (P7 v3.1 a1).bind λv4=>
  some (⟨⟨v4.1,v2.1.Serial⟩,a0.Roots,a0.Cells,a0.T,a0.Q⟩:b7)
 else
 some (⟨⟨v3.1,v2.1.Serial⟩,a0.Roots,a0.Cells,a0.T,a0.Q⟩:b7)
def aW(a0:b7)(a1:List Int):Option b7:=
 (W9 a0 a1).bind λv1=>
 (dR a0 v1).bind λv2=>
 jn (λ(j13:List Int)=>
  (Z7 v2.T v1).bind λv14=>
  (app 8 j13 v14.2).bind λv15=>
  jn (λ(j24:b7)=>
   jn (λ(j33:b7)=>
    some j33) (λκ32=>
    (lp (S:=Int × b7) (E:=b7) (λ((s35,s36):Int × b7)=>
     if (decide (s35<(v15.length:Int))) then
      (ix v15 s35).bind λv39=>
      (E2 s36 v39).bind λv40=>
      some (.inl (A1 (s35+1),v40))
     else
     some (.inr s36)) (0,j24)).bind λe34=>
    κ32 e34)) (λκ23=>
   (lp (S:=Int × b7) (E:=b7) (λ((s42,s43):Int × b7)=>
    if (decide (s42<(v1.length:Int))) then
     (ix v1 s42).bind λv46=>
     (ai s43 v46).bind λv47=>
     some (.inl (A1 (s42+1),v47))
    else
    some (.inr s43)) (0,(⟨v2.S,v2.Roots,v2.Cells,v14.1,v2.Q⟩:b7))).bind λe41=>
   κ23 e41)) (λκ12=>
  (lp (S:=Int × (List Int)) (E:=(List Int)) (λ((s49,s50):Int × (List Int))=>
   if (decide (s49<(v1.length:Int))) then
    (ix v1 s49).bind λv53=>
    (A7 v2.S v53).bind λv54=>
    (gW v54.1.Fields).bind λv55=>
    (app 8 s50 v55).bind λv56=>
    some (.inl (A1 (s49+1),v56))
   else
   some (.inr s50)) (0,[])).bind λe48=>
  κ12 e48)
def Q7(a0:b7):Option b7:=
 (lp (S:=b7) (E:=b7) (λ(s2:b7)=>
  (cX s2).bind λv4=>
  if ((v4.length:Int)==0) then
   some (.inr s2)
  else
  (ix v4 0).bind λv5=>
  (A7 s2.S v5).bind λv6=>
  (N9 v6.1).bind λv7=>
  if v7 then
   (U6 s2 v5).bind λv8=>
   some (.inl v8)
  else
  (cut v4 0 1).bind λv9=>
  (aW s2 v9).bind λv10=>
  some (.inl v10)) a0).bind λe1=>
 some e1
def aM(a0:b7)(a1:Int):Option Int:=
 (A7 a0.S a1).bind λv1=>
 some v1.1.Serial
def cy(a0:b7)(a1:Int):Option Int:=
 (M8 a0 a1).bind λv1=>
 (aM a0 v1).bind λv2=>
 some v2
def W3(a0:b7)(a1:b7)(a2:k8):Option Int:=
 if (a2.Kind==5) then
  (cy a0 a2.C).bind λv1=>
  some v1
 else
 jn (λ(j3:Bool)=>
  if j3 then
   (cy a0 a2.B).bind λv4=>
   some v4
  else
  if (a2.Kind==10) then
   (M8 a0 a2.A).bind λv5=>
   (M8 a0 a2.B).bind λv6=>
   if (v5==v6) then
    some 1
   else
   some 0
  else
  (cy a1 a2.A).bind λv7=>
  some v7) (λκ2=>
  if (a2.Kind==6) then
   κ2 (a2.Kind==6)
  else
  κ2 (a2.Kind==8))
def z7(a0:b7)(a1:k8):Option (b7 × Int × Int):=
 (aI a1).bind λv1=>
 if (v1 != 0) then
  some (a0,0,v1)
 else
 (fv).bind λv2=>
 if (!((D1 v2 a1.Kind).isSome)) then
  some (a0,0,14)
 else
 (xC ((D1 v2 a1.Kind).getD (none:Fv)) (⟨a0,a1⟩:w7)).bind λv3=>
 if (v3.2 != 0) then
  some (a0,0,v3.2)
 else
 (Q7 v3.1).bind λv5=>
 (W3 v3.1 v5 a1).bind λv6=>
 some (v5,v6,0)
def nh(a0:a7):Option a7:=
 some a0
def lH(a0:a7)(a1:Int):Option (List Int):=
 (A7 a0 a1).bind λv1=>
 (gW v1.1.Fields).bind λv2=>
 some v2
def xW(a0:a7)(a1:Int):Option Int:=
 jn (λ(j31:Int)=>
  some j31) (λκ30=>
  (nh a0).bind λv32=>
  (F2 v32).bind λv33=>
  (lp (S:=Int × Int) (E:=Int) (λ((s35,s36):Int × Int)=>
   if (decide (s35<(v33.length:Int))) then
    jn (λ(j50:Int)=>
     some (.inl (A1 (s35+1),j50))) (λκ49=>
     (ix v33 s35).bind λv51=>
     (lH v32 v51).bind λv52=>
     (lp (S:=Int × Int) (E:=Int) (λ((s54,s55):Int × Int)=>
      if (decide (s54<(v52.length:Int))) then
       (ix v52 s54).bind λv58=>
       jn (λ(j60:Int)=>
        some (.inl (A1 (s54+1),j60))) (λκ59=>
        if (v58==a1) then
         κ59 (A1 (s55+1))
        else
        κ59 s55)
      else
      some (.inr s55)) (0,s36)).bind λe53=>
     κ49 e53)
   else
   some (.inr s36)) (0,0)).bind λe34=>
  κ30 e34)
def cM(a0:List c9):Option (List c9):=
 some a0
def kU(a0:List c9):Option (List Int):=
 jn (λ(j13:List Int)=>
  some j13) (λκ12=>
  (lp (S:=Int × (List Int)) (E:=(List Int)) (λ((s15,s16):Int × (List Int))=>
   if (decide (s15<(a0.length:Int))) then
    jn (λ(j22:List Int)=>
     some (.inl (A1 (s15+1),j22))) (λκ21=>
     (ix a0 s15).bind λv23=>
     if (v23.State==1) then
      (app 8 s16 [v23.Key]).bind λv24=>
      κ21 v24
     else
     κ21 s16)
   else
   some (.inr s16)) (0,[])).bind λe14=>
  κ12 e14)
def fp(a0:p6)(a1:Int):Option Bool:=
 some ((a1 != 0)&&(a0.Val==a1))
def C4(a0:List c9)(a1:Int):Option (List p6):=
 jn (λ(j16:List p6)=>
  some j16) (λκ15=>
  (kU a0).bind λv17=>
  (lp (S:=Int × (List p6)) (E:=(List p6)) (λ((s19,s20):Int × (List p6))=>
   if (decide (s19<(v17.length:Int))) then
    (ix v17 s19).bind λv23=>
    (N5 a0 v23).bind λv24=>
    jn (λ(j28:List p6)=>
     some (.inl (A1 (s19+1),j28))) (λκ27=>
     (fp (⟨v23,v24.1⟩:p6) a1).bind λv29=>
     if v29 then
      (app 16 s20 [(⟨v23,v24.1⟩:p6)]).bind λv30=>
      κ27 v30
     else
     κ27 s20)
   else
   some (.inr s20)) (0,[])).bind λe18=>
  κ15 e18)
def js(a0:List c9)(a1:Int):Option Int:=
 (cM a0).bind λv1=>
 (C4 v1 a1).bind λv2=>
 some (v2.length:Int)
def jS(a0:a7)(a1:List c9)(a2:Int):Option Int:=
 (xW a0 a2).bind λv1=>
 (js a1 a2).bind λv2=>
 some (A1 (v1+v2))
def ny(a0:a7)(a1:List c9)(a2:Int):Option Int:=
 (A7 a0 a2).bind λv1=>
 if (v1.2 != 0) then
  some 0
 else
 (jS a0 a1 a2).bind λv2=>
 some (A1 (v1.1.Strong-v2))
def oB(a0:Int):Option Bool:=
 (H8 a0).bind λv1=>
 some v1
def nx(a0:Int)(a1:n7)(a2:a7)(a3:List c9):Option Bool:=
 (ny a2 a3 a0).bind λv1=>
 (u5 ((decide (v1 > 0))==false) false (oB a1.Strong)).bind λv2=>
 some ((decide (v1 > 0))||v2)
def nw(a0:a7)(a1:List c9):Option (List Int):=
 jn (λ(j36:List Int)=>
  some j36) (λκ35=>
  jn (λ(j54:List Int)=>
   κ35 j54) (λκ53=>
   (F2 a0).bind λv55=>
   (lp (S:=Int × (List Int)) (E:=(List Int)) (λ((s57,s58):Int × (List Int))=>
    if (decide (s57<(v55.length:Int))) then
     jn (λ(j66:List Int)=>
      some (.inl (A1 (s57+1),j66))) (λκ65=>
      (ix v55 s57).bind λv67=>
      (A7 a0 v67).bind λv68=>
      (nx v67 v68.1 a0 a1).bind λv69=>
      if v69 then
       (app 8 s58 [v67]).bind λv70=>
       κ65 v70
      else
      κ65 s58)
    else
    some (.inr s58)) (0,[])).bind λe56=>
   κ53 e56))
def fy(a0:Int):Option l7:=
 some (⟨[],a0⟩:l7)
def bw(a0:a7)(a1:Int):Option Bool:=
 (A7 a0 a1).bind λv1=>
 some (v1.2==0)
def M9(a0:l7):Option Int:=
 some (a0.L.length:Int)
def R4(a0:List Int)(a1:Int)(a2:Int):Option (List Int):=
 (cut a0 a1 a2).bind λv1=>
 some v1
def R3(a0:l7)(a1:Int):Option (l7 × Int):=
 (M9 a0).bind λv1=>
 if (decide (v1>=a0.Cap)) then
  some (a0,4)
 else
 (R4 a0.L 0 v1).bind λv2=>
 (app 8 v2 [a1]).bind λv3=>
 some ((⟨v3,a0.Cap⟩:l7),0)
def gh(a0:l7)(a1:Int):Option (l7 × (List Int)):=
 (M9 a0).bind λv1=>
 (R4 a0.L 0 (if (if v1<a1 then v1 else a1) > 0 then (if v1<a1 then v1 else a1) else 0)).bind λv2=>
 (R4 a0.L (if (if v1<a1 then v1 else a1) > 0 then (if v1<a1 then v1 else a1) else 0) v1).bind λv3=>
 some ((⟨v3,a0.Cap⟩:l7),v2)
def bU(a0:l7):Option (l7 × Int × Int):=
 (gh a0 1).bind λv1=>
 if ((v1.2.length:Int)==0) then
  some (a0,0,10)
 else
 (ix v1.2 0).bind λv2=>
 some (v1.1,v2,0)
def dO(a0:a7)(a1:List Int):Option (List (Int × Bool)):=
 (F2 a0).bind λv1=>
 (fy (v1.length:Int)).bind λv2=>
 jn (λ((j20,j21):l7 × (List (Int × Bool)))=>
  jn (λ(j68:List (Int × Bool))=>
   some j68) (λκ67=>
   (lp (S:=l7 × (List (Int × Bool))) (E:=(List (Int × Bool))) (λ((s70,s71):l7 × (List (Int × Bool)))=>
    (M9 s70).bind λv74=>
    if (decide (v74 > 0)) then
     (bU s70).bind λv75=>
     (lH a0 v75.2.1).bind λv76=>
     jn (λ((j94,j95):l7 × (List (Int × Bool)))=>
      some (.inl (j94,j95))) (λκ93=>
      (lp (S:=Int × l7 × (List (Int × Bool))) (E:=(l7 × (List (Int × Bool)))) (λ((s98,s99,s100):Int × l7 × (List (Int × Bool)))=>
       if (decide (s98<(v76.length:Int))) then
        jn (λ((j107,j108):l7 × (List (Int × Bool)))=>
         some (.inl (A1 (s98+1),j107,j108))) (λκ106=>
         (ix v76 s98).bind λv110=>
         (bw a0 v110).bind λv111=>
         if (v111==true) then
          if (!((D1 s100 v110).getD (false:Bool))) then
           (R3 s99 v110).bind λv112=>
           κ106 (v112.1,(u9 s100 v110 true))
          else
          κ106 (s99,s100)
         else
         κ106 (s99,s100))
       else
       some (.inr (s99,s100))) (0,v75.1,s71)).bind λe97=>
      κ93 e97)
    else
    some (.inr s71)) (j20,j21)).bind λe69=>
   κ67 e69)) (λκ19=>
  (lp (S:=Int × l7 × (List (Int × Bool))) (E:=(l7 × (List (Int × Bool)))) (λ((s114,s115,s116):Int × l7 × (List (Int × Bool)))=>
   if (decide (s114<(a1.length:Int))) then
    jn (λ((j123,j124):l7 × (List (Int × Bool)))=>
     some (.inl (A1 (s114+1),j123,j124))) (λκ122=>
     (ix a1 s114).bind λv126=>
     (bw a0 v126).bind λv127=>
     if (v127==true) then
      if (!((D1 s116 v126).getD (false:Bool))) then
       (R3 s115 v126).bind λv128=>
       κ122 (v128.1,(u9 s116 v126 true))
      else
      κ122 (s115,s116)
     else
     κ122 (s115,s116))
   else
   some (.inr (s115,s116))) (0,v2,[])).bind λe113=>
  κ19 e113)
def gD(a0:Int)(a1:List (Int × Bool)):Option Bool:=
 some ((D1 a1 a0).getD (false:Bool))
def U4(a0:a7)(a1:List (Int × Bool)):Option (List Int):=
 jn (λ(j16:List Int)=>
  some j16) (λκ15=>
  (F2 a0).bind λv17=>
  (lp (S:=Int × (List Int)) (E:=(List Int)) (λ((s19,s20):Int × (List Int))=>
   if (decide (s19<(v17.length:Int))) then
    jn (λ(j27:List Int)=>
     some (.inl (A1 (s19+1),j27))) (λκ26=>
     (ix v17 s19).bind λv28=>
     (gD v28 a1).bind λv29=>
     if v29 then
      (app 8 s20 [v28]).bind λv30=>
      κ26 v30
     else
     κ26 s20)
   else
   some (.inr s20)) (0,[])).bind λe18=>
  κ15 e18)
def iM(a0:a7)(a1:List Int):Option (List Int):=
 (dO a0 a1).bind λv1=>
 (U4 a0 v1).bind λv2=>
 some v2
def fq(a0:p6):Option Bool:=
 some true
def C5(a0:List c9):Option (List p6):=
 jn (λ(j16:List p6)=>
  some j16) (λκ15=>
  (kU a0).bind λv17=>
  (lp (S:=Int × (List p6)) (E:=(List p6)) (λ((s19,s20):Int × (List p6))=>
   if (decide (s19<(v17.length:Int))) then
    (ix v17 s19).bind λv23=>
    (N5 a0 v23).bind λv24=>
    jn (λ(j28:List p6)=>
     some (.inl (A1 (s19+1),j28))) (λκ27=>
     (fq (⟨v23,v24.1⟩:p6)).bind λv29=>
     if v29 then
      (app 16 s20 [(⟨v23,v24.1⟩:p6)]).bind λv30=>
      κ27 v30
     else
     κ27 s20)
   else
   some (.inr s20)) (0,[])).bind λe18=>
  κ15 e18)
def jt(a0:List c9):Option (List p6):=
 (cM a0).bind λv1=>
 (C5 v1).bind λv2=>
 some v2
def ir(a0:Int)(a1:a7):Option Bool:=
 (A7 a1 a0).bind λv1=>
 some (v1.2==0)
def tc(a0:a7)(a1:List c9)(a2:List Int):Option (List Int):=
 jn (λ(j20:List Int)=>
  some j20) (λκ19=>
  (jt a1).bind λv21=>
  (lp (S:=Int × (List Int)) (E:=(List Int)) (λ((s23,s24):Int × (List Int))=>
   if (decide (s23<(v21.length:Int))) then
    jn (λ(j33:List Int)=>
     some (.inl (A1 (s23+1),j33))) (λκ32=>
     (ix v21 s23).bind λv34=>
     (G7 a2 v34.Key).bind λv35=>
     (u5 (v35==true) false (ir v34.Key a0)).bind λv36=>
     (u5 ((v35&&v36)==true) false (ir v34.Val a0)).bind λv37=>
     if ((v35&&v36)&&v37) then
      (app 8 s24 [v34.Val]).bind λv38=>
      κ32 v38
     else
     κ32 s24)
   else
   some (.inr s24)) (0,[])).bind λe22=>
  κ19 e22)
def pT(a0:a7)(a1:List c9)(a2:List Int):Option ((List Int) × Int):=
 (iM a0 a2).bind λv1=>
 (lp (S:=(List Int) × Int) (E:=((List Int) × Int)) (λ((s3,s4):(List Int) × Int)=>
  (tc a0 a1 s3).bind λv7=>
  jn (λ(_:Unit)=>
   some (.inr (s3,s4))) (λκ15=>
   (lp (S:=Int) (E:=((List Int) × Int) ⊕ Unit) (λ(s18:Int)=>
    if (decide (s18<(v7.length:Int))) then
     (ix v7 s18).bind λv20=>
     (G7 s3 v20).bind λv21=>
     if (!v21) then
      (app 8 v7 s3).bind λv22=>
      (iM a0 v22).bind λv23=>
      some (.inr (.inl (v23,A1 (s4+1))))
     else
     some (.inl (A1 (s18+1)))
    else
    some (.inr (.inr ()))) 0).bind λe17=>
   match e17 with
   | .inl w=>some (.inl w)
   | .inr w=>κ15 w)) (v1,0)).bind λe2=>
 some e2
def ta(a0:a7)(a1:List c9)(a2:List Int):Option (List Int):=
 (pT a0 a1 a2).bind λv1=>
 some v1.1
def gE(a0:Int)(a1:List (Int × Bool)):Option Bool:=
 some (!((D1 a1 a0).getD (false:Bool)))
def U5(a0:a7)(a1:List (Int × Bool)):Option (List Int):=
 jn (λ(j16:List Int)=>
  some j16) (λκ15=>
  (F2 a0).bind λv17=>
  (lp (S:=Int × (List Int)) (E:=(List Int)) (λ((s19,s20):Int × (List Int))=>
   if (decide (s19<(v17.length:Int))) then
    jn (λ(j27:List Int)=>
     some (.inl (A1 (s19+1),j27))) (λκ26=>
     (ix v17 s19).bind λv28=>
     (gE v28 a1).bind λv29=>
     if v29 then
      (app 8 s20 [v28]).bind λv30=>
      κ26 v30
     else
     κ26 s20)
   else
   some (.inr s20)) (0,[])).bind λe18=>
  κ15 e18)
def ng(a0:a7)(a1:List Int):Option (List Int):=
 (dO a0 a1).bind λv1=>
 (U5 a0 v1).bind λv2=>
 some v2
def oG(a0:a7)(a1:List c9)(a2:List Int):Option (List Int):=
 (ta a0 a1 a2).bind λv1=>
 (ng a0 v1).bind λv2=>
 some v2
def ca(a0:a7)(a1:List c9):Option (List Int):=
 (nw a0 a1).bind λv1=>
 (oG a0 a1 v1).bind λv2=>
 some v2
def P0(a0:b7):Option (List Int):=
 (ca a0.S a0.T).bind λv1=>
 some v1
def fW(a0:Int)(a1:b7):Option Bool:=
 (A7 a1.S a0).bind λv1=>
 some ((decide (v1.1.Prog>=0))&&(!v1.1.Started))
def I7(a0:List Int)(a1:b7):Option (List Int):=
 jn (λ(j15:List Int)=>
  some j15) (λκ14=>
  (lp (S:=Int × (List Int)) (E:=(List Int)) (λ((s17,s18):Int × (List Int))=>
   if (decide (s17<(a0.length:Int))) then
    jn (λ(j25:List Int)=>
     some (.inl (A1 (s17+1),j25))) (λκ24=>
     (ix a0 s17).bind λv26=>
     (fW v26 a1).bind λv27=>
     if v27 then
      (app 8 s18 [v26]).bind λv28=>
      κ24 v28
     else
     κ24 s18)
   else
   some (.inr s18)) (0,[])).bind λe16=>
  κ14 e16)
def fk(a0:b7):Option (List Int):=
 (P0 a0).bind λv1=>
 (I7 v1 a0).bind λv2=>
 some v2
def Z1(a0:b7):Option (b7 × Int × Int):=
 (fk a0).bind λv1=>
 jn (λ(j10:b7)=>
  if (decide ((v1.length:Int) > 0)) then
   some (j10,(v1.length:Int),0)
  else
  (P0 j10).bind λv11=>
  (aW j10 v11).bind λv12=>
  (Q7 v12).bind λv13=>
  (F2 j10.S).bind λv14=>
  (F2 v13.S).bind λv15=>
  some (v13,0,A1 ((v14.length:Int)-(v15.length:Int)))) (λκ9=>
  (lp (S:=Int × b7) (E:=b7) (λ((s17,s18):Int × b7)=>
   if (decide (s17<(v1.length:Int))) then
    (ix v1 s17).bind λv21=>
    (U6 s18 v21).bind λv22=>
    some (.inl (A1 (s17+1),v22))
   else
   some (.inr s18)) (0,a0)).bind λe16=>
  κ9 e16)
def az(a0:g7)(a1:Int):Option (g7 × (List l5)):=
 (K5 a0).bind λv1=>
 (H3 a0.L 0 (if (if v1<a1 then v1 else a1) > 0 then (if v1<a1 then v1 else a1) else 0)).bind λv2=>
 (H3 a0.L (if (if v1<a1 then v1 else a1) > 0 then (if v1<a1 then v1 else a1) else 0) v1).bind λv3=>
 some ((⟨v3,a0.Cap⟩:g7),v2)
def bL(a0:g7):Option (g7 × l5 × Int):=
 (az a0 1).bind λv1=>
 if ((v1.2.length:Int)==0) then
  some (a0,(⟨0,0,0⟩:l5),10)
 else
 (ix v1.2 0).bind λv2=>
 some (v1.1,v2,0)
def cY(a0:g7):Option (g7 × l5 × Int):=
 (bL a0).bind λv1=>
 some (v1.1,v1.2.1,v1.2.2)
def cL(a0:b7):Option Bool:=
 (cY a0.Q).bind λv1=>
 some (v1.2.2 != 0)
def ig(a0:List (List k8))(a1:Int):Option (List k8):=
 if ((decide (a1<0))||(decide (a1>=(a0.length:Int)))) then
  some []
 else
 (ix a0 a1).bind λv1=>
 some v1
def mo(a0:List (List k8))(a1:l5):Option Int:=
 (ig a0 a1.Prog).bind λv1=>
 some (A1 (1+(v1.length:Int)))
def fG(a0:b7)(a1:List k8):Option (b7 × (List Int)):=
 jn (λ((j11,j12):b7 × (List Int))=>
  some (j11,j12)) (λκ10=>
  (lp (S:=Int × b7 × (List Int)) (E:=(b7 × (List Int))) (λ((s15,s16,s17):Int × b7 × (List Int))=>
   if (decide (s15<(a1.length:Int))) then
    (ix a1 s15).bind λv20=>
    (z7 s16 v20).bind λv21=>
    (app 8 s17 [v21.2.1]).bind λv22=>
    some (.inl (A1 (s15+1),v21.1,v22))
   else
   some (.inr (s16,s17))) (0,a0,[])).bind λe14=>
  κ10 e14)
def mq(a0:b7)(a1:List (List k8)):Option (b7 × l5 × Int):=
 (cY a0.Q).bind λv1=>
 if (v1.2.2 != 0) then
  some (a0,(⟨0,0,0⟩:l5),v1.2.2)
 else
 jn (λ(j6:b7)=>
  (ig a1 v1.2.1.Prog).bind λv7=>
  (fG j6 v7).bind λv8=>
  if (v1.2.1.Kind==1) then
   (bl v8.1 5 0).bind λv9=>
   (Q7 v9.1).bind λv10=>
   some (v10,v1.2.1,0)
  else
  some (v8.1,v1.2.1,0)) (λκ5=>
  if (v1.2.1.Kind==1) then
   (bl (⟨a0.S,a0.Roots,a0.Cells,a0.T,v1.1⟩:b7) 5 v1.2.1.At).bind λv11=>
   (E2 v11.1 v1.2.1.At).bind λv12=>
   (Q7 v12).bind λv13=>
   κ5 v13
  else
  κ5 (⟨a0.S,a0.Roots,a0.Cells,a0.T,v1.1⟩:b7))
def fD(a0:b7)(a1:List (List k8))(a2:Int):Option (b7 × Int × Int × Int):=
 jn (λ((j14,j15,j16):Int × Int × b7)=>
  (cL j16).bind λv18=>
  if (!v18) then
   some (j16,j14,j15,12)
  else
  some (j16,j14,j15,0)) (λκ13=>
  (lp (S:=Int × b7 × Int × Int × b7) (E:=(Int × Int × b7)) (λ((s20,s21,s22,s23,s24):Int × b7 × Int × Int × b7)=>
   (cL s21).bind λv27=>
   if (!v27) then
    (cY s21.Q).bind λv28=>
    (mo a1 v28.2.1).bind λv29=>
    if (decide (v29 > s20)) then
     some (.inr (s22,s23,s24))
    else
    (mq s21 a1).bind λv30=>
    some (.inl (A1 (s20-v29),v30.1,A1 (s22+1),A1 (s20-v29),v30.1))
   else
   some (.inr (s22,s23,s24))) (a2,a0,0,a2,a0)).bind λe19=>
  κ13 e19)
def kQ(a0:p7)(a1:List Int):Option (p7 × m8):=
 (X7 a1).bind λv1=>
 if (v1.2 != 0) then
  some (a0,(⟨0,v1.2⟩:m8))
 else
 (mr v1.1).bind λv2=>
 if (decide (v2.t=132)) then
  (z7 a0.X (⟨(IH v2 132 0),(IH v2 132 1),(IH v2 132 2),(IH v2 132 3)⟩:k8)).bind λv3=>
  some ((⟨v3.1,a0.Progs⟩:p7),(⟨v3.2.1,v3.2.2⟩:m8))
 else
 if (decide (v2.t=136)) then
  (Z1 a0.X).bind λv4=>
  some ((⟨v4.1,a0.Progs⟩:p7),(⟨A1 (v4.2.2-v4.2.1),0⟩:m8))
 else
 if (decide (v2.t=140)) then
  (fD a0.X a0.Progs (IH v2 140 0)).bind λv5=>
  some ((⟨v5.1,a0.Progs⟩:p7),(⟨v5.2.1,v5.2.2.2⟩:m8))
 else
 some (a0,(⟨0,0⟩:m8))
def il(a0:p7)(a1:List (List Int)):Option (p7 × (List m8)):=
 jn (λ((j11,j12):p7 × (List m8))=>
  some (j11,j12)) (λκ10=>
  (lp (S:=Int × p7 × (List m8)) (E:=(p7 × (List m8))) (λ((s15,s16,s17):Int × p7 × (List m8))=>
   if (decide (s15<(a1.length:Int))) then
    (ix a1 s15).bind λv20=>
    (kQ s16 v20).bind λv21=>
    (app 16 s17 [v21.2]).bind λv22=>
    some (.inl (A1 (s15+1),v21.1,v22))
   else
   some (.inr (s16,s17))) (0,a0,[])).bind λe14=>
  κ10 e14)
def T7(a0:g6):Option A4:=
 jn (λ(j9:A4)=>
  some j9) (λκ8=>
  (lp (S:=Int × A4) (E:=A4) (λ((s11,s12):Int × A4)=>
   if (decide (s11<(a0.Cells.length:Int))) then
    (ix a0.Cells s11).bind λv15=>
    (A4.ix s12 v15.State).bind λv16=>
    some (.inl (A1 (s11+1),(A4.st s12 v15.State (A1 (v16+1)))))
   else
   some (.inr s12)) (0,(⟨0,0,0,0⟩:A4))).bind λe10=>
  κ8 e10)
def dq(a0:p7):Option A4:=
 (T7 a0.X.S.S).bind λv1=>
 some v1
def fm(a0:b7):Option Bool:=
 (P0 a0).bind λv1=>
 some ((v1.length:Int)==0)
def dp(a0:p7):Option Bool:=
 (cL a0.X).bind λv1=>
 (u5 (v1==true) false (fm a0.X)).bind λv2=>
 some (v1&&v2)
def dm(a0:p7):Option (List Int):=
 jn (λ(j11:List Int)=>
  (qz j11).bind λv12=>
  some v12) (λκ10=>
  (F2 a0.X.S).bind λv13=>
  (lp (S:=Int × (List Int)) (E:=(List Int)) (λ((s15,s16):Int × (List Int))=>
   if (decide (s15<(v13.length:Int))) then
    (ix v13 s15).bind λv19=>
    (aM a0.X v19).bind λv20=>
    (app 8 s16 [v20]).bind λv21=>
    some (.inl (A1 (s15+1),v21))
   else
   some (.inr s16)) (0,[])).bind λe14=>
  κ10 e14)
def lU:Option Bool:=
 (ij 4 5 8 []).bind λv1=>
 (il v1.1 [[1,0,1,(-1)],[5,0,0,0],[3,0,0,0],[11,0,0,0],[11,0,0,0],[12,9,0,0],[2,0],[4,0,1,0]]).bind λv2=>
 (ij 4 5 8 [[(⟨11,0,0,0⟩:k8)]]).bind λv3=>
 (ij 4 5 0 []).bind λv4=>
 (u5 (((((v1.2==0)&&(v3.2==13))&&(v4.2==1))&&((v2.2.length:Int)==8))==true) (⟨0,0⟩:m8) (ix v2.2 0)).bind λv5=>
 (u5 ((((((v1.2==0)&&(v3.2==13))&&(v4.2==1))&&((v2.2.length:Int)==8))&&(v5.V==1))==true) (⟨0,0⟩:m8) (ix v2.2 1)).bind λv6=>
 (u5 (((((((v1.2==0)&&(v3.2==13))&&(v4.2==1))&&((v2.2.length:Int)==8))&&(v5.V==1))&&(v6.V==1))==true) (⟨0,0⟩:m8) (ix v2.2 2)).bind λv7=>
 (u5 ((((((((v1.2==0)&&(v3.2==13))&&(v4.2==1))&&((v2.2.length:Int)==8))&&(v5.V==1))&&(v6.V==1))&&(v7.V==0))==true) (⟨0,0⟩:m8) (ix v2.2 3)).bind λv8=>
 (u5 (((((((((v1.2==0)&&(v3.2==13))&&(v4.2==1))&&((v2.2.length:Int)==8))&&(v5.V==1))&&(v6.V==1))&&(v7.V==0))&&(v8.V==1))==true) (⟨0,0⟩:m8) (ix v2.2 4)).bind λv9=>
 (u5 ((((((((((v1.2==0)&&(v3.2==13))&&(v4.2==1))&&((v2.2.length:Int)==8))&&(v5.V==1))&&(v6.V==1))&&(v7.V==0))&&(v8.V==1))&&(v9.V==0))==true) (⟨0,0⟩:m8) (ix v2.2 5)).bind λv10=>
 (u5 (((((((((((v1.2==0)&&(v3.2==13))&&(v4.2==1))&&((v2.2.length:Int)==8))&&(v5.V==1))&&(v6.V==1))&&(v7.V==0))&&(v8.V==1))&&(v9.V==0))&&((v10.V==0)&&((v10.E==0)&&true)))==true) (⟨0,0⟩:m8) (ix v2.2 6)).bind λv11=>
 (u5 ((((((((((((v1.2==0)&&(v3.2==13))&&(v4.2==1))&&((v2.2.length:Int)==8))&&(v5.V==1))&&(v6.V==1))&&(v7.V==0))&&(v8.V==1))&&(v9.V==0))&&((v10.V==0)&&((v10.E==0)&&true)))&&(v11.E==14))==true) (⟨0,0⟩:m8) (ix v2.2 7)).bind λv12=>
 (u5 (((((((((((((v1.2==0)&&(v3.2==13))&&(v4.2==1))&&((v2.2.length:Int)==8))&&(v5.V==1))&&(v6.V==1))&&(v7.V==0))&&(v8.V==1))&&(v9.V==0))&&((v10.V==0)&&((v10.E==0)&&true)))&&(v11.E==14))&&(v12.E==2))==true) ⟨0,0,0,0⟩ (dq v2.1)).bind λv13=>
 (u5 ((((((((((((((v1.2==0)&&(v3.2==13))&&(v4.2==1))&&((v2.2.length:Int)==8))&&(v5.V==1))&&(v6.V==1))&&(v7.V==0))&&(v8.V==1))&&(v9.V==0))&&((v10.V==0)&&((v10.E==0)&&true)))&&(v11.E==14))&&(v12.E==2))&&((v13.a==4)&&((v13.b==0)&&((v13.c==0)&&((v13.d==0)&&true)))))==true) false (dp v2.1)).bind λv14=>
 (u5 (((((((((((((((v1.2==0)&&(v3.2==13))&&(v4.2==1))&&((v2.2.length:Int)==8))&&(v5.V==1))&&(v6.V==1))&&(v7.V==0))&&(v8.V==1))&&(v9.V==0))&&((v10.V==0)&&((v10.E==0)&&true)))&&(v11.E==14))&&(v12.E==2))&&((v13.a==4)&&((v13.b==0)&&((v13.c==0)&&((v13.d==0)&&true)))))&&v14)==true) [] (dm v2.1)).bind λv15=>
 some (((((((((((((((v1.2==0)&&(v3.2==13))&&(v4.2==1))&&((v2.2.length:Int)==8))&&(v5.V==1))&&(v6.V==1))&&(v7.V==0))&&(v8.V==1))&&(v9.V==0))&&((v10.V==0)&&((v10.E==0)&&true)))&&(v11.E==14))&&(v12.E==2))&&((v13.a==4)&&((v13.b==0)&&((v13.c==0)&&((v13.d==0)&&true)))))&&v14)&&((v15.length:Int)==0))
def pF(a0:p7):Option z8:=
 (dW a0.X).bind λv1=>
 (lT a0.Progs).bind λv2=>
 some (⟨v1,v2⟩:z8)
def cD(a0:List Int):Option (s6 × Int):=
 if ((a0.length:Int) != 4) then
  some ((⟨0,0,0,0⟩:s6),14)
 else
 (ix a0 0).bind λv1=>
 (ix a0 1).bind λv2=>
 (ix a0 2).bind λv3=>
 (ix a0 3).bind λv4=>
 (bt (⟨v1,v2,v3,v4⟩:s6)).bind λv5=>
 if (v5 != 0) then
  some ((⟨0,0,0,0⟩:s6),v5)
 else
 some ((⟨v1,v2,v3,v4⟩:s6),0)
def uk(a0:l4)(a1:List k7):Option (List Int):=
 (T6 a0).bind λv1=>
 jn (λ(j18:List Int)=>
  some j18) (λκ17=>
  (lp (S:=Int × (List Int)) (E:=(List Int)) (λ((s20,s21):Int × (List Int))=>
   if (decide (s20<(v1.length:Int))) then
    jn (λ(j29:List Int)=>
     some (.inl (A1 (s20+1),j29))) (λκ28=>
     (ix v1 s20).bind λv30=>
     (pc a0 a1 v30).bind λv31=>
     (u5 ((decide (v31 > 0))==false) false (lz a0 v30)).bind λv32=>
     if ((decide (v31 > 0))||v32) then
      (app 8 s21 [v30]).bind λv33=>
      κ28 v33
     else
     κ28 s21)
   else
   some (.inr s21)) (0,[])).bind λe19=>
  κ17 e19)
def mW(a0:List Int)(a1:Int):Option Bool:=
 (cT a0 a1).bind λv1=>
 some (decide (v1 > 0))
def lu(a0:List Int)(a1:List Int)(a2:Bool):Option (List Int):=
 jn (λ(j15:List Int)=>
  some j15) (λκ14=>
  (lp (S:=Int × (List Int)) (E:=(List Int)) (λ((s17,s18):Int × (List Int))=>
   if (decide (s17<(a0.length:Int))) then
    jn (λ(j25:List Int)=>
     some (.inl (A1 (s17+1),j25))) (λκ24=>
     (ix a0 s17).bind λv26=>
     (mW a1 v26).bind λv27=>
     if (v27==a2) then
      (app 8 s18 [v26]).bind λv28=>
      κ24 v28
     else
     κ24 s18)
   else
   some (.inr s18)) (0,[])).bind λe16=>
  κ14 e16)
def lr(a0:l4)(a1:List Int):Option (List Int):=
 (T6 a0).bind λv1=>
 (lu v1 a1 true).bind λv2=>
 jn (λ(j51:List Int)=>
  some j51) (λκ50=>
  (lp (S:=(List Int) × Int) (E:=(List Int)) (λ((s53,s54):(List Int) × Int)=>
   if (decide (s54<(v1.length:Int))) then
    jn (λ(j78:List Int)=>
     some (.inl (j78,A1 (s54+1)))) (λκ77=>
     (app 8 [] s53).bind λv79=>
     jn (λ(j89:List Int)=>
      (lu v1 j89 true).bind λv90=>
      κ77 v90) (λκ88=>
      (lp (S:=Int × (List Int)) (E:=(List Int)) (λ((s92,s93):Int × (List Int))=>
       if (decide (s92<(s53.length:Int))) then
        (ix s53 s92).bind λv96=>
        (tZ a0 v96).bind λv97=>
        (app 8 s93 v97).bind λv98=>
        some (.inl (A1 (s92+1),v98))
       else
       some (.inr s93)) (0,v79)).bind λe91=>
      κ88 e91))
   else
   some (.inr s53)) (v2,0)).bind λe52=>
  κ50 e52)
def ly(a0:l4)(a1:Int):Option Bool:=
 (G9 a0 a1).bind λv1=>
 some (v1.2==0)
def pb(a0:l4)(a1:List k7)(a2:List Int):Option (List Int):=
 (gQ a1).bind λv1=>
 jn (λ(j20:List Int)=>
  some j20) (λκ19=>
  (lp (S:=Int × (List Int)) (E:=(List Int)) (λ((s22,s23):Int × (List Int))=>
   if (decide (s22<(v1.length:Int))) then
    jn (λ(j32:List Int)=>
     some (.inl (A1 (s22+1),j32))) (λκ31=>
     (ix v1 s22).bind λv33=>
     (ly a0 v33.Key).bind λv34=>
     (u5 (v34==true) false (mW a2 v33.Key)).bind λv35=>
     (u5 ((v34&&v35)==true) false (ly a0 v33.Val)).bind λv36=>
     if ((v34&&v35)&&v36) then
      (app 8 s23 [v33.Val]).bind λv37=>
      κ31 v37
     else
     κ31 s23)
   else
   some (.inr s23)) (0,[])).bind λe21=>
  κ19 e21)
def dK(a0:List Int)(a1:List Int):Option Bool:=
 if ((a0.length:Int) != (a1.length:Int)) then
  some false
 else
 jn (λ(_:Unit)=>
  some true) (λκ6=>
  (lp (S:=Int) (E:=Bool ⊕ Unit) (λ(s9:Int)=>
   if (decide (s9<(a0.length:Int))) then
    (ix a0 s9).bind λv11=>
    (ix a1 s9).bind λv12=>
    if (v11 != v12) then
     some (.inr (.inl false))
    else
    some (.inl (A1 (s9+1)))
   else
   some (.inr (.inr ()))) 0).bind λe8=>
  match e8 with
  | .inl w=>some w
  | .inr w=>κ6 w)
def na(a0:l4)(a1:List k7)(a2:List Int):Option ((List Int) × Int):=
 (lr a0 a2).bind λv1=>
 jn (λ(j13:List Int)=>
  some (j13,30)) (λκ12=>
  (lp (S:=(List Int) × Int) (E:=((List Int) × Int) ⊕ (List Int)) (λ((s15,s16):(List Int) × Int)=>
   if (decide (s16<30)) then
    (app 8 [] s15).bind λv19=>
    (pb a0 a1 s15).bind λv20=>
    (app 8 v19 v20).bind λv21=>
    (lr a0 v21).bind λv22=>
    (dK v22 s15).bind λv23=>
    if v23 then
     some (.inr (.inl (s15,s16)))
    else
    some (.inl (v22,A1 (s16+1)))
   else
   some (.inr (.inr s15))) (v1,0)).bind λe14=>
  match e14 with
  | .inl w=>some w
  | .inr w=>κ12 w)
def ug(a0:l4)(a1:List k7)(a2:List Int):Option (List Int):=
 (na a0 a1 a2).bind λv1=>
 some v1.1
def uh(a0:l4)(a1:List k7)(a2:List Int):Option (List Int):=
 (ug a0 a1 a2).bind λv1=>
 (T6 a0).bind λv2=>
 jn (λ(j17:List Int)=>
  some j17) (λκ16=>
  (lp (S:=Int × (List Int)) (E:=(List Int)) (λ((s19,s20):Int × (List Int))=>
   if (decide (s19<(v2.length:Int))) then
    jn (λ(j27:List Int)=>
     some (.inl (A1 (s19+1),j27))) (λκ26=>
     (ix v2 s19).bind λv28=>
     (mW v1 v28).bind λv29=>
     if (!v29) then
      (app 8 s20 [v28]).bind λv30=>
      κ26 v30
     else
     κ26 s20)
   else
   some (.inr s20)) (0,[])).bind λe18=>
  κ16 e18)
def fO(a0:l4)(a1:List k7):Option (List Int):=
 (uk a0 a1).bind λv1=>
 (uh a0 a1 v1).bind λv2=>
 some v2
def cV(a0:c5):Option (List Int):=
 (fO a0.S a0.T).bind λv1=>
 some v1
def nb(a0:c5)(a1:Int):Option Bool:=
 (G9 a0.S a1).bind λv1=>
 (ab a0 a1).bind λv2=>
 some ((v2&&(decide (v1.1.Prog>=0)))&&(!v1.1.Started))
def qq(a0:c5):Option (List Int):=
 (cV a0).bind λv1=>
 jn (λ(j16:List Int)=>
  some j16) (λκ15=>
  (lp (S:=Int × (List Int)) (E:=(List Int)) (λ((s18,s19):Int × (List Int))=>
   if (decide (s18<(v1.length:Int))) then
    jn (λ(j26:List Int)=>
     some (.inl (A1 (s18+1),j26))) (λκ25=>
     (ix v1 s18).bind λv27=>
     (nb a0 v27).bind λv28=>
     if v28 then
      (app 8 s19 [v27]).bind λv29=>
      κ25 v29
     else
     κ25 s19)
   else
   some (.inr s19)) (0,[])).bind λe17=>
  κ15 e17)
def bV(a0:l4)(a1:Int)(a2:D2):Option l4:=
 (app 80 [] a0.Cells).bind λv1=>
 (ix v1 a1).bind λv2=>
 some (⟨(v1.set (a1).toNat (⟨v2.State,v2.Gen,a2⟩:n8)),a0.Last,a0.Serial⟩:l4)
def O6(a0:l4)(a1:Int)(a2:D2):Option (l4 × Int):=
 (K6 a0).bind λv1=>
 (P6 v1 a1).bind λv2=>
 if (v2.2 != 0) then
  some (a0,v2.2)
 else
 (bV a0 v2.1 a2).bind λv3=>
 some (v3,0)
def jL(a0:y4)(a1:o8):Option (y4 × Int):=
 if (decide ((a0.L.length:Int)>=a0.Cap)) then
  some (a0,4)
 else
 (app 24 [] a0.L).bind λv1=>
 (app 24 v1 [a1]).bind λv2=>
 some ((⟨v2,a0.Cap⟩:y4),0)
def tS(a0:Int):Option Int:=
 (bq a0).bind λv1=>
 if v1 then
  some 12
 else
 if (decide (a0<0)) then
  some 1
 else
 some (A1 (a0+1))
def iI(a0:c5)(a1:Int)(a2:Int):Option c5:=
 (G9 a0.S a1).bind λv1=>
 if (v1.2 != 0) then
  some a0
 else
 (O6 a0.S a1 (⟨v1.1.Serial,a2,v1.1.Weak,v1.1.Prog,v1.1.Started,v1.1.Fields⟩:D2)).bind λv2=>
 some (⟨v2.1,a0.Roots,a0.Cells,a0.T,a0.Q⟩:c5)
def aR(a0:c5)(a1:Int):Option c5:=
 (G9 a0.S a1).bind λv1=>
 (tS v1.1.Strong).bind λv2=>
 (iI a0 a1 v2).bind λv3=>
 some v3
def eU(a0:c5)(a1:Int):Option c5:=
 (nb a0 a1).bind λv1=>
 if (!v1) then
  some a0
 else
 (G9 a0.S a1).bind λv2=>
 (O6 a0.S a1 (⟨v2.1.Serial,v2.1.Strong,v2.1.Weak,v2.1.Prog,true,v2.1.Fields⟩:D2)).bind λv3=>
 (jL a0.Q (⟨1,a1,v2.1.Prog⟩:o8)).bind λv4=>
 (aR (⟨v3.1,a0.Roots,a0.Cells,a0.T,v4.1⟩:c5) a1).bind λv5=>
 some v5
def pf(a0:c5)(a1:List Int):Option (List Int):=
 jn (λ(j17:List Int)=>
  some j17) (λκ16=>
  (lp (S:=Int × (List Int)) (E:=(List Int)) (λ((s19,s20):Int × (List Int))=>
   if (decide (s19<(a1.length:Int))) then
    jn (λ(j28:List Int)=>
     some (.inl (A1 (s19+1),j28))) (λκ27=>
     (ix a1 s19).bind λv29=>
     (ab a0 v29).bind λv30=>
     (u5 (v30==true) false (mW s20 v29)).bind λv31=>
     if (v30&&(!v31)) then
      (app 8 s20 [v29]).bind λv32=>
      κ27 v32
     else
     κ27 s20)
   else
   some (.inr s20)) (0,[])).bind λe18=>
  κ16 e18)
def qf(a0:List m9)(a1:List Int):Option ((List m9) × (List Int)):=
 jn (λ((j18,j19):(List Int) × (List m9))=>
  some (j19,j18)) (λκ17=>
  (lp (S:=Int × (List m9) × (List Int)) (E:=((List Int) × (List m9))) (λ((s22,s23,s24):Int × (List m9) × (List Int))=>
   if (decide (s22<(a0.length:Int))) then
    (ix a0 s22).bind λv27=>
    jn (λ((j31,j32):Bool × (List Int))=>
     (app 24 s23 [(⟨v27.Target,j31,v27.Call⟩:m9)]).bind λv34=>
     some (.inl (A1 (s22+1),v34,j32))) (λκ30=>
     (u5 (v27.Intact==true) 0 (cT a1 v27.Target)).bind λv35=>
     if (v27.Intact&&(decide (v35 > 0))) then
      if (decide (v27.Call>=0)) then
       (app 8 s24 [s22]).bind λv36=>
       κ30 (false,v36)
      else
      κ30 (false,s24)
     else
     κ30 (v27.Intact,s24))
   else
   some (.inr (s24,s23))) (0,[],[])).bind λe21=>
  κ17 e21)
def bX(a0:List k7)(a1:Int)(a2:k7):Option (List k7):=
 (app 24 [] a0).bind λv1=>
 (ix v1 a1).bind λv2=>
 some (v1.set (a1).toNat a2)
def lx(a0:List k7)(a1:Int):Option ((List k7) × Int × Int):=
 (bW a0 a1).bind λv1=>
 if (decide (v1<0)) then
  some (a0,0,9)
 else
 (bX a0 v1 (⟨2,0,0⟩:k7)).bind λv2=>
 (ix a0 v1).bind λv3=>
 some (v2,v3.Val,0)
def fN(a0:List k7)(a1:List Int):Option ((List k7) × (List Int)):=
 jn (λ((j18,j19):(List k7) × (List Int))=>
  some (j18,j19)) (λκ17=>
  (lp (S:=(List k7) × Int × (List Int)) (E:=((List k7) × (List Int))) (λ((s22,s23,s24):(List k7) × Int × (List Int))=>
   if (decide (s23<(a1.length:Int))) then
    jn (λ((j31,j32):(List k7) × (List Int))=>
     some (.inl (j31,A1 (s23+1),j32))) (λκ30=>
     (ix a1 s23).bind λv34=>
     (lx s22 v34).bind λv35=>
     if (v35.2.2==0) then
      (app 8 s24 [v35.2.1]).bind λv36=>
      κ30 (v35.1,v36)
     else
     κ30 (s22,s24))
   else
   some (.inr (s22,s24))) (a0,0,[])).bind λe21=>
  κ17 e21)
def Z5(a0:y9)(a1:Int)(a2:z6):Option y9:=
 (app 24 [] a0.Cells).bind λv1=>
 (ix v1 a1).bind λv2=>
 some (⟨(v1.set (a1).toNat a2),a0.Last⟩:y9)
def Aq(a0:y9)(a1:Int):Option (y9 × Int):=
 (tR a0 a1).bind λv1=>
 if (v1.2 != 0) then
  some (a0,v1.2)
 else
 (P6 a0 a1).bind λv2=>
 (ix a0.Cells v2.1).bind λv3=>
 (Z5 a0 v2.1 (⟨2,v3.Gen,v3.Val⟩:z6)).bind λv4=>
 some (v4,0)
def aP(a0:l4)(a1:y9):Option l4:=
 jn (λ(j10:List n8)=>
  some (⟨j10,a0.Last,a0.Serial⟩:l4)) (λκ9=>
  (lp (S:=Int × (List n8)) (E:=(List n8)) (λ((s12,s13):Int × (List n8))=>
   if (decide (s12<(a0.Cells.length:Int))) then
    (ix a1.Cells s12).bind λv16=>
    (ix a0.Cells s12).bind λv17=>
    (app 80 s13 [(⟨v16.State,v16.Gen,v17.Val⟩:n8)]).bind λv18=>
    some (.inl (A1 (s12+1),v18))
   else
   some (.inr s13)) (0,[])).bind λe11=>
  κ9 e11)
def tW(a0:l4)(a1:Int):Option l4:=
 (K6 a0).bind λv1=>
 (Aq v1 a1).bind λv2=>
 (aP a0 v2.1).bind λv3=>
 some v3
def Ap(a0:y9)(a1:Int):Option (y9 × Int):=
 (P6 a0 a1).bind λv1=>
 if (v1.2 != 0) then
  some (a0,v1.2)
 else
 (ix a0.Cells v1.1).bind λv2=>
 if (decide (v2.Gen>=a0.Last)) then
  (Z5 a0 v1.1 (⟨3,v2.Gen,0⟩:z6)).bind λv3=>
  some (v3,0)
 else
 (Z5 a0 v1.1 (⟨0,A1 (v2.Gen+1),0⟩:z6)).bind λv4=>
 some (v4,0)
def oX(a0:l4)(a1:Int):Option l4:=
 (K6 a0).bind λv1=>
 (Ap v1 a1).bind λv2=>
 if (v2.2 != 0) then
  some a0
 else
 (aP a0 v2.1).bind λv3=>
 (lj a1).bind λv4=>
 (bV v3 v4 (⟨0,0,0,0,false,[]⟩:D2)).bind λv5=>
 some v5
def lD(a0:c5)(a1:Int):Option c5:=
 (G9 a0.S a1).bind λv1=>
 (O6 a0.S a1 (⟨v1.1.Serial,0,v1.1.Weak,v1.1.Prog,v1.1.Started,[]⟩:D2)).bind λv2=>
 (tW v2.1 a1).bind λv3=>
 if (v1.1.Weak==0) then
  (oX v3 a1).bind λv4=>
  some (⟨v4,a0.Roots,a0.Cells,a0.T,a0.Q⟩:c5)
 else
 some (⟨v3,a0.Roots,a0.Cells,a0.T,a0.Q⟩:c5)
def xP(a0:Int):Option (Int × Int):=
 (bq a0).bind λv1=>
 if v1 then
  some (12,0)
 else
 if (decide (a0<1)) then
  some (0,11)
 else
 some (A1 (a0-1),0)
def G0(a0:c5)(a1:Int):Option c5:=
 (G9 a0.S a1).bind λv1=>
 (xP v1.1.Strong).bind λv2=>
 if (v2.2 != 0) then
  some a0
 else
 (iI a0 a1 v2.1).bind λv3=>
 some v3
def lB(a0:c5)(a1:List Int):Option c5:=
 (pf a0 a1).bind λv1=>
 (qf a0.Cells v1).bind λv2=>
 jn (λ(j12:y4)=>
  jn (λ(j23:List Int)=>
   (fN a0.T v1).bind λv24=>
   (app 8 j23 v24.2).bind λv25=>
   jn (λ(j34:c5)=>
    jn (λ(j43:c5)=>
     some j43) (λκ42=>
     (lp (S:=Int × c5) (E:=c5) (λ((s45,s46):Int × c5)=>
      if (decide (s45<(v25.length:Int))) then
       (ix v25 s45).bind λv49=>
       (G0 s46 v49).bind λv50=>
       some (.inl (A1 (s45+1),v50))
      else
      some (.inr s46)) (0,j34)).bind λe44=>
     κ42 e44)) (λκ33=>
    (lp (S:=Int × c5) (E:=c5) (λ((s52,s53):Int × c5)=>
     if (decide (s52<(v1.length:Int))) then
      (ix v1 s52).bind λv56=>
      (lD s53 v56).bind λv57=>
      some (.inl (A1 (s52+1),v57))
     else
     some (.inr s53)) (0,(⟨a0.S,a0.Roots,v2.1,v24.1,j12⟩:c5))).bind λe51=>
    κ33 e51)) (λκ22=>
   (lp (S:=Int × (List Int)) (E:=(List Int)) (λ((s59,s60):Int × (List Int))=>
    if (decide (s59<(v1.length:Int))) then
     (ix v1 s59).bind λv63=>
     (G9 a0.S v63).bind λv64=>
     (eP v64.1.Fields).bind λv65=>
     (app 8 s60 v65).bind λv66=>
     some (.inl (A1 (s59+1),v66))
    else
    some (.inr s60)) (0,[])).bind λe58=>
   κ22 e58)) (λκ11=>
  (lp (S:=Int × y4) (E:=y4) (λ((s68,s69):Int × y4)=>
   if (decide (s68<(v2.2.length:Int))) then
    (ix v2.2 s68).bind λv72=>
    (ix v2.1 v72).bind λv73=>
    (jL s69 (⟨2,v72,v73.Call⟩:o8)).bind λv74=>
    some (.inl (A1 (s68+1),v74.1))
   else
   some (.inr s69)) (0,a0.Q)).bind λe67=>
  κ11 e67)
def P4(a0:c5):Option c5:=
 jn (λ(j21:c5)=>
  some j21) (λκ20=>
  (lp (S:=Int × c5) (E:=c5 ⊕ c5) (λ((s23,s24):Int × c5)=>
   if (decide (s23<100)) then
    jn (λ(j34:c5)=>
     some (.inl (A1 (s23+1),j34))) (λκ33=>
     (lC s24).bind λv35=>
     if ((v35.length:Int)==0) then
      some (.inr (.inl s24))
     else
     (ix v35 0).bind λv36=>
     (nb s24 v36).bind λv37=>
     if v37 then
      (eU s24 v36).bind λv38=>
      κ33 v38
     else
     (cut v35 0 1).bind λv39=>
     (lB s24 v39).bind λv40=>
     κ33 v40)
   else
   some (.inr (.inr s24))) (0,a0)).bind λe22=>
  match e22 with
  | .inl w=>some w
  | .inr w=>κ20 w)
def jP(a0:c5):Option (c5 × Int × Int):=
 (qq a0).bind λv1=>
 jn (λ(_:Unit)=>
  (cV a0).bind λv20=>
  (lB a0 v20).bind λv21=>
  (P4 v21).bind λv22=>
  (T6 a0.S).bind λv23=>
  (T6 v22.S).bind λv24=>
  some (v22,0,A1 ((v23.length:Int)-(v24.length:Int)))) (λκ18=>
  if (decide ((v1.length:Int) > 0)) then
   jn (λ(j33:c5)=>
    some (j33,(v1.length:Int),0)) (λκ32=>
    (lp (S:=Int × c5) (E:=c5) (λ((s35,s36):Int × c5)=>
     if (decide (s35<(v1.length:Int))) then
      (ix v1 s35).bind λv39=>
      (eU s36 v39).bind λv40=>
      some (.inl (A1 (s35+1),v40))
     else
     some (.inr s36)) (0,a0)).bind λe34=>
    κ32 e34)
  else
  κ18 ())
def gT(a0:c5):Option Bool:=
 some ((a0.Q.L.length:Int)==0)
def lG(a0:List (List s6))(a1:Int):Option (List s6):=
 if ((decide (a1<0))||(decide (a1>=(a0.length:Int)))) then
  some []
 else
 (ix a0 a1).bind λv1=>
 some v1
def lE(a0:List (List s6))(a1:o8):Option Int:=
 (lG a0 a1.Prog).bind λv1=>
 some (A1 (1+(v1.length:Int)))
def uo(a0:y4):Option (y4 × o8 × Int):=
 if ((a0.L.length:Int)==0) then
  some (a0,(⟨0,0,0⟩:o8),10)
 else
 (cut a0.L 1 (a0.L.length:Int)).bind λv1=>
 (ix a0.L 0).bind λv2=>
 some ((⟨v1,a0.Cap⟩:y4),v2,0)
def W7(a0:c5)(a1:Int)(a2:Int):Option (c5 × Int):=
 if ((decide (a1<0))||(decide (a1 > 5))) then
  some (a0,6)
 else
 (ae a0 a2).bind λv1=>
 if (!v1) then
  some (a0,3)
 else
 (ix a0.Roots a1).bind λv2=>
 (aR a0 a2).bind λv3=>
 (app 8 [] a0.Roots).bind λv4=>
 (ix v4 a1).bind λv5=>
 (G0 (⟨v3.S,(v4.set (a1).toNat a2),v3.Cells,v3.T,v3.Q⟩:c5) v2).bind λv6=>
 some (v6,0)
def xR(a0:List m9)(a1:Int)(a2:Int)(a3:Int):Option ((List m9) × Int × Int):=
 if ((decide (a1<0))||(decide (a1>=(a0.length:Int)))) then
  some (a0,0,7)
 else
 (app 24 [] a0).bind λv1=>
 (ix v1 a1).bind λv2=>
 (ix a0 a1).bind λv3=>
 some ((v1.set (a1).toNat (⟨a2,(a2 != 0),a3⟩:m9)),v3.Target,0)
def aS(a0:c5)(a1:Int):Option c5:=
 (K6 a0.S).bind λv1=>
 (P6 v1 a1).bind λv2=>
 if (v2.2 != 0) then
  some a0
 else
 (ix a0.S.Cells v2.1).bind λv3=>
 (O6 a0.S a1 (⟨v3.Val.Serial,v3.Val.Strong,A1 (v3.Val.Weak-1),v3.Val.Prog,v3.Val.Started,v3.Val.Fields⟩:D2)).bind λv4=>
 (ix v4.1.Cells v2.1).bind λv5=>
 if ((v5.State==2)&&(decide ((A1 (v3.Val.Weak-1))<1))) then
  (oX v4.1 a1).bind λv6=>
  some (⟨v6,a0.Roots,a0.Cells,a0.T,a0.Q⟩:c5)
 else
 some (⟨v4.1,a0.Roots,a0.Cells,a0.T,a0.Q⟩:c5)
def dM(a0:c5)(a1:Int)(a2:Int)(a3:Int):Option (c5 × Int):=
 (u5 (((decide (a1<0))||(decide (a1 > 5)))==false) false (eT a0.Q a1)).bind λv1=>
 if (((decide (a1<0))||(decide (a1 > 5)))||v1) then
  some (a0,7)
 else
 (ae a0 a2).bind λv2=>
 if (!v2) then
  some (a0,3)
 else
 (xR a0.Cells a1 a2 a3).bind λv3=>
 if (a2 != 0) then
  (G9 a0.S a2).bind λv4=>
  (O6 a0.S a2 (⟨v4.1.Serial,v4.1.Strong,A1 (v4.1.Weak+1),v4.1.Prog,v4.1.Started,v4.1.Fields⟩:D2)).bind λv5=>
  (aS (⟨v5.1,a0.Roots,v3.1,a0.T,a0.Q⟩:c5) v3.2.1).bind λv6=>
  some (v6,0)
 else
 (aS (⟨a0.S,a0.Roots,v3.1,a0.T,a0.Q⟩:c5) v3.2.1).bind λv7=>
 some (v7,0)
def W8(a0:c5)(a1:Int):Option (Int × Int):=
 (ix a0.Roots a1).bind λv1=>
 if (v1==0) then
  some (0,2)
 else
 some (v1,0)
def iJ(a0:c5)(a1:Int):Option Int:=
 if (decide (a1<0)) then
  some 0
 else
 (ix a0.Roots a1).bind λv1=>
 some v1
def vO(a0:List Int)(a1:Int):Option (Int × Int):=
 if ((decide (a1<0))||(decide (a1>=(a0.length:Int)))) then
  some (0,5)
 else
 (ix a0 a1).bind λv1=>
 some (v1,0)
def eQ(a0:l4)(a1:Int)(a2:Int):Option (Int × Int):=
 (G9 a0 a1).bind λv1=>
 if (v1.2 != 0) then
  some (0,v1.2)
 else
 (vO v1.1.Fields a2).bind λv2=>
 some (v2.1,v2.2)
def As(a0:List Int)(a1:Int)(a2:Int):Option ((List Int) × Int):=
 if ((decide (a1<0))||(decide (a1>=(a0.length:Int)))) then
  some (a0,5)
 else
 (app 8 [] a0).bind λv1=>
 (ix v1 a1).bind λv2=>
 some ((v1.set (a1).toNat a2),0)
def xQ(a0:l4)(a1:Int)(a2:Int)(a3:Int):Option (l4 × Int):=
 (G9 a0 a1).bind λv1=>
 if (v1.2 != 0) then
  some (a0,v1.2)
 else
 (As v1.1.Fields a2 a3).bind λv2=>
 if (v2.2 != 0) then
  some (a0,v2.2)
 else
 (O6 a0 a1 (⟨v1.1.Serial,v1.1.Strong,v1.1.Weak,v1.1.Prog,v1.1.Started,v2.1⟩:D2)).bind λv3=>
 some (v3.1,v3.2)
def gR(a0:c5)(a1:Int)(a2:Int)(a3:Int):Option (c5 × Int):=
 (eQ a0.S a1 a2).bind λv1=>
 if (v1.2 != 0) then
  some (a0,v1.2)
 else
 (ae a0 a3).bind λv2=>
 if (!v2) then
  some (a0,3)
 else
 (aR a0 a3).bind λv3=>
 (xQ v3.S a1 a2 a3).bind λv4=>
 (G0 (⟨v4.1,v3.Roots,v3.Cells,v3.T,v3.Q⟩:c5) v1.1).bind λv5=>
 some (v5,0)
def xS(a0:List k7)(a1:Int)(a2:Int):Option ((List k7) × Int):=
 (bW a0 a1).bind λv1=>
 if (decide (v1>=0)) then
  (bX a0 v1 (⟨1,a1,a2⟩:k7)).bind λv2=>
  some (v2,0)
 else
 (uc (a0.length:Int) a1).bind λv3=>
 jn (λ(_:Unit)=>
  some (a0,8)) (λκ12=>
  (lp (S:=Int × Int) (E:=((List k7) × Int) ⊕ Unit) (λ((s15,s16):Int × Int)=>
   if (decide (s16<(a0.length:Int))) then
    (ix a0 s15).bind λv19=>
    if (v19.State != 1) then
     (bX a0 s15 (⟨1,a1,a2⟩:k7)).bind λv20=>
     some (.inr (.inl (v20,0)))
    else
    (rem (A1 (s15+1)) (a0.length:Int)).bind λv21=>
    some (.inl (v21,A1 (s16+1)))
   else
   some (.inr (.inr ()))) (v3,0)).bind λe14=>
  match e14 with
  | .inl w=>some w
  | .inr w=>κ12 w)
def xU(a0:List k7)(a1:Int)(a2:Int):Option ((List k7) × Int × Int):=
 if (a1==0) then
  some (a0,0,2)
 else
 (qg a0 a1).bind λv1=>
 if (a2==0) then
  (lx a0 a1).bind λv2=>
  some (v2.1,v1.1,0)
 else
 (xS a0 a1 a2).bind λv3=>
 if (v3.2 != 0) then
  some (a0,0,v3.2)
 else
 some (v3.1,v1.1,0)
def lA(a0:c5)(a1:Int)(a2:Int):Option (c5 × Int):=
 if (a1==0) then
  some (a0,2)
 else
 (ab a0 a1).bind λv1=>
 (u5 ((!v1)==false) false (ae a0 a2)).bind λv2=>
 if ((!v1)||(!v2)) then
  some (a0,3)
 else
 (xU a0.T a1 a2).bind λv3=>
 if (v3.2.2 != 0) then
  some (a0,v3.2.2)
 else
 (aR a0 a2).bind λv4=>
 (G0 (⟨v4.S,v4.Roots,v4.Cells,v3.1,v4.Q⟩:c5) v3.2.1).bind λv5=>
 some (v5,0)
def bu(a0:c5)(a1:s6):Option (c5 × Int × Int):=
 if ((a1.Kind==6)&&(decide (a1.B<0))) then
  (dM a0 a1.A 0 a1.C).bind λv1=>
  some (v1.1,0,v1.2)
 else
 jn (λ(j3:Int)=>
  (W8 a0 j3).bind λv4=>
  if (v4.2 != 0) then
   some (a0,0,v4.2)
  else
  if (a1.Kind==5) then
   (iJ a0 a1.C).bind λv5=>
   (gR a0 v4.1 a1.B v5).bind λv6=>
   some (v6.1,v5,v6.2)
  else
  if (a1.Kind==6) then
   (dM a0 a1.A v4.1 a1.C).bind λv7=>
   some (v7.1,v4.1,v7.2)
  else
  (iJ a0 a1.B).bind λv8=>
  (lA a0 v4.1 v8).bind λv9=>
  some (v9.1,v8,v9.2)) (λκ2=>
  if (a1.Kind==6) then
   κ2 a1.B
  else
  κ2 a1.A)
def cE(a0:c5)(a1:Int):Option Int:=
 (G9 a0.S a1).bind λv1=>
 some v1.1.Serial
def tU(a0:Int):Option ((List Int) × Int):=
 if ((decide (a0<0))||(decide (a0 > 4))) then
  some ([],1)
 else
 (mk 8 a0 (0:Int)).bind λv1=>
 some (v1,0)
def ll(a0:y9)(a1:Int):Option (y9 × Int × Int):=
 jn (λ(_:Unit)=>
  some (a0,0,4)) (λκ7=>
  (lp (S:=Int) (E:=(y9 × Int × Int) ⊕ Unit) (λ(s10:Int)=>
   if (decide (s10<(a0.Cells.length:Int))) then
    (ix a0.Cells s10).bind λv12=>
    if (v12.State==0) then
     (Z5 a0 s10 (⟨1,v12.Gen,a1⟩:z6)).bind λv13=>
     (fM s10 v12.Gen).bind λv14=>
     some (.inr (.inl (v13,v14,0)))
    else
    some (.inl (A1 (s10+1)))
   else
   some (.inr (.inr ()))) 0).bind λe9=>
  match e9 with
  | .inl w=>some w
  | .inr w=>κ7 w)
def dL(a0:l4)(a1:Int)(a2:Int):Option (l4 × Int × Int):=
 (tU a1).bind λv1=>
 if (v1.2 != 0) then
  some (a0,0,v1.2)
 else
 if ((decide (a2<(-1)))||(decide (a2 > 5))) then
  some (a0,0,13)
 else
 (K6 a0).bind λv2=>
 (ll v2 0).bind λv3=>
 if (v3.2.2 != 0) then
  some (a0,0,v3.2.2)
 else
 (aP a0 v3.1).bind λv4=>
 (lj v3.2.1).bind λv5=>
 (bV v4 v5 (⟨A1 (a0.Serial+1),0,0,a2,false,v1.1⟩:D2)).bind λv6=>
 some ((⟨v6.Cells,v6.Last,A1 (a0.Serial+1)⟩:l4),v3.2.1,0)
def sp(a0:c5)(a1:Int):Option Int:=
 if ((decide (a1<0))||(decide (a1 > 5))) then
  some 0
 else
 (ix a0.Roots a1).bind λv1=>
 (cE a0 v1).bind λv2=>
 some v2
def oZ(a0:List m9)(a1:Int):Option (Int × Int):=
 if ((decide (a1<0))||(decide (a1>=(a0.length:Int)))) then
  some (0,7)
 else
 (ix a0 a1).bind λv1=>
 if ((v1.Target==0)||(!v1.Intact)) then
  some (0,9)
 else
 some (v1.Target,0)
def uf(a0:List k7)(a1:Int):Option (Int × Int):=
 (qg a0 a1).bind λv1=>
 some (v1.1,v1.2)
def cU(a0:c5)(a1:s6):Option (Int × Int):=
 if (a1.Kind==2) then
  (ix a0.Roots a1.B).bind λv1=>
  some (v1,0)
 else
 if (a1.Kind==4) then
  (W8 a0 a1.B).bind λv2=>
  if (v2.2 != 0) then
   some (0,v2.2)
  else
  (eQ a0.S v2.1 a1.C).bind λv3=>
  some (v3.1,v3.2)
 else
 if (a1.Kind==7) then
  (oZ a0.Cells a1.B).bind λv4=>
  some (v4.1,v4.2)
 else
 if (a1.Kind==9) then
  (W8 a0 a1.B).bind λv5=>
  if (v5.2 != 0) then
   some (0,v5.2)
  else
  (uf a0.T v5.1).bind λv6=>
  some (v6.1,v6.2)
 else
 some (0,0)
def E1(a0:c5)(a1:s6):Option (c5 × Int × Int):=
 (bt a1).bind λv1=>
 if (v1 != 0) then
  some (a0,0,v1)
 else
 (T3 a1).bind λv2=>
 if (!v2) then
  some (a0,0,14)
 else
 if (a1.Kind==10) then
  (ix a0.Roots a1.A).bind λv3=>
  (ix a0.Roots a1.B).bind λv4=>
  if (v3==v4) then
   some (a0,1,0)
  else
  some (a0,0,0)
 else
 jn (λ(j6:Bool)=>
  if j6 then
   (bu a0 a1).bind λv7=>
   if (v7.2.2 != 0) then
    some (a0,0,v7.2.2)
   else
   (P4 v7.1).bind λv8=>
   (cE a0 v7.2.1).bind λv9=>
   some (v8,v9,0)
  else
  if (a1.Kind==1) then
   (dL a0.S a1.B a1.C).bind λv10=>
   if (v10.2.2 != 0) then
    some (a0,0,v10.2.2)
   else
   (W7 (⟨v10.1,a0.Roots,a0.Cells,a0.T,a0.Q⟩:c5) a1.A v10.2.1).bind λv11=>
   (P4 v11.1).bind λv12=>
   (sp v12 a1.A).bind λv13=>
   some (v12,v13,0)
  else
  (cU a0 a1).bind λv14=>
  if (v14.2 != 0) then
   some (a0,0,v14.2)
  else
  (W7 a0 a1.A v14.1).bind λv15=>
  (P4 v15.1).bind λv16=>
  (sp v16 a1.A).bind λv17=>
  some (v16,v17,0)) (λκ5=>
  if (a1.Kind==5) then
   κ5 (a1.Kind==5)
  else
  if (a1.Kind==6) then
   κ5 (a1.Kind==6)
  else
  κ5 (a1.Kind==8))
def ux(a0:c5)(a1:List s6):Option (c5 × (List Int)):=
 jn (λ((j11,j12):c5 × (List Int))=>
  some (j11,j12)) (λκ10=>
  (lp (S:=Int × c5 × (List Int)) (E:=(c5 × (List Int))) (λ((s15,s16,s17):Int × c5 × (List Int))=>
   if (decide (s15<(a1.length:Int))) then
    (ix a1 s15).bind λv20=>
    (E1 s16 v20).bind λv21=>
    (app 8 s17 [v21.2.1]).bind λv22=>
    some (.inl (A1 (s15+1),v21.1,v22))
   else
   some (.inr (s16,s17))) (0,a0,[])).bind λe14=>
  κ10 e14)
def uz(a0:c5)(a1:List (List s6)):Option (c5 × o8 × Int):=
 (uo a0.Q).bind λv1=>
 if (v1.2.2 != 0) then
  some (a0,(⟨0,0,0⟩:o8),v1.2.2)
 else
 jn (λ(j6:c5)=>
  (lG a1 v1.2.1.Prog).bind λv7=>
  (ux j6 v7).bind λv8=>
  if (v1.2.1.Kind==1) then
   (W7 v8.1 5 0).bind λv9=>
   (P4 v9.1).bind λv10=>
   some (v10,v1.2.1,0)
  else
  some (v8.1,v1.2.1,0)) (λκ5=>
  if (v1.2.1.Kind==1) then
   (W7 (⟨a0.S,a0.Roots,a0.Cells,a0.T,v1.1⟩:c5) 5 v1.2.1.At).bind λv11=>
   (G0 v11.1 v1.2.1.At).bind λv12=>
   (P4 v12).bind λv13=>
   κ5 v13
  else
  κ5 (⟨a0.S,a0.Roots,a0.Cells,a0.T,v1.1⟩:c5))
def lF(a0:c5)(a1:List (List s6))(a2:Int):Option (c5 × Int × Int × Int):=
 jn (λ((j12,j13,j14):Int × Int × c5)=>
  some (j14,j13,j12,0)) (λκ11=>
  (lp (S:=Int × Int × c5) (E:=(c5 × Int × Int × Int) ⊕ (Int × Int × c5)) (λ((s17,s18,s19):Int × Int × c5)=>
   (gT s19).bind λv22=>
   if (!v22) then
    (ix s19.Q.L 0).bind λv23=>
    (lE a1 v23).bind λv24=>
    if (decide (v24 > s17)) then
     some (.inr (.inl (s19,s18,s17,12)))
    else
    (uz s19 a1).bind λv25=>
    some (.inl (A1 (s17-v24),A1 (s18+1),v25.1))
   else
   some (.inr (.inr (s17,s18,s19)))) (a2,0,a0)).bind λe16=>
  match e16 with
  | .inl w=>some w
  | .inr w=>κ11 w)
def AA(a0:z8)(a1:List Int):Option (z8 × E9):=
 (cD a1).bind λv1=>
 if (v1.2 != 0) then
  some (a0,(⟨0,v1.2⟩:E9))
 else
 if (v1.1.Kind==11) then
  (jP a0.X).bind λv2=>
  some ((⟨v2.1,a0.Progs⟩:z8),(⟨A1 (v2.2.2-v2.2.1),0⟩:E9))
 else
 if (v1.1.Kind==12) then
  (lF a0.X a0.Progs v1.1.A).bind λv3=>
  some ((⟨v3.1,a0.Progs⟩:z8),(⟨v3.2.1,v3.2.2.2⟩:E9))
 else
 (E1 a0.X v1.1).bind λv4=>
 some ((⟨v4.1,a0.Progs⟩:z8),(⟨v4.2.1,v4.2.2⟩:E9))
def ln(a0:D2)(a1:D2):Option Bool:=
 (u5 ((((((a0.Serial==a1.Serial)&&(a0.Strong==a1.Strong))&&(a0.Weak==a1.Weak))&&(a0.Prog==a1.Prog))&&(a0.Started==a1.Started))==true) false (dK a0.Fields a1.Fields)).bind λv1=>
 some ((((((a0.Serial==a1.Serial)&&(a0.Strong==a1.Strong))&&(a0.Weak==a1.Weak))&&(a0.Prog==a1.Prog))&&(a0.Started==a1.Started))&&v1)
def tX(a0:l4)(a1:l4):Option Bool:=
 if (((a0.Last != a1.Last)||(a0.Serial != a1.Serial))||((a0.Cells.length:Int) != (a1.Cells.length:Int))) then
  some false
 else
 jn (λ(_:Unit)=>
  some true) (λκ7=>
  (lp (S:=Int) (E:=Bool ⊕ Unit) (λ(s10:Int)=>
   if (decide (s10<(a0.Cells.length:Int))) then
    (ix a0.Cells s10).bind λv12=>
    (ix a1.Cells s10).bind λv13=>
    (u5 (((v12.State != v13.State)||(v12.Gen != v13.Gen))==false) false (ln v12.Val v13.Val)).bind λv14=>
    if (((v12.State != v13.State)||(v12.Gen != v13.Gen))||(!v14)) then
     some (.inr (.inl false))
    else
    some (.inl (A1 (s10+1)))
   else
   some (.inr (.inr ()))) 0).bind λe9=>
  match e9 with
  | .inl w=>some w
  | .inr w=>κ7 w)
def ub(a0:List m9)(a1:List m9):Option Bool:=
 if ((a0.length:Int) != (a1.length:Int)) then
  some false
 else
 jn (λ(_:Unit)=>
  some true) (λκ6=>
  (lp (S:=Int) (E:=Bool ⊕ Unit) (λ(s9:Int)=>
   if (decide (s9<(a0.length:Int))) then
    (ix a0 s9).bind λv11=>
    (ix a1 s9).bind λv12=>
    if (!((v11.Target==v12.Target)&&((v11.Intact==v12.Intact)&&((v11.Call==v12.Call)&&true)))) then
     some (.inr (.inl false))
    else
    some (.inl (A1 (s9+1)))
   else
   some (.inr (.inr ()))) 0).bind λe8=>
  match e8 with
  | .inl w=>some w
  | .inr w=>κ6 w)
def ue(a0:List k7)(a1:List k7):Option Bool:=
 if ((a0.length:Int) != (a1.length:Int)) then
  some false
 else
 jn (λ(_:Unit)=>
  some true) (λκ6=>
  (lp (S:=Int) (E:=Bool ⊕ Unit) (λ(s9:Int)=>
   if (decide (s9<(a0.length:Int))) then
    (ix a0 s9).bind λv11=>
    (ix a1 s9).bind λv12=>
    if (!((v11.State==v12.State)&&((v11.Key==v12.Key)&&((v11.Val==v12.Val)&&true)))) then
     some (.inr (.inl false))
    else
    some (.inl (A1 (s9+1)))
   else
   some (.inr (.inr ()))) 0).bind λe8=>
  match e8 with
  | .inl w=>some w
  | .inr w=>κ6 w)
def ur(a0:y4)(a1:y4):Option Bool:=
 if ((a0.Cap != a1.Cap)||((a0.L.length:Int) != (a1.L.length:Int))) then
  some false
 else
 jn (λ(_:Unit)=>
  some true) (λκ6=>
  (lp (S:=Int) (E:=Bool ⊕ Unit) (λ(s9:Int)=>
   if (decide (s9<(a0.L.length:Int))) then
    (ix a0.L s9).bind λv11=>
    (ix a1.L s9).bind λv12=>
    if (!((v11.Kind==v12.Kind)&&((v11.At==v12.At)&&((v11.Prog==v12.Prog)&&true)))) then
     some (.inr (.inl false))
    else
    some (.inl (A1 (s9+1)))
   else
   some (.inr (.inr ()))) 0).bind λe8=>
  match e8 with
  | .inl w=>some w
  | .inr w=>κ6 w)
def uv(a0:c5)(a1:c5):Option Bool:=
 (tX a0.S a1.S).bind λv1=>
 (u5 (v1==true) false (dK a0.Roots a1.Roots)).bind λv2=>
 (u5 ((v1&&v2)==true) false (ub a0.Cells a1.Cells)).bind λv3=>
 (u5 (((v1&&v2)&&v3)==true) false (ue a0.T a1.T)).bind λv4=>
 (u5 ((((v1&&v2)&&v3)&&v4)==true) false (ur a0.Q a1.Q)).bind λv5=>
 some ((((v1&&v2)&&v3)&&v4)&&v5)
def qd(a0:y9):Option A4:=
 jn (λ(j9:A4)=>
  some j9) (λκ8=>
  (lp (S:=Int × A4) (E:=A4) (λ((s11,s12):Int × A4)=>
   if (decide (s11<(a0.Cells.length:Int))) then
    (ix a0.Cells s11).bind λv15=>
    (A4.ix s12 (vi .i64 v15.State 3)).bind λv16=>
    some (.inl (A1 (s11+1),(A4.st s12 (vi .i64 v15.State 3) (A1 (v16+1)))))
   else
   some (.inr s12)) (0,(⟨0,0,0,0⟩:A4))).bind λe10=>
  κ8 e10)
def qv(a0:z8):Option A4:=
 (K6 a0.X.S).bind λv1=>
 (qd v1).bind λv2=>
 some v2
def qt(a0:z8):Option (List Int):=
 (T6 a0.X.S).bind λv1=>
 jn (λ(j11:List Int)=>
  some j11) (λκ10=>
  (lp (S:=Int × (List Int)) (E:=(List Int)) (λ((s13,s14):Int × (List Int))=>
   if (decide (s13<(v1.length:Int))) then
    (ix v1 s13).bind λv17=>
    (cE a0.X v17).bind λv18=>
    (app 8 s14 [v18]).bind λv19=>
    some (.inl (A1 (s13+1),v19))
   else
   some (.inr s14)) (0,[])).bind λe12=>
  κ10 e12)
def qs(a0:c5):Option Bool:=
 (cV a0).bind λv1=>
 some ((v1.length:Int)==0)
def qu(a0:z8):Option Bool:=
 (gT a0.X).bind λv1=>
 (u5 (v1==true) false (qs a0.X)).bind λv2=>
 some (v1&&v2)
def iW(a0:b7)(a1:List (List k8))(a2:List Int):Option Bool:=
 (qK a0).bind λv1=>
 (u5 ((!v1)==false) ⟨⟨[],0,0⟩,[],[],[],⟨[],0⟩⟩ (dW a0)).bind λv2=>
 (u5 ((!v1)==false) false (jN v2)).bind λv3=>
 (u5 (((!v1)||(!v3))==false) false (uX a1)).bind λv4=>
 (u5 ((((!v1)||(!v3))||(!v4))==false) [] (lT a1)).bind λv5=>
 (u5 ((((!v1)||(!v3))||(!v4))==false) false (gS v5)).bind λv6=>
 (u5 ((((((!v1)||(!v3))||(!v4))||(!v6))||(decide ((a2.length:Int) > 10)))==false) false lU).bind λv7=>
 if ((((((!v1)||(!v3))||(!v4))||(!v6))||(decide ((a2.length:Int) > 10)))||(!v7)) then
  (lU).bind λv8=>
  some v8
 else
 (kQ (⟨a0,a1⟩:p7) a2).bind λv9=>
 (pF (⟨a0,a1⟩:p7)).bind λv10=>
 (AA v10 a2).bind λv11=>
 (qI v9.1.X).bind λv12=>
 (u5 (v12==true) ⟨⟨[],0,0⟩,[],[],[],⟨[],0⟩⟩ (dW v9.1.X)).bind λv13=>
 (u5 (v12==true) false (uv v13 v11.1.X)).bind λv14=>
 (u5 (((v12&&v14)&&((v9.2.V==v11.2.V)&&((v9.2.E==v11.2.E)&&true)))==true) ⟨0,0,0,0⟩ (dq (⟨a0,a1⟩:p7))).bind λv15=>
 (u5 (((v12&&v14)&&((v9.2.V==v11.2.V)&&((v9.2.E==v11.2.E)&&true)))==true) ⟨0,0,0,0⟩ (qv v10)).bind λv16=>
 (u5 ((((v12&&v14)&&((v9.2.V==v11.2.V)&&((v9.2.E==v11.2.E)&&true)))&&((v15.a==v16.a)&&((v15.b==v16.b)&&((v15.c==v16.c)&&((v15.d==v16.d)&&true)))))==true) [] (dm (⟨a0,a1⟩:p7))).bind λv17=>
 (u5 ((((v12&&v14)&&((v9.2.V==v11.2.V)&&((v9.2.E==v11.2.E)&&true)))&&((v15.a==v16.a)&&((v15.b==v16.b)&&((v15.c==v16.c)&&((v15.d==v16.d)&&true)))))==true) [] (qt v10)).bind λv18=>
 (u5 ((((v12&&v14)&&((v9.2.V==v11.2.V)&&((v9.2.E==v11.2.E)&&true)))&&((v15.a==v16.a)&&((v15.b==v16.b)&&((v15.c==v16.c)&&((v15.d==v16.d)&&true)))))==true) false (dK v17 v18)).bind λv19=>
 (u5 (((((v12&&v14)&&((v9.2.V==v11.2.V)&&((v9.2.E==v11.2.E)&&true)))&&((v15.a==v16.a)&&((v15.b==v16.b)&&((v15.c==v16.c)&&((v15.d==v16.d)&&true)))))&&v19)==true) false (dp (⟨a0,a1⟩:p7))).bind λv20=>
 (u5 (((((v12&&v14)&&((v9.2.V==v11.2.V)&&((v9.2.E==v11.2.E)&&true)))&&((v15.a==v16.a)&&((v15.b==v16.b)&&((v15.c==v16.c)&&((v15.d==v16.d)&&true)))))&&v19)==true) false (qu v10)).bind λv21=>
 some (((((v12&&v14)&&((v9.2.V==v11.2.V)&&((v9.2.E==v11.2.E)&&true)))&&((v15.a==v16.a)&&((v15.b==v16.b)&&((v15.c==v16.c)&&((v15.d==v16.d)&&true)))))&&v19)&&(v20==v21))
def xV(a0:z8)(a1:List (List Int)):Option (z8 × (List E9)):=
 jn (λ((j11,j12):z8 × (List E9))=>
  some (j11,j12)) (λκ10=>
  (lp (S:=Int × z8 × (List E9)) (E:=(z8 × (List E9))) (λ((s15,s16,s17):Int × z8 × (List E9))=>
   if (decide (s15<(a1.length:Int))) then
    (ix a1 s15).bind λv20=>
    (AA s16 v20).bind λv21=>
    (app 16 s17 [v21.2]).bind λv22=>
    some (.inl (A1 (s15+1),v21.1,v22))
   else
   some (.inr (s16,s17))) (0,a0,[])).bind λe14=>
  κ10 e14)
end
end Go.Sh
