/-
 Plain functions: what the functions of the program come to.
-/
import Derived.Test.YtlkcpapbolbjnaaGreatO20bSh0
import Derived.Test.YtlkcpapbolbjnaaGreatO20bPwD
set_option linter.unusedVariables false
set_option linter.unusedSimpArgs false
set_option linter.unusedSectionVars false
namespace Go.Sh
set_option maxRecDepth 100000
noncomputable section
structure k8 where
 Serial:Int
 Strong:Int
 Weak:Int
 Prog:Int
 Started:Bool
 Fields:List Int
structure b7 where
 State:Int
 Gen:Int
 Val:k8
structure g8 where
 Cells:List b7
 Last:Int
structure a7 where
 S:g8
 Serial:Int
structure g5 where
 Target:Int
 Intact:Bool
 Call:Int
structure c7 where
 State:Int
 Key:Int
 Val:Int
structure c8 where
 Kind:Int
 At:Int
 Prog:Int
instance:BEq c8:=⟨λa b=>((a.Kind==b.Kind)&&((a.At==b.At)&&((a.Prog==b.Prog)&&true)))⟩
theorem c8.beq_eq(a b:c8)(h:(a==b)=true):a=b:=by
 have h:((a.Kind==b.Kind)&&((a.At==b.At)&&((a.Prog==b.Prog)&&true)))=true:=h;simp only[Bool.and_eq_true,beq_iff_eq,and_true] at h;obtain⟨h0,h1,h2⟩:=h;cases a;cases b;simp_all
structure c9 where
 L:List c8
 Cap:Int
structure a8 where
 S:a7
 Roots:List Int
 Cells:List g5
 T:List c7
 Q:c9
structure j1 where
 Kind:Int
 A:Int
 B:Int
 C:Int
structure B2 where
 Serial:Int
 Strong:Int
 Weak:Int
 Prog:Int
 Started:Bool
 Fields:List Int
structure n8 where
 State:Int
 Gen:Int
 Val:B2
structure s6 where
 Target:Int
 Intact:Bool
 Call:Int
structure k7 where
 State:Int
 Key:Int
 Val:Int
structure r8 where
 Kind:Int
 At:Int
 Prog:Int
structure k9 where
 Cells:List n8
 Last:Int
 Serial:Int
structure w7 where
 L:List r8
 Cap:Int
structure g9 where
 S:k9
 Roots:List Int
 Cells:List s6
 T:List k7
 Q:w7
structure B5 where
 State:Int
 Gen:Int
 Val:Int
structure C1 where
 Cells:List B5
 Last:Int
structure C7 where
 Key:Int
 Val:Int
structure w9 where
 Kind:Int
 A:Int
 B:Int
 C:Int
structure j2 where
 part:Fv
 least:Int
 most:Int
 e:Int
structure p8 where
 x:a8
 o:j1
structure I0 where
 r:Int
 h:Int
structure G3 where
 h:Int
 k:Int
 v:Int
structure H9 where
 t:List c7
structure B9 where
 kept:Fv
structure l6 where
 Key:Int
 Val:Int
def a9m(a0:a7):Option Bool:=
 jn (λ(_:Unit)=>
  some (decide ((a0.S.Cells.length:Int)≤30))) (λκ5=>
  (lp (S:=Int) (E:=Bool ⊕ Unit) (λ(s8:Int)=>
   if ((decide (s8<(a0.S.Cells.length:Int)))&&(decide (s8<30))) then
    (ix a0.S.Cells s8).bind λv10=>
    if (decide ((v10.Val.Fields.length:Int) > 10)) then
     some (.inr (.inl false))
    else
    some (.inl (u9 (s8+1)))
   else
   some (.inr (.inr ()))) 0).bind λe7=>
  match e7 with
  | .inl w=>some w
  | .inr w=>κ5 w)
def a10(a0:a8):Option Bool:=
 (a9m a0.S).bind λv1=>
 some ((((v1&&(decide ((a0.Roots.length:Int)≤20)))&&(decide ((a0.Cells.length:Int)≤20)))&&(decide ((a0.T.length:Int)≤20)))&&(decide ((a0.Q.L.length:Int)≤60)))
def b3P(a0:k8):Option B2:=
 some (⟨a0.Serial,a0.Strong,a0.Weak,a0.Prog,a0.Started,a0.Fields⟩:B2)
def b3O(a0:a7):Option k9:=
 jn (λ(j10:List n8)=>
  some (⟨j10,a0.S.Last,a0.Serial⟩:k9)) (λκ9=>
  (lp (S:=Int × (List n8)) (E:=(List n8)) (λ((s12,s13):Int × (List n8))=>
   if (decide (s12<(a0.S.Cells.length:Int))) then
    (ix a0.S.Cells s12).bind λv16=>
    (b3P v16.Val).bind λv17=>
    (app 80 s13 [(⟨v16.State,v16.Gen,v17⟩:n8)]).bind λv18=>
    some (.inl (u9 (s12+1),v18))
   else
   some (.inr s13)) (0,[])).bind λe11=>
  κ9 e11)
def a9k(a0:List g5):Option (List s6):=
 jn (λ(j9:List s6)=>
  some j9) (λκ8=>
  (lp (S:=Int × (List s6)) (E:=(List s6)) (λ((s11,s12):Int × (List s6))=>
   if (decide (s11<(a0.length:Int))) then
    (ix a0 s11).bind λv15=>
    (app 24 s12 [(⟨v15.Target,v15.Intact,v15.Call⟩:s6)]).bind λv16=>
    some (.inl (u9 (s11+1),v16))
   else
   some (.inr s12)) (0,[])).bind λe10=>
  κ8 e10)
def b3Q(a0:List c7):Option (List k7):=
 jn (λ(j9:List k7)=>
  some j9) (λκ8=>
  (lp (S:=Int × (List k7)) (E:=(List k7)) (λ((s11,s12):Int × (List k7))=>
   if (decide (s11<(a0.length:Int))) then
    (ix a0 s11).bind λv15=>
    (app 24 s12 [(⟨v15.State,v15.Key,v15.Val⟩:k7)]).bind λv16=>
    some (.inl (u9 (s11+1),v16))
   else
   some (.inr s12)) (0,[])).bind λe10=>
  κ8 e10)
def a9o(a0:c9):Option w7:=
 jn (λ(j9:List r8)=>
  some (⟨j9,a0.Cap⟩:w7)) (λκ8=>
  (lp (S:=Int × (List r8)) (E:=(List r8)) (λ((s11,s12):Int × (List r8))=>
   if (decide (s11<(a0.L.length:Int))) then
    (ix a0.L s11).bind λv15=>
    (app 24 s12 [(⟨v15.Kind,v15.At,v15.Prog⟩:r8)]).bind λv16=>
    some (.inl (u9 (s11+1),v16))
   else
   some (.inr s12)) (0,[])).bind λe10=>
  κ8 e10)
def Q7(a0:a8):Option g9:=
 (b3O a0.S).bind λv1=>
 (a9k a0.Cells).bind λv2=>
 (b3Q a0.T).bind λv3=>
 (a9o a0.Q).bind λv4=>
 some (⟨v1,a0.Roots,v2,v3,v4⟩:g9)
def M4(a0:k9):Option C1:=
 jn (λ(j9:List B5)=>
  some (⟨j9,a0.Last⟩:C1)) (λκ8=>
  (lp (S:=Int × (List B5)) (E:=(List B5)) (λ((s11,s12):Int × (List B5))=>
   if (decide (s11<(a0.Cells.length:Int))) then
    (ix a0.Cells s11).bind λv15=>
    (app 24 s12 [(⟨v15.State,v15.Gen,s11⟩:B5)]).bind λv16=>
    some (.inl (u9 (s11+1),v16))
   else
   some (.inr s12)) (0,[])).bind λe10=>
  κ8 e10)
def a8T(a0:C1):Option Bool:=
 if (((decide ((a0.Cells.length:Int) > 24))||(decide (a0.Last<0)))||(decide (a0.Last > 9))) then
  some false
 else
 jn (λ(_:Unit)=>
  some true) (λκ5=>
  (lp (S:=Int) (E:=Bool ⊕ Unit) (λ(s8:Int)=>
   if (decide (s8<(a0.Cells.length:Int))) then
    (ix a0.Cells s8).bind λv10=>
    if ((((decide (v10.State<0))||(decide (v10.State > 3)))||(decide (v10.Gen<0)))||(decide (v10.Gen > a0.Last))) then
     some (.inr (.inl false))
    else
    some (.inl (u9 (s8+1)))
   else
   some (.inr (.inr ()))) 0).bind λe7=>
  match e7 with
  | .inl w=>some w
  | .inr w=>κ5 w)
def a3Q(a0:n8):Option Bool:=
 some ((a0.State==1)||(a0.State==2))
def a8U(a0:k9):Option Bool:=
 (M4 a0).bind λv1=>
 (a8T v1).bind λv2=>
 if ((!v2)||(decide (a0.Serial<0))) then
  some false
 else
 jn (λ(_:Unit)=>
  some true) (λκ22=>
  (lp (S:=Int) (E:=Bool ⊕ Unit) (λ(s25:Int)=>
   if (decide (s25<(a0.Cells.length:Int))) then
    jn (λ(_:Unit)=>
     some (.inl (u9 (s25+1)))) (λκ34=>
     (ix a0.Cells s25).bind λv36=>
     (a3Q v36).bind λv37=>
     if (!v37) then
      if ((((((v36.Val.Serial != 0)||(v36.Val.Strong != 0))||(v36.Val.Weak != 0))||(v36.Val.Prog != 0))||v36.Val.Started)||((v36.Val.Fields.length:Int) != 0)) then
       some (.inr (.inl false))
      else
      κ34 ()
     else
     if (((((((decide (v36.Val.Serial<1))||(decide (v36.Val.Serial > a0.Serial)))||(decide (v36.Val.Strong<0)))||(decide (v36.Val.Weak<0)))||(decide (v36.Val.Prog<(-1))))||(decide (v36.Val.Prog > 5)))||(decide ((v36.Val.Fields.length:Int) > 4))) then
      some (.inr (.inl false))
     else
     (lp (S:=Int) (E:=Bool ⊕ Unit) (λ(s39:Int)=>
      if (decide (s39<s25)) then
       (ix a0.Cells s39).bind λv41=>
       (a3Q v41).bind λv42=>
       if (v42&&(v41.Val.Serial==v36.Val.Serial)) then
        some (.inr (.inl false))
       else
       some (.inl (u9 (s39+1)))
      else
      some (.inr (.inr ()))) 0).bind λe38=>
     match e38 with
     | .inl w=>some (.inr (.inl w))
     | .inr w=>κ34 w)
   else
   some (.inr (.inr ()))) 0).bind λe24=>
  match e24 with
  | .inl w=>some w
  | .inr w=>κ22 w)
def a0S(a0:List k7)(a1:Int):Option Int:=
 jn (λ(_:Unit)=>
  some (-1)) (λκ5=>
  (lp (S:=Int) (E:=Int ⊕ Unit) (λ(s8:Int)=>
   if (decide (s8<(a0.length:Int))) then
    (ix a0 s8).bind λv10=>
    if ((v10.State==1)&&(v10.Key==a1)) then
     some (.inr (.inl s8))
    else
    some (.inl (u9 (s8+1)))
   else
   some (.inr (.inr ()))) 0).bind λe7=>
  match e7 with
  | .inl w=>some w
  | .inr w=>κ5 w)
def b1n(a0:Int)(a1:Int):Option Int:=
 if (decide (a0<1)) then
  some 0
 else
 (rem (u9 ((u9 (5*a1))+1)) a0).bind λv1=>
 if (decide (v1<0)) then
  some (u9 (v1+a0))
 else
 some v1
def a8W(a0:List k7):Option Bool:=
 if ((decide ((a0.length:Int)<1))||(decide ((a0.length:Int) > 8))) then
  some false
 else
 jn (λ(_:Unit)=>
  some true) (λκ22=>
  (lp (S:=Int) (E:=Bool ⊕ Unit) (λ(s25:Int)=>
   if (decide (s25<(a0.length:Int))) then
    jn (λ(_:Unit)=>
     some (.inl (u9 (s25+1)))) (λκ35=>
     (ix a0 s25).bind λv37=>
     if (((decide (v37.State<0))||(decide (v37.State > 2)))||((v37.State != 1)&&((v37.Key != 0)||(v37.Val != 0)))) then
      some (.inr (.inl false))
     else
     if (v37.State != 1) then
      κ35 ()
     else
     (a0S a0 v37.Key).bind λv38=>
     if (v38 != s25) then
      some (.inr (.inl false))
     else
     (b1n (a0.length:Int) v37.Key).bind λv39=>
     (lp (S:=Int) (E:=Bool ⊕ Unit) (λ(s41:Int)=>
      if (s41 != s25) then
       (ix a0 s41).bind λv43=>
       if (v43.State==0) then
        some (.inr (.inl false))
       else
       (rem (u9 (s41+1)) (a0.length:Int)).bind λv44=>
       some (.inl v44)
      else
      some (.inr (.inr ()))) v39).bind λe40=>
     match e40 with
     | .inl w=>some (.inr (.inl w))
     | .inr w=>κ35 w)
   else
   some (.inr (.inr ()))) 0).bind λe24=>
  match e24 with
  | .inl w=>some w
  | .inr w=>κ22 w)
def a2Z(a0:Int)(a1:Int):Option Int:=
 if ((((decide (a0<0))||(decide (a0 > 23)))||(decide (a1<0)))||(decide (a1 > 9))) then
  some 0
 else
 some (u9 ((u9 (1+a0))+(u9 (32*a1))))
def a5I(a0:Int):Option Bool:=
 if ((decide (a0<1))||(decide (a0 > 400))) then
  some false
 else
 (rem (u9 (a0-1)) 32).bind λv1=>
 (quo .i64 (u9 (a0-1)) 32).bind λv2=>
 (a2Z v1 v2).bind λv3=>
 some (v3==a0)
def a5H(a0:Int):Option Int:=
 (a5I a0).bind λv1=>
 if (!v1) then
  some (-1)
 else
 (rem (u9 (a0-1)) 32).bind λv2=>
 some v2
def b3C(a0:Int):Option Int:=
 (a5I a0).bind λv1=>
 if (!v1) then
  some (-1)
 else
 (quo .i64 (u9 (a0-1)) 32).bind λv2=>
 some v2
def N2(a0:C1)(a1:Int):Option (Int × Int):=
 if (a1==0) then
  some ((-1),2)
 else
 (a5H a1).bind λv1=>
 if ((decide (v1<0))||(decide (v1≥(a0.Cells.length:Int)))) then
  some ((-1),3)
 else
 (ix a0.Cells v1).bind λv2=>
 (b3C a1).bind λv3=>
 if ((v2.Gen != v3)||((v2.State != 1)&&(v2.State != 2))) then
  some ((-1),3)
 else
 some (v1,0)
def b1h(a0:C1)(a1:Int):Option (Int × Int):=
 (N2 a0 a1).bind λv1=>
 if (v1.2 != 0) then
  some (0,v1.2)
 else
 (ix a0.Cells v1.1).bind λv2=>
 if (v2.State==2) then
  some (0,3)
 else
 some (v2.Val,0)
def F5(a0:k9)(a1:Int):Option (B2 × Int):=
 (M4 a0).bind λv1=>
 (b1h v1 a1).bind λv2=>
 if (v2.2 != 0) then
  some ((⟨0,0,0,0,false,[]⟩:B2),v2.2)
 else
 (ix a0.Cells v2.1).bind λv3=>
 some (v3.Val,0)
def a83(a0:g9):Option Bool:=
 jn (λ(_:Unit)=>
  some ((a0.Q.Cap==30)&&(decide ((a0.Q.L.length:Int)≤30)))) (λκ30=>
  (lp (S:=Int) (E:=Bool ⊕ Unit) (λ(s33:Int)=>
   if (decide (s33<(a0.Q.L.length:Int))) then
    jn (λ(_:Unit)=>
     some (.inl (u9 (s33+1)))) (λκ47=>
     (ix a0.Q.L s33).bind λv49=>
     if ((((v49.Kind != 1)&&(v49.Kind != 2))||(decide (v49.Prog<0)))||(decide (v49.Prog > 5))) then
      some (.inr (.inl false))
     else
     jn (λ(_:Unit)=>
      (F5 a0.S v49.At).bind λv56=>
      if (((v49.Kind==1)&&((v56.2 != 0)||(!v56.1.Started)))||((v49.Kind==2)&&((decide (v49.At<0))||(decide (v49.At > 5))))) then
       some (.inr (.inl false))
      else
      κ47 ()) (λκ54=>
      (lp (S:=Int) (E:=Bool ⊕ Unit) (λ(s58:Int)=>
       if (decide (s58<s33)) then
        (ix a0.Q.L s58).bind λv60=>
        if ((v60.Kind==v49.Kind)&&(v60.At==v49.At)) then
         some (.inr (.inl false))
        else
        some (.inl (u9 (s58+1)))
       else
       some (.inr (.inr ()))) 0).bind λe57=>
      match e57 with
      | .inl w=>some (.inr (.inl w))
      | .inr w=>κ54 w))
   else
   some (.inr (.inr ()))) 0).bind λe32=>
  match e32 with
  | .inl w=>some w
  | .inr w=>κ30 w)
def W9(a0:g9)(a1:Int):Option Bool:=
 (F5 a0.S a1).bind λv1=>
 some (v1.2==0)
def X0(a0:g9)(a1:Int):Option Bool:=
 (n0 ((a1==0)==false) false (W9 a0 a1)).bind λv1=>
 some ((a1==0)||v1)
def a4d(a0:k9)(a1:List Int):Option (List Int):=
 (app 8 [] a1).bind λv1=>
 jn (λ(j36:List Int)=>
  some j36) (λκ35=>
  (lp (S:=Int × (List Int)) (E:=(List Int)) (λ((s38,s39):Int × (List Int))=>
   if (decide (s38<(s39.length:Int))) then
    jn (λ(j56:List Int)=>
     some (.inl (u9 (s38+1),j56))) (λκ55=>
     (lp (S:=Int × (List Int)) (E:=(List Int)) (λ((s58,s59):Int × (List Int))=>
      if (decide (s58 > 0)) then
       (M4 a0).bind λv62=>
       (ix s59 (u9 (s58-1))).bind λv63=>
       (N2 v62 v63).bind λv64=>
       (ix s59 s58).bind λv65=>
       (N2 v62 v65).bind λv66=>
       (n0 (((decide (v64.1<0))||(decide (v66.1<0)))==false) (⟨0,0,⟨0,0,0,0,false,[]⟩⟩:n8) (ix a0.Cells v64.1)).bind λv67=>
       (n0 (((decide (v64.1<0))||(decide (v66.1<0)))==false) (⟨0,0,⟨0,0,0,0,false,[]⟩⟩:n8) (ix a0.Cells v66.1)).bind λv68=>
       if (((decide (v64.1<0))||(decide (v66.1<0)))||(decide (v67.Val.Serial≤v68.Val.Serial))) then
        some (.inr s59)
       else
       (ix (s59.set (s58).toNat v63) (u9 (s58-1))).bind λv69=>
       some (.inl (u9 (s58-1),((s59.set (s58).toNat v63).set (u9 (s58-1)).toNat v65)))
      else
      some (.inr s59)) (s38,s39)).bind λe57=>
     κ55 e57)
   else
   some (.inr s39)) (1,v1)).bind λe37=>
  κ35 e37)
def a4c(a0:k9):Option (List Int):=
 jn (λ(j15:List Int)=>
  (a4d a0 j15).bind λv16=>
  some v16) (λκ14=>
  (lp (S:=Int × (List Int)) (E:=(List Int)) (λ((s18,s19):Int × (List Int))=>
   if (decide (s18<(a0.Cells.length:Int))) then
    jn (λ(j26:List Int)=>
     some (.inl (u9 (s18+1),j26))) (λκ25=>
     (ix a0.Cells s18).bind λv27=>
     if (v27.State==1) then
      (a2Z s18 v27.Gen).bind λv28=>
      (app 8 s19 [v28]).bind λv29=>
      κ25 v29
     else
     κ25 s19)
   else
   some (.inr s19)) (0,[])).bind λe17=>
  κ14 e17)
def b1o(a0:List k7):Option (List Int):=
 jn (λ(j13:List Int)=>
  some j13) (λκ12=>
  (lp (S:=Int × (List Int)) (E:=(List Int)) (λ((s15,s16):Int × (List Int))=>
   if (decide (s15<(a0.length:Int))) then
    jn (λ(j22:List Int)=>
     some (.inl (u9 (s15+1),j22))) (λκ21=>
     (ix a0 s15).bind λv23=>
     if (v23.State==1) then
      (app 8 s16 [v23.Key]).bind λv24=>
      κ21 v24
     else
     κ21 s16)
   else
   some (.inr s16)) (0,[])).bind λe14=>
  κ12 e14)
def a8V(a0:List k7)(a1:Int):Option (Int × Int):=
 (a0S a0 a1).bind λv1=>
 if (decide (v1<0)) then
  some (0,9)
 else
 (ix a0 v1).bind λv2=>
 some (v2.Val,0)
def a5K(a0:List k7):Option (List C7):=
 (b1o a0).bind λv1=>
 jn (λ(j11:List C7)=>
  some j11) (λκ10=>
  (lp (S:=Int × (List C7)) (E:=(List C7)) (λ((s13,s14):Int × (List C7))=>
   if (decide (s13<(v1.length:Int))) then
    (ix v1 s13).bind λv17=>
    (a8V a0 v17).bind λv18=>
    (app 16 s14 [(⟨v17,v18.1⟩:C7)]).bind λv19=>
    some (.inl (u9 (s13+1),v19))
   else
   some (.inr s14)) (0,[])).bind λe12=>
  κ10 e12)
def a82(a0:g9):Option Bool:=
 jn (λ(_:Unit)=>
  (a4c a0.S).bind λv8=>
  jn (λ(_:Unit)=>
   (a5K a0.T).bind λv30=>
   jn (λ(_:Unit)=>
    some true) (λκ37=>
    (lp (S:=Int) (E:=Bool ⊕ Unit) (λ(s40:Int)=>
     if (decide (s40<(v30.length:Int))) then
      (ix v30 s40).bind λv42=>
      (W9 a0 v42.Key).bind λv43=>
      (n0 ((!v43)==false) false (W9 a0 v42.Val)).bind λv44=>
      if ((!v43)||(!v44)) then
       some (.inr (.inl false))
      else
      some (.inl (u9 (s40+1)))
     else
     some (.inr (.inr ()))) 0).bind λe39=>
    match e39 with
    | .inl w=>some w
    | .inr w=>κ37 w)) (λκ28=>
   (lp (S:=Int) (E:=Bool ⊕ Unit) (λ(s46:Int)=>
    if (decide (s46<(v8.length:Int))) then
     jn (λ(_:Unit)=>
      some (.inl (u9 (s46+1)))) (λκ55=>
      (ix v8 s46).bind λv57=>
      (F5 a0.S v57).bind λv58=>
      (lp (S:=Int) (E:=Bool ⊕ Unit) (λ(s60:Int)=>
       if (decide (s60<(v58.1.Fields.length:Int))) then
        (ix v58.1.Fields s60).bind λv62=>
        (X0 a0 v62).bind λv63=>
        if (!v63) then
         some (.inr (.inl false))
        else
        some (.inl (u9 (s60+1)))
       else
       some (.inr (.inr ()))) 0).bind λe59=>
      match e59 with
      | .inl w=>some (.inr (.inl w))
      | .inr w=>κ55 w)
    else
    some (.inr (.inr ()))) 0).bind λe45=>
   match e45 with
   | .inl w=>some w
   | .inr w=>κ28 w)) (λκ6=>
  (lp (S:=Int) (E:=Bool ⊕ Unit) (λ(s65:Int)=>
   if (decide (s65<(a0.Roots.length:Int))) then
    (ix a0.Roots s65).bind λv67=>
    (X0 a0 v67).bind λv68=>
    if (!v68) then
     some (.inr (.inl false))
    else
    some (.inl (u9 (s65+1)))
   else
   some (.inr (.inr ()))) 0).bind λe64=>
  match e64 with
  | .inl w=>some w
  | .inr w=>κ6 w)
def a2l(a0:w7)(a1:Int):Option Bool:=
 jn (λ(_:Unit)=>
  some false) (λκ5=>
  (lp (S:=Int) (E:=Bool ⊕ Unit) (λ(s8:Int)=>
   if (decide (s8<(a0.L.length:Int))) then
    (ix a0.L s8).bind λv10=>
    if ((v10.Kind==2)&&(v10.At==a1)) then
     some (.inr (.inl true))
    else
    some (.inl (u9 (s8+1)))
   else
   some (.inr (.inr ()))) 0).bind λe7=>
  match e7 with
  | .inl w=>some w
  | .inr w=>κ5 w)
def a81(a0:g9):Option Bool:=
 jn (λ(_:Unit)=>
  some true) (λκ9=>
  (lp (S:=Int) (E:=Bool ⊕ Unit) (λ(s12:Int)=>
   if (decide (s12<(a0.Cells.length:Int))) then
    (ix a0.Cells s12).bind λv14=>
    (M4 a0.S).bind λv15=>
    (N2 v15 v14.Target).bind λv16=>
    (n0 ((((((decide (v14.Call<(-1)))||(decide (v14.Call > 5)))||((v14.Target==0)&&v14.Intact))||((v14.Target != 0)&&(v16.2 != 0)))==false)&&(v14.Intact==true)) false (W9 a0 v14.Target)).bind λv17=>
    (n0 (((((((decide (v14.Call<(-1)))||(decide (v14.Call > 5)))||((v14.Target==0)&&v14.Intact))||((v14.Target != 0)&&(v16.2 != 0)))==false)&&(v14.Intact==true))&&((!v17)==false)) false (a2l a0.Q s12)).bind λv18=>
    if (((((decide (v14.Call<(-1)))||(decide (v14.Call > 5)))||((v14.Target==0)&&v14.Intact))||((v14.Target != 0)&&(v16.2 != 0)))||(v14.Intact&&((!v17)||v18))) then
     some (.inr (.inl false))
    else
    some (.inl (u9 (s12+1)))
   else
   some (.inr (.inr ()))) 0).bind λe11=>
  match e11 with
  | .inl w=>some w
  | .inr w=>κ9 w)
def b0i(a0:Int)(a1:Int):Option Int:=
 (a2Z a0 a1).bind λv1=>
 some v1
def a6E(a0:List s6)(a1:Int):Option Int:=
 jn (λ(j11:Int)=>
  some j11) (λκ10=>
  (lp (S:=Int × Int) (E:=Int) (λ((s13,s14):Int × Int)=>
   if (decide (s14<(a0.length:Int))) then
    jn (λ(j19:Int)=>
     some (.inl (j19,u9 (s14+1)))) (λκ18=>
     (ix a0 s14).bind λv20=>
     if ((v20.Target==a1)&&(a1 != 0)) then
      κ18 (u9 (s13+1))
     else
     κ18 s13)
   else
   some (.inr s13)) (0,0)).bind λe12=>
  κ10 e12)
def a84(a0:g9):Option Bool:=
 jn (λ(_:Unit)=>
  some true) (λκ12=>
  (lp (S:=Int) (E:=Bool ⊕ Unit) (λ(s15:Int)=>
   if (decide (s15<(a0.S.Cells.length:Int))) then
    jn (λ(_:Unit)=>
     some (.inl (u9 (s15+1)))) (λκ20=>
     (ix a0.S.Cells s15).bind λv22=>
     if ((v22.State != 1)&&(v22.State != 2)) then
      κ20 ()
     else
     (b0i s15 v22.Gen).bind λv23=>
     (a6E a0.Cells v23).bind λv24=>
     if ((v22.Val.Weak != v24)||((v22.State==2)&&(((decide (v22.Val.Weak<1))||(decide ((v22.Val.Fields.length:Int) > 0)))||(v22.Val.Strong != 0)))) then
      some (.inr (.inl false))
     else
     κ20 ())
   else
   some (.inr (.inr ()))) 0).bind λe14=>
  match e14 with
  | .inl w=>some w
  | .inr w=>κ12 w)
def a78(a0:w7):Option (List Int):=
 jn (λ(j13:List Int)=>
  some j13) (λκ12=>
  (lp (S:=Int × (List Int)) (E:=(List Int)) (λ((s15,s16):Int × (List Int))=>
   if (decide (s15<(a0.L.length:Int))) then
    jn (λ(j22:List Int)=>
     some (.inl (u9 (s15+1),j22))) (λκ21=>
     (ix a0.L s15).bind λv23=>
     if (v23.Kind==1) then
      (app 8 s16 [v23.At]).bind λv24=>
      κ21 v24
     else
     κ21 s16)
   else
   some (.inr s16)) (0,[])).bind λe14=>
  κ12 e14)
def a80(a0:g9):Option (List Int):=
 jn (λ(j13:List Int)=>
  (a78 a0.Q).bind λv14=>
  (app 8 j13 v14).bind λv15=>
  some v15) (λκ12=>
  (lp (S:=Int × (List Int)) (E:=(List Int)) (λ((s17,s18):Int × (List Int))=>
   if (decide (s17<(a0.Roots.length:Int))) then
    jn (λ(j24:List Int)=>
     some (.inl (u9 (s17+1),j24))) (λκ23=>
     (ix a0.Roots s17).bind λv25=>
     if (v25 != 0) then
      (app 8 s18 [v25]).bind λv26=>
      κ23 v26
     else
     κ23 s18)
   else
   some (.inr s18)) (0,[])).bind λe16=>
  κ12 e16)
def a0y(a0:Int):Option Bool:=
 some (decide (a0≥12))
def a8Z(a0:k9)(a1:Int):Option Bool:=
 (F5 a0 a1).bind λv1=>
 (a0y v1.1.Strong).bind λv2=>
 some v2
def a2k(a0:List Int):Option (List Int):=
 jn (λ(j13:List Int)=>
  some j13) (λκ12=>
  (lp (S:=Int × (List Int)) (E:=(List Int)) (λ((s15,s16):Int × (List Int))=>
   if (decide (s15<(a0.length:Int))) then
    jn (λ(j22:List Int)=>
     some (.inl (u9 (s15+1),j22))) (λκ21=>
     (ix a0 s15).bind λv23=>
     if (v23 != 0) then
      (app 8 s16 [v23]).bind λv24=>
      κ21 v24
     else
     κ21 s16)
   else
   some (.inr s16)) (0,[])).bind λe14=>
  κ12 e14)
def b3F(a0:k9)(a1:Int):Option (List Int):=
 (F5 a0 a1).bind λv1=>
 if (v1.2 != 0) then
  some []
 else
 (a2k v1.1.Fields).bind λv2=>
 some v2
def T9(a0:List Int)(a1:Int):Option Int:=
 jn (λ(j11:Int)=>
  some j11) (λκ10=>
  (lp (S:=Int × Int) (E:=Int) (λ((s13,s14):Int × Int)=>
   if (decide (s14<(a0.length:Int))) then
    jn (λ(j19:Int)=>
     some (.inl (j19,u9 (s14+1)))) (λκ18=>
     (ix a0 s14).bind λv20=>
     if ((v20==a1)&&(a1 != 0)) then
      κ18 (u9 (s13+1))
     else
     κ18 s13)
   else
   some (.inr s13)) (0,0)).bind λe12=>
  κ10 e12)
def b7G(a0:k9)(a1:Int):Option Int:=
 (a4c a0).bind λv1=>
 jn (λ(j11:Int)=>
  some j11) (λκ10=>
  (lp (S:=Int × Int) (E:=Int) (λ((s13,s14):Int × Int)=>
   if (decide (s14<(v1.length:Int))) then
    (ix v1 s14).bind λv17=>
    (b3F a0 v17).bind λv18=>
    (T9 v18 a1).bind λv19=>
    some (.inl (u9 (s13+v19),u9 (s14+1)))
   else
   some (.inr s13)) (0,0)).bind λe12=>
  κ10 e12)
def a8X(a0:List k7)(a1:Int):Option Int:=
 (a5K a0).bind λv1=>
 jn (λ(j12:Int)=>
  some j12) (λκ11=>
  (lp (S:=Int × Int) (E:=Int) (λ((s14,s15):Int × Int)=>
   if (decide (s15<(v1.length:Int))) then
    jn (λ(j20:Int)=>
     some (.inl (j20,u9 (s15+1)))) (λκ19=>
     (ix v1 s15).bind λv21=>
     if ((v21.Val==a1)&&(a1 != 0)) then
      κ19 (u9 (s14+1))
     else
     κ19 s14)
   else
   some (.inr s14)) (0,0)).bind λe13=>
  κ11 e13)
def a8Y(a0:k9)(a1:List k7)(a2:Int):Option Int:=
 (b7G a0 a2).bind λv1=>
 (a8X a1 a2).bind λv2=>
 some (u9 (v1+v2))
def b1s(a0:k9)(a1:List k7)(a2:Int):Option Int:=
 (F5 a0 a2).bind λv1=>
 if (v1.2 != 0) then
  some 0
 else
 (a8Y a0 a1 a2).bind λv2=>
 some (u9 (v1.1.Strong-v2))
def b1r(a0:k9)(a1:List k7)(a2:List Int):Option Bool:=
 (a4c a0).bind λv1=>
 jn (λ(_:Unit)=>
  some true) (λκ9=>
  (lp (S:=Int) (E:=Bool ⊕ Unit) (λ(s12:Int)=>
   if (decide (s12<(v1.length:Int))) then
    (ix v1 s12).bind λv14=>
    (a8Z a0 v14).bind λv15=>
    (n0 ((!v15)==true) 0 (b1s a0 a1 v14)).bind λv16=>
    (n0 ((!v15)==true) 0 (T9 a2 v14)).bind λv17=>
    if ((!v15)&&(v16 != v17)) then
     some (.inr (.inl false))
    else
    some (.inl (u9 (s12+1)))
   else
   some (.inr (.inr ()))) 0).bind λe11=>
  match e11 with
  | .inl w=>some w
  | .inr w=>κ9 w)
def a2m(a0:g9):Option Bool:=
 (a8U a0.S).bind λv1=>
 (n0 ((!v1)==false) false (a8W a0.T)).bind λv2=>
 if ((((!v1)||(!v2))||((a0.Roots.length:Int) != 6))||((a0.Cells.length:Int) != 6)) then
  some false
 else
 (a83 a0).bind λv3=>
 (n0 (v3==true) false (a82 a0)).bind λv4=>
 (n0 ((v3&&v4)==true) false (a81 a0)).bind λv5=>
 (n0 (((v3&&v4)&&v5)==true) false (a84 a0)).bind λv6=>
 (n0 ((((v3&&v4)&&v5)&&v6)==true) [] (a80 a0)).bind λv7=>
 (n0 ((((v3&&v4)&&v5)&&v6)==true) false (b1r a0.S a0.T v7)).bind λv8=>
 some ((((v3&&v4)&&v5)&&v6)&&v8)
def a9n(a0:a8):Option Bool:=
 (a10 a0).bind λv1=>
 (n0 ((v1&&(decide (a0.S.Serial<1000000000)))==true) ⟨⟨[],0,0⟩,[],[],[],⟨[],0⟩⟩ (Q7 a0)).bind λv2=>
 (n0 ((v1&&(decide (a0.S.Serial<1000000000)))==true) false (a2m v2)).bind λv3=>
 some ((v1&&(decide (a0.S.Serial<1000000000)))&&v3)
def a5M(a0:g9):Option (List Int):=
 (a4c a0.S).bind λv1=>
 jn (λ(j16:List Int)=>
  some j16) (λκ15=>
  (lp (S:=Int × (List Int)) (E:=(List Int)) (λ((s18,s19):Int × (List Int))=>
   if (decide (s18<(v1.length:Int))) then
    jn (λ(j26:List Int)=>
     some (.inl (u9 (s18+1),j26))) (λκ25=>
     (ix v1 s18).bind λv27=>
     (F5 a0.S v27).bind λv28=>
     if (v28.1.Strong==0) then
      (app 8 s19 [v27]).bind λv29=>
      κ25 v29
     else
     κ25 s19)
   else
   some (.inr s19)) (0,[])).bind λe17=>
  κ15 e17)
def a1m(a0:g9):Option Bool:=
 (a5M a0).bind λv1=>
 some ((v1.length:Int)==0)
def a1Z(a0:a8):Option Bool:=
 (a9n a0).bind λv1=>
 (n0 (v1==true) ⟨⟨[],0,0⟩,[],[],[],⟨[],0⟩⟩ (Q7 a0)).bind λv2=>
 (n0 (v1==true) false (a1m v2)).bind λv3=>
 some (v1&&v3)
def a9l(a0:List (List j1)):Option (List (List w9)):=
 jn (λ(j47:List (List w9))=>
  some j47) (λκ46=>
  (lp (S:=Int × (List (List w9))) (E:=(List (List w9))) (λ((s49,s50):Int × (List (List w9)))=>
   if (decide (s49<(a0.length:Int))) then
    jn (λ(j73:List (List w9))=>
     some (.inl (u9 (s49+1),j73))) (λκ72=>
     jn (λ(j83:List w9)=>
      (app 24 s50 [j83]).bind λv84=>
      κ72 v84) (λκ82=>
      (lp (S:=Int × (List w9)) (E:=(List w9)) (λ((s86,s87):Int × (List w9))=>
       (ix a0 s49).bind λv90=>
       if (decide (s86<(v90.length:Int))) then
        (ix v90 s86).bind λv91=>
        (app 32 s87 [(⟨v91.Kind,v91.A,v91.B,v91.C⟩:w9)]).bind λv92=>
        some (.inl (u9 (s86+1),v92))
       else
       some (.inr s87)) (0,[])).bind λe85=>
      κ82 e85))
   else
   some (.inr s50)) (0,[])).bind λe48=>
  κ46 e48)
def Q1(a0:w9):Option Bool:=
 some ((decide (a0.Kind≥1))&&(decide (a0.Kind≤10)))
def a0J(a0:Int)(a1:Int)(a2:Int)(a3:Int):Option Int:=
 if ((decide (a0<a1))||(decide (a0 > a2))) then
  some a3
 else
 some 0
def X4(a0:Int)(a1:Int)(a2:Int):Option Int:=
 if (a0 != 0) then
  some a0
 else
 if (a1 != 0) then
  some a1
 else
 some a2
def a2n(a0:w9):Option Int:=
 (a0J a0.A 0 5 6).bind λv1=>
 (a0J a0.B 0 5 6).bind λv2=>
 if (a0.Kind==1) then
  (a0J a0.B 0 4 1).bind λv3=>
  (a0J a0.C (-1) 5 13).bind λv4=>
  (X4 v1 v3 v4).bind λv5=>
  some v5
 else
 jn (λ(j7:Bool)=>
  if j7 then
   (X4 v1 v2 0).bind λv8=>
   some v8
  else
  if (a0.Kind==3) then
   some v1
  else
  if (a0.Kind==4) then
   (a0J a0.C 0 3 5).bind λv9=>
   (X4 v1 v2 v9).bind λv10=>
   some v10
  else
  if (a0.Kind==5) then
   (a0J a0.B 0 3 5).bind λv11=>
   (a0J a0.C (-1) 5 6).bind λv12=>
   (X4 v1 v11 v12).bind λv13=>
   some v13
  else
  if (a0.Kind==6) then
   (a0J a0.A 0 5 7).bind λv14=>
   (a0J a0.B (-1) 5 6).bind λv15=>
   (a0J a0.C (-1) 5 13).bind λv16=>
   (X4 v14 v15 v16).bind λv17=>
   some v17
  else
  if (a0.Kind==7) then
   (a0J a0.B 0 5 7).bind λv18=>
   (X4 v1 v18 0).bind λv19=>
   some v19
  else
  if (a0.Kind==8) then
   (a0J a0.B (-1) 5 6).bind λv20=>
   (X4 v1 v20 0).bind λv21=>
   some v21
  else
  if (a0.Kind==11) then
   some 0
  else
  if (a0.Kind==12) then
   (a0J a0.A 0 200 12).bind λv22=>
   some v22
  else
  some 14) (λκ6=>
  if (a0.Kind==2) then
   κ6 (a0.Kind==2)
  else
  if (a0.Kind==9) then
   κ6 (a0.Kind==9)
  else
  κ6 (a0.Kind==10))
def a85(a0:List (List w9)):Option Bool:=
 if (decide ((a0.length:Int) > 6)) then
  some false
 else
 jn (λ(_:Unit)=>
  some true) (λκ20=>
  (lp (S:=Int) (E:=Bool ⊕ Unit) (λ(s23:Int)=>
   if (decide (s23<(a0.length:Int))) then
    jn (λ(_:Unit)=>
     some (.inl (u9 (s23+1)))) (λκ32=>
     (ix a0 s23).bind λv34=>
     if (decide ((v34.length:Int) > 6)) then
      some (.inr (.inl false))
     else
     (lp (S:=Int) (E:=Bool ⊕ Unit) (λ(s36:Int)=>
      if (decide (s36<(v34.length:Int))) then
       (ix v34 s36).bind λv38=>
       (Q1 v38).bind λv39=>
       (n0 ((!v39)==false) 0 (a2n v38)).bind λv40=>
       if ((!v39)||(v40 != 0)) then
        some (.inr (.inl false))
       else
       some (.inl (u9 (s36+1)))
      else
      some (.inr (.inr ()))) 0).bind λe35=>
     match e35 with
     | .inl w=>some (.inr (.inl w))
     | .inr w=>κ32 w)
   else
   some (.inr (.inr ()))) 0).bind λe22=>
  match e22 with
  | .inl w=>some w
  | .inr w=>κ20 w)
def a02(a0:List (List j1)):Option Bool:=
 jn (λ(_:Unit)=>
  (n0 ((decide ((a0.length:Int)≤10))==true) [] (a9l a0)).bind λv7=>
  (n0 ((decide ((a0.length:Int)≤10))==true) false (a85 v7)).bind λv8=>
  some ((decide ((a0.length:Int)≤10))&&v8)) (λκ5=>
  (lp (S:=Int) (E:=Bool ⊕ Unit) (λ(s10:Int)=>
   if ((decide (s10<(a0.length:Int)))&&(decide (s10<10))) then
    (ix a0 s10).bind λv12=>
    if (decide ((v12.length:Int) > 10)) then
     some (.inr (.inl false))
    else
    some (.inl (u9 (s10+1)))
   else
   some (.inr (.inr ()))) 0).bind λe9=>
  match e9 with
  | .inl w=>some w
  | .inr w=>κ5 w)
def a1d(a0:Int)(a1:Int):Option g8:=
 if ((((decide (a0<0))||(decide (a0 > 24)))||(decide (a1<0)))||(decide (a1 > 9))) then
  some (⟨[],0⟩:g8)
 else
 (mk 80 a0 (⟨0,0,⟨0,0,0,0,false,[]⟩⟩:b7)).bind λv1=>
 some (⟨v1,a1⟩:g8)
def a9c(a0:Int)(a1:Int):Option a7:=
 (a1d a0 a1).bind λv1=>
 some (⟨v1,0⟩:a7)
def b9Z(a0:Int):Option (List g5):=
 if ((decide (a0<0))||(decide (a0 > 6))) then
  some []
 else
 (mk 24 a0 (⟨0,false,0⟩:g5)).bind λv1=>
 jn (λ(j9:List g5)=>
  some j9) (λκ8=>
  (lp (S:=Int × (List g5)) (E:=(List g5)) (λ((s11,s12):Int × (List g5))=>
   if (decide (s11<(v1.length:Int))) then
    (ix s12 s11).bind λv15=>
    some (.inl (u9 (s11+1),(s12.set (s11).toNat (⟨v15.Target,v15.Intact,(-1)⟩:g5))))
   else
   some (.inr s12)) (0,v1)).bind λe10=>
  κ8 e10)
def b0V(a0:Int):Option (List c7):=
 if ((decide (a0<1))||(decide (a0 > 8))) then
  some []
 else
 (mk 24 a0 (⟨0,0,0⟩:c7)).bind λv1=>
 some v1
def a0H(a0:Int):Option c9:=
 some (⟨[],a0⟩:c9)
def b1J:Option c9:=
 (a0H 30).bind λv1=>
 some v1
def a7S(a0:Int)(a1:Int)(a2:Int):Option a8:=
 if ((((((decide (a0<1))||(decide (a0 > 24)))||(decide (a1<0)))||(decide (a1 > 9)))||(decide (a2<1)))||(decide (a2 > 8))) then
  some (⟨⟨⟨[],0⟩,0⟩,[],[],[],⟨[],0⟩⟩:a8)
 else
 (a9c a0 a1).bind λv1=>
 (mk 8 6 (0:Int)).bind λv2=>
 (b9Z 6).bind λv3=>
 (b0V a2).bind λv4=>
 (b1J).bind λv5=>
 some (⟨v1,v2,v3,v4,v5⟩:a8)
def Y3:Option j2:=
 some (⟨(some 307),0,5,6⟩:j2)
def Q9:Option j2:=
 some (⟨(some 310),(-1),5,13⟩:j2)
def J1(a0:List j2):Option (List j2):=
 some a0
def Y4:Option j2:=
 some (⟨(some 308),0,5,6⟩:j2)
def V3:Option j2:=
 some (⟨(some 310),0,3,5⟩:j2)
def V2:Option j2:=
 some (⟨(some 308),0,3,5⟩:j2)
def N7:Option j2:=
 some (⟨(some 310),(-1),5,6⟩:j2)
def Y1:Option j2:=
 some (⟨(some 307),0,5,7⟩:j2)
def N6:Option j2:=
 some (⟨(some 308),(-1),5,6⟩:j2)
def Y2:Option j2:=
 some (⟨(some 308),0,5,7⟩:j2)
def a6i:Option (List (Int × (List j2))):=
 (Y3).bind λv1=>
 (Q9).bind λv2=>
 (J1 [v1,(⟨(some 308),0,4,1⟩:j2),v2]).bind λv3=>
 (Y4).bind λv4=>
 (J1 [v1,v4]).bind λv5=>
 (J1 [v1]).bind λv6=>
 (V3).bind λv7=>
 (J1 [v1,v4,v7]).bind λv8=>
 (V2).bind λv9=>
 (N7).bind λv10=>
 (J1 [v1,v9,v10]).bind λv11=>
 (Y1).bind λv12=>
 (N6).bind λv13=>
 (J1 [v12,v13,v2]).bind λv14=>
 (Y2).bind λv15=>
 (J1 [v1,v15]).bind λv16=>
 (J1 [v1,v13]).bind λv17=>
 (J1 []).bind λv18=>
 (J1 [(⟨(some 307),0,200,12⟩:j2)]).bind λv19=>
 some (p6 (p6 (p6 (p6 (p6 (p6 (p6 (p6 (p6 (p6 (p6 (p6 [] 1 v3) 2 v5) 3 v6) 4 v8) 5 v11) 6 v14) 7 v16) 8 v17) 9 v5) 10 v5) 11 v18) 12 v19)
def a92(a0:j1):Option Int:=
 some a0.A
def a93(a0:j1):Option Int:=
 some a0.B
def a94(a0:j1):Option Int:=
 some a0.C
def b0P(f:Fv)(a0:j1):Option Int:=
 if f=some 307 then a92 a0 else
 if f=some 308 then a93 a0 else
 if f=some 310 then a94 a0 else
 none
def a3W(a0:j1):Option Int:=
 (a6i).bind λv1=>
 if (!((A9 v1 a0.Kind).isSome)) then
  some 14
 else
 jn (λ(_:Unit)=>
  some 0) (λκ8=>
  (lp (S:=Int) (E:=Int ⊕ Unit) (λ(s11:Int)=>
   if (decide (s11<(((A9 v1 a0.Kind).getD ([]:List j2)).length:Int))) then
    (ix ((A9 v1 a0.Kind).getD ([]:List j2)) s11).bind λv13=>
    (b0P v13.part a0).bind λv14=>
    if ((decide (v14<v13.least))||(decide (v14 > v13.most))) then
     some (.inr (.inl v13.e))
    else
    some (.inl (u9 (s11+1)))
   else
   some (.inr (.inr ()))) 0).bind λe10=>
  match e10 with
  | .inl w=>some w
  | .inr w=>κ8 w)
def a2I:Option (List (Int × Fv)):=
 some (p6 (p6 (p6 (p6 (p6 (p6 (p6 (p6 (p6 (p6 [] 1 (some 242)) 2 (some 243)) 3 (some 244)) 4 (some 245)) 5 (some 246)) 6 (some 247)) 7 (some 248)) 8 (some 249)) 9 (some 250)) 10 (some 251))
def b8s(a0:Int):Option ((List Int) × Int):=
 if ((decide (a0<0))||(decide (a0 > 4))) then
  some ([],1)
 else
 (mk 8 a0 (0:Int)).bind λv1=>
 some (v1,0)
def I7(a0:Int):Option Bool:=
 some ((decide (a0≥(-1)))&&(decide (a0<6)))
def N4(a0:g8):Option g8:=
 some a0
def x6(a0:List b7):Option (List b7):=
 app 80 [] a0
def C6(a0:g8)(a1:Int)(a2:b7):Option g8:=
 (x6 a0.Cells).bind λv1=>
 (ix v1 a1).bind λv2=>
 some (⟨(v1.set (a1).toNat a2),a0.Last⟩:g8)
def a0b(a0:Int)(a1:Int):Option Int:=
 if ((((decide (a0<0))||(decide (a0≥24)))||(decide (a1<0)))||(decide (a1 > 9))) then
  some 0
 else
 some (u9 ((u9 (1+(u9 (a0*1))))+(u9 (a1*32))))
def J0(a0:g8)(a1:k8):Option (g8 × Int × Int):=
 jn (λ(_:Unit)=>
  some (a0,0,4)) (λκ9=>
  (N4 a0).bind λv11=>
  (lp (S:=Int) (E:=(g8 × Int × Int) ⊕ Unit) (λ(s13:Int)=>
   if (decide (s13<(v11.Cells.length:Int))) then
    (ix v11.Cells s13).bind λv15=>
    if ((v15.State==0)==true) then
     (ix a0.Cells s13).bind λv16=>
     (C6 a0 s13 (⟨1,v16.Gen,a1⟩:b7)).bind λv17=>
     (a0b s13 v16.Gen).bind λv18=>
     some (.inr (.inl (v17,v18,0)))
    else
    some (.inl (u9 (s13+1)))
   else
   some (.inr (.inr ()))) 0).bind λe12=>
  match e12 with
  | .inl w=>some w
  | .inr w=>κ9 w)
def R6(a0:a7)(a1:Int)(a2:Int):Option (a7 × Int × Int):=
 (b8s a1).bind λv1=>
 if (v1.2 != 0) then
  some (a0,0,v1.2)
 else
 (I7 a2).bind λv2=>
 if (!v2) then
  some (a0,0,13)
 else
 (J0 a0.S (⟨u9 (a0.Serial+1),0,0,a2,false,v1.1⟩:k8)).bind λv3=>
 if (v3.2.2 != 0) then
  some (a0,0,v3.2.2)
 else
 some ((⟨v3.1,u9 (a0.Serial+1)⟩:a7),v3.2.1,0)
def a1C(a0:Int):Option (Int × Int × Bool):=
 if (decide (a0<1)) then
  some ((-1),(-1),false)
 else
 (rem (u9 (a0-1)) 32).bind λv1=>
 (quo .i64 v1 1).bind λv2=>
 (quo .i64 (u9 (a0-1)) 32).bind λv3=>
 if ((decide (v2≥24))||(decide (v3 > 9))) then
  some ((-1),(-1),false)
 else
 some (v2,v3,true)
def a2R(a0:Int):Option Int:=
 (a1C a0).bind λv1=>
 some v1.1
def a3Z(a0:Int):Option Int:=
 (a1C a0).bind λv1=>
 some v1.2.1
def u4(a0:g8)(a1:Int):Option (Int × Int):=
 if (a1==0) then
  some ((-1),2)
 else
 (a2R a1).bind λv1=>
 if ((decide (v1<0))||(decide (v1≥(a0.Cells.length:Int)))) then
  some ((-1),3)
 else
 (ix a0.Cells v1).bind λv2=>
 (a3Z a1).bind λv3=>
 if ((v2.Gen != v3)||((v2.State != 1)&&(v2.State != 2))) then
  some ((-1),3)
 else
 some (v1,0)
def D5(a0:g8)(a1:Int):Option (k8 × Int):=
 (u4 a0 a1).bind λv1=>
 if (v1.2 != 0) then
  some ((⟨0,0,0,0,false,[]⟩:k8),v1.2)
 else
 (ix a0.Cells v1.1).bind λv2=>
 if (v2.State==2) then
  some ((⟨0,0,0,0,false,[]⟩:k8),3)
 else
 some (v2.Val,0)
def x5(a0:a7)(a1:Int):Option (k8 × Int):=
 (D5 a0.S a1).bind λv1=>
 some (v1.1,v1.2)
def a0e(a0:a8)(a1:Int):Option Bool:=
 (x5 a0.S a1).bind λv1=>
 some (v1.2==0)
def H5(a0:a8)(a1:Int):Option Bool:=
 (n0 ((a1==0)==false) false (a0e a0 a1)).bind λv1=>
 some ((a1==0)||v1)
def F8(a0:Int):Option Bool:=
 some (decide (a0≥12))
def a3X(a0:Int):Option (Int × Int):=
 (F8 a0).bind λv1=>
 if v1 then
  some (12,0)
 else
 some (u9 ((if 0 > a0 then 0 else a0)+1),0)
def a8D(a0:Int):Option Int:=
 (a3X a0).bind λv1=>
 some v1.1
def K2(a0:g8)(a1:Int)(a2:k8):Option (g8 × Int):=
 (u4 a0 a1).bind λv1=>
 if (v1.2 != 0) then
  some (a0,v1.2)
 else
 (ix a0.Cells v1.1).bind λv2=>
 (C6 a0 v1.1 (⟨v2.State,v2.Gen,a2⟩:b7)).bind λv3=>
 some (v3,0)
def K3(a0:a7)(a1:Int)(a2:k8):Option (a7 × Int):=
 (K2 a0.S a1 a2).bind λv1=>
 some ((⟨v1.1,a0.Serial⟩:a7),v1.2)
def T5(a0:a8)(a1:Int):Option a8:=
 (x5 a0.S a1).bind λv1=>
 if (v1.2==0) then
  (a8D v1.1.Strong).bind λv2=>
  (K3 a0.S a1 (⟨v1.1.Serial,v2,v1.1.Weak,v1.1.Prog,v1.1.Started,v1.1.Fields⟩:k8)).bind λv3=>
  some (⟨v3.1,a0.Roots,a0.Cells,a0.T,a0.Q⟩:a8)
 else
 some a0
def a0c(a0:a8)(a1:Int):Option a8:=
 (T5 a0 a1).bind λv1=>
 some v1
def F2(a0:List Int):Option (List Int):=
 app 8 [] a0
def P2(a0:I0)(a1:a8):Option a8:=
 (F2 a1.Roots).bind λv1=>
 (ix v1 a0.r).bind λv2=>
 some (⟨a1.S,(v1.set (a0.r).toNat a0.h),a1.Cells,a1.T,a1.Q⟩:a8)
def a2c(a0:Int):Option (Int × Int):=
 (F8 a0).bind λv1=>
 if v1 then
  some (12,0)
 else
 if (decide (a0<1)) then
  some (0,11)
 else
 some (u9 (a0-1),0)
def b18(a0:Int):Option (Int × Int):=
 (a2c a0).bind λv1=>
 some (v1.1,v1.2)
def a1D(a0:Int):Option Int:=
 (b18 a0).bind λv1=>
 if (v1.2 != 0) then
  some a0
 else
 some v1.1
def M7(a0:a8)(a1:Int):Option a8:=
 (x5 a0.S a1).bind λv1=>
 if (v1.2==0) then
  (a1D v1.1.Strong).bind λv2=>
  (K3 a0.S a1 (⟨v1.1.Serial,v2,v1.1.Weak,v1.1.Prog,v1.1.Started,v1.1.Fields⟩:k8)).bind λv3=>
  some (⟨v3.1,a0.Roots,a0.Cells,a0.T,a0.Q⟩:a8)
 else
 some a0
def C5(a0:a8)(a1:Int):Option a8:=
 (M7 a0 a1).bind λv1=>
 some v1
def E7(a0:a8)(a1:Int)(a2:Int)(a3:I0):Option a8:=
 (a0c a0 a2).bind λv1=>
 (P2 a3 v1).bind λv2=>
 (C5 v2 a1).bind λv3=>
 some v3
def a0u(a0:a8)(a1:Int)(a2:Int):Option (a8 × Int):=
 if ((decide (a1<0))||(decide (a1≥(a0.Roots.length:Int)))) then
  some (a0,6)
 else
 (H5 a0 a2).bind λv1=>
 if (!v1) then
  some (a0,3)
 else
 (ix a0.Roots a1).bind λv2=>
 (E7 a0 v2 a2 (⟨a1,a2⟩:I0)).bind λv3=>
 some (v3,0)
def B1(a0:p8)(a1:Int)(a2:Int):Option (a8 × Int):=
 if (a2 != 0) then
  some (a0.x,a2)
 else
 (a0u a0.x a0.o.A a1).bind λv1=>
 some (v1.1,v1.2)
def R7(a0:p8):Option (a8 × Int):=
 (R6 a0.x.S a0.o.B a0.o.C).bind λv1=>
 if (v1.2.2 != 0) then
  some (a0.x,v1.2.2)
 else
 (B1 (⟨⟨v1.1,a0.x.Roots,a0.x.Cells,a0.x.T,a0.x.Q⟩,a0.o⟩:p8) v1.2.1 0).bind λv2=>
 some (v2.1,v2.2)
def L0(a0:a8)(a1:Int):Option Int:=
 if ((decide (a1<0))||(decide (a1≥(a0.Roots.length:Int)))) then
  some 0
 else
 (ix a0.Roots a1).bind λv1=>
 some v1
def I2(a0:p8):Option (a8 × Int):=
 (L0 a0.x a0.o.B).bind λv1=>
 (B1 a0 v1 0).bind λv2=>
 some (v2.1,v2.2)
def Z0(a0:p8):Option (a8 × Int):=
 (B1 a0 0 0).bind λv1=>
 some (v1.1,v1.2)
def L6(a0:a8)(a1:Int):Option (Int × Int):=
 (L0 a0 a1).bind λv1=>
 if (v1==0) then
  some (0,2)
 else
 some (v1,0)
def a60(a0:List Int)(a1:Int):Option Bool:=
 some ((decide (a1≥0))&&(decide (a1<(a0.length:Int))))
def b2L(a0:List Int)(a1:Int):Option (Int × Int):=
 (a60 a0 a1).bind λv1=>
 if (!v1) then
  some (0,5)
 else
 (ix a0 a1).bind λv2=>
 some (v2,0)
def a0n(a0:a7)(a1:Int)(a2:Int):Option (Int × Int):=
 (x5 a0 a1).bind λv1=>
 if (v1.2 != 0) then
  some (0,v1.2)
 else
 (b2L v1.1.Fields a2).bind λv2=>
 some (v2.1,v2.2)
def Z1(a0:p8):Option (a8 × Int):=
 (L6 a0.x a0.o.B).bind λv1=>
 if (v1.2 != 0) then
  some (a0.x,v1.2)
 else
 (a0n a0.x.S v1.1 a0.o.C).bind λv2=>
 (B1 a0 v2.1 v2.2).bind λv3=>
 some (v3.1,v3.2)
def b5j(a0:List Int)(a1:Int)(a2:Int):Option ((List Int) × Int):=
 (a60 a0 a1).bind λv1=>
 if (!v1) then
  some (a0,5)
 else
 (mk 8 (a0.length:Int) (0:Int)).bind λv2=>
 (cpy v2 a0).bind λv3=>
 (ix v3 a1).bind λv4=>
 some ((v3.set (a1).toNat a2),0)
def a9d(a0:a7)(a1:Int)(a2:Int)(a3:Int):Option (a7 × Int):=
 (x5 a0 a1).bind λv1=>
 if (v1.2 != 0) then
  some (a0,v1.2)
 else
 (b5j v1.1.Fields a2 a3).bind λv2=>
 if (v2.2 != 0) then
  some (a0,v2.2)
 else
 (K3 a0 a1 (⟨v1.1.Serial,v1.1.Strong,v1.1.Weak,v1.1.Prog,v1.1.Started,v2.1⟩:k8)).bind λv3=>
 some (v3.1,v3.2)
def a0G(a0:G3)(a1:a8):Option a8:=
 (a9d a1.S a0.h a0.k a0.v).bind λv1=>
 some (⟨v1.1,a1.Roots,a1.Cells,a1.T,a1.Q⟩:a8)
def I1(a0:a8)(a1:Int)(a2:Int)(a3:G3):Option a8:=
 (a0c a0 a2).bind λv1=>
 (a0G a3 v1).bind λv2=>
 (C5 v2 a1).bind λv3=>
 some v3
def a2e(a0:a8)(a1:Int)(a2:Int)(a3:Int):Option (a8 × Int):=
 (a0n a0.S a1 a2).bind λv1=>
 if (v1.2 != 0) then
  some (a0,v1.2)
 else
 (H5 a0 a3).bind λv2=>
 if (!v2) then
  some (a0,3)
 else
 (I1 a0 v1.1 a3 (⟨a1,a2,a3⟩:G3)).bind λv3=>
 some (v3,0)
def V7(a0:p8):Option (a8 × Int):=
 (L6 a0.x a0.o.A).bind λv1=>
 if (v1.2 != 0) then
  some (a0.x,v1.2)
 else
 (L0 a0.x a0.o.C).bind λv2=>
 (a2e a0.x v1.1 a0.o.B v2).bind λv3=>
 some (v3.1,v3.2)
def a9f(a0:c9)(a1:Int):Option (c9 × Int):=
 some (a0,a1)
def a4q(a0:c9)(a1:Int):Option Bool:=
 jn (λ(_:Unit)=>
  some false) (λκ6=>
  (a9f a0 2).bind λv8=>
  (lp (S:=Int) (E:=Bool ⊕ Unit) (λ(s10:Int)=>
   if (decide (s10<(v8.1.L.length:Int))) then
    (ix v8.1.L s10).bind λv12=>
    if ((v12.Kind==v8.2)==true) then
     if (v12.At==a1) then
      some (.inr (.inl true))
     else
     some (.inl (u9 (s10+1)))
    else
    some (.inl (u9 (s10+1)))
   else
   some (.inr (.inr ()))) 0).bind λe9=>
  match e9 with
  | .inl w=>some w
  | .inr w=>κ6 w)
def a51(a0:List g5)(a1:Int):Option Bool:=
 some ((decide (a1≥0))&&(decide (a1<(a0.length:Int))))
def a0p(a0:List g5):Option (List g5):=
 (mk 24 (a0.length:Int) (⟨0,false,0⟩:g5)).bind λv1=>
 (cpy v1 a0).bind λv2=>
 some v2
def b1T(a0:List g5)(a1:Int)(a2:Int)(a3:Int):Option ((List g5) × Int × Int):=
 (a51 a0 a1).bind λv1=>
 if (!v1) then
  some (a0,0,7)
 else
 (a0p a0).bind λv2=>
 (ix v2 a1).bind λv3=>
 (ix a0 a1).bind λv4=>
 some ((v2.set (a1).toNat (⟨a2,(a2 != 0),a3⟩:g5)),v4.Target,0)
def a1k(a0:a8)(a1:Int)(a2:Int):Option a8:=
 (u4 a0.S.S a1).bind λv1=>
 if (v1.2==0) then
  (ix a0.S.S.Cells v1.1).bind λv2=>
  (K3 a0.S a1 (⟨v2.Val.Serial,v2.Val.Strong,u9 (v2.Val.Weak+a2),v2.Val.Prog,v2.Val.Started,v2.Val.Fields⟩:k8)).bind λv3=>
  some (⟨v3.1,a0.Roots,a0.Cells,a0.T,a0.Q⟩:a8)
 else
 some a0
def N3(a0:g8)(a1:Int):Option (g8 × Int):=
 (u4 a0 a1).bind λv1=>
 if (v1.2 != 0) then
  some (a0,v1.2)
 else
 (ix a0.Cells v1.1).bind λv2=>
 if (v2.Gen==a0.Last) then
  (C6 a0 v1.1 (⟨3,v2.Gen,⟨0,0,0,0,false,[]⟩⟩:b7)).bind λv3=>
  some (v3,0)
 else
 (C6 a0 v1.1 (⟨0,u9 (v2.Gen+1),⟨0,0,0,0,false,[]⟩⟩:b7)).bind λv4=>
 some (v4,0)
def a2H(a0:a8)(a1:Int):Option a8:=
 (a1k a0 a1 (-1)).bind λv1=>
 (u4 v1.S.S a1).bind λv2=>
 if (v2.2 != 0) then
  some v1
 else
 (ix v1.S.S.Cells v2.1).bind λv3=>
 if ((v3.State==2)&&(v3.Val.Weak==0)) then
  (N3 v1.S.S a1).bind λv4=>
  some (⟨⟨v4.1,v1.S.Serial⟩,v1.Roots,v1.Cells,v1.T,v1.Q⟩:a8)
 else
 some v1
def a0v(a0:a8)(a1:Int)(a2:Int)(a3:Int):Option (a8 × Int):=
 (n0 (((decide (a1<0))||(decide (a1≥(a0.Cells.length:Int))))==false) false (a4q a0.Q a1)).bind λv1=>
 if (((decide (a1<0))||(decide (a1≥(a0.Cells.length:Int))))||v1) then
  some (a0,7)
 else
 (H5 a0 a2).bind λv2=>
 if (!v2) then
  some (a0,3)
 else
 (b1T a0.Cells a1 a2 a3).bind λv3=>
 (a1k (⟨a0.S,a0.Roots,v3.1,a0.T,a0.Q⟩:a8) a2 1).bind λv4=>
 (a2H v4 v3.2.1).bind λv5=>
 some (v5,0)
def R8(a0:p8):Option (a8 × Int):=
 if (a0.o.B==(-1)) then
  (a0v a0.x a0.o.A 0 a0.o.C).bind λv1=>
  some (v1.1,v1.2)
 else
 (L6 a0.x a0.o.B).bind λv2=>
 if (v2.2 != 0) then
  some (a0.x,v2.2)
 else
 (a0v a0.x a0.o.A v2.1 a0.o.C).bind λv3=>
 some (v3.1,v3.2)
def a5Z(a0:List g5)(a1:Int):Option (Int × Int):=
 (a51 a0 a1).bind λv1=>
 if (!v1) then
  some (0,7)
 else
 (ix a0 a1).bind λv2=>
 if ((v2.Target==0)||(!v2.Intact)) then
  some (0,9)
 else
 some (v2.Target,0)
def W2(a0:p8):Option (a8 × Int):=
 (a5Z a0.x.Cells a0.o.B).bind λv1=>
 (B1 a0 v1.1 v1.2).bind λv2=>
 some (v2.1,v2.2)
def a3M(a0:Int)(a1:Int):Option (Int × Int):=
 some (a0,a1)
def a0t(a0:Int)(a1:Int):Option Int:=
 if (decide (a0<1)) then
  some 0
 else
 (rem (u9 ((u9 (5*a1))+1)) a0).bind λv1=>
 if (decide (v1<0)) then
  some (u9 (v1+a0))
 else
 some v1
def M2(a0:List c7)(a1:Int):Option Int:=
 jn (λ(_:Unit)=>
  some (-1)) (λκ8=>
  (a3M (a0.length:Int) a1).bind λv10=>
  (lp (S:=Int) (E:=Int ⊕ Unit) (λ(s12:Int)=>
   if (decide (s12<v10.1)) then
    (a0t v10.1 v10.2).bind λv14=>
    (rem (u9 (v14+s12)) v10.1).bind λv15=>
    (ix a0 v15).bind λv16=>
    if (v16.State==0) then
     some (.inr (.inr ()))
    else
    if ((v16.State==1)&&(v16.Key==a1)) then
     some (.inr (.inl v15))
    else
    some (.inl (u9 (s12+1)))
   else
   some (.inr (.inr ()))) 0).bind λe11=>
  match e11 with
  | .inl w=>some w
  | .inr w=>κ8 w)
def L4(a0:List c7)(a1:Int):Option (Int × Int):=
 (M2 a0 a1).bind λv1=>
 if (decide (v1<0)) then
  some (0,9)
 else
 (ix a0 v1).bind λv2=>
 some (v2.Val,0)
def D6(a0:List c7):Option (List c7):=
 app 24 [] a0
def a1j(a0:List c7)(a1:Int)(a2:c7):Option (List c7):=
 (D6 a0).bind λv1=>
 (ix v1 a1).bind λv2=>
 some (v1.set (a1).toNat a2)
def W8(a0:List c7)(a1:Int):Option ((List c7) × Int × Int):=
 (M2 a0 a1).bind λv1=>
 if (decide (v1<0)) then
  some (a0,0,9)
 else
 (a1j a0 v1 (⟨2,0,0⟩:c7)).bind λv2=>
 (ix a0 v1).bind λv3=>
 some (v2,v3.Val,0)
def a7Q(a0:List c7)(a1:Int)(a2:Int):Option ((List c7) × Int):=
 (M2 a0 a1).bind λv1=>
 if (decide (v1≥0)) then
  (a1j a0 v1 (⟨1,a1,a2⟩:c7)).bind λv2=>
  some (v2,0)
 else
 jn (λ(_:Unit)=>
  some (a0,8)) (λκ11=>
  (a3M (a0.length:Int) a1).bind λv13=>
  (lp (S:=Int) (E:=((List c7) × Int) ⊕ Unit) (λ(s15:Int)=>
   if (decide (s15<v13.1)) then
    (a0t v13.1 v13.2).bind λv17=>
    (rem (u9 (v17+s15)) v13.1).bind λv18=>
    (ix a0 v18).bind λv19=>
    if (v19.State != 1) then
     (a1j a0 v18 (⟨1,a1,a2⟩:c7)).bind λv20=>
     some (.inr (.inl (v20,0)))
    else
    some (.inl (u9 (s15+1)))
   else
   some (.inr (.inr ()))) 0).bind λe14=>
  match e14 with
  | .inl w=>some w
  | .inr w=>κ11 w)
def W6(a0:List c7)(a1:Int)(a2:Int):Option ((List c7) × Int × Int):=
 if (a1==0) then
  some (a0,0,2)
 else
 (L4 a0 a1).bind λv1=>
 if (a2==0) then
  (W8 a0 a1).bind λv2=>
  some (v2.1,v1.1,0)
 else
 (a7Q a0 a1 a2).bind λv3=>
 if (v3.2 != 0) then
  some (a0,0,v3.2)
 else
 some (v3.1,v1.1,0)
def V5(a0:H9)(a1:a8):Option a8:=
 some (⟨a1.S,a1.Roots,a1.Cells,a0.t,a1.Q⟩:a8)
def J3(a0:a8)(a1:Int)(a2:Int)(a3:H9):Option a8:=
 (a0c a0 a2).bind λv1=>
 (V5 a3 v1).bind λv2=>
 (C5 v2 a1).bind λv3=>
 some v3
def a3N(a0:a8)(a1:Int)(a2:Int):Option (a8 × Int):=
 if (a1==0) then
  some (a0,2)
 else
 (H5 a0 a1).bind λv1=>
 (n0 ((!v1)==false) false (H5 a0 a2)).bind λv2=>
 if ((!v1)||(!v2)) then
  some (a0,3)
 else
 (W6 a0.T a1 a2).bind λv3=>
 if (v3.2.2 != 0) then
  some (a0,v3.2.2)
 else
 (J3 a0 v3.2.1 a2 (⟨v3.1⟩:H9)).bind λv4=>
 some (v4,0)
def Z2(a0:p8):Option (a8 × Int):=
 (L6 a0.x a0.o.A).bind λv1=>
 if (v1.2 != 0) then
  some (a0.x,v1.2)
 else
 (L0 a0.x a0.o.B).bind λv2=>
 (a3N a0.x v1.1 v2).bind λv3=>
 some (v3.1,v3.2)
def b2a(a0:List c7)(a1:Int):Option (Int × Int):=
 (L4 a0 a1).bind λv1=>
 some (v1.1,v1.2)
def a0w(a0:p8):Option (a8 × Int):=
 (L6 a0.x a0.o.B).bind λv1=>
 if (v1.2 != 0) then
  some (a0.x,v1.2)
 else
 (b2a a0.x.T v1.1).bind λv2=>
 (B1 a0 v2.1 v2.2).bind λv3=>
 some (v3.1,v3.2)
def P4(a0:p8):Option (a8 × Int):=
 some (a0.x,0)
def b3s(f:Fv)(a0:p8):Option (a8 × Int):=
 if f=some 242 then R7 a0 else
 if f=some 243 then I2 a0 else
 if f=some 244 then Z0 a0 else
 if f=some 245 then Z1 a0 else
 if f=some 246 then V7 a0 else
 if f=some 247 then R8 a0 else
 if f=some 248 then W2 a0 else
 if f=some 249 then Z2 a0 else
 if f=some 250 then a0w a0 else
 if f=some 251 then P4 a0 else
 none
def a0N(a0:Int):Option Bool:=
 some (a0 != a0)
def a3g(a0:Int)(a1:Int):Option Int:=
 (a0N a0).bind λv1=>
 (a0N a1).bind λv2=>
 if v1 then
  if v2 then
   some 0
  else
  some (-1)
 else
 if v2 then
  some 1
 else
 if (decide (a0<a1)) then
  some (-1)
 else
 if (decide (a0 > a1)) then
  some 1
 else
 some 0
def a3I(a0:Int)(a1:Int)(a2:List (Int × Int)):Option Int:=
 (a3g ((A9 a2 a0).getD (0:Int)) ((A9 a2 a1).getD (0:Int))).bind λv1=>
 some v1
def I5(a0:a7):Option (List Int):=
 jn (λ((j18,j19):(List (Int × Int)) × (List Int))=>
  (b2G (λp q=>a3I p q j18) j19).bind λv21=>
  some v21) (λκ17=>
  (lp (S:=Int × (List (Int × Int)) × (List Int)) (E:=((List (Int × Int)) × (List Int))) (λ((s23,s24,s25):Int × (List (Int × Int)) × (List Int))=>
   if (decide (s23<(a0.S.Cells.length:Int))) then
    jn (λ((j32,j33):(List (Int × Int)) × (List Int))=>
     some (.inl (u9 (s23+1),j32,j33))) (λκ31=>
     (ix a0.S.Cells s23).bind λv35=>
     if (v35.State==1) then
      (a0b s23 v35.Gen).bind λv36=>
      (app 8 s25 [v36]).bind λv37=>
      κ31 ((p6 s24 v36 v35.Val.Serial),v37)
     else
     κ31 (s24,s25))
   else
   some (.inr (s24,s25))) (0,[],[])).bind λe22=>
  κ17 e22)
def a1p(a0:a8):Option (List Int):=
 jn (λ(j16:List Int)=>
  some j16) (λκ15=>
  (I5 a0.S).bind λv17=>
  (lp (S:=Int × (List Int)) (E:=(List Int)) (λ((s19,s20):Int × (List Int))=>
   if (decide (s19<(v17.length:Int))) then
    jn (λ(j27:List Int)=>
     some (.inl (u9 (s19+1),j27))) (λκ26=>
     (ix v17 s19).bind λv28=>
     (x5 a0.S v28).bind λv29=>
     if (v29.1.Strong==0) then
      (app 8 s20 [v28]).bind λv30=>
      κ26 v30
     else
     κ26 s20)
   else
   some (.inr s20)) (0,[])).bind λe18=>
  κ15 e18)
def L7(a0:k8):Option Bool:=
 some ((decide (a0.Prog≥0))&&(!a0.Started))
def I9(a0:c9):Option Int:=
 some (a0.L.length:Int)
def E9(a0:List c8)(a1:Int)(a2:Int):Option (List c8):=
 (cut a0 a1 a2).bind λv1=>
 some v1
def Q4(a0:c9)(a1:c8):Option (c9 × Int):=
 (I9 a0).bind λv1=>
 if (decide (v1≥a0.Cap)) then
  some (a0,4)
 else
 (E9 a0.L 0 v1).bind λv2=>
 (app 24 v2 [a1]).bind λv3=>
 some ((⟨v3,a0.Cap⟩:c9),0)
def a8s(a0:c9)(a1:c8):Option (c9 × Int):=
 (Q4 a0 a1).bind λv1=>
 some (v1.1,v1.2)
def X6(a0:a8)(a1:Int):Option a8:=
 (x5 a0.S a1).bind λv1=>
 (n0 ((v1.2 != 0)==false) false (L7 v1.1)).bind λv2=>
 if ((v1.2 != 0)||(!v2)) then
  some a0
 else
 (K3 a0.S a1 (⟨v1.1.Serial,v1.1.Strong,v1.1.Weak,v1.1.Prog,true,v1.1.Fields⟩:k8)).bind λv3=>
 (a8s a0.Q (⟨1,a1,v1.1.Prog⟩:c8)).bind λv4=>
 (a0c (⟨v3.1,a0.Roots,a0.Cells,a0.T,v4.1⟩:a8) a1).bind λv5=>
 some v5
def U0(a0:a8)(a1:List Int):Option (List Int):=
 jn (λ(j18:List Int)=>
  some j18) (λκ17=>
  (lp (S:=Int × (List (Int × Bool)) × (List Int)) (E:=(List Int)) (λ((s20,s21,s22):Int × (List (Int × Bool)) × (List Int))=>
   if (decide (s20<(a1.length:Int))) then
    jn (λ((j29,j30):(List Int) × (List (Int × Bool)))=>
     some (.inl (u9 (s20+1),j30,j29))) (λκ28=>
     (ix a1 s20).bind λv32=>
     (x5 a0.S v32).bind λv33=>
     if ((v33.2==0)==true) then
      if (!((A9 s21 v32).getD (false:Bool))) then
       (app 8 s22 [v32]).bind λv34=>
       κ28 (v34,(p6 s21 v32 true))
      else
      κ28 (s22,s21)
     else
     κ28 (s22,s21))
   else
   some (.inr s22)) (0,[],[])).bind λe19=>
  κ17 e19)
def Q5(a0:List Int)(a1:Int):Option Int:=
 jn (λ(_:Unit)=>
  some (-1)) (λκ5=>
  (lp (S:=Int) (E:=Int ⊕ Unit) (λ(s8:Int)=>
   if (decide (s8<(a0.length:Int))) then
    (ix a0 s8).bind λv10=>
    if (a1==v10) then
     some (.inr (.inl s8))
    else
    some (.inl (u9 (s8+1)))
   else
   some (.inr (.inr ()))) 0).bind λe7=>
  match e7 with
  | .inl w=>some w
  | .inr w=>κ5 w)
def M5(a0:List Int)(a1:Int):Option Bool:=
 (Q5 a0 a1).bind λv1=>
 some (decide (v1≥0))
def a0B(a0:g5)(a1:List Int):Option Bool:=
 (n0 ((a0.Intact&&(a0.Target != 0))==true) false (M5 a1 a0.Target)).bind λv1=>
 some ((a0.Intact&&(a0.Target != 0))&&v1)
def J6(a0:List g5)(a1:List Int):Option (List Int):=
 jn (λ(j15:List Int)=>
  some j15) (λκ14=>
  (lp (S:=Int × (List Int)) (E:=(List Int)) (λ((s17,s18):Int × (List Int))=>
   if (decide (s17<(a0.length:Int))) then
    jn (λ(j25:List Int)=>
     some (.inl (u9 (s17+1),j25))) (λκ24=>
     (ix a0 s17).bind λv26=>
     (a0B v26 a1).bind λv27=>
     if v27 then
      (app 8 s18 [s17]).bind λv28=>
      κ24 v28
     else
     κ24 s18)
   else
   some (.inr s18)) (0,[])).bind λe16=>
  κ14 e16)
def a4v(a0:List g5)(a1:List Int):Option ((List g5) × (List Int)):=
 (J6 a0 a1).bind λv1=>
 (a0p a0).bind λv2=>
 jn (λ((j22,j23):(List Int) × (List g5))=>
  some (j23,j22)) (λκ21=>
  (lp (S:=Int × (List g5) × (List Int)) (E:=((List Int) × (List g5))) (λ((s26,s27,s28):Int × (List g5) × (List Int))=>
   if (decide (s26<(v1.length:Int))) then
    jn (λ((j36,j37):(List Int) × (List g5))=>
     some (.inl (u9 (s26+1),j37,j36))) (λκ35=>
     (ix v1 s26).bind λv39=>
     (ix s27 v39).bind λv40=>
     (ix (s27.set (v39).toNat (⟨v40.Target,false,v40.Call⟩:g5)) v39).bind λv41=>
     if (decide (v41.Call≥0)) then
      (app 8 s28 [v39]).bind λv42=>
      κ35 (v42,(s27.set (v39).toNat (⟨v40.Target,false,v40.Call⟩:g5)))
     else
     κ35 (s28,(s27.set (v39).toNat (⟨v40.Target,false,v40.Call⟩:g5))))
   else
   some (.inr (s28,s27))) (0,v2,[])).bind λe25=>
  κ21 e25)
def a1T(a0:a8)(a1:List Int):Option a8:=
 (a4v a0.Cells a1).bind λv1=>
 jn (λ(j11:c9)=>
  some (⟨a0.S,a0.Roots,v1.1,a0.T,j11⟩:a8)) (λκ10=>
  (lp (S:=Int × c9) (E:=c9) (λ((s13,s14):Int × c9)=>
   if (decide (s13<(v1.2.length:Int))) then
    (ix v1.2 s13).bind λv17=>
    (ix v1.1 v17).bind λv18=>
    (a8s s14 (⟨2,v17,v18.Call⟩:c8)).bind λv19=>
    some (.inl (u9 (s13+1),v19.1))
   else
   some (.inr s14)) (0,a0.Q)).bind λe12=>
  κ10 e12)
def a3T(a0:List Int):Option (List Int):=
 some a0
def a3S(a0:List Int):Option (List Int):=
 jn (λ(j10:List Int)=>
  some j10) (λκ9=>
  (a3T a0).bind λv11=>
  (lp (S:=Int × (List Int)) (E:=(List Int)) (λ((s13,s14):Int × (List Int))=>
   if (decide (s13<(v11.length:Int))) then
    (ix v11 s13).bind λv17=>
    if ((v17 != 0)==true) then
     (app 8 s14 [v17]).bind λv18=>
     some (.inl (u9 (s13+1),v18))
    else
    some (.inl (u9 (s13+1),s14))
   else
   some (.inr s14)) (0,[])).bind λe12=>
  κ9 e12)
def W7(a0:List c7)(a1:List Int):Option ((List c7) × (List Int)):=
 jn (λ((j18,j19):(List c7) × (List Int))=>
  some (j18,j19)) (λκ17=>
  (lp (S:=(List c7) × Int × (List Int)) (E:=((List c7) × (List Int))) (λ((s22,s23,s24):(List c7) × Int × (List Int))=>
   if (decide (s23<(a1.length:Int))) then
    jn (λ((j31,j32):(List c7) × (List Int))=>
     some (.inl (j31,u9 (s23+1),j32))) (λκ30=>
     (ix a1 s23).bind λv34=>
     (W8 s22 v34).bind λv35=>
     if (v35.2.2==0) then
      (app 8 s24 [v35.2.1]).bind λv36=>
      κ30 (v35.1,v36)
     else
     κ30 (s22,s24))
   else
   some (.inr (s22,s24))) (a0,0,[])).bind λe21=>
  κ17 e21)
def R9(a0:g8)(a1:Int):Option (g8 × Int):=
 (D5 a0 a1).bind λv1=>
 if (v1.2 != 0) then
  some (a0,v1.2)
 else
 (a2R a1).bind λv2=>
 (a3Z a1).bind λv3=>
 (C6 a0 v2 (⟨2,v3,v1.1⟩:b7)).bind λv4=>
 some (v4,0)
def X7(a0:a8)(a1:Int):Option a8:=
 (x5 a0.S a1).bind λv1=>
 (K3 a0.S a1 (⟨v1.1.Serial,0,v1.1.Weak,v1.1.Prog,v1.1.Started,[]⟩:k8)).bind λv2=>
 (R9 v2.1.S a1).bind λv3=>
 if (v1.1.Weak==0) then
  (N3 v3.1 a1).bind λv4=>
  some (⟨⟨v4.1,v2.1.Serial⟩,a0.Roots,a0.Cells,a0.T,a0.Q⟩:a8)
 else
 some (⟨⟨v3.1,v2.1.Serial⟩,a0.Roots,a0.Cells,a0.T,a0.Q⟩:a8)
def a1o(a0:a8)(a1:List Int):Option a8:=
 (U0 a0 a1).bind λv1=>
 (a1T a0 v1).bind λv2=>
 jn (λ(j13:List Int)=>
  (W7 v2.T v1).bind λv14=>
  (app 8 j13 v14.2).bind λv15=>
  jn (λ(j24:a8)=>
   jn (λ(j33:a8)=>
    some j33) (λκ32=>
    (lp (S:=Int × a8) (E:=a8) (λ((s35,s36):Int × a8)=>
     if (decide (s35<(v15.length:Int))) then
      (ix v15 s35).bind λv39=>
      (C5 s36 v39).bind λv40=>
      some (.inl (u9 (s35+1),v40))
     else
     some (.inr s36)) (0,j24)).bind λe34=>
    κ32 e34)) (λκ23=>
   (lp (S:=Int × a8) (E:=a8) (λ((s42,s43):Int × a8)=>
    if (decide (s42<(v1.length:Int))) then
     (ix v1 s42).bind λv46=>
     (X7 s43 v46).bind λv47=>
     some (.inl (u9 (s42+1),v47))
    else
    some (.inr s43)) (0,(⟨v2.S,v2.Roots,v2.Cells,v14.1,v2.Q⟩:a8))).bind λe41=>
   κ23 e41)) (λκ12=>
  (lp (S:=Int × (List Int)) (E:=(List Int)) (λ((s49,s50):Int × (List Int))=>
   if (decide (s49<(v1.length:Int))) then
    (ix v1 s49).bind λv53=>
    (x5 v2.S v53).bind λv54=>
    (a3S v54.1.Fields).bind λv55=>
    (app 8 s50 v55).bind λv56=>
    some (.inl (u9 (s49+1),v56))
   else
   some (.inr s50)) (0,[])).bind λe48=>
  κ12 e48)
def R5(a0:a8):Option a8:=
 (lp (S:=a8) (E:=a8) (λ(s2:a8)=>
  (a1p s2).bind λv4=>
  if ((v4.length:Int)==0) then
   some (.inr s2)
  else
  (ix v4 0).bind λv5=>
  (x5 s2.S v5).bind λv6=>
  (L7 v6.1).bind λv7=>
  if v7 then
   (X6 s2 v5).bind λv8=>
   some (.inl v8)
  else
  (cut v4 0 1).bind λv9=>
  (a1o s2 v9).bind λv10=>
  some (.inl v10)) a0).bind λe1=>
 some e1
def a1L(a0:a8)(a1:Int):Option Int:=
 (x5 a0.S a1).bind λv1=>
 some v1.1.Serial
def V6(a0:a8)(a1:Int):Option Int:=
 (L0 a0 a1).bind λv1=>
 (a1L a0 v1).bind λv2=>
 some v2
def T6(a0:a8)(a1:a8)(a2:j1):Option Int:=
 if (a2.Kind==5) then
  (V6 a0 a2.C).bind λv1=>
  some v1
 else
 jn (λ(j3:Bool)=>
  if j3 then
   (V6 a0 a2.B).bind λv4=>
   some v4
  else
  if (a2.Kind==10) then
   (L0 a0 a2.A).bind λv5=>
   (L0 a0 a2.B).bind λv6=>
   if (v5==v6) then
    some 1
   else
   some 0
  else
  (V6 a1 a2.A).bind λv7=>
  some v7) (λκ2=>
  if (a2.Kind==6) then
   κ2 (a2.Kind==6)
  else
  κ2 (a2.Kind==8))
def u7(a0:a8)(a1:j1):Option (a8 × Int × Int):=
 (a3W a1).bind λv1=>
 if (v1 != 0) then
  some (a0,0,v1)
 else
 (a2I).bind λv2=>
 if (!((A9 v2 a1.Kind).isSome)) then
  some (a0,0,14)
 else
 (b3s ((A9 v2 a1.Kind).getD (none:Fv)) (⟨a0,a1⟩:p8)).bind λv3=>
 if (v3.2 != 0) then
  some (a0,0,v3.2)
 else
 (R5 v3.1).bind λv5=>
 (T6 v3.1 v5 a1).bind λv6=>
 some (v5,v6,0)
def a0g(a0:a8)(a1:List j1):Option (a8 × (List Int)):=
 jn (λ((j11,j12):a8 × (List Int))=>
  some (j11,j12)) (λκ10=>
  (lp (S:=Int × a8 × (List Int)) (E:=(a8 × (List Int))) (λ((s15,s16,s17):Int × a8 × (List Int))=>
   if (decide (s15<(a1.length:Int))) then
    (ix a1 s15).bind λv20=>
    (u7 s16 v20).bind λv21=>
    (app 8 s17 [v21.2.1]).bind λv22=>
    some (.inl (u9 (s15+1),v21.1,v22))
   else
   some (.inr (s16,s17))) (0,a0,[])).bind λe14=>
  κ10 e14)
def Y7(a0:c9)(a1:Int):Option (c9 × (List c8)):=
 (I9 a0).bind λv1=>
 (E9 a0.L 0 (if (if v1<a1 then v1 else a1) > 0 then (if v1<a1 then v1 else a1) else 0)).bind λv2=>
 (E9 a0.L (if (if v1<a1 then v1 else a1) > 0 then (if v1<a1 then v1 else a1) else 0) v1).bind λv3=>
 some ((⟨v3,a0.Cap⟩:c9),v2)
def a0I(a0:c9):Option (c9 × c8 × Int):=
 (Y7 a0 1).bind λv1=>
 if ((v1.2.length:Int)==0) then
  some (a0,(⟨0,0,0⟩:c8),10)
 else
 (ix v1.2 0).bind λv2=>
 some (v1.1,v2,0)
def a1r(a0:c9):Option (c9 × c8 × Int):=
 (a0I a0).bind λv1=>
 some (v1.1,v1.2.1,v1.2.2)
def U8(a0:a8):Option Bool:=
 (a1r a0.Q).bind λv1=>
 some (v1.2.2 != 0)
def a3Y(a0:List (List j1))(a1:Int):Option (List j1):=
 if ((decide (a1<0))||(decide (a1≥(a0.length:Int)))) then
  some []
 else
 (ix a0 a1).bind λv1=>
 some v1
def a2d(a0:List (List j1))(a1:c8):Option Int:=
 (a3Y a0 a1.Prog).bind λv1=>
 some (u9 (1+(v1.length:Int)))
def P1(a0:a8)(a1:List (List j1)):Option (a8 × c8 × Int):=
 (a1r a0.Q).bind λv1=>
 if (v1.2.2 != 0) then
  some (a0,(⟨0,0,0⟩:c8),v1.2.2)
 else
 jn (λ(j6:a8)=>
  (a3Y a1 v1.2.1.Prog).bind λv7=>
  (a0g j6 v7).bind λv8=>
  if (v1.2.1.Kind==1) then
   (a0u v8.1 5 0).bind λv9=>
   (R5 v9.1).bind λv10=>
   some (v10,v1.2.1,0)
  else
  some (v8.1,v1.2.1,0)) (λκ5=>
  if (v1.2.1.Kind==1) then
   (a0u (⟨a0.S,a0.Roots,a0.Cells,a0.T,v1.1⟩:a8) 5 v1.2.1.At).bind λv11=>
   (C5 v11.1 v1.2.1.At).bind λv12=>
   (R5 v12).bind λv13=>
   κ5 v13
  else
  κ5 (⟨a0.S,a0.Roots,a0.Cells,a0.T,v1.1⟩:a8))
def G6(a0:a8)(a1:List (List j1))(a2:Int):Option (a8 × Int × Int × Int):=
 jn (λ((j14,j15,j16):Int × Int × a8)=>
  (U8 j16).bind λv18=>
  if (!v18) then
   some (j16,j14,j15,12)
  else
  some (j16,j14,j15,0)) (λκ13=>
  (lp (S:=Int × a8 × Int × Int × a8) (E:=(Int × Int × a8)) (λ((s20,s21,s22,s23,s24):Int × a8 × Int × Int × a8)=>
   (U8 s21).bind λv27=>
   if (!v27) then
    (a1r s21.Q).bind λv28=>
    (a2d a1 v28.2.1).bind λv29=>
    if (decide (v29 > s20)) then
     some (.inr (s22,s23,s24))
    else
    (P1 s21 a1).bind λv30=>
    some (.inl (u9 (s20-v29),v30.1,u9 (s22+1),u9 (s20-v29),v30.1))
   else
   some (.inr (s22,s23,s24))) (a2,a0,0,a2,a0)).bind λe19=>
  κ13 e19)
def a42:Option (List B9):=
 some [(⟨(some 338)⟩:B9),(⟨(some 339)⟩:B9),(⟨(some 340)⟩:B9),(⟨(some 341)⟩:B9)]
def W5(a0:a7)(a1:b7):Option Bool:=
 some ((decide (a1.State≥0))&&(decide (a1.State≤3)))
def L9(a0:a7)(a1:b7):Option Bool:=
 some ((decide (a1.Gen≥0))&&(decide (a1.Gen≤a0.S.Last)))
def I6(a0:b7):Option Bool:=
 some ((a0.State==1)||(a0.State==2))
def U1(a0:a7)(a1:b7):Option Bool:=
 (I6 a1).bind λv1=>
 (n0 (((!v1)==false)&&(((((decide (a1.Val.Serial≥1))&&(decide (a1.Val.Serial≤a0.Serial)))&&(decide (a1.Val.Strong≥0)))&&(decide (a1.Val.Weak≥0)))==true)) false (I7 a1.Val.Prog)).bind λv2=>
 some ((!v1)||((((((decide (a1.Val.Serial≥1))&&(decide (a1.Val.Serial≤a0.Serial)))&&(decide (a1.Val.Strong≥0)))&&(decide (a1.Val.Weak≥0)))&&v2)&&(decide ((a1.Val.Fields.length:Int)≤4))))
def N5(a0:a7)(a1:b7):Option Bool:=
 (I6 a1).bind λv1=>
 some (v1||((((a1.Val.Serial==0)&&((a1.Val.Strong==0)&&((a1.Val.Weak==0)&&((a1.Val.Prog==0)&&true))))&&(!a1.Val.Started))&&((a1.Val.Fields.length:Int)==0)))
def b3t(f:Fv)(a0:a7)(a1:b7):Option Bool:=
 if f=some 338 then W5 a0 a1 else
 if f=some 339 then L9 a0 a1 else
 if f=some 340 then U1 a0 a1 else
 if f=some 341 then N5 a0 a1 else
 none
def S0(a0:a7):Option Bool:=
 jn (λ(_:Unit)=>
  some true) (λκ12=>
  (lp (S:=Int × (List (Int × Bool))) (E:=Bool ⊕ Unit) (λ((s15,s16):Int × (List (Int × Bool)))=>
   if (decide (s15<(a0.S.Cells.length:Int))) then
    jn (λ(j22:List (Int × Bool))=>
     some (.inl (u9 (s15+1),j22))) (λκ21=>
     (ix a0.S.Cells s15).bind λv23=>
     (I6 v23).bind λv24=>
     if (!v24) then
      κ21 s16
     else
     if ((A9 s16 v23.Val.Serial).getD (false:Bool)) then
      some (.inr (.inl false))
     else
     κ21 (p6 s16 v23.Val.Serial true))
   else
   some (.inr (.inr ()))) (0,[])).bind λe14=>
  match e14 with
  | .inl w=>some w
  | .inr w=>κ12 w)
def a27(a0:a7):Option Bool:=
 if ((((decide ((a0.S.Cells.length:Int) > 24))||(decide (a0.S.Last<0)))||(decide (a0.S.Last > 9)))||(decide (a0.Serial<0))) then
  some false
 else
 jn (λ(_:Unit)=>
  (S0 a0).bind λv24=>
  some v24) (λκ22=>
  (lp (S:=Int) (E:=Bool ⊕ Unit) (λ(s26:Int)=>
   if (decide (s26<(a0.S.Cells.length:Int))) then
    jn (λ(_:Unit)=>
     some (.inl (u9 (s26+1)))) (λκ36=>
     (ix a0.S.Cells s26).bind λv38=>
     (a42).bind λv39=>
     (lp (S:=Int) (E:=Bool ⊕ Unit) (λ(s41:Int)=>
      if (decide (s41<(v39.length:Int))) then
       (ix v39 s41).bind λv43=>
       (b3t v43.kept a0 v38).bind λv44=>
       if (!v44) then
        some (.inr (.inl false))
       else
       some (.inl (u9 (s41+1)))
      else
      some (.inr (.inr ()))) 0).bind λe40=>
     match e40 with
     | .inl w=>some (.inr (.inl w))
     | .inr w=>κ36 w)
   else
   some (.inr (.inr ()))) 0).bind λe25=>
  match e25 with
  | .inl w=>some w
  | .inr w=>κ22 w)
def a6m(a0:List c7):Option Bool:=
 if ((decide ((a0.length:Int)<1))||(decide ((a0.length:Int) > 8))) then
  some false
 else
 jn (λ(_:Unit)=>
  some true) (λκ6=>
  (lp (S:=Int) (E:=Bool ⊕ Unit) (λ(s9:Int)=>
   if (decide (s9<(a0.length:Int))) then
    (ix a0 s9).bind λv11=>
    (n0 (((!(((v11.State==0)&&((v11.Key==0)&&((v11.Val==0)&&true)))||((v11.State==2)&&((v11.Key==0)&&((v11.Val==0)&&true)))))==true)&&((v11.State != 1)==false)) 0 (M2 a0 v11.Key)).bind λv12=>
    if ((!(((v11.State==0)&&((v11.Key==0)&&((v11.Val==0)&&true)))||((v11.State==2)&&((v11.Key==0)&&((v11.Val==0)&&true)))))&&((v11.State != 1)||(v12 != s9))) then
     some (.inr (.inl false))
    else
    some (.inl (u9 (s9+1)))
   else
   some (.inr (.inr ()))) 0).bind λe8=>
  match e8 with
  | .inl w=>some w
  | .inr w=>κ6 w)
def a1H(a0:a8):Option Bool:=
 (b1J).bind λv1=>
 (a27 a0.S).bind λv2=>
 (n0 (v2==true) false (a6m a0.T)).bind λv3=>
 some (((((v2&&v3)&&((a0.Roots.length:Int)==6))&&((a0.Cells.length:Int)==6))&&(a0.Q.Cap==v1.Cap))&&(decide ((a0.Q.L.length:Int)≤v1.Cap)))
def a2f(a0:Int)(a1:a8):Option Bool:=
 (H5 a1 a0).bind λv1=>
 some v1
def F3(a0:List Int)(a1:a8):Option Bool:=
 jn (λ(_:Unit)=>
  some true) (λκ6=>
  (lp (S:=Int) (E:=Bool ⊕ Unit) (λ(s9:Int)=>
   if (decide (s9<(a0.length:Int))) then
    (ix a0 s9).bind λv11=>
    (a2f v11 a1).bind λv12=>
    if (!v12) then
     some (.inr (.inl false))
    else
    some (.inl (u9 (s9+1)))
   else
   some (.inr (.inr ()))) 0).bind λe8=>
  match e8 with
  | .inl w=>some w
  | .inr w=>κ6 w)
def a0f(a0:a8):Option Bool:=
 (F2 a0.Roots).bind λv1=>
 jn (λ(j12:List Int)=>
  (F3 j12 a0).bind λv13=>
  some v13) (λκ11=>
  (I5 a0.S).bind λv14=>
  (lp (S:=Int × (List Int)) (E:=(List Int)) (λ((s16,s17):Int × (List Int))=>
   if (decide (s16<(v14.length:Int))) then
    (ix v14 s16).bind λv20=>
    (x5 a0.S v20).bind λv21=>
    (app 8 s17 v21.1.Fields).bind λv22=>
    some (.inl (u9 (s16+1),v22))
   else
   some (.inr s17)) (0,v1)).bind λe15=>
  κ11 e15)
def a1h(a0:List c7):Option (List c7):=
 some a0
def a5x(a0:List c7):Option (List Int):=
 jn (λ(j13:List Int)=>
  some j13) (λκ12=>
  (lp (S:=Int × (List Int)) (E:=(List Int)) (λ((s15,s16):Int × (List Int))=>
   if (decide (s15<(a0.length:Int))) then
    jn (λ(j22:List Int)=>
     some (.inl (u9 (s15+1),j22))) (λκ21=>
     (ix a0 s15).bind λv23=>
     if (v23.State==1) then
      (app 8 s16 [v23.Key]).bind λv24=>
      κ21 v24
     else
     κ21 s16)
   else
   some (.inr s16)) (0,[])).bind λe14=>
  κ12 e14)
def a2D(a0:l6):Option Bool:=
 some true
def A1(a0:List c7):Option (List l6):=
 jn (λ(j16:List l6)=>
  some j16) (λκ15=>
  (a5x a0).bind λv17=>
  (lp (S:=Int × (List l6)) (E:=(List l6)) (λ((s19,s20):Int × (List l6))=>
   if (decide (s19<(v17.length:Int))) then
    (ix v17 s19).bind λv23=>
    (L4 a0 v23).bind λv24=>
    jn (λ(j28:List l6)=>
     some (.inl (u9 (s19+1),j28))) (λκ27=>
     (a2D (⟨v23,v24.1⟩:l6)).bind λv29=>
     if v29 then
      (app 16 s20 [(⟨v23,v24.1⟩:l6)]).bind λv30=>
      κ27 v30
     else
     κ27 s20)
   else
   some (.inr s20)) (0,[])).bind λe18=>
  κ15 e18)
def a4J(a0:List c7):Option (List l6):=
 (a1h a0).bind λv1=>
 (A1 v1).bind λv2=>
 some v2
def a2g(a0:l6)(a1:a8):Option Bool:=
 (a0e a1 a0.Key).bind λv1=>
 (n0 (v1==true) false (a0e a1 a0.Val)).bind λv2=>
 some (v1&&v2)
def C0(a0:List l6)(a1:a8):Option Bool:=
 jn (λ(_:Unit)=>
  some true) (λκ6=>
  (lp (S:=Int) (E:=Bool ⊕ Unit) (λ(s9:Int)=>
   if (decide (s9<(a0.length:Int))) then
    (ix a0 s9).bind λv11=>
    (a2g v11 a1).bind λv12=>
    if (!v12) then
     some (.inr (.inl false))
    else
    some (.inl (u9 (s9+1)))
   else
   some (.inr (.inr ()))) 0).bind λe8=>
  match e8 with
  | .inl w=>some w
  | .inr w=>κ6 w)
def a1G(a0:a8):Option Bool:=
 (a4J a0.T).bind λv1=>
 (C0 v1 a0).bind λv2=>
 some v2
def a1I(a0:a8)(a1:c8):Option Bool:=
 if (a1.Kind==1) then
  (x5 a0.S a1.At).bind λv1=>
  some ((v1.2==0)&&v1.1.Started)
 else
 if (a1.Kind==2) then
  (n0 (((decide (a1.At≥0))&&(decide (a1.At<(a0.Cells.length:Int))))==true) (⟨0,false,0⟩:g5) (ix a0.Cells a1.At)).bind λv2=>
  some (((decide (a1.At≥0))&&(decide (a1.At<(a0.Cells.length:Int))))&&(!v2.Intact))
 else
 some false
def a2G(a0:a8):Option Bool:=
 jn (λ((j18,j19):Bool × (List (c8 × Bool)))=>
  some j18) (λκ17=>
  jn (λ(j29:List (c8 × Bool))=>
   κ17 (true,j29)) (λκ28=>
   (lp (S:=Int × (List (c8 × Bool))) (E:=(Bool × (List (c8 × Bool))) ⊕ (List (c8 × Bool))) (λ((s31,s32):Int × (List (c8 × Bool)))=>
    if (decide (s31<(a0.Q.L.length:Int))) then
     (ix a0.Q.L s31).bind λv35=>
     (n0 ((((!((A9 s32 (⟨v35.Kind,v35.At,0⟩:c8)).getD (false:Bool)))&&(decide (v35.Prog≥0)))&&(decide (v35.Prog<6)))==true) false (a1I a0 v35)).bind λv36=>
     if (!((((!((A9 s32 (⟨v35.Kind,v35.At,0⟩:c8)).getD (false:Bool)))&&(decide (v35.Prog≥0)))&&(decide (v35.Prog<6)))&&v36)) then
      some (.inr (.inl (false,(p6 s32 (⟨v35.Kind,v35.At,0⟩:c8) true))))
     else
     some (.inl (u9 (s31+1),(p6 s32 (⟨v35.Kind,v35.At,0⟩:c8) true)))
    else
    some (.inr (.inr s32))) (0,[])).bind λe30=>
   match e30 with
   | .inl w=>κ17 w
   | .inr w=>κ28 w))
def a3i(a0:g5)(a1:a8):Option Bool:=
 if ((decide (a0.Call<(-1)))||(decide (a0.Call≥6))) then
  some false
 else
 if a0.Intact then
  (a0e a1 a0.Target).bind λv1=>
  some v1
 else
 (u4 a1.S.S a0.Target).bind λv2=>
 some ((a0.Target==0)||(v2.2==0))
def D3(a0:List g5)(a1:a8):Option Bool:=
 jn (λ(_:Unit)=>
  some true) (λκ6=>
  (lp (S:=Int) (E:=Bool ⊕ Unit) (λ(s9:Int)=>
   if (decide (s9<(a0.length:Int))) then
    (ix a0 s9).bind λv11=>
    (a3i v11 a1).bind λv12=>
    if (!v12) then
     some (.inr (.inl false))
    else
    some (.inl (u9 (s9+1)))
   else
   some (.inr (.inr ()))) 0).bind λe8=>
  match e8 with
  | .inl w=>some w
  | .inr w=>κ6 w)
def a2E(a0:a8):Option Bool:=
 (D3 a0.Cells a0).bind λv1=>
 some v1
def a2N(a0:g5)(a1:Int):Option Bool:=
 some ((a1 != 0)&&(a0.Target==a1))
def P6(a0:List g5)(a1:Int):Option (List Int):=
 jn (λ(j15:List Int)=>
  some j15) (λκ14=>
  (lp (S:=Int × (List Int)) (E:=(List Int)) (λ((s17,s18):Int × (List Int))=>
   if (decide (s17<(a0.length:Int))) then
    jn (λ(j25:List Int)=>
     some (.inl (u9 (s17+1),j25))) (λκ24=>
     (ix a0 s17).bind λv26=>
     (a2N v26 a1).bind λv27=>
     if v27 then
      (app 8 s18 [s17]).bind λv28=>
      κ24 v28
     else
     κ24 s18)
   else
   some (.inr s18)) (0,[])).bind λe16=>
  κ14 e16)
def a3b(a0:List g5)(a1:Int):Option Int:=
 (P6 a0 a1).bind λv1=>
 some (v1.length:Int)
def a2F(a0:a8):Option Bool:=
 jn (λ(_:Unit)=>
  some true) (λκ12=>
  (lp (S:=Int) (E:=Bool ⊕ Unit) (λ(s15:Int)=>
   if (decide (s15<(a0.S.S.Cells.length:Int))) then
    jn (λ(_:Unit)=>
     some (.inl (u9 (s15+1)))) (λκ20=>
     (ix a0.S.S.Cells s15).bind λv22=>
     if ((v22.State != 1)&&(v22.State != 2)) then
      κ20 ()
     else
     (a0b s15 v22.Gen).bind λv23=>
     (a3b a0.Cells v23).bind λv24=>
     if (v22.Val.Weak != v24) then
      some (.inr (.inl false))
     else
     if ((v22.State==2)&&(((decide (v22.Val.Weak<1))||(decide ((v22.Val.Fields.length:Int) > 0)))||(v22.Val.Strong != 0))) then
      some (.inr (.inl false))
     else
     κ20 ())
   else
   some (.inr (.inr ()))) 0).bind λe14=>
  match e14 with
  | .inl w=>some w
  | .inr w=>κ12 w)
def a0s(f:Fv)(a0:a8):Option Bool:=
 if f=some 122 then a0f a0 else
 if f=some 123 then a1G a0 else
 if f=some 124 then a2G a0 else
 if f=some 125 then a2E a0 else
 if f=some 126 then a2F a0 else
 none
def a5W(a0:c9):Option (List Int):=
 jn (λ(j10:List Int)=>
  some j10) (λκ9=>
  (a9f a0 1).bind λv11=>
  (lp (S:=Int × (List Int)) (E:=(List Int)) (λ((s13,s14):Int × (List Int))=>
   if (decide (s13<(v11.1.L.length:Int))) then
    (ix v11.1.L s13).bind λv17=>
    if ((v17.Kind==v11.2)==true) then
     (app 8 s14 [v17.At]).bind λv18=>
     some (.inl (u9 (s13+1),v18))
    else
    some (.inl (u9 (s13+1),s14))
   else
   some (.inr s14)) (0,[])).bind λe12=>
  κ9 e12)
def a6p(a0:a8):Option (List Int):=
 jn (λ(j13:List Int)=>
  (a5W a0.Q).bind λv14=>
  (app 8 j13 v14).bind λv15=>
  some v15) (λκ12=>
  (lp (S:=Int × (List Int)) (E:=(List Int)) (λ((s17,s18):Int × (List Int))=>
   if (decide (s17<(a0.Roots.length:Int))) then
    jn (λ(j24:List Int)=>
     some (.inl (u9 (s17+1),j24))) (λκ23=>
     (ix a0.Roots s17).bind λv25=>
     if (v25 != 0) then
      (app 8 s18 [v25]).bind λv26=>
      κ23 v26
     else
     κ23 s18)
   else
   some (.inr s18)) (0,[])).bind λe16=>
  κ12 e16)
def a7J(a0:Int):Option Bool:=
 (F8 a0).bind λv1=>
 some v1
def a6L(a0:a7):Option a7:=
 some a0
def b1y(a0:a7)(a1:Int):Option (List Int):=
 (x5 a0 a1).bind λv1=>
 (a3S v1.1.Fields).bind λv2=>
 some v2
def b3H(a0:a7)(a1:Int):Option Int:=
 jn (λ(j31:Int)=>
  some j31) (λκ30=>
  (a6L a0).bind λv32=>
  (I5 v32).bind λv33=>
  (lp (S:=Int × Int) (E:=Int) (λ((s35,s36):Int × Int)=>
   if (decide (s35<(v33.length:Int))) then
    jn (λ(j50:Int)=>
     some (.inl (u9 (s35+1),j50))) (λκ49=>
     (ix v33 s35).bind λv51=>
     (b1y v32 v51).bind λv52=>
     (lp (S:=Int × Int) (E:=Int) (λ((s54,s55):Int × Int)=>
      if (decide (s54<(v52.length:Int))) then
       (ix v52 s54).bind λv58=>
       jn (λ(j60:Int)=>
        some (.inl (u9 (s54+1),j60))) (λκ59=>
        if (v58==a1) then
         κ59 (u9 (s55+1))
        else
        κ59 s55)
      else
      some (.inr s55)) (0,s36)).bind λe53=>
     κ49 e53)
   else
   some (.inr s36)) (0,0)).bind λe34=>
  κ30 e34)
def a2C(a0:l6)(a1:Int):Option Bool:=
 some ((a1 != 0)&&(a0.Val==a1))
def A0(a0:List c7)(a1:Int):Option (List l6):=
 jn (λ(j16:List l6)=>
  some j16) (λκ15=>
  (a5x a0).bind λv17=>
  (lp (S:=Int × (List l6)) (E:=(List l6)) (λ((s19,s20):Int × (List l6))=>
   if (decide (s19<(v17.length:Int))) then
    (ix v17 s19).bind λv23=>
    (L4 a0 v23).bind λv24=>
    jn (λ(j28:List l6)=>
     some (.inl (u9 (s19+1),j28))) (λκ27=>
     (a2C (⟨v23,v24.1⟩:l6) a1).bind λv29=>
     if v29 then
      (app 16 s20 [(⟨v23,v24.1⟩:l6)]).bind λv30=>
      κ27 v30
     else
     κ27 s20)
   else
   some (.inr s20)) (0,[])).bind λe18=>
  κ15 e18)
def a4I(a0:List c7)(a1:Int):Option Int:=
 (a1h a0).bind λv1=>
 (A0 v1 a1).bind λv2=>
 some (v2.length:Int)
def a44(a0:a7)(a1:List c7)(a2:Int):Option Int:=
 (b3H a0 a2).bind λv1=>
 (a4I a1 a2).bind λv2=>
 some (u9 (v1+v2))
def a6Z(a0:a7)(a1:List c7)(a2:Int):Option Int:=
 (x5 a0 a2).bind λv1=>
 if (v1.2 != 0) then
  some 0
 else
 (a44 a0 a1 a2).bind λv2=>
 some (u9 (v1.1.Strong-v2))
def a9i(a0:List Int)(a1:Int):Option Int:=
 jn (λ(j11:Int)=>
  some j11) (λκ10=>
  (a3T a0).bind λv12=>
  (lp (S:=Int × Int) (E:=Int) (λ((s14,s15):Int × Int)=>
   if (decide (s14<(v12.length:Int))) then
    (ix v12 s14).bind λv18=>
    if ((v18 != 0)==true) then
     jn (λ(j20:Int)=>
      if ((v18 != 0)&&false) then
       some (.inr j20)
      else
      some (.inl (u9 (s14+1),j20))) (λκ19=>
      if (v18==a1) then
       κ19 (u9 (s15+1))
      else
      κ19 s15)
    else
    some (.inl (u9 (s14+1),s15))
   else
   some (.inr s15)) (0,0)).bind λe13=>
  κ10 e13)
def a6K(a0:List Int)(a1:Int):Option Int:=
 (a9i a0 a1).bind λv1=>
 some v1
def a3J(a0:Int)(a1:k8)(a2:a7)(a3:List c7)(a4:List Int):Option Bool:=
 (a7J a1.Strong).bind λv1=>
 (n0 ((!v1)==true) 0 (a6Z a2 a3 a0)).bind λv2=>
 (n0 ((!v1)==true) 0 (a6K a4 a0)).bind λv3=>
 some ((!v1)&&(v2 != v3))
def a6Y(a0:a7)(a1:List c7)(a2:List Int):Option Bool:=
 jn (λ(j36:List Int)=>
  some ((j36.length:Int)==0)) (λκ35=>
  jn (λ(j54:List Int)=>
   κ35 j54) (λκ53=>
   (I5 a0).bind λv55=>
   (lp (S:=Int × (List Int)) (E:=(List Int)) (λ((s57,s58):Int × (List Int))=>
    if (decide (s57<(v55.length:Int))) then
     jn (λ(j66:List Int)=>
      some (.inl (u9 (s57+1),j66))) (λκ65=>
      (ix v55 s57).bind λv67=>
      (x5 a0 v67).bind λv68=>
      (a3J v67 v68.1 a0 a1 a2).bind λv69=>
      if v69 then
       (app 8 s58 [v67]).bind λv70=>
       κ65 v70
      else
      κ65 s58)
    else
    some (.inr s58)) (0,[])).bind λe56=>
   κ53 e56))
def a6q(a0:a8):Option Bool:=
 (a1H a0).bind λv1=>
 if (!v1) then
  some false
 else
 jn (λ(_:Unit)=>
  (a6p a0).bind λv10=>
  (a6Y a0.S a0.T v10).bind λv11=>
  some v11) (λκ8=>
  (lp (S:=Int) (E:=Bool ⊕ Unit) (λ(s13:Int)=>
   if (decide (s13<([(some 122),(some 123),(some 124),(some 125),(some 126)].length:Int))) then
    (ix [(some 122),(some 123),(some 124),(some 125),(some 126)] s13).bind λv15=>
    (a0s v15 a0).bind λv16=>
    if (!v16) then
     some (.inr (.inl false))
    else
    some (.inl (u9 (s13+1)))
   else
   some (.inr (.inr ()))) 0).bind λe12=>
  match e12 with
  | .inl w=>some w
  | .inr w=>κ8 w)
def F9:Option Bool:=
 (a7S 3 5 8).bind λv1=>
 (a0g v1 [(⟨1,0,0,0⟩:j1),(⟨6,0,0,1⟩:j1),(⟨3,0,0,0⟩:j1)]).bind λv2=>
 (G6 v2.1 [[(⟨2,2,5,0⟩:j1)],[]] 1).bind λv3=>
 (G6 v2.1 [[(⟨2,2,5,0⟩:j1)],[]] 5).bind λv4=>
 (u7 v4.1 (⟨3,2,0,0⟩:j1)).bind λv5=>
 (G6 v5.1 [[(⟨2,2,5,0⟩:j1)],[]] 5).bind λv6=>
 (P1 v4.1 [[(⟨2,2,5,0⟩:j1)],[]]).bind λv7=>
 if (((v4.1.Cells.length:Int)==0)||((v5.1.Cells.length:Int)==0)) then
  some false
 else
 (n0 (((((((v3.2.1==0)&&(v3.2.2.1==1))&&(v3.2.2.2==12))&&(v4.2.1==1))&&(v4.2.2.1==3))&&(v4.2.2.2==0))==true) 0 (V6 v4.1 2)).bind λv8=>
 (n0 ((((((((v3.2.1==0)&&(v3.2.2.1==1))&&(v3.2.2.2==12))&&(v4.2.1==1))&&(v4.2.2.1==3))&&(v4.2.2.2==0))&&(v8==1))==true) 0 (V6 v4.1 5)).bind λv9=>
 (n0 (((((((((v3.2.1==0)&&(v3.2.2.1==1))&&(v3.2.2.2==12))&&(v4.2.1==1))&&(v4.2.2.1==3))&&(v4.2.2.2==0))&&(v8==1))&&(v9==0))==true) (⟨0,false,0⟩:g5) (ix v4.1.Cells 0)).bind λv10=>
 (n0 ((((((((((((v3.2.1==0)&&(v3.2.2.1==1))&&(v3.2.2.2==12))&&(v4.2.1==1))&&(v4.2.2.1==3))&&(v4.2.2.2==0))&&(v8==1))&&(v9==0))&&v10.Intact)&&(v5.2.1==0))&&((v5.1.Q.L.length:Int)==1))==true) (⟨0,false,0⟩:g5) (ix v5.1.Cells 0)).bind λv11=>
 (n0 (((((((((((((((v3.2.1==0)&&(v3.2.2.1==1))&&(v3.2.2.2==12))&&(v4.2.1==1))&&(v4.2.2.1==3))&&(v4.2.2.2==0))&&(v8==1))&&(v9==0))&&v10.Intact)&&(v5.2.1==0))&&((v5.1.Q.L.length:Int)==1))&&(!v11.Intact))&&(v6.2.1==1))&&(v6.2.2.2==0))==true) false (U8 v6.1)).bind λv12=>
 (n0 ((((((((((((((((((v3.2.1==0)&&(v3.2.2.1==1))&&(v3.2.2.2==12))&&(v4.2.1==1))&&(v4.2.2.1==3))&&(v4.2.2.2==0))&&(v8==1))&&(v9==0))&&v10.Intact)&&(v5.2.1==0))&&((v5.1.Q.L.length:Int)==1))&&(!v11.Intact))&&(v6.2.1==1))&&(v6.2.2.2==0))&&v12)&&((v7.2.1.Kind==0)&&((v7.2.1.At==0)&&((v7.2.1.Prog==0)&&true))))&&(v7.2.2==10))==true) 0 (a2d [[(⟨2,2,5,0⟩:j1)],[]] (⟨0,0,0⟩:c8))).bind λv13=>
 (n0 (((((((((((((((((((v3.2.1==0)&&(v3.2.2.1==1))&&(v3.2.2.2==12))&&(v4.2.1==1))&&(v4.2.2.1==3))&&(v4.2.2.2==0))&&(v8==1))&&(v9==0))&&v10.Intact)&&(v5.2.1==0))&&((v5.1.Q.L.length:Int)==1))&&(!v11.Intact))&&(v6.2.1==1))&&(v6.2.2.2==0))&&v12)&&((v7.2.1.Kind==0)&&((v7.2.1.At==0)&&((v7.2.1.Prog==0)&&true))))&&(v7.2.2==10))&&(v13==2))==true) false (a6q v6.1)).bind λv14=>
 some (((((((((((((((((((v3.2.1==0)&&(v3.2.2.1==1))&&(v3.2.2.2==12))&&(v4.2.1==1))&&(v4.2.2.1==3))&&(v4.2.2.2==0))&&(v8==1))&&(v9==0))&&v10.Intact)&&(v5.2.1==0))&&((v5.1.Q.L.length:Int)==1))&&(!v11.Intact))&&(v6.2.1==1))&&(v6.2.2.2==0))&&v12)&&((v7.2.1.Kind==0)&&((v7.2.1.At==0)&&((v7.2.1.Prog==0)&&true))))&&(v7.2.2==10))&&(v13==2))&&v14)
def a4t(a0:a8)(a1:List (List j1))(a2:Int):Option Bool:=
 (a1Z a0).bind λv1=>
 (n0 ((!v1)==false) false (a02 a1)).bind λv2=>
 (n0 (((!v1)||(!v2))==false) false F9).bind λv3=>
 if (((!v1)||(!v2))||(!v3)) then
  (F9).bind λv4=>
  some v4
 else
 (G6 a0 a1 (u9 a2)).bind λv5=>
 (P1 a0 a1).bind λv6=>
 (a10 v5.1).bind λv7=>
 (n0 ((!v7)==false) false (a10 v6.1)).bind λv8=>
 if (((!v7)||(!v8))||((v6.1.Roots.length:Int) != 6)) then
  some false
 else
 (Q7 v5.1).bind λv9=>
 (a2m v9).bind λv10=>
 (n0 (v10==true) false (a1m v9)).bind λv11=>
 (n0 ((v10&&v11)==true) ⟨⟨[],0,0⟩,[],[],[],⟨[],0⟩⟩ (Q7 v6.1)).bind λv12=>
 (n0 ((v10&&v11)==true) false (a2m v12)).bind λv13=>
 (n0 (((v10&&v11)&&v13)==true) ⟨⟨[],0,0⟩,[],[],[],⟨[],0⟩⟩ (Q7 v6.1)).bind λv14=>
 (n0 (((v10&&v11)&&v13)==true) false (a1m v14)).bind λv15=>
 (n0 ((((((((v10&&v11)&&v13)&&v15)&&(decide (v5.2.2.1≥0)))&&(decide (v5.2.2.1≤(u9 a2))))&&((v5.2.2.2==0)==((v5.1.Q.L.length:Int)==0)))==true)&&(((v6.2.2 != 0)||(v6.2.1.Kind != 1))==false)) (0:Int) (ix v6.1.Roots 5)).bind λv16=>
 some (((((((v10&&v11)&&v13)&&v15)&&(decide (v5.2.2.1≥0)))&&(decide (v5.2.2.1≤(u9 a2))))&&((v5.2.2.2==0)==((v5.1.Q.L.length:Int)==0)))&&(((v6.2.2 != 0)||(v6.2.1.Kind != 1))||(v16==0)))
def a20(a0:List Int)(a1:List Int):Option Bool:=
 if ((a0.length:Int) != (a1.length:Int)) then
  some false
 else
 jn (λ(_:Unit)=>
  some true) (λκ6=>
  (lp (S:=Int) (E:=Bool ⊕ Unit) (λ(s9:Int)=>
   if (decide (s9<(a0.length:Int))) then
    (ix a0 s9).bind λv11=>
    (ix a1 s9).bind λv12=>
    if (v11 != v12) then
     some (.inr (.inl false))
    else
    some (.inl (u9 (s9+1)))
   else
   some (.inr (.inr ()))) 0).bind λe8=>
  match e8 with
  | .inl w=>some w
  | .inr w=>κ6 w)
def a5J(a0:B2)(a1:B2):Option Bool:=
 (n0 ((((((a0.Serial==a1.Serial)&&(a0.Strong==a1.Strong))&&(a0.Weak==a1.Weak))&&(a0.Prog==a1.Prog))&&(a0.Started==a1.Started))==true) false (a20 a0.Fields a1.Fields)).bind λv1=>
 some ((((((a0.Serial==a1.Serial)&&(a0.Strong==a1.Strong))&&(a0.Weak==a1.Weak))&&(a0.Prog==a1.Prog))&&(a0.Started==a1.Started))&&v1)
def b1j(a0:k9)(a1:k9):Option Bool:=
 if (((a0.Last != a1.Last)||(a0.Serial != a1.Serial))||((a0.Cells.length:Int) != (a1.Cells.length:Int))) then
  some false
 else
 jn (λ(_:Unit)=>
  some true) (λκ7=>
  (lp (S:=Int) (E:=Bool ⊕ Unit) (λ(s10:Int)=>
   if (decide (s10<(a0.Cells.length:Int))) then
    (ix a0.Cells s10).bind λv12=>
    (ix a1.Cells s10).bind λv13=>
    (n0 (((v12.State != v13.State)||(v12.Gen != v13.Gen))==false) false (a5J v12.Val v13.Val)).bind λv14=>
    if (((v12.State != v13.State)||(v12.Gen != v13.Gen))||(!v14)) then
     some (.inr (.inl false))
    else
    some (.inl (u9 (s10+1)))
   else
   some (.inr (.inr ()))) 0).bind λe9=>
  match e9 with
  | .inl w=>some w
  | .inr w=>κ7 w)
def b1m(a0:List s6)(a1:List s6):Option Bool:=
 if ((a0.length:Int) != (a1.length:Int)) then
  some false
 else
 jn (λ(_:Unit)=>
  some true) (λκ6=>
  (lp (S:=Int) (E:=Bool ⊕ Unit) (λ(s9:Int)=>
   if (decide (s9<(a0.length:Int))) then
    (ix a0 s9).bind λv11=>
    (ix a1 s9).bind λv12=>
    if (!((v11.Target==v12.Target)&&((v11.Intact==v12.Intact)&&((v11.Call==v12.Call)&&true)))) then
     some (.inr (.inl false))
    else
    some (.inl (u9 (s9+1)))
   else
   some (.inr (.inr ()))) 0).bind λe8=>
  match e8 with
  | .inl w=>some w
  | .inr w=>κ6 w)
def b1p(a0:List k7)(a1:List k7):Option Bool:=
 if ((a0.length:Int) != (a1.length:Int)) then
  some false
 else
 jn (λ(_:Unit)=>
  some true) (λκ6=>
  (lp (S:=Int) (E:=Bool ⊕ Unit) (λ(s9:Int)=>
   if (decide (s9<(a0.length:Int))) then
    (ix a0 s9).bind λv11=>
    (ix a1 s9).bind λv12=>
    if (!((v11.State==v12.State)&&((v11.Key==v12.Key)&&((v11.Val==v12.Val)&&true)))) then
     some (.inr (.inl false))
    else
    some (.inl (u9 (s9+1)))
   else
   some (.inr (.inr ()))) 0).bind λe8=>
  match e8 with
  | .inl w=>some w
  | .inr w=>κ6 w)
def b1t(a0:w7)(a1:w7):Option Bool:=
 if ((a0.Cap != a1.Cap)||((a0.L.length:Int) != (a1.L.length:Int))) then
  some false
 else
 jn (λ(_:Unit)=>
  some true) (λκ6=>
  (lp (S:=Int) (E:=Bool ⊕ Unit) (λ(s9:Int)=>
   if (decide (s9<(a0.L.length:Int))) then
    (ix a0.L s9).bind λv11=>
    (ix a1.L s9).bind λv12=>
    if (!((v11.Kind==v12.Kind)&&((v11.At==v12.At)&&((v11.Prog==v12.Prog)&&true)))) then
     some (.inr (.inl false))
    else
    some (.inl (u9 (s9+1)))
   else
   some (.inr (.inr ()))) 0).bind λe8=>
  match e8 with
  | .inl w=>some w
  | .inr w=>κ6 w)
def a8a(a0:g9)(a1:g9):Option Bool:=
 (b1j a0.S a1.S).bind λv1=>
 (n0 (v1==true) false (a20 a0.Roots a1.Roots)).bind λv2=>
 (n0 ((v1&&v2)==true) false (b1m a0.Cells a1.Cells)).bind λv3=>
 (n0 (((v1&&v2)&&v3)==true) false (b1p a0.T a1.T)).bind λv4=>
 (n0 ((((v1&&v2)&&v3)&&v4)==true) false (b1t a0.Q a1.Q)).bind λv5=>
 some ((((v1&&v2)&&v3)&&v4)&&v5)
def a4s(a0:a8)(a1:List (List j1))(a2:Int)(a3:Int):Option Bool:=
 (a1Z a0).bind λv1=>
 (n0 ((!v1)==false) false (a02 a1)).bind λv2=>
 (n0 (((!v1)||(!v2))==false) false F9).bind λv3=>
 if (((!v1)||(!v2))||(!v3)) then
  (F9).bind λv4=>
  some v4
 else
 (G6 a0 a1 (u9 a2)).bind λv5=>
 (G6 v5.1 a1 (u9 (v5.2.2.1+(u9 a3)))).bind λv6=>
 (G6 a0 a1 (u9 ((u9 a2)+(u9 a3)))).bind λv7=>
 (a10 v6.1).bind λv8=>
 (n0 (v8==true) false (a10 v7.1)).bind λv9=>
 (n0 ((v8&&v9)==true) ⟨⟨[],0,0⟩,[],[],[],⟨[],0⟩⟩ (Q7 v6.1)).bind λv10=>
 (n0 ((v8&&v9)==true) ⟨⟨[],0,0⟩,[],[],[],⟨[],0⟩⟩ (Q7 v7.1)).bind λv11=>
 (n0 ((v8&&v9)==true) false (a8a v10 v11)).bind λv12=>
 some (((((v8&&v9)&&v12)&&((u9 (v5.2.1+v6.2.1))==v7.2.1))&&(v6.2.2.1==v7.2.2.1))&&(v6.2.2.2==v7.2.2.2))
def a5k(a0:a8)(a1:List (List j1))(a2:Int):Option Bool:=
 (a1Z a0).bind λv1=>
 (n0 ((!v1)==false) false (a02 a1)).bind λv2=>
 (n0 (((!v1)||(!v2))==false) false F9).bind λv3=>
 if (((!v1)||(!v2))||(!v3)) then
  (F9).bind λv4=>
  some v4
 else
 jn (λ(_:Unit)=>
  some true) (λκ58=>
  (lp (S:=Int × a8 × (List Int)) (E:=Bool ⊕ Unit) (λ((s61,s62,s63):Int × a8 × (List Int))=>
   (rem (u9 a2) 40).bind λv66=>
   if (decide (s61<v66)) then
    jn (λ((j89,j90):a8 × (List Int))=>
     some (.inl (u9 (s61+1),j89,j90))) (λκ88=>
     (P1 s62 a1).bind λv92=>
     if (v92.2.2 != 0) then
      (U8 s62).bind λv93=>
      some (.inr (.inl v93))
     else
     (a10 v92.1).bind λv94=>
     if (!v94) then
      some (.inr (.inl false))
     else
     jn (λ(j98:List Int)=>
      jn (λ(_:Unit)=>
       κ88 (v92.1,j98)) (λκ104=>
       (lp (S:=Int) (E:=Bool ⊕ Unit) (λ(s107:Int)=>
        if (decide (s107<(v92.1.Q.L.length:Int))) then
         (ix v92.1.Q.L s107).bind λv109=>
         (n0 ((v109.Kind==1)==true) 0 (T9 j98 v109.At)).bind λv110=>
         if ((v109.Kind==1)&&(decide (v110 > 0))) then
          some (.inr (.inl false))
         else
         some (.inl (u9 (s107+1)))
        else
        some (.inr (.inr ()))) 0).bind λe106=>
       match e106 with
       | .inl w=>some (.inr (.inl w))
       | .inr w=>κ104 w)) (λκ97=>
      if (v92.2.1.Kind==1) then
       (T9 s63 v92.2.1.At).bind λv111=>
       if (decide (v111 > 0)) then
        some (.inr (.inl false))
       else
       (app 8 s63 [v92.2.1.At]).bind λv112=>
       κ97 v112
      else
      κ97 s63))
   else
   some (.inr (.inr ()))) (0,a0,[])).bind λe60=>
  match e60 with
  | .inl w=>some w
  | .inr w=>κ58 w)
def a4r(a0:a8)(a1:List (List j1)):Option Bool:=
 (a1Z a0).bind λv1=>
 (n0 ((!v1)==false) false (a02 a1)).bind λv2=>
 (n0 ((((!v1)||(!v2))||((a0.Q.L.length:Int)==0))==false) false F9).bind λv3=>
 if ((((!v1)||(!v2))||((a0.Q.L.length:Int)==0))||(!v3)) then
  (F9).bind λv4=>
  some v4
 else
 (P1 a0 a1).bind λv5=>
 (n0 ((v5.2.2 != 0)==false) (⟨0,0,0⟩:c8) (ix a0.Q.L 0)).bind λv6=>
 if (((v5.2.2 != 0)||(!((v5.2.1.Kind==v6.Kind)&&((v5.2.1.At==v6.At)&&((v5.2.1.Prog==v6.Prog)&&true)))))||(decide ((v5.1.Q.L.length:Int)<(u9 ((a0.Q.L.length:Int)-1))))) then
  some false
 else
 jn (λ((j18,j19):(List Int) × (List Int))=>
  (a20 j19 j18).bind λv21=>
  some v21) (λκ17=>
  (lp (S:=Int × (List Int) × (List Int)) (E:=((List Int) × (List Int))) (λ((s23,s24,s25):Int × (List Int) × (List Int))=>
   if (decide (s23<(a0.Q.L.length:Int))) then
    (ix a0.Q.L s23).bind λv28=>
    (app 8 s24 [v28.Kind,v28.At,v28.Prog]).bind λv29=>
    (ix v5.1.Q.L (u9 (s23-1))).bind λv30=>
    (app 8 s25 [v30.Kind,v30.At,v30.Prog]).bind λv31=>
    some (.inl (u9 (s23+1),v29,v31))
   else
   some (.inr (s25,s24))) (1,[],[])).bind λe22=>
  κ17 e22)
def a2y(a0:a8)(a1:List (List j1))(a2:Int):Option Bool:=
 (a1Z a0).bind λv1=>
 (n0 ((!v1)==false) false (a02 a1)).bind λv2=>
 (n0 (((!v1)||(!v2))==false) false F9).bind λv3=>
 if (((!v1)||(!v2))||(!v3)) then
  (F9).bind λv4=>
  some v4
 else
 (G6 a0 a1 0).bind λv5=>
 (a10 v5.1).bind λv6=>
 (n0 ((!v6)==false) ⟨⟨[],0,0⟩,[],[],[],⟨[],0⟩⟩ (Q7 v5.1)).bind λv7=>
 (n0 ((!v6)==false) ⟨⟨[],0,0⟩,[],[],[],⟨[],0⟩⟩ (Q7 a0)).bind λv8=>
 (n0 ((!v6)==false) false (a8a v7 v8)).bind λv9=>
 (n0 (((((!v6)||(!v9))||(v5.2.1 != 0))||(v5.2.2.1 != 0))==false) false (U8 a0)).bind λv10=>
 if (((((!v6)||(!v9))||(v5.2.1 != 0))||(v5.2.2.1 != 0))||((v5.2.2.2==0) != v10)) then
  some false
 else
 (G6 a0 a1 (u9 a2)).bind λv11=>
 if ((a0.Q.L.length:Int)==0) then
  some ((v11.2.1==0)&&(v11.2.2.1==(u9 a2)))
 else
 (ix a0.Q.L 0).bind λv12=>
 (a2d a1 v12).bind λv13=>
 some ((((decide (v13≥1))&&(decide (v13≤7)))&&((decide (v11.2.1 > 0))==(decide (v13≤(u9 a2)))))&&((v11.2.1==0)||(decide (v11.2.2.1≤(u9 ((u9 a2)-v13))))))
def b4R(a0:w7):Option (w7 × r8 × Int):=
 if ((a0.L.length:Int)==0) then
  some (a0,(⟨0,0,0⟩:r8),10)
 else
 (cut a0.L 1 (a0.L.length:Int)).bind λv1=>
 (ix a0.L 0).bind λv2=>
 some ((⟨v1,a0.Cap⟩:w7),v2,0)
def b3D(a0:Int):Option Int:=
 (a0y a0).bind λv1=>
 if v1 then
  some 12
 else
 if (decide (a0<0)) then
  some 1
 else
 some (u9 (a0+1))
def a23(a0:k9)(a1:Int)(a2:B2):Option k9:=
 (app 80 [] a0.Cells).bind λv1=>
 (ix v1 a1).bind λv2=>
 some (⟨(v1.set (a1).toNat (⟨v2.State,v2.Gen,a2⟩:n8)),a0.Last,a0.Serial⟩:k9)
def O1(a0:k9)(a1:Int)(a2:B2):Option (k9 × Int):=
 (M4 a0).bind λv1=>
 (N2 v1 a1).bind λv2=>
 if (v2.2 != 0) then
  some (a0,v2.2)
 else
 (a23 a0 v2.1 a2).bind λv3=>
 some (v3,0)
def a6H(a0:g9)(a1:Int)(a2:Int):Option g9:=
 (F5 a0.S a1).bind λv1=>
 if (v1.2 != 0) then
  some a0
 else
 (O1 a0.S a1 (⟨v1.1.Serial,a2,v1.1.Weak,v1.1.Prog,v1.1.Started,v1.1.Fields⟩:B2)).bind λv2=>
 some (⟨v2.1,a0.Roots,a0.Cells,a0.T,a0.Q⟩:g9)
def a1b(a0:g9)(a1:Int):Option g9:=
 (F5 a0.S a1).bind λv1=>
 (b3D v1.1.Strong).bind λv2=>
 (a6H a0 a1 v2).bind λv3=>
 some v3
def b7A(a0:Int):Option (Int × Int):=
 (a0y a0).bind λv1=>
 if v1 then
  some (12,0)
 else
 if (decide (a0<1)) then
  some (0,11)
 else
 some (u9 (a0-1),0)
def F0(a0:g9)(a1:Int):Option g9:=
 (F5 a0.S a1).bind λv1=>
 (b7A v1.1.Strong).bind λv2=>
 if (v2.2 != 0) then
  some a0
 else
 (a6H a0 a1 v2.1).bind λv3=>
 some v3
def W3(a0:g9)(a1:Int)(a2:Int):Option (g9 × Int):=
 if ((decide (a1<0))||(decide (a1 > 5))) then
  some (a0,6)
 else
 (X0 a0 a2).bind λv1=>
 if (!v1) then
  some (a0,3)
 else
 (ix a0.Roots a1).bind λv2=>
 (a1b a0 a2).bind λv3=>
 (app 8 [] a0.Roots).bind λv4=>
 (ix v4 a1).bind λv5=>
 (F0 (⟨v3.S,(v4.set (a1).toNat a2),v3.Cells,v3.T,v3.Q⟩:g9) v2).bind λv6=>
 some (v6,0)
def b1w(a0:g9)(a1:Int):Option Bool:=
 (F5 a0.S a1).bind λv1=>
 (W9 a0 a1).bind λv2=>
 some ((v2&&(decide (v1.1.Prog≥0)))&&(!v1.1.Started))
def a6F(a0:w7)(a1:r8):Option (w7 × Int):=
 if (decide ((a0.L.length:Int)≥a0.Cap)) then
  some (a0,4)
 else
 (app 24 [] a0.L).bind λv1=>
 (app 24 v1 [a1]).bind λv2=>
 some ((⟨v2,a0.Cap⟩:w7),0)
def a6I(a0:g9)(a1:Int):Option g9:=
 (b1w a0 a1).bind λv1=>
 if (!v1) then
  some a0
 else
 (F5 a0.S a1).bind λv2=>
 (O1 a0.S a1 (⟨v2.1.Serial,v2.1.Strong,v2.1.Weak,v2.1.Prog,true,v2.1.Fields⟩:B2)).bind λv3=>
 (a6F a0.Q (⟨1,a1,v2.1.Prog⟩:r8)).bind λv4=>
 (a1b (⟨v3.1,a0.Roots,a0.Cells,a0.T,v4.1⟩:g9) a1).bind λv5=>
 some v5
def b7H(a0:List Int)(a1:Int):Option Bool:=
 (T9 a0 a1).bind λv1=>
 some (decide (v1 > 0))
def b1x(a0:g9)(a1:List Int):Option (List Int):=
 jn (λ(j17:List Int)=>
  some j17) (λκ16=>
  (lp (S:=Int × (List Int)) (E:=(List Int)) (λ((s19,s20):Int × (List Int))=>
   if (decide (s19<(a1.length:Int))) then
    jn (λ(j28:List Int)=>
     some (.inl (u9 (s19+1),j28))) (λκ27=>
     (ix a1 s19).bind λv29=>
     (W9 a0 v29).bind λv30=>
     (n0 (v30==true) false (b7H s20 v29)).bind λv31=>
     if (v30&&(!v31)) then
      (app 8 s20 [v29]).bind λv32=>
      κ27 v32
     else
     κ27 s20)
   else
   some (.inr s20)) (0,[])).bind λe18=>
  κ16 e18)
def b2u(a0:List s6)(a1:List Int):Option ((List s6) × (List Int)):=
 jn (λ((j18,j19):(List Int) × (List s6))=>
  some (j19,j18)) (λκ17=>
  (lp (S:=Int × (List s6) × (List Int)) (E:=((List Int) × (List s6))) (λ((s22,s23,s24):Int × (List s6) × (List Int))=>
   if (decide (s22<(a0.length:Int))) then
    (ix a0 s22).bind λv27=>
    jn (λ((j31,j32):Bool × (List Int))=>
     (app 24 s23 [(⟨v27.Target,j31,v27.Call⟩:s6)]).bind λv34=>
     some (.inl (u9 (s22+1),v34,j32))) (λκ30=>
     (n0 (v27.Intact==true) 0 (T9 a1 v27.Target)).bind λv35=>
     if (v27.Intact&&(decide (v35 > 0))) then
      if (decide (v27.Call≥0)) then
       (app 8 s24 [s22]).bind λv36=>
       κ30 (false,v36)
      else
      κ30 (false,s24)
     else
     κ30 (v27.Intact,s24))
   else
   some (.inr (s24,s23))) (0,[],[])).bind λe21=>
  κ17 e21)
def a24(a0:List k7)(a1:Int)(a2:k7):Option (List k7):=
 (app 24 [] a0).bind λv1=>
 (ix v1 a1).bind λv2=>
 some (v1.set (a1).toNat a2)
def a75(a0:List k7)(a1:Int):Option ((List k7) × Int × Int):=
 (a0S a0 a1).bind λv1=>
 if (decide (v1<0)) then
  some (a0,0,9)
 else
 (a24 a0 v1 (⟨2,0,0⟩:k7)).bind λv2=>
 (ix a0 v1).bind λv3=>
 some (v2,v3.Val,0)
def a40(a0:List k7)(a1:List Int):Option ((List k7) × (List Int)):=
 jn (λ((j18,j19):(List k7) × (List Int))=>
  some (j18,j19)) (λκ17=>
  (lp (S:=(List k7) × Int × (List Int)) (E:=((List k7) × (List Int))) (λ((s22,s23,s24):(List k7) × Int × (List Int))=>
   if (decide (s23<(a1.length:Int))) then
    jn (λ((j31,j32):(List k7) × (List Int))=>
     some (.inl (j31,u9 (s23+1),j32))) (λκ30=>
     (ix a1 s23).bind λv34=>
     (a75 s22 v34).bind λv35=>
     if (v35.2.2==0) then
      (app 8 s24 [v35.2.1]).bind λv36=>
      κ30 (v35.1,v36)
     else
     κ30 (s22,s24))
   else
   some (.inr (s22,s24))) (a0,0,[])).bind λe21=>
  κ17 e21)
def a0R(a0:C1)(a1:Int)(a2:B5):Option C1:=
 (app 24 [] a0.Cells).bind λv1=>
 (ix v1 a1).bind λv2=>
 some (⟨(v1.set (a1).toNat a2),a0.Last⟩:C1)
def b9q(a0:C1)(a1:Int):Option (C1 × Int):=
 (b1h a0 a1).bind λv1=>
 if (v1.2 != 0) then
  some (a0,v1.2)
 else
 (N2 a0 a1).bind λv2=>
 (ix a0.Cells v2.1).bind λv3=>
 (a0R a0 v2.1 (⟨2,v3.Gen,v3.Val⟩:B5)).bind λv4=>
 some (v4,0)
def a1a(a0:k9)(a1:C1):Option k9:=
 jn (λ(j10:List n8)=>
  some (⟨j10,a0.Last,a0.Serial⟩:k9)) (λκ9=>
  (lp (S:=Int × (List n8)) (E:=(List n8)) (λ((s12,s13):Int × (List n8))=>
   if (decide (s12<(a0.Cells.length:Int))) then
    (ix a1.Cells s12).bind λv16=>
    (ix a0.Cells s12).bind λv17=>
    (app 80 s13 [(⟨v16.State,v16.Gen,v17.Val⟩:n8)]).bind λv18=>
    some (.inl (u9 (s12+1),v18))
   else
   some (.inr s13)) (0,[])).bind λe11=>
  κ9 e11)
def b4Q(a0:k9)(a1:Int):Option k9:=
 (M4 a0).bind λv1=>
 (b9q v1 a1).bind λv2=>
 (a1a a0 v2.1).bind λv3=>
 some v3
def b9p(a0:C1)(a1:Int):Option (C1 × Int):=
 (N2 a0 a1).bind λv1=>
 if (v1.2 != 0) then
  some (a0,v1.2)
 else
 (ix a0.Cells v1.1).bind λv2=>
 if (decide (v2.Gen≥a0.Last)) then
  (a0R a0 v1.1 (⟨3,v2.Gen,0⟩:B5)).bind λv3=>
  some (v3,0)
 else
 (a0R a0 v1.1 (⟨0,u9 (v2.Gen+1),0⟩:B5)).bind λv4=>
 some (v4,0)
def b1i(a0:k9)(a1:Int):Option k9:=
 (M4 a0).bind λv1=>
 (b9p v1 a1).bind λv2=>
 if (v2.2 != 0) then
  some a0
 else
 (a1a a0 v2.1).bind λv3=>
 (a5H a1).bind λv4=>
 (a23 v3 v4 (⟨0,0,0,0,false,[]⟩:B2)).bind λv5=>
 some v5
def a8b(a0:g9)(a1:Int):Option g9:=
 (F5 a0.S a1).bind λv1=>
 (O1 a0.S a1 (⟨v1.1.Serial,0,v1.1.Weak,v1.1.Prog,v1.1.Started,[]⟩:B2)).bind λv2=>
 (b4Q v2.1 a1).bind λv3=>
 if (v1.1.Weak==0) then
  (b1i v3 a1).bind λv4=>
  some (⟨v4,a0.Roots,a0.Cells,a0.T,a0.Q⟩:g9)
 else
 some (⟨v3,a0.Roots,a0.Cells,a0.T,a0.Q⟩:g9)
def b1v(a0:g9)(a1:List Int):Option g9:=
 (b1x a0 a1).bind λv1=>
 (b2u a0.Cells v1).bind λv2=>
 jn (λ(j12:w7)=>
  jn (λ(j23:List Int)=>
   (a40 a0.T v1).bind λv24=>
   (app 8 j23 v24.2).bind λv25=>
   jn (λ(j34:g9)=>
    jn (λ(j43:g9)=>
     some j43) (λκ42=>
     (lp (S:=Int × g9) (E:=g9) (λ((s45,s46):Int × g9)=>
      if (decide (s45<(v25.length:Int))) then
       (ix v25 s45).bind λv49=>
       (F0 s46 v49).bind λv50=>
       some (.inl (u9 (s45+1),v50))
      else
      some (.inr s46)) (0,j34)).bind λe44=>
     κ42 e44)) (λκ33=>
    (lp (S:=Int × g9) (E:=g9) (λ((s52,s53):Int × g9)=>
     if (decide (s52<(v1.length:Int))) then
      (ix v1 s52).bind λv56=>
      (a8b s53 v56).bind λv57=>
      some (.inl (u9 (s52+1),v57))
     else
     some (.inr s53)) (0,(⟨a0.S,a0.Roots,v2.1,v24.1,j12⟩:g9))).bind λe51=>
    κ33 e51)) (λκ22=>
   (lp (S:=Int × (List Int)) (E:=(List Int)) (λ((s59,s60):Int × (List Int))=>
    if (decide (s59<(v1.length:Int))) then
     (ix v1 s59).bind λv63=>
     (F5 a0.S v63).bind λv64=>
     (a2k v64.1.Fields).bind λv65=>
     (app 8 s60 v65).bind λv66=>
     some (.inl (u9 (s59+1),v66))
    else
    some (.inr s60)) (0,[])).bind λe58=>
   κ22 e58)) (λκ11=>
  (lp (S:=Int × w7) (E:=w7) (λ((s68,s69):Int × w7)=>
   if (decide (s68<(v2.2.length:Int))) then
    (ix v2.2 s68).bind λv72=>
    (ix v2.1 v72).bind λv73=>
    (a6F s69 (⟨2,v72,v73.Call⟩:r8)).bind λv74=>
    some (.inl (u9 (s68+1),v74.1))
   else
   some (.inr s69)) (0,a0.Q)).bind λe67=>
  κ11 e67)
def R2(a0:g9):Option g9:=
 jn (λ(j21:g9)=>
  some j21) (λκ20=>
  (lp (S:=Int × g9) (E:=g9 ⊕ g9) (λ((s23,s24):Int × g9)=>
   if (decide (s23<100)) then
    jn (λ(j34:g9)=>
     some (.inl (u9 (s23+1),j34))) (λκ33=>
     (a5M s24).bind λv35=>
     if ((v35.length:Int)==0) then
      some (.inr (.inl s24))
     else
     (ix v35 0).bind λv36=>
     (b1w s24 v36).bind λv37=>
     if v37 then
      (a6I s24 v36).bind λv38=>
      κ33 v38
     else
     (cut v35 0 1).bind λv39=>
     (b1v s24 v39).bind λv40=>
     κ33 v40)
   else
   some (.inr (.inr s24))) (0,a0)).bind λe22=>
  match e22 with
  | .inl w=>some w
  | .inr w=>κ20 w)
def a8d(a0:List (List w9))(a1:Int):Option (List w9):=
 if ((decide (a1<0))||(decide (a1≥(a0.length:Int)))) then
  some []
 else
 (ix a0 a1).bind λv1=>
 some v1
def b7I(a0:List s6)(a1:Int)(a2:Int)(a3:Int):Option ((List s6) × Int × Int):=
 if ((decide (a1<0))||(decide (a1≥(a0.length:Int)))) then
  some (a0,0,7)
 else
 (app 24 [] a0).bind λv1=>
 (ix v1 a1).bind λv2=>
 (ix a0 a1).bind λv3=>
 some ((v1.set (a1).toNat (⟨a2,(a2 != 0),a3⟩:s6)),v3.Target,0)
def a1l(a0:g9)(a1:Int):Option g9:=
 (M4 a0.S).bind λv1=>
 (N2 v1 a1).bind λv2=>
 if (v2.2 != 0) then
  some a0
 else
 (ix a0.S.Cells v2.1).bind λv3=>
 (O1 a0.S a1 (⟨v3.Val.Serial,v3.Val.Strong,u9 (v3.Val.Weak-1),v3.Val.Prog,v3.Val.Started,v3.Val.Fields⟩:B2)).bind λv4=>
 (ix v4.1.Cells v2.1).bind λv5=>
 if ((v5.State==2)&&(decide ((u9 (v3.Val.Weak-1))<1))) then
  (b1i v4.1 a1).bind λv6=>
  some (⟨v6,a0.Roots,a0.Cells,a0.T,a0.Q⟩:g9)
 else
 some (⟨v4.1,a0.Roots,a0.Cells,a0.T,a0.Q⟩:g9)
def a4e(a0:g9)(a1:Int)(a2:Int)(a3:Int):Option (g9 × Int):=
 (n0 (((decide (a1<0))||(decide (a1 > 5)))==false) false (a2l a0.Q a1)).bind λv1=>
 if (((decide (a1<0))||(decide (a1 > 5)))||v1) then
  some (a0,7)
 else
 (X0 a0 a2).bind λv2=>
 if (!v2) then
  some (a0,3)
 else
 (b7I a0.Cells a1 a2 a3).bind λv3=>
 if (a2 != 0) then
  (F5 a0.S a2).bind λv4=>
  (O1 a0.S a2 (⟨v4.1.Serial,v4.1.Strong,u9 (v4.1.Weak+1),v4.1.Prog,v4.1.Started,v4.1.Fields⟩:B2)).bind λv5=>
  (a1l (⟨v5.1,a0.Roots,v3.1,a0.T,a0.Q⟩:g9) v3.2.1).bind λv6=>
  some (v6,0)
 else
 (a1l (⟨a0.S,a0.Roots,v3.1,a0.T,a0.Q⟩:g9) v3.2.1).bind λv7=>
 some (v7,0)
def X5(a0:g9)(a1:Int):Option (Int × Int):=
 (ix a0.Roots a1).bind λv1=>
 if (v1==0) then
  some (0,2)
 else
 some (v1,0)
def a5N(a0:g9)(a1:Int):Option Int:=
 if (decide (a1<0)) then
  some 0
 else
 (ix a0.Roots a1).bind λv1=>
 some v1
def b4P(a0:List Int)(a1:Int):Option (Int × Int):=
 if ((decide (a1<0))||(decide (a1≥(a0.length:Int)))) then
  some (0,5)
 else
 (ix a0 a1).bind λv1=>
 some (v1,0)
def a3P(a0:k9)(a1:Int)(a2:Int):Option (Int × Int):=
 (F5 a0 a1).bind λv1=>
 if (v1.2 != 0) then
  some (0,v1.2)
 else
 (b4P v1.1.Fields a2).bind λv2=>
 some (v2.1,v2.2)
def b9r(a0:List Int)(a1:Int)(a2:Int):Option ((List Int) × Int):=
 if ((decide (a1<0))||(decide (a1≥(a0.length:Int)))) then
  some (a0,5)
 else
 (app 8 [] a0).bind λv1=>
 (ix v1 a1).bind λv2=>
 some ((v1.set (a1).toNat a2),0)
def b7E(a0:k9)(a1:Int)(a2:Int)(a3:Int):Option (k9 × Int):=
 (F5 a0 a1).bind λv1=>
 if (v1.2 != 0) then
  some (a0,v1.2)
 else
 (b9r v1.1.Fields a2 a3).bind λv2=>
 if (v2.2 != 0) then
  some (a0,v2.2)
 else
 (O1 a0 a1 (⟨v1.1.Serial,v1.1.Strong,v1.1.Weak,v1.1.Prog,v1.1.Started,v2.1⟩:B2)).bind λv3=>
 some (v3.1,v3.2)
def a5L(a0:g9)(a1:Int)(a2:Int)(a3:Int):Option (g9 × Int):=
 (a3P a0.S a1 a2).bind λv1=>
 if (v1.2 != 0) then
  some (a0,v1.2)
 else
 (X0 a0 a3).bind λv2=>
 if (!v2) then
  some (a0,3)
 else
 (a1b a0 a3).bind λv3=>
 (b7E v3.S a1 a2 a3).bind λv4=>
 (F0 (⟨v4.1,v3.Roots,v3.Cells,v3.T,v3.Q⟩:g9) v1.1).bind λv5=>
 some (v5,0)
def b7J(a0:List k7)(a1:Int)(a2:Int):Option ((List k7) × Int):=
 (a0S a0 a1).bind λv1=>
 if (decide (v1≥0)) then
  (a24 a0 v1 (⟨1,a1,a2⟩:k7)).bind λv2=>
  some (v2,0)
 else
 (b1n (a0.length:Int) a1).bind λv3=>
 jn (λ(_:Unit)=>
  some (a0,8)) (λκ12=>
  (lp (S:=Int × Int) (E:=((List k7) × Int) ⊕ Unit) (λ((s15,s16):Int × Int)=>
   if (decide (s16<(a0.length:Int))) then
    (ix a0 s15).bind λv19=>
    if (v19.State != 1) then
     (a24 a0 s15 (⟨1,a1,a2⟩:k7)).bind λv20=>
     some (.inr (.inl (v20,0)))
    else
    (rem (u9 (s15+1)) (a0.length:Int)).bind λv21=>
    some (.inl (v21,u9 (s16+1)))
   else
   some (.inr (.inr ()))) (v3,0)).bind λe14=>
  match e14 with
  | .inl w=>some w
  | .inr w=>κ12 w)
def b7M(a0:List k7)(a1:Int)(a2:Int):Option ((List k7) × Int × Int):=
 if (a1==0) then
  some (a0,0,2)
 else
 (a8V a0 a1).bind λv1=>
 if (a2==0) then
  (a75 a0 a1).bind λv2=>
  some (v2.1,v1.1,0)
 else
 (b7J a0 a1 a2).bind λv3=>
 if (v3.2 != 0) then
  some (a0,0,v3.2)
 else
 some (v3.1,v1.1,0)
def a79(a0:g9)(a1:Int)(a2:Int):Option (g9 × Int):=
 if (a1==0) then
  some (a0,2)
 else
 (W9 a0 a1).bind λv1=>
 (n0 ((!v1)==false) false (X0 a0 a2)).bind λv2=>
 if ((!v1)||(!v2)) then
  some (a0,3)
 else
 (b7M a0.T a1 a2).bind λv3=>
 if (v3.2.2 != 0) then
  some (a0,v3.2.2)
 else
 (a1b a0 a2).bind λv4=>
 (F0 (⟨v4.S,v4.Roots,v4.Cells,v3.1,v4.Q⟩:g9) v3.2.1).bind λv5=>
 some (v5,0)
def a1n(a0:g9)(a1:w9):Option (g9 × Int × Int):=
 if ((a1.Kind==6)&&(decide (a1.B<0))) then
  (a4e a0 a1.A 0 a1.C).bind λv1=>
  some (v1.1,0,v1.2)
 else
 jn (λ(j3:Int)=>
  (X5 a0 j3).bind λv4=>
  if (v4.2 != 0) then
   some (a0,0,v4.2)
  else
  if (a1.Kind==5) then
   (a5N a0 a1.C).bind λv5=>
   (a5L a0 v4.1 a1.B v5).bind λv6=>
   some (v6.1,v5,v6.2)
  else
  if (a1.Kind==6) then
   (a4e a0 a1.A v4.1 a1.C).bind λv7=>
   some (v7.1,v4.1,v7.2)
  else
  (a5N a0 a1.B).bind λv8=>
  (a79 a0 v4.1 v8).bind λv9=>
  some (v9.1,v8,v9.2)) (λκ2=>
  if (a1.Kind==6) then
   κ2 a1.B
  else
  κ2 a1.A)
def a4g(a0:g9)(a1:Int):Option Int:=
 (F5 a0.S a1).bind λv1=>
 some v1.1.Serial
def b3E(a0:Int):Option ((List Int) × Int):=
 if ((decide (a0<0))||(decide (a0 > 4))) then
  some ([],1)
 else
 (mk 8 a0 (0:Int)).bind λv1=>
 some (v1,0)
def a74(a0:C1)(a1:Int):Option (C1 × Int × Int):=
 jn (λ(_:Unit)=>
  some (a0,0,4)) (λκ7=>
  (lp (S:=Int) (E:=(C1 × Int × Int) ⊕ Unit) (λ(s10:Int)=>
   if (decide (s10<(a0.Cells.length:Int))) then
    (ix a0.Cells s10).bind λv12=>
    if (v12.State==0) then
     (a0R a0 s10 (⟨1,v12.Gen,a1⟩:B5)).bind λv13=>
     (a2Z s10 v12.Gen).bind λv14=>
     some (.inr (.inl (v13,v14,0)))
    else
    some (.inl (u9 (s10+1)))
   else
   some (.inr (.inr ()))) 0).bind λe9=>
  match e9 with
  | .inl w=>some w
  | .inr w=>κ7 w)
def a21(a0:k9)(a1:Int)(a2:Int):Option (k9 × Int × Int):=
 (b3E a1).bind λv1=>
 if (v1.2 != 0) then
  some (a0,0,v1.2)
 else
 if ((decide (a2<(-1)))||(decide (a2 > 5))) then
  some (a0,0,13)
 else
 (M4 a0).bind λv2=>
 (a74 v2 0).bind λv3=>
 if (v3.2.2 != 0) then
  some (a0,0,v3.2.2)
 else
 (a1a a0 v3.1).bind λv4=>
 (a5H v3.2.1).bind λv5=>
 (a23 v4 v5 (⟨u9 (a0.Serial+1),0,0,a2,false,v1.1⟩:B2)).bind λv6=>
 some ((⟨v6.Cells,v6.Last,u9 (a0.Serial+1)⟩:k9),v3.2.1,0)
def b2v(a0:g9)(a1:Int):Option Int:=
 if ((decide (a1<0))||(decide (a1 > 5))) then
  some 0
 else
 (ix a0.Roots a1).bind λv1=>
 (a4g a0 v1).bind λv2=>
 some v2
def b1l(a0:List s6)(a1:Int):Option (Int × Int):=
 if ((decide (a1<0))||(decide (a1≥(a0.length:Int)))) then
  some (0,7)
 else
 (ix a0 a1).bind λv1=>
 if ((v1.Target==0)||(!v1.Intact)) then
  some (0,9)
 else
 some (v1.Target,0)
def b3G(a0:List k7)(a1:Int):Option (Int × Int):=
 (a8V a0 a1).bind λv1=>
 some (v1.1,v1.2)
def a2o(a0:g9)(a1:w9):Option (Int × Int):=
 if (a1.Kind==2) then
  (ix a0.Roots a1.B).bind λv1=>
  some (v1,0)
 else
 if (a1.Kind==4) then
  (X5 a0 a1.B).bind λv2=>
  if (v2.2 != 0) then
   some (0,v2.2)
  else
  (a3P a0.S v2.1 a1.C).bind λv3=>
  some (v3.1,v3.2)
 else
 if (a1.Kind==7) then
  (b1l a0.Cells a1.B).bind λv4=>
  some (v4.1,v4.2)
 else
 if (a1.Kind==9) then
  (X5 a0 a1.B).bind λv5=>
  if (v5.2 != 0) then
   some (0,v5.2)
  else
  (b3G a0.T v5.1).bind λv6=>
  some (v6.1,v6.2)
 else
 some (0,0)
def C8(a0:g9)(a1:w9):Option (g9 × Int × Int):=
 (a2n a1).bind λv1=>
 if (v1 != 0) then
  some (a0,0,v1)
 else
 (Q1 a1).bind λv2=>
 if (!v2) then
  some (a0,0,14)
 else
 if (a1.Kind==10) then
  (ix a0.Roots a1.A).bind λv3=>
  (ix a0.Roots a1.B).bind λv4=>
  if (v3==v4) then
   some (a0,1,0)
  else
  some (a0,0,0)
 else
 jn (λ(j6:Bool)=>
  if j6 then
   (a1n a0 a1).bind λv7=>
   if (v7.2.2 != 0) then
    some (a0,0,v7.2.2)
   else
   (R2 v7.1).bind λv8=>
   (a4g a0 v7.2.1).bind λv9=>
   some (v8,v9,0)
  else
  if (a1.Kind==1) then
   (a21 a0.S a1.B a1.C).bind λv10=>
   if (v10.2.2 != 0) then
    some (a0,0,v10.2.2)
   else
   (W3 (⟨v10.1,a0.Roots,a0.Cells,a0.T,a0.Q⟩:g9) a1.A v10.2.1).bind λv11=>
   (R2 v11.1).bind λv12=>
   (b2v v12 a1.A).bind λv13=>
   some (v12,v13,0)
  else
  (a2o a0 a1).bind λv14=>
  if (v14.2 != 0) then
   some (a0,0,v14.2)
  else
  (W3 a0 a1.A v14.1).bind λv15=>
  (R2 v15.1).bind λv16=>
  (b2v v16 a1.A).bind λv17=>
  some (v16,v17,0)) (λκ5=>
  if (a1.Kind==5) then
   κ5 (a1.Kind==5)
  else
  if (a1.Kind==6) then
   κ5 (a1.Kind==6)
  else
  κ5 (a1.Kind==8))
def a6J(a0:g9)(a1:List w9):Option (g9 × (List Int)):=
 jn (λ((j11,j12):g9 × (List Int))=>
  some (j11,j12)) (λκ10=>
  (lp (S:=Int × g9 × (List Int)) (E:=(g9 × (List Int))) (λ((s15,s16,s17):Int × g9 × (List Int))=>
   if (decide (s15<(a1.length:Int))) then
    (ix a1 s15).bind λv20=>
    (C8 s16 v20).bind λv21=>
    (app 8 s17 [v21.2.1]).bind λv22=>
    some (.inl (u9 (s15+1),v21.1,v22))
   else
   some (.inr (s16,s17))) (0,a0,[])).bind λe14=>
  κ10 e14)
def a5O(a0:g9)(a1:List (List w9)):Option (g9 × r8 × Int):=
 (b4R a0.Q).bind λv1=>
 if (v1.2.2 != 0) then
  some (a0,(⟨0,0,0⟩:r8),v1.2.2)
 else
 jn (λ(j6:g9)=>
  (a8d a1 v1.2.1.Prog).bind λv7=>
  (a6J j6 v7).bind λv8=>
  if (v1.2.1.Kind==1) then
   (W3 v8.1 5 0).bind λv9=>
   (R2 v9.1).bind λv10=>
   some (v10,v1.2.1,0)
  else
  some (v8.1,v1.2.1,0)) (λκ5=>
  if (v1.2.1.Kind==1) then
   (W3 (⟨a0.S,a0.Roots,a0.Cells,a0.T,v1.1⟩:g9) 5 v1.2.1.At).bind λv11=>
   (F0 v11.1 v1.2.1.At).bind λv12=>
   (R2 v12).bind λv13=>
   κ5 v13
  else
  κ5 (⟨a0.S,a0.Roots,a0.Cells,a0.T,v1.1⟩:g9))
def a8c(a0:List (List w9))(a1:r8):Option Int:=
 (a8d a0 a1.Prog).bind λv1=>
 some (u9 (1+(v1.length:Int)))
def b2w(a0:g9):Option Bool:=
 some ((a0.Q.L.length:Int)==0)
def a86(a0:g9)(a1:List (List w9))(a2:Int):Option (g9 × Int × Int × Int):=
 jn (λ((j12,j13,j14):Int × Int × g9)=>
  some (j14,j13,j12,0)) (λκ11=>
  (lp (S:=Int × Int × g9) (E:=(g9 × Int × Int × Int) ⊕ (Int × Int × g9)) (λ((s17,s18,s19):Int × Int × g9)=>
   (b2w s19).bind λv22=>
   if (!v22) then
    (ix s19.Q.L 0).bind λv23=>
    (a8c a1 v23).bind λv24=>
    if (decide (v24 > s17)) then
     some (.inr (.inl (s19,s18,s17,12)))
    else
    (a5O s19 a1).bind λv25=>
    some (.inl (u9 (s17-v24),u9 (s18+1),v25.1))
   else
   some (.inr (.inr (s17,s18,s19)))) (a2,0,a0)).bind λe16=>
  match e16 with
  | .inl w=>some w
  | .inr w=>κ11 w)
end
end Go.Sh
