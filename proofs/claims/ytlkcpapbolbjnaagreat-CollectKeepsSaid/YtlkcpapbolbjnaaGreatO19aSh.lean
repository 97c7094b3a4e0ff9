/-
 Plain functions: what the functions of the program come to.
-/
import Derived.Test.YtlkcpapbolbjnaaGreatO19aSh0
import Derived.Test.YtlkcpapbolbjnaaGreatO19aPwD
set_option linter.unusedVariables false
set_option linter.unusedSimpArgs false
set_option linter.unusedSectionVars false
namespace Go.Sh
set_option maxRecDepth 100000
noncomputable section
structure store_Obj where
 Serial:Int
 Strong:Int
 Weak:Int
 Prog:Int
 Started:Bool
 Fields:List Int
structure slab_Cell_store_Obj where
 State:Int
 Gen:Int
 Val:store_Obj
structure slab_Slab_store_Obj where
 Cells:List slab_Cell_store_Obj
 Last:Int
structure store_Store where
 S:slab_Slab_store_Obj
 Serial:Int
structure weak_Cell where
 Target:Int
 Intact:Bool
 Call:Int
structure hash_Place where
 State:Int
 Key:Int
 Val:Int
structure task_Task where
 Kind:Int
 At:Int
 Prog:Int
instance:BEq task_Task:=⟨λa b=>((a.Kind==b.Kind)&&((a.At==b.At)&&((a.Prog==b.Prog)&&true)))⟩
theorem task_Task.beq_eq(a b:task_Task)(h:(a==b)=true):a=b:=by
 have h:((a.Kind==b.Kind)&&((a.At==b.At)&&((a.Prog==b.Prog)&&true)))=true:=h
 simp only[Bool.and_eq_true,beq_iff_eq,and_true] at h
 obtain⟨h0,h1,h2⟩:=h
 cases a;cases b;simp_all
structure queue_Queue_task_Task where
 L:List task_Task
 Cap:Int
structure hold_Heap where
 S:store_Store
 Roots:List Int
 Cells:List weak_Cell
 T:List hash_Place
 Q:queue_Queue_task_Task
structure z8 where
 Serial:Int
 Strong:Int
 Weak:Int
 Prog:Int
 Started:Bool
 Fields:List Int
structure j6 where
 State:Int
 Gen:Int
 Val:z8
structure k9 where
 Target:Int
 Intact:Bool
 Call:Int
structure c7 where
 State:Int
 Key:Int
 Val:Int
structure m9 where
 Kind:Int
 At:Int
 Prog:Int
structure c9 where
 Cells:List j6
 Last:Int
 Serial:Int
structure r7 where
 L:List m9
 Cap:Int
structure c5 where
 S:c9
 Roots:List Int
 Cells:List k9
 T:List c7
 Q:r7
structure r8 where
 State:Int
 Gen:Int
 Val:Int
structure z7 where
 Cells:List r8
 Last:Int
structure u5 where
 Key:Int
 Val:Int
structure o0 where
 Kind:Int
 A:Int
 B:Int
 C:Int
structure g6 where
 part:Fv
 least:Int
 most:Int
 e:Int
structure o9 where
 x:hold_Heap
 o:o0
structure F8 where
 r:Int
 h:Int
structure E4 where
 h:Int
 k:Int
 v:Int
structure F7 where
 t:List hash_Place
structure j5 where
 Key:Int
 Val:Int
structure g5 where
 L:List Int
 Cap:Int
structure A7 where
 kept:Fv
def a71(a0:store_Store):Option Bool:=
 jn (λ(_:Unit)=>
  some (decide ((a0.S.Cells.length:Int)≤30))) (λκ5=>
  (lp (S:=Int) (E:=Bool ⊕ Unit) (λ(s8:Int)=>
   if ((decide (s8<(a0.S.Cells.length:Int)))&&(decide (s8<30))) then
    (ix a0.S.Cells s8).bind λv10=>
    if (decide ((v10.Val.Fields.length:Int) > 10)) then
     some (.inr (.inl false))
    else
    some (.inl (s7 (s8+1)))
   else
   some (.inr (.inr ()))) 0).bind λe7=>
  match e7 with
  | .inl w=>some w
  | .inr w=>κ5 w)
def a09(a0:hold_Heap):Option Bool:=
 (a71 a0.S).bind λv1=>
 some ((((v1&&(decide ((a0.Roots.length:Int)≤20)))&&(decide ((a0.Cells.length:Int)≤20)))&&(decide ((a0.T.length:Int)≤20)))&&(decide ((a0.Q.L.length:Int)≤60)))
def b2o(a0:store_Obj):Option z8:=
 some (⟨a0.Serial,a0.Strong,a0.Weak,a0.Prog,a0.Started,a0.Fields⟩:z8)
def a2P(a0:store_Store):Option c9:=
 jn (λ(j10:List j6)=>
  some (⟨j10,a0.S.Last,a0.Serial⟩:c9)) (λκ9=>
  (lp (S:=Int × (List j6)) (E:=(List j6)) (λ((s12,s13):Int × (List j6))=>
   if (decide (s12<(a0.S.Cells.length:Int))) then
    (ix a0.S.Cells s12).bind λv16=>
    (b2o v16.Val).bind λv17=>
    (app 80 s13 [(⟨v16.State,v16.Gen,v17⟩:j6)]).bind λv18=>
    some (.inl (s7 (s12+1),v18))
   else
   some (.inr s13)) (0,[])).bind λe11=>
  κ9 e11)
def a7Z(a0:List weak_Cell):Option (List k9):=
 jn (λ(j9:List k9)=>
  some j9) (λκ8=>
  (lp (S:=Int × (List k9)) (E:=(List k9)) (λ((s11,s12):Int × (List k9))=>
   if (decide (s11<(a0.length:Int))) then
    (ix a0 s11).bind λv15=>
    (app 24 s12 [(⟨v15.Target,v15.Intact,v15.Call⟩:k9)]).bind λv16=>
    some (.inl (s7 (s11+1),v16))
   else
   some (.inr s12)) (0,[])).bind λe10=>
  κ8 e10)
def a73(a0:List hash_Place):Option (List c7):=
 jn (λ(j9:List c7)=>
  some j9) (λκ8=>
  (lp (S:=Int × (List c7)) (E:=(List c7)) (λ((s11,s12):Int × (List c7))=>
   if (decide (s11<(a0.length:Int))) then
    (ix a0 s11).bind λv15=>
    (app 24 s12 [(⟨v15.State,v15.Key,v15.Val⟩:c7)]).bind λv16=>
    some (.inl (s7 (s11+1),v16))
   else
   some (.inr s12)) (0,[])).bind λe10=>
  κ8 e10)
def a74(a0:queue_Queue_task_Task):Option r7:=
 jn (λ(j9:List m9)=>
  some (⟨j9,a0.Cap⟩:r7)) (λκ8=>
  (lp (S:=Int × (List m9)) (E:=(List m9)) (λ((s11,s12):Int × (List m9))=>
   if (decide (s11<(a0.L.length:Int))) then
    (ix a0.L s11).bind λv15=>
    (app 24 s12 [(⟨v15.Kind,v15.At,v15.Prog⟩:m9)]).bind λv16=>
    some (.inl (s7 (s11+1),v16))
   else
   some (.inr s12)) (0,[])).bind λe10=>
  κ8 e10)
def L3(a0:hold_Heap):Option c5:=
 (a2P a0.S).bind λv1=>
 (a7Z a0.Cells).bind λv2=>
 (a73 a0.T).bind λv3=>
 (a74 a0.Q).bind λv4=>
 some (⟨v1,a0.Roots,v2,v3,v4⟩:c5)
def L8(a0:c9):Option z7:=
 jn (λ(j9:List r8)=>
  some (⟨j9,a0.Last⟩:z7)) (λκ8=>
  (lp (S:=Int × (List r8)) (E:=(List r8)) (λ((s11,s12):Int × (List r8))=>
   if (decide (s11<(a0.Cells.length:Int))) then
    (ix a0.Cells s11).bind λv15=>
    (app 24 s12 [(⟨v15.State,v15.Gen,s11⟩:r8)]).bind λv16=>
    some (.inl (s7 (s11+1),v16))
   else
   some (.inr s12)) (0,[])).bind λe10=>
  κ8 e10)
def a7H(a0:z7):Option Bool:=
 if (((decide ((a0.Cells.length:Int) > 24))||(decide (a0.Last<0)))||(decide (a0.Last > 9))) then
  some false
 else
 jn (λ(_:Unit)=>
  some true) (λκ5=>
  (lp (S:=Int) (E:=Bool ⊕ Unit) (λ(s8:Int)=>
   if (decide (s8<(a0.Cells.length:Int))) then
    (ix a0.Cells s8).bind λv10=>
    if ((((decide (v10.State<0))||(decide (v10.State > 3)))||(decide (v10.Gen<0)))||(decide (v10.Gen > a0.Last))) then
     some (.inr (.inl false))
    else
    some (.inl (s7 (s8+1)))
   else
   some (.inr (.inr ()))) 0).bind λe7=>
  match e7 with
  | .inl w=>some w
  | .inr w=>κ5 w)
def a2T(a0:j6):Option Bool:=
 some ((a0.State==1)||(a0.State==2))
def a7I(a0:c9):Option Bool:=
 (L8 a0).bind λv1=>
 (a7H v1).bind λv2=>
 if ((!v2)||(decide (a0.Serial<0))) then
  some false
 else
 jn (λ(_:Unit)=>
  some true) (λκ22=>
  (lp (S:=Int) (E:=Bool ⊕ Unit) (λ(s25:Int)=>
   if (decide (s25<(a0.Cells.length:Int))) then
    jn (λ(_:Unit)=>
     some (.inl (s7 (s25+1)))) (λκ34=>
     (ix a0.Cells s25).bind λv36=>
     (a2T v36).bind λv37=>
     if (!v37) then
      if ((((((v36.Val.Serial != 0)||(v36.Val.Strong != 0))||(v36.Val.Weak != 0))||(v36.Val.Prog != 0))||v36.Val.Started)||((v36.Val.Fields.length:Int) != 0)) then
       some (.inr (.inl false))
      else
      κ34 ()
     else
     if (((((((decide (v36.Val.Serial<1))||(decide (v36.Val.Serial > a0.Serial)))||(decide (v36.Val.Strong<0)))||(decide (v36.Val.Weak<0)))||(decide (v36.Val.Prog<(-1))))||(decide (v36.Val.Prog > 5)))||(decide ((v36.Val.Fields.length:Int) > 4))) then
      some (.inr (.inl false))
     else
     (lp (S:=Int) (E:=Bool ⊕ Unit) (λ(s39:Int)=>
      if (decide (s39<s25)) then
       (ix a0.Cells s39).bind λv41=>
       (a2T v41).bind λv42=>
       if (v42&&(v41.Val.Serial==v36.Val.Serial)) then
        some (.inr (.inl false))
       else
       some (.inl (s7 (s39+1)))
      else
      some (.inr (.inr ()))) 0).bind λe38=>
     match e38 with
     | .inl w=>some (.inr (.inl w))
     | .inr w=>κ34 w)
   else
   some (.inr (.inr ()))) 0).bind λe24=>
  match e24 with
  | .inl w=>some w
  | .inr w=>κ22 w)
def a0Z(a0:List c7)(a1:Int):Option Int:=
 jn (λ(_:Unit)=>
  some (-1)) (λκ5=>
  (lp (S:=Int) (E:=Int ⊕ Unit) (λ(s8:Int)=>
   if (decide (s8<(a0.length:Int))) then
    (ix a0 s8).bind λv10=>
    if ((v10.State==1)&&(v10.Key==a1)) then
     some (.inr (.inl s8))
    else
    some (.inl (s7 (s8+1)))
   else
   some (.inr (.inr ()))) 0).bind λe7=>
  match e7 with
  | .inl w=>some w
  | .inr w=>κ5 w)
def b3e(a0:Int)(a1:Int):Option Int:=
 if (decide (a0<1)) then
  some 0
 else
 (rem (s7 ((s7 (5*a1))+1)) a0).bind λv1=>
 if (decide (v1<0)) then
  some (s7 (v1+a0))
 else
 some v1
def a7K(a0:List c7):Option Bool:=
 if ((decide ((a0.length:Int)<1))||(decide ((a0.length:Int) > 8))) then
  some false
 else
 jn (λ(_:Unit)=>
  some true) (λκ22=>
  (lp (S:=Int) (E:=Bool ⊕ Unit) (λ(s25:Int)=>
   if (decide (s25<(a0.length:Int))) then
    jn (λ(_:Unit)=>
     some (.inl (s7 (s25+1)))) (λκ35=>
     (ix a0 s25).bind λv37=>
     if (((decide (v37.State<0))||(decide (v37.State > 2)))||((v37.State != 1)&&((v37.Key != 0)||(v37.Val != 0)))) then
      some (.inr (.inl false))
     else
     if (v37.State != 1) then
      κ35 ()
     else
     (a0Z a0 v37.Key).bind λv38=>
     if (v38 != s25) then
      some (.inr (.inl false))
     else
     (b3e (a0.length:Int) v37.Key).bind λv39=>
     (lp (S:=Int) (E:=Bool ⊕ Unit) (λ(s41:Int)=>
      if (s41 != s25) then
       (ix a0 s41).bind λv43=>
       if (v43.State==0) then
        some (.inr (.inl false))
       else
       (rem (s7 (s41+1)) (a0.length:Int)).bind λv44=>
       some (.inl v44)
      else
      some (.inr (.inr ()))) v39).bind λe40=>
     match e40 with
     | .inl w=>some (.inr (.inl w))
     | .inr w=>κ35 w)
   else
   some (.inr (.inr ()))) 0).bind λe24=>
  match e24 with
  | .inl w=>some w
  | .inr w=>κ22 w)
def a3k(a0:Int)(a1:Int):Option Int:=
 if ((((decide (a0<0))||(decide (a0 > 23)))||(decide (a1<0)))||(decide (a1 > 9))) then
  some 0
 else
 some (s7 ((s7 (1+a0))+(s7 (32*a1))))
def a4H(a0:Int):Option Bool:=
 if ((decide (a0<1))||(decide (a0 > 400))) then
  some false
 else
 (rem (s7 (a0-1)) 32).bind λv1=>
 (quo .i64 (s7 (a0-1)) 32).bind λv2=>
 (a3k v1 v2).bind λv3=>
 some (v3==a0)
def a6Y(a0:Int):Option Int:=
 (a4H a0).bind λv1=>
 if (!v1) then
  some (-1)
 else
 (rem (s7 (a0-1)) 32).bind λv2=>
 some v2
def b2d(a0:Int):Option Int:=
 (a4H a0).bind λv1=>
 if (!v1) then
  some (-1)
 else
 (quo .i64 (s7 (a0-1)) 32).bind λv2=>
 some v2
def L1(a0:z7)(a1:Int):Option (Int × Int):=
 if (a1==0) then
  some ((-1),2)
 else
 (a6Y a1).bind λv1=>
 if ((decide (v1<0))||(decide (v1≥(a0.Cells.length:Int)))) then
  some ((-1),3)
 else
 (ix a0.Cells v1).bind λv2=>
 (b2d a1).bind λv3=>
 if ((v2.Gen != v3)||((v2.State != 1)&&(v2.State != 2))) then
  some ((-1),3)
 else
 some (v1,0)
def a9T(a0:z7)(a1:Int):Option (Int × Int):=
 (L1 a0 a1).bind λv1=>
 if (v1.2 != 0) then
  some (0,v1.2)
 else
 (ix a0.Cells v1.1).bind λv2=>
 if (v2.State==2) then
  some (0,3)
 else
 some (v2.Val,0)
def E2(a0:c9)(a1:Int):Option (z8 × Int):=
 (L8 a0).bind λv1=>
 (a9T v1 a1).bind λv2=>
 if (v2.2 != 0) then
  some ((⟨0,0,0,0,false,[]⟩:z8),v2.2)
 else
 (ix a0.Cells v2.1).bind λv3=>
 some (v3.Val,0)
def a7P(a0:c5):Option Bool:=
 jn (λ(_:Unit)=>
  some ((a0.Q.Cap==30)&&(decide ((a0.Q.L.length:Int)≤30)))) (λκ30=>
  (lp (S:=Int) (E:=Bool ⊕ Unit) (λ(s33:Int)=>
   if (decide (s33<(a0.Q.L.length:Int))) then
    jn (λ(_:Unit)=>
     some (.inl (s7 (s33+1)))) (λκ47=>
     (ix a0.Q.L s33).bind λv49=>
     if ((((v49.Kind != 1)&&(v49.Kind != 2))||(decide (v49.Prog<0)))||(decide (v49.Prog > 5))) then
      some (.inr (.inl false))
     else
     jn (λ(_:Unit)=>
      (E2 a0.S v49.At).bind λv56=>
      if (((v49.Kind==1)&&((v56.2 != 0)||(!v56.1.Started)))||((v49.Kind==2)&&((decide (v49.At<0))||(decide (v49.At > 5))))) then
       some (.inr (.inl false))
      else
      κ47 ()) (λκ54=>
      (lp (S:=Int) (E:=Bool ⊕ Unit) (λ(s58:Int)=>
       if (decide (s58<s33)) then
        (ix a0.Q.L s58).bind λv60=>
        if ((v60.Kind==v49.Kind)&&(v60.At==v49.At)) then
         some (.inr (.inl false))
        else
        some (.inl (s7 (s58+1)))
       else
       some (.inr (.inr ()))) 0).bind λe57=>
      match e57 with
      | .inl w=>some (.inr (.inl w))
      | .inr w=>κ54 w))
   else
   some (.inr (.inr ()))) 0).bind λe32=>
  match e32 with
  | .inl w=>some w
  | .inr w=>κ30 w)
def W8(a0:c5)(a1:Int):Option Bool:=
 (E2 a0.S a1).bind λv1=>
 some (v1.2==0)
def a2V(a0:c5)(a1:Int):Option Bool:=
 (l4 ((a1==0)==false) false (W8 a0 a1)).bind λv1=>
 some ((a1==0)||v1)
def a3l(a0:c9)(a1:List Int):Option (List Int):=
 (app 8 [] a1).bind λv1=>
 jn (λ(j36:List Int)=>
  some j36) (λκ35=>
  (lp (S:=Int × (List Int)) (E:=(List Int)) (λ((s38,s39):Int × (List Int))=>
   if (decide (s38<(s39.length:Int))) then
    jn (λ(j56:List Int)=>
     some (.inl (s7 (s38+1),j56))) (λκ55=>
     (lp (S:=Int × (List Int)) (E:=(List Int)) (λ((s58,s59):Int × (List Int))=>
      if (decide (s58 > 0)) then
       (L8 a0).bind λv62=>
       (ix s59 (s7 (s58-1))).bind λv63=>
       (L1 v62 v63).bind λv64=>
       (ix s59 s58).bind λv65=>
       (L1 v62 v65).bind λv66=>
       (l4 (((decide (v64.1<0))||(decide (v66.1<0)))==false) (⟨0,0,⟨0,0,0,0,false,[]⟩⟩:j6) (ix a0.Cells v64.1)).bind λv67=>
       (l4 (((decide (v64.1<0))||(decide (v66.1<0)))==false) (⟨0,0,⟨0,0,0,0,false,[]⟩⟩:j6) (ix a0.Cells v66.1)).bind λv68=>
       if (((decide (v64.1<0))||(decide (v66.1<0)))||(decide (v67.Val.Serial≤v68.Val.Serial))) then
        some (.inr s59)
       else
       (ix (s59.set (s58).toNat v63) (s7 (s58-1))).bind λv69=>
       some (.inl (s7 (s58-1),((s59.set (s58).toNat v63).set (s7 (s58-1)).toNat v65)))
      else
      some (.inr s59)) (s38,s39)).bind λe57=>
     κ55 e57)
   else
   some (.inr s39)) (1,v1)).bind λe37=>
  κ35 e37)
def I5(a0:c9):Option (List Int):=
 jn (λ(j15:List Int)=>
  (a3l a0 j15).bind λv16=>
  some v16) (λκ14=>
  (lp (S:=Int × (List Int)) (E:=(List Int)) (λ((s18,s19):Int × (List Int))=>
   if (decide (s18<(a0.Cells.length:Int))) then
    jn (λ(j26:List Int)=>
     some (.inl (s7 (s18+1),j26))) (λκ25=>
     (ix a0.Cells s18).bind λv27=>
     if (v27.State==1) then
      (a3k s18 v27.Gen).bind λv28=>
      (app 8 s19 [v28]).bind λv29=>
      κ25 v29
     else
     κ25 s19)
   else
   some (.inr s19)) (0,[])).bind λe17=>
  κ14 e17)
def a93(a0:List c7):Option (List Int):=
 jn (λ(j13:List Int)=>
  some j13) (λκ12=>
  (lp (S:=Int × (List Int)) (E:=(List Int)) (λ((s15,s16):Int × (List Int))=>
   if (decide (s15<(a0.length:Int))) then
    jn (λ(j22:List Int)=>
     some (.inl (s7 (s15+1),j22))) (λκ21=>
     (ix a0 s15).bind λv23=>
     if (v23.State==1) then
      (app 8 s16 [v23.Key]).bind λv24=>
      κ21 v24
     else
     κ21 s16)
   else
   some (.inr s16)) (0,[])).bind λe14=>
  κ12 e14)
def b2f(a0:List c7)(a1:Int):Option (Int × Int):=
 (a0Z a0 a1).bind λv1=>
 if (decide (v1<0)) then
  some (0,9)
 else
 (ix a0 v1).bind λv2=>
 some (v2.Val,0)
def a2U(a0:List c7):Option (List u5):=
 (a93 a0).bind λv1=>
 jn (λ(j11:List u5)=>
  some j11) (λκ10=>
  (lp (S:=Int × (List u5)) (E:=(List u5)) (λ((s13,s14):Int × (List u5))=>
   if (decide (s13<(v1.length:Int))) then
    (ix v1 s13).bind λv17=>
    (b2f a0 v17).bind λv18=>
    (app 16 s14 [(⟨v17,v18.1⟩:u5)]).bind λv19=>
    some (.inl (s7 (s13+1),v19))
   else
   some (.inr s14)) (0,[])).bind λe12=>
  κ10 e12)
def a7O(a0:c5):Option Bool:=
 jn (λ(_:Unit)=>
  (I5 a0.S).bind λv8=>
  jn (λ(_:Unit)=>
   (a2U a0.T).bind λv30=>
   jn (λ(_:Unit)=>
    some true) (λκ37=>
    (lp (S:=Int) (E:=Bool ⊕ Unit) (λ(s40:Int)=>
     if (decide (s40<(v30.length:Int))) then
      (ix v30 s40).bind λv42=>
      (W8 a0 v42.Key).bind λv43=>
      (l4 ((!v43)==false) false (W8 a0 v42.Val)).bind λv44=>
      if ((!v43)||(!v44)) then
       some (.inr (.inl false))
      else
      some (.inl (s7 (s40+1)))
     else
     some (.inr (.inr ()))) 0).bind λe39=>
    match e39 with
    | .inl w=>some w
    | .inr w=>κ37 w)) (λκ28=>
   (lp (S:=Int) (E:=Bool ⊕ Unit) (λ(s46:Int)=>
    if (decide (s46<(v8.length:Int))) then
     jn (λ(_:Unit)=>
      some (.inl (s7 (s46+1)))) (λκ55=>
      (ix v8 s46).bind λv57=>
      (E2 a0.S v57).bind λv58=>
      (lp (S:=Int) (E:=Bool ⊕ Unit) (λ(s60:Int)=>
       if (decide (s60<(v58.1.Fields.length:Int))) then
        (ix v58.1.Fields s60).bind λv62=>
        (a2V a0 v62).bind λv63=>
        if (!v63) then
         some (.inr (.inl false))
        else
        some (.inl (s7 (s60+1)))
       else
       some (.inr (.inr ()))) 0).bind λe59=>
      match e59 with
      | .inl w=>some (.inr (.inl w))
      | .inr w=>κ55 w)
    else
    some (.inr (.inr ()))) 0).bind λe45=>
   match e45 with
   | .inl w=>some w
   | .inr w=>κ28 w)) (λκ6=>
  (lp (S:=Int) (E:=Bool ⊕ Unit) (λ(s65:Int)=>
   if (decide (s65<(a0.Roots.length:Int))) then
    (ix a0.Roots s65).bind λv67=>
    (a2V a0 v67).bind λv68=>
    if (!v68) then
     some (.inr (.inl false))
    else
    some (.inl (s7 (s65+1)))
   else
   some (.inr (.inr ()))) 0).bind λe64=>
  match e64 with
  | .inl w=>some w
  | .inr w=>κ6 w)
def a4O(a0:r7)(a1:Int):Option Bool:=
 jn (λ(_:Unit)=>
  some false) (λκ5=>
  (lp (S:=Int) (E:=Bool ⊕ Unit) (λ(s8:Int)=>
   if (decide (s8<(a0.L.length:Int))) then
    (ix a0.L s8).bind λv10=>
    if ((v10.Kind==2)&&(v10.At==a1)) then
     some (.inr (.inl true))
    else
    some (.inl (s7 (s8+1)))
   else
   some (.inr (.inr ()))) 0).bind λe7=>
  match e7 with
  | .inl w=>some w
  | .inr w=>κ5 w)
def a7N(a0:c5):Option Bool:=
 jn (λ(_:Unit)=>
  some true) (λκ9=>
  (lp (S:=Int) (E:=Bool ⊕ Unit) (λ(s12:Int)=>
   if (decide (s12<(a0.Cells.length:Int))) then
    (ix a0.Cells s12).bind λv14=>
    (L8 a0.S).bind λv15=>
    (L1 v15 v14.Target).bind λv16=>
    (l4 ((((((decide (v14.Call<(-1)))||(decide (v14.Call > 5)))||((v14.Target==0)&&v14.Intact))||((v14.Target != 0)&&(v16.2 != 0)))==false)&&(v14.Intact==true)) false (W8 a0 v14.Target)).bind λv17=>
    (l4 (((((((decide (v14.Call<(-1)))||(decide (v14.Call > 5)))||((v14.Target==0)&&v14.Intact))||((v14.Target != 0)&&(v16.2 != 0)))==false)&&(v14.Intact==true))&&((!v17)==false)) false (a4O a0.Q s12)).bind λv18=>
    if (((((decide (v14.Call<(-1)))||(decide (v14.Call > 5)))||((v14.Target==0)&&v14.Intact))||((v14.Target != 0)&&(v16.2 != 0)))||(v14.Intact&&((!v17)||v18))) then
     some (.inr (.inl false))
    else
    some (.inl (s7 (s12+1)))
   else
   some (.inr (.inr ()))) 0).bind λe11=>
  match e11 with
  | .inl w=>some w
  | .inr w=>κ9 w)
def a8Y(a0:Int)(a1:Int):Option Int:=
 (a3k a0 a1).bind λv1=>
 some v1
def a5F(a0:List k9)(a1:Int):Option Int:=
 jn (λ(j11:Int)=>
  some j11) (λκ10=>
  (lp (S:=Int × Int) (E:=Int) (λ((s13,s14):Int × Int)=>
   if (decide (s14<(a0.length:Int))) then
    jn (λ(j19:Int)=>
     some (.inl (j19,s7 (s14+1)))) (λκ18=>
     (ix a0 s14).bind λv20=>
     if ((v20.Target==a1)&&(a1 != 0)) then
      κ18 (s7 (s13+1))
     else
     κ18 s13)
   else
   some (.inr s13)) (0,0)).bind λe12=>
  κ10 e12)
def a7Q(a0:c5):Option Bool:=
 jn (λ(_:Unit)=>
  some true) (λκ12=>
  (lp (S:=Int) (E:=Bool ⊕ Unit) (λ(s15:Int)=>
   if (decide (s15<(a0.S.Cells.length:Int))) then
    jn (λ(_:Unit)=>
     some (.inl (s7 (s15+1)))) (λκ20=>
     (ix a0.S.Cells s15).bind λv22=>
     if ((v22.State != 1)&&(v22.State != 2)) then
      κ20 ()
     else
     (a8Y s15 v22.Gen).bind λv23=>
     (a5F a0.Cells v23).bind λv24=>
     if ((v22.Val.Weak != v24)||((v22.State==2)&&(((decide (v22.Val.Weak<1))||(decide ((v22.Val.Fields.length:Int) > 0)))||(v22.Val.Strong != 0)))) then
      some (.inr (.inl false))
     else
     κ20 ())
   else
   some (.inr (.inr ()))) 0).bind λe14=>
  match e14 with
  | .inl w=>some w
  | .inr w=>κ12 w)
def a69(a0:r7):Option (List Int):=
 jn (λ(j13:List Int)=>
  some j13) (λκ12=>
  (lp (S:=Int × (List Int)) (E:=(List Int)) (λ((s15,s16):Int × (List Int))=>
   if (decide (s15<(a0.L.length:Int))) then
    jn (λ(j22:List Int)=>
     some (.inl (s7 (s15+1),j22))) (λκ21=>
     (ix a0.L s15).bind λv23=>
     if (v23.Kind==1) then
      (app 8 s16 [v23.At]).bind λv24=>
      κ21 v24
     else
     κ21 s16)
   else
   some (.inr s16)) (0,[])).bind λe14=>
  κ12 e14)
def a4P(a0:c5):Option (List Int):=
 jn (λ(j13:List Int)=>
  (a69 a0.Q).bind λv14=>
  (app 8 j13 v14).bind λv15=>
  some v15) (λκ12=>
  (lp (S:=Int × (List Int)) (E:=(List Int)) (λ((s17,s18):Int × (List Int))=>
   if (decide (s17<(a0.Roots.length:Int))) then
    jn (λ(j24:List Int)=>
     some (.inl (s7 (s17+1),j24))) (λκ23=>
     (ix a0.Roots s17).bind λv25=>
     if (v25 != 0) then
      (app 8 s18 [v25]).bind λv26=>
      κ23 v26
     else
     κ23 s18)
   else
   some (.inr s18)) (0,[])).bind λe16=>
  κ12 e16)
def P6(a0:Int):Option Bool:=
 some (decide (a0≥12))
def a4N(a0:c9)(a1:Int):Option Bool:=
 (E2 a0 a1).bind λv1=>
 (P6 v1.1.Strong).bind λv2=>
 some v2
def a1w(a0:List Int):Option (List Int):=
 jn (λ(j13:List Int)=>
  some j13) (λκ12=>
  (lp (S:=Int × (List Int)) (E:=(List Int)) (λ((s15,s16):Int × (List Int))=>
   if (decide (s15<(a0.length:Int))) then
    jn (λ(j22:List Int)=>
     some (.inl (s7 (s15+1),j22))) (λκ21=>
     (ix a0 s15).bind λv23=>
     if (v23 != 0) then
      (app 8 s16 [v23]).bind λv24=>
      κ21 v24
     else
     κ21 s16)
   else
   some (.inr s16)) (0,[])).bind λe14=>
  κ12 e14)
def a90(a0:c9)(a1:Int):Option (List Int):=
 (E2 a0 a1).bind λv1=>
 if (v1.2 != 0) then
  some []
 else
 (a1w v1.1.Fields).bind λv2=>
 some v2
def H6(a0:List Int)(a1:Int):Option Int:=
 jn (λ(j11:Int)=>
  some j11) (λκ10=>
  (lp (S:=Int × Int) (E:=Int) (λ((s13,s14):Int × Int)=>
   if (decide (s14<(a0.length:Int))) then
    jn (λ(j19:Int)=>
     some (.inl (j19,s7 (s14+1)))) (λκ18=>
     (ix a0 s14).bind λv20=>
     if ((v20==a1)&&(a1 != 0)) then
      κ18 (s7 (s13+1))
     else
     κ18 s13)
   else
   some (.inr s13)) (0,0)).bind λe12=>
  κ10 e12)
def b54(a0:c9)(a1:Int):Option Int:=
 (I5 a0).bind λv1=>
 jn (λ(j11:Int)=>
  some j11) (λκ10=>
  (lp (S:=Int × Int) (E:=Int) (λ((s13,s14):Int × Int)=>
   if (decide (s14<(v1.length:Int))) then
    (ix v1 s14).bind λv17=>
    (a90 a0 v17).bind λv18=>
    (H6 v18 a1).bind λv19=>
    some (.inl (s7 (s13+v19),s7 (s14+1)))
   else
   some (.inr s13)) (0,0)).bind λe12=>
  κ10 e12)
def a7L(a0:List c7)(a1:Int):Option Int:=
 (a2U a0).bind λv1=>
 jn (λ(j12:Int)=>
  some j12) (λκ11=>
  (lp (S:=Int × Int) (E:=Int) (λ((s14,s15):Int × Int)=>
   if (decide (s15<(v1.length:Int))) then
    jn (λ(j20:Int)=>
     some (.inl (j20,s7 (s15+1)))) (λκ19=>
     (ix v1 s15).bind λv21=>
     if ((v21.Val==a1)&&(a1 != 0)) then
      κ19 (s7 (s14+1))
     else
     κ19 s14)
   else
   some (.inr s14)) (0,0)).bind λe13=>
  κ11 e13)
def a7M(a0:c9)(a1:List c7)(a2:Int):Option Int:=
 (b54 a0 a2).bind λv1=>
 (a7L a1 a2).bind λv2=>
 some (s7 (v1+v2))
def a68(a0:c9)(a1:List c7)(a2:Int):Option Int:=
 (E2 a0 a2).bind λv1=>
 if (v1.2 != 0) then
  some 0
 else
 (a7M a0 a1 a2).bind λv2=>
 some (s7 (v1.1.Strong-v2))
def a97(a0:c9)(a1:List c7)(a2:List Int):Option Bool:=
 (I5 a0).bind λv1=>
 jn (λ(_:Unit)=>
  some true) (λκ9=>
  (lp (S:=Int) (E:=Bool ⊕ Unit) (λ(s12:Int)=>
   if (decide (s12<(v1.length:Int))) then
    (ix v1 s12).bind λv14=>
    (a4N a0 v14).bind λv15=>
    (l4 ((!v15)==true) 0 (a68 a0 a1 v14)).bind λv16=>
    (l4 ((!v15)==true) 0 (H6 a2 v14)).bind λv17=>
    if ((!v15)&&(v16 != v17)) then
     some (.inr (.inl false))
    else
    some (.inl (s7 (s12+1)))
   else
   some (.inr (.inr ()))) 0).bind λe11=>
  match e11 with
  | .inl w=>some w
  | .inr w=>κ9 w)
def a1y(a0:c5):Option Bool:=
 (a7I a0.S).bind λv1=>
 (l4 ((!v1)==false) false (a7K a0.T)).bind λv2=>
 if ((((!v1)||(!v2))||((a0.Roots.length:Int) != 6))||((a0.Cells.length:Int) != 6)) then
  some false
 else
 (a7P a0).bind λv3=>
 (l4 (v3==true) false (a7O a0)).bind λv4=>
 (l4 ((v3&&v4)==true) false (a7N a0)).bind λv5=>
 (l4 (((v3&&v4)&&v5)==true) false (a7Q a0)).bind λv6=>
 (l4 ((((v3&&v4)&&v5)&&v6)==true) [] (a4P a0)).bind λv7=>
 (l4 ((((v3&&v4)&&v5)&&v6)==true) false (a97 a0.S a0.T v7)).bind λv8=>
 some ((((v3&&v4)&&v5)&&v6)&&v8)
def a72(a0:hold_Heap):Option Bool:=
 (a09 a0).bind λv1=>
 (l4 ((v1&&(decide (a0.S.Serial<1000000000)))==true) ⟨⟨[],0,0⟩,[],[],[],⟨[],0⟩⟩ (L3 a0)).bind λv2=>
 (l4 ((v1&&(decide (a0.S.Serial<1000000000)))==true) false (a1y v2)).bind λv3=>
 some ((v1&&(decide (a0.S.Serial<1000000000)))&&v3)
def a4R(a0:c5):Option (List Int):=
 (I5 a0.S).bind λv1=>
 jn (λ(j16:List Int)=>
  some j16) (λκ15=>
  (lp (S:=Int × (List Int)) (E:=(List Int)) (λ((s18,s19):Int × (List Int))=>
   if (decide (s18<(v1.length:Int))) then
    jn (λ(j26:List Int)=>
     some (.inl (s7 (s18+1),j26))) (λκ25=>
     (ix v1 s18).bind λv27=>
     (E2 a0.S v27).bind λv28=>
     if (v28.1.Strong==0) then
      (app 8 s19 [v27]).bind λv29=>
      κ25 v29
     else
     κ25 s19)
   else
   some (.inr s19)) (0,[])).bind λe17=>
  κ15 e17)
def a19(a0:c5):Option Bool:=
 (a4R a0).bind λv1=>
 some ((v1.length:Int)==0)
def a08(a0:hold_Heap):Option Bool:=
 (a72 a0).bind λv1=>
 (l4 (v1==true) ⟨⟨[],0,0⟩,[],[],[],⟨[],0⟩⟩ (L3 a0)).bind λv2=>
 (l4 (v1==true) false (a19 v2)).bind λv3=>
 some (v1&&v3)
def a3t(a0:Int)(a1:Int):Option slab_Slab_store_Obj:=
 if ((((decide (a0<0))||(decide (a0 > 24)))||(decide (a1<0)))||(decide (a1 > 9))) then
  some (⟨[],0⟩:slab_Slab_store_Obj)
 else
 (mk 80 a0 (⟨0,0,⟨0,0,0,0,false,[]⟩⟩:slab_Cell_store_Obj)).bind λv1=>
 some (⟨v1,a1⟩:slab_Slab_store_Obj)
def b5c(a0:Int)(a1:Int):Option store_Store:=
 (a3t a0 a1).bind λv1=>
 some (⟨v1,0⟩:store_Store)
def b78(a0:Int):Option (List weak_Cell):=
 if ((decide (a0<0))||(decide (a0 > 6))) then
  some []
 else
 (mk 24 a0 (⟨0,false,0⟩:weak_Cell)).bind λv1=>
 jn (λ(j9:List weak_Cell)=>
  some j9) (λκ8=>
  (lp (S:=Int × (List weak_Cell)) (E:=(List weak_Cell)) (λ((s11,s12):Int × (List weak_Cell))=>
   if (decide (s11<(v1.length:Int))) then
    (ix s12 s11).bind λv15=>
    some (.inl (s7 (s11+1),(s12.set (s11).toNat (⟨v15.Target,v15.Intact,(-1)⟩:weak_Cell))))
   else
   some (.inr s12)) (0,v1)).bind λe10=>
  κ8 e10)
def b63(a0:Int):Option (List hash_Place):=
 if ((decide (a0<1))||(decide (a0 > 8))) then
  some []
 else
 (mk 24 a0 (⟨0,0,0⟩:hash_Place)).bind λv1=>
 some v1
def Y3(a0:Int):Option queue_Queue_task_Task:=
 some (⟨[],a0⟩:queue_Queue_task_Task)
def b0p:Option queue_Queue_task_Task:=
 (Y3 30).bind λv1=>
 some v1
def b2Q(a0:Int)(a1:Int)(a2:Int):Option hold_Heap:=
 if ((((((decide (a0<1))||(decide (a0 > 24)))||(decide (a1<0)))||(decide (a1 > 9)))||(decide (a2<1)))||(decide (a2 > 8))) then
  some (⟨⟨⟨[],0⟩,0⟩,[],[],[],⟨[],0⟩⟩:hold_Heap)
 else
 (b5c a0 a1).bind λv1=>
 (mk 8 6 (0:Int)).bind λv2=>
 (b78 6).bind λv3=>
 (b63 a2).bind λv4=>
 (b0p).bind λv5=>
 some (⟨v1,v2,v3,v4,v5⟩:hold_Heap)
def T0:Option g6:=
 some (⟨(some 307),0,5,6⟩:g6)
def N4:Option g6:=
 some (⟨(some 310),(-1),5,13⟩:g6)
def G5(a0:List g6):Option (List g6):=
 some a0
def T1:Option g6:=
 some (⟨(some 308),0,5,6⟩:g6)
def Q6:Option g6:=
 some (⟨(some 310),0,3,5⟩:g6)
def Q5:Option g6:=
 some (⟨(some 308),0,3,5⟩:g6)
def K1:Option g6:=
 some (⟨(some 310),(-1),5,6⟩:g6)
def S0:Option g6:=
 some (⟨(some 307),0,5,7⟩:g6)
def K0:Option g6:=
 some (⟨(some 308),(-1),5,6⟩:g6)
def S9:Option g6:=
 some (⟨(some 308),0,5,7⟩:g6)
def a9i:Option (List (Int × (List g6))):=
 (T0).bind λv1=>
 (N4).bind λv2=>
 (G5 [v1,(⟨(some 308),0,4,1⟩:g6),v2]).bind λv3=>
 (T1).bind λv4=>
 (G5 [v1,v4]).bind λv5=>
 (G5 [v1]).bind λv6=>
 (Q6).bind λv7=>
 (G5 [v1,v4,v7]).bind λv8=>
 (Q5).bind λv9=>
 (K1).bind λv10=>
 (G5 [v1,v9,v10]).bind λv11=>
 (S0).bind λv12=>
 (K0).bind λv13=>
 (G5 [v12,v13,v2]).bind λv14=>
 (S9).bind λv15=>
 (G5 [v1,v15]).bind λv16=>
 (G5 [v1,v13]).bind λv17=>
 (G5 []).bind λv18=>
 (G5 [(⟨(some 307),0,200,12⟩:g6)]).bind λv19=>
 some (m8 (m8 (m8 (m8 (m8 (m8 (m8 (m8 (m8 (m8 (m8 (m8 [] 1 v3) 2 v5) 3 v6) 4 v8) 5 v11) 6 v14) 7 v16) 8 v17) 9 v5) 10 v5) 11 v18) 12 v19)
def a8L(a0:o0):Option Int:=
 some a0.A
def a8M(a0:o0):Option Int:=
 some a0.B
def a8N(a0:o0):Option Int:=
 some a0.C
def b5G(f:Fv)(a0:o0):Option Int:=
 if f=some 307 then a8L a0 else
 if f=some 308 then a8M a0 else
 if f=some 310 then a8N a0 else
 none
def a5e(a0:o0):Option Int:=
 (a9i).bind λv1=>
 if (!((w9 v1 a0.Kind).isSome)) then
  some 14
 else
 jn (λ(_:Unit)=>
  some 0) (λκ8=>
  (lp (S:=Int) (E:=Int ⊕ Unit) (λ(s11:Int)=>
   if (decide (s11<(((w9 v1 a0.Kind).getD ([]:List g6)).length:Int))) then
    (ix ((w9 v1 a0.Kind).getD ([]:List g6)) s11).bind λv13=>
    (b5G v13.part a0).bind λv14=>
    if ((decide (v14<v13.least))||(decide (v14 > v13.most))) then
     some (.inr (.inl v13.e))
    else
    some (.inl (s7 (s11+1)))
   else
   some (.inr (.inr ()))) 0).bind λe10=>
  match e10 with
  | .inl w=>some w
  | .inr w=>κ8 w)
def N6:Option (List (Int × Fv)):=
 some (m8 (m8 (m8 (m8 (m8 (m8 (m8 (m8 (m8 (m8 [] 1 (some 242)) 2 (some 243)) 3 (some 244)) 4 (some 245)) 5 (some 246)) 6 (some 247)) 7 (some 248)) 8 (some 249)) 9 (some 250)) 10 (some 251))
def c0s(a0:Int):Option ((List Int) × Int):=
 if ((decide (a0<0))||(decide (a0 > 4))) then
  some ([],1)
 else
 (mk 8 a0 (0:Int)).bind λv1=>
 some (v1,0)
def N2(a0:Int):Option Bool:=
 some ((decide (a0≥(-1)))&&(decide (a0<6)))
def Y5(a0:slab_Slab_store_Obj):Option slab_Slab_store_Obj:=
 some a0
def r9(a0:List slab_Cell_store_Obj):Option (List slab_Cell_store_Obj):=
 app 80 [] a0
def B0(a0:slab_Slab_store_Obj)(a1:Int)(a2:slab_Cell_store_Obj):Option slab_Slab_store_Obj:=
 (r9 a0.Cells).bind λv1=>
 (ix v1 a1).bind λv2=>
 some (⟨(v1.set (a1).toNat a2),a0.Last⟩:slab_Slab_store_Obj)
def U4(a0:Int)(a1:Int):Option Int:=
 if ((((decide (a0<0))||(decide (a0≥24)))||(decide (a1<0)))||(decide (a1 > 9))) then
  some 0
 else
 some (s7 ((s7 (1+(s7 (a0*1))))+(s7 (a1*32))))
def a2B(a0:slab_Slab_store_Obj)(a1:store_Obj):Option (slab_Slab_store_Obj × Int × Int):=
 jn (λ(_:Unit)=>
  some (a0,0,4)) (λκ9=>
  (Y5 a0).bind λv11=>
  (lp (S:=Int) (E:=(slab_Slab_store_Obj × Int × Int) ⊕ Unit) (λ(s13:Int)=>
   if (decide (s13<(v11.Cells.length:Int))) then
    (ix v11.Cells s13).bind λv15=>
    if ((v15.State==0)==true) then
     (ix a0.Cells s13).bind λv16=>
     (B0 a0 s13 (⟨1,v16.Gen,a1⟩:slab_Cell_store_Obj)).bind λv17=>
     (U4 s13 v16.Gen).bind λv18=>
     some (.inr (.inl (v17,v18,0)))
    else
    some (.inl (s7 (s13+1)))
   else
   some (.inr (.inr ()))) 0).bind λe12=>
  match e12 with
  | .inl w=>some w
  | .inr w=>κ9 w)
def b3y(a0:store_Store)(a1:Int)(a2:Int):Option (store_Store × Int × Int):=
 (c0s a1).bind λv1=>
 if (v1.2 != 0) then
  some (a0,0,v1.2)
 else
 (N2 a2).bind λv2=>
 if (!v2) then
  some (a0,0,13)
 else
 (a2B a0.S (⟨s7 (a0.Serial+1),0,0,a2,false,v1.1⟩:store_Obj)).bind λv3=>
 if (v3.2.2 != 0) then
  some (a0,0,v3.2.2)
 else
 some ((⟨v3.1,s7 (a0.Serial+1)⟩:store_Store),v3.2.1,0)
def a0J(a0:Int):Option (Int × Int × Bool):=
 if (decide (a0<1)) then
  some ((-1),(-1),false)
 else
 (rem (s7 (a0-1)) 32).bind λv1=>
 (quo .i64 v1 1).bind λv2=>
 (quo .i64 (s7 (a0-1)) 32).bind λv3=>
 if ((decide (v2≥24))||(decide (v3 > 9))) then
  some ((-1),(-1),false)
 else
 some (v2,v3,true)
def a11(a0:Int):Option Int:=
 (a0J a0).bind λv1=>
 some v1.1
def a3a(a0:Int):Option Int:=
 (a0J a0).bind λv1=>
 some v1.2.1
def p7(a0:slab_Slab_store_Obj)(a1:Int):Option (Int × Int):=
 if (a1==0) then
  some ((-1),2)
 else
 (a11 a1).bind λv1=>
 if ((decide (v1<0))||(decide (v1≥(a0.Cells.length:Int)))) then
  some ((-1),3)
 else
 (ix a0.Cells v1).bind λv2=>
 (a3a a1).bind λv3=>
 if ((v2.Gen != v3)||((v2.State != 1)&&(v2.State != 2))) then
  some ((-1),3)
 else
 some (v1,0)
def C0(a0:slab_Slab_store_Obj)(a1:Int):Option (store_Obj × Int):=
 (p7 a0 a1).bind λv1=>
 if (v1.2 != 0) then
  some ((⟨0,0,0,0,false,[]⟩:store_Obj),v1.2)
 else
 (ix a0.Cells v1.1).bind λv2=>
 if (v2.State==2) then
  some ((⟨0,0,0,0,false,[]⟩:store_Obj),3)
 else
 some (v2.Val,0)
def r5(a0:store_Store)(a1:Int):Option (store_Obj × Int):=
 (C0 a0.S a1).bind λv1=>
 some (v1.1,v1.2)
def U8(a0:hold_Heap)(a1:Int):Option Bool:=
 (r5 a0.S a1).bind λv1=>
 some (v1.2==0)
def F2(a0:hold_Heap)(a1:Int):Option Bool:=
 (l4 ((a1==0)==false) false (U8 a0 a1)).bind λv1=>
 some ((a1==0)||v1)
def C9(a0:Int):Option Bool:=
 some (decide (a0≥12))
def a20(a0:Int):Option (Int × Int):=
 (C9 a0).bind λv1=>
 if v1 then
  some (12,0)
 else
 some (s7 ((if 0 > a0 then 0 else a0)+1),0)
def a7y(a0:Int):Option Int:=
 (a20 a0).bind λv1=>
 some v1.1
def H7(a0:slab_Slab_store_Obj)(a1:Int)(a2:store_Obj):Option (slab_Slab_store_Obj × Int):=
 (p7 a0 a1).bind λv1=>
 if (v1.2 != 0) then
  some (a0,v1.2)
 else
 (ix a0.Cells v1.1).bind λv2=>
 (B0 a0 v1.1 (⟨v2.State,v2.Gen,a2⟩:slab_Cell_store_Obj)).bind λv3=>
 some (v3,0)
def J3(a0:store_Store)(a1:Int)(a2:store_Obj):Option (store_Store × Int):=
 (H7 a0.S a1 a2).bind λv1=>
 some ((⟨v1.1,a0.Serial⟩:store_Store),v1.2)
def P2(a0:hold_Heap)(a1:Int):Option hold_Heap:=
 (r5 a0.S a1).bind λv1=>
 if (v1.2==0) then
  (a7y v1.1.Strong).bind λv2=>
  (J3 a0.S a1 (⟨v1.1.Serial,v2,v1.1.Weak,v1.1.Prog,v1.1.Started,v1.1.Fields⟩:store_Obj)).bind λv3=>
  some (⟨v3.1,a0.Roots,a0.Cells,a0.T,a0.Q⟩:hold_Heap)
 else
 some a0
def U6(a0:hold_Heap)(a1:Int):Option hold_Heap:=
 (P2 a0 a1).bind λv1=>
 some v1
def I8(a0:List Int):Option (List Int):=
 app 8 [] a0
def a0i(a0:F8)(a1:hold_Heap):Option hold_Heap:=
 (I8 a1.Roots).bind λv1=>
 (ix v1 a0.r).bind λv2=>
 some (⟨a1.S,(v1.set (a0.r).toNat a0.h),a1.Cells,a1.T,a1.Q⟩:hold_Heap)
def a1m(a0:Int):Option (Int × Int):=
 (C9 a0).bind λv1=>
 if v1 then
  some (12,0)
 else
 if (decide (a0<1)) then
  some (0,11)
 else
 some (s7 (a0-1),0)
def b0F(a0:Int):Option (Int × Int):=
 (a1m a0).bind λv1=>
 some (v1.1,v1.2)
def a0K(a0:Int):Option Int:=
 (b0F a0).bind λv1=>
 if (v1.2 != 0) then
  some a0
 else
 some v1.1
def J5(a0:hold_Heap)(a1:Int):Option hold_Heap:=
 (r5 a0.S a1).bind λv1=>
 if (v1.2==0) then
  (a0K v1.1.Strong).bind λv2=>
  (J3 a0.S a1 (⟨v1.1.Serial,v2,v1.1.Weak,v1.1.Prog,v1.1.Started,v1.1.Fields⟩:store_Obj)).bind λv3=>
  some (⟨v3.1,a0.Roots,a0.Cells,a0.T,a0.Q⟩:hold_Heap)
 else
 some a0
def H9(a0:hold_Heap)(a1:Int):Option hold_Heap:=
 (J5 a0 a1).bind λv1=>
 some v1
def O4(a0:hold_Heap)(a1:Int)(a2:Int)(a3:F8):Option hold_Heap:=
 (U6 a0 a2).bind λv1=>
 (a0i a3 v1).bind λv2=>
 (H9 v2 a1).bind λv3=>
 some v3
def b4P(a0:hold_Heap)(a1:Int)(a2:Int):Option (hold_Heap × Int):=
 if ((decide (a1<0))||(decide (a1≥(a0.Roots.length:Int)))) then
  some (a0,6)
 else
 (F2 a0 a2).bind λv1=>
 if (!v1) then
  some (a0,3)
 else
 (ix a0.Roots a1).bind λv2=>
 (O4 a0 v2 a2 (⟨a1,a2⟩:F8)).bind λv3=>
 some (v3,0)
def F9(a0:o9)(a1:Int)(a2:Int):Option (hold_Heap × Int):=
 if (a2 != 0) then
  some (a0.x,a2)
 else
 (b4P a0.x a0.o.A a1).bind λv1=>
 some (v1.1,v1.2)
def a2y(a0:o9):Option (hold_Heap × Int):=
 (b3y a0.x.S a0.o.B a0.o.C).bind λv1=>
 if (v1.2.2 != 0) then
  some (a0.x,v1.2.2)
 else
 (F9 (⟨⟨v1.1,a0.x.Roots,a0.x.Cells,a0.x.T,a0.x.Q⟩,a0.o⟩:o9) v1.2.1 0).bind λv2=>
 some (v2.1,v2.2)
def M3(a0:hold_Heap)(a1:Int):Option Int:=
 if ((decide (a1<0))||(decide (a1≥(a0.Roots.length:Int)))) then
  some 0
 else
 (ix a0.Roots a1).bind λv1=>
 some v1
def Q9(a0:o9):Option (hold_Heap × Int):=
 (M3 a0.x a0.o.B).bind λv1=>
 (F9 a0 v1 0).bind λv2=>
 some (v2.1,v2.2)
def a3L(a0:o9):Option (hold_Heap × Int):=
 (F9 a0 0 0).bind λv1=>
 some (v1.1,v1.2)
def P3(a0:hold_Heap)(a1:Int):Option (Int × Int):=
 (M3 a0 a1).bind λv1=>
 if (v1==0) then
  some (0,2)
 else
 some (v1,0)
def b2n(a0:List Int)(a1:Int):Option Bool:=
 some ((decide (a1≥0))&&(decide (a1<(a0.length:Int))))
def c3G(a0:List Int)(a1:Int):Option (Int × Int):=
 (b2n a0 a1).bind λv1=>
 if (!v1) then
  some (0,5)
 else
 (ix a0 a1).bind λv2=>
 some (v2,0)
def a7q(a0:store_Store)(a1:Int)(a2:Int):Option (Int × Int):=
 (r5 a0 a1).bind λv1=>
 if (v1.2 != 0) then
  some (0,v1.2)
 else
 (c3G v1.1.Fields a2).bind λv2=>
 some (v2.1,v2.2)
def a3M(a0:o9):Option (hold_Heap × Int):=
 (P3 a0.x a0.o.B).bind λv1=>
 if (v1.2 != 0) then
  some (a0.x,v1.2)
 else
 (a7q a0.x.S v1.1 a0.o.C).bind λv2=>
 (F9 a0 v2.1 v2.2).bind λv3=>
 some (v3.1,v3.2)
def b76(a0:List Int)(a1:Int)(a2:Int):Option ((List Int) × Int):=
 (b2n a0 a1).bind λv1=>
 if (!v1) then
  some (a0,5)
 else
 (mk 8 (a0.length:Int) (0:Int)).bind λv2=>
 (cpy v2 a0).bind λv3=>
 (ix v3 a1).bind λv4=>
 some ((v3.set (a1).toNat a2),0)
def b5d(a0:store_Store)(a1:Int)(a2:Int)(a3:Int):Option (store_Store × Int):=
 (r5 a0 a1).bind λv1=>
 if (v1.2 != 0) then
  some (a0,v1.2)
 else
 (b76 v1.1.Fields a2 a3).bind λv2=>
 if (v2.2 != 0) then
  some (a0,v2.2)
 else
 (J3 a0 a1 (⟨v1.1.Serial,v1.1.Strong,v1.1.Weak,v1.1.Prog,v1.1.Started,v2.1⟩:store_Obj)).bind λv3=>
 some (v3.1,v3.2)
def a2x(a0:E4)(a1:hold_Heap):Option hold_Heap:=
 (b5d a1.S a0.h a0.k a0.v).bind λv1=>
 some (⟨v1.1,a1.Roots,a1.Cells,a1.T,a1.Q⟩:hold_Heap)
def M0(a0:hold_Heap)(a1:Int)(a2:Int)(a3:E4):Option hold_Heap:=
 (U6 a0 a2).bind λv1=>
 (a2x a3 v1).bind λv2=>
 (H9 v2 a1).bind λv3=>
 some v3
def b2P(a0:hold_Heap)(a1:Int)(a2:Int)(a3:Int):Option (hold_Heap × Int):=
 (a7q a0.S a1 a2).bind λv1=>
 if (v1.2 != 0) then
  some (a0,v1.2)
 else
 (F2 a0 a3).bind λv2=>
 if (!v2) then
  some (a0,3)
 else
 (M0 a0 v1.1 a3 (⟨a1,a2,a3⟩:E4)).bind λv3=>
 some (v3,0)
def a3i(a0:o9):Option (hold_Heap × Int):=
 (P3 a0.x a0.o.A).bind λv1=>
 if (v1.2 != 0) then
  some (a0.x,v1.2)
 else
 (M3 a0.x a0.o.C).bind λv2=>
 (b2P a0.x v1.1 a0.o.B v2).bind λv3=>
 some (v3.1,v3.2)
def b0q(a0:queue_Queue_task_Task)(a1:Int):Option (queue_Queue_task_Task × Int):=
 some (a0,a1)
def b3C(a0:queue_Queue_task_Task)(a1:Int):Option Bool:=
 jn (λ(_:Unit)=>
  some false) (λκ6=>
  (b0q a0 2).bind λv8=>
  (lp (S:=Int) (E:=Bool ⊕ Unit) (λ(s10:Int)=>
   if (decide (s10<(v8.1.L.length:Int))) then
    (ix v8.1.L s10).bind λv12=>
    if ((v12.Kind==v8.2)==true) then
     if (v12.At==a1) then
      some (.inr (.inl true))
     else
     some (.inl (s7 (s10+1)))
    else
    some (.inl (s7 (s10+1)))
   else
   some (.inr (.inr ()))) 0).bind λe9=>
  match e9 with
  | .inl w=>some w
  | .inr w=>κ6 w)
def b0x(a0:List weak_Cell)(a1:Int):Option Bool:=
 some ((decide (a1≥0))&&(decide (a1<(a0.length:Int))))
def a0B(a0:List weak_Cell):Option (List weak_Cell):=
 (mk 24 (a0.length:Int) (⟨0,false,0⟩:weak_Cell)).bind λv1=>
 (cpy v1 a0).bind λv2=>
 some v2
def b8b(a0:List weak_Cell)(a1:Int)(a2:Int)(a3:Int):Option ((List weak_Cell) × Int × Int):=
 (b0x a0 a1).bind λv1=>
 if (!v1) then
  some (a0,0,7)
 else
 (a0B a0).bind λv2=>
 (ix v2 a1).bind λv3=>
 (ix a0 a1).bind λv4=>
 some ((v2.set (a1).toNat (⟨a2,(a2 != 0),a3⟩:weak_Cell)),v4.Target,0)
def a6O(a0:hold_Heap)(a1:Int)(a2:Int):Option hold_Heap:=
 (p7 a0.S.S a1).bind λv1=>
 if (v1.2==0) then
  (ix a0.S.S.Cells v1.1).bind λv2=>
  (J3 a0.S a1 (⟨v2.Val.Serial,v2.Val.Strong,s7 (v2.Val.Weak+a2),v2.Val.Prog,v2.Val.Started,v2.Val.Fields⟩:store_Obj)).bind λv3=>
  some (⟨v3.1,a0.Roots,a0.Cells,a0.T,a0.Q⟩:hold_Heap)
 else
 some a0
def J8(a0:slab_Slab_store_Obj)(a1:Int):Option (slab_Slab_store_Obj × Int):=
 (p7 a0 a1).bind λv1=>
 if (v1.2 != 0) then
  some (a0,v1.2)
 else
 (ix a0.Cells v1.1).bind λv2=>
 if (v2.Gen==a0.Last) then
  (B0 a0 v1.1 (⟨3,v2.Gen,⟨0,0,0,0,false,[]⟩⟩:slab_Cell_store_Obj)).bind λv3=>
  some (v3,0)
 else
 (B0 a0 v1.1 (⟨0,s7 (v2.Gen+1),⟨0,0,0,0,false,[]⟩⟩:slab_Cell_store_Obj)).bind λv4=>
 some (v4,0)
def a8t(a0:hold_Heap)(a1:Int):Option hold_Heap:=
 (a6O a0 a1 (-1)).bind λv1=>
 (p7 v1.S.S a1).bind λv2=>
 if (v2.2 != 0) then
  some v1
 else
 (ix v1.S.S.Cells v2.1).bind λv3=>
 if ((v3.State==2)&&(v3.Val.Weak==0)) then
  (J8 v1.S.S a1).bind λv4=>
  some (⟨⟨v4.1,v1.S.Serial⟩,v1.Roots,v1.Cells,v1.T,v1.Q⟩:hold_Heap)
 else
 some v1
def a7E(a0:hold_Heap)(a1:Int)(a2:Int)(a3:Int):Option (hold_Heap × Int):=
 (l4 (((decide (a1<0))||(decide (a1≥(a0.Cells.length:Int))))==false) false (b3C a0.Q a1)).bind λv1=>
 if (((decide (a1<0))||(decide (a1≥(a0.Cells.length:Int))))||v1) then
  some (a0,7)
 else
 (F2 a0 a2).bind λv2=>
 if (!v2) then
  some (a0,3)
 else
 (b8b a0.Cells a1 a2 a3).bind λv3=>
 (a6O (⟨a0.S,a0.Roots,v3.1,a0.T,a0.Q⟩:hold_Heap) a2 1).bind λv4=>
 (a8t v4 v3.2.1).bind λv5=>
 some (v5,0)
def a2A(a0:o9):Option (hold_Heap × Int):=
 if (a0.o.B==(-1)) then
  (a7E a0.x a0.o.A 0 a0.o.C).bind λv1=>
  some (v1.1,v1.2)
 else
 (P3 a0.x a0.o.B).bind λv2=>
 if (v2.2 != 0) then
  some (a0.x,v2.2)
 else
 (a7E a0.x a0.o.A v2.1 a0.o.C).bind λv3=>
 some (v3.1,v3.2)
def b5f(a0:List weak_Cell)(a1:Int):Option (Int × Int):=
 (b0x a0 a1).bind λv1=>
 if (!v1) then
  some (0,7)
 else
 (ix a0 a1).bind λv2=>
 if ((v2.Target==0)||(!v2.Intact)) then
  some (0,9)
 else
 some (v2.Target,0)
def a2n(a0:o9):Option (hold_Heap × Int):=
 (b5f a0.x.Cells a0.o.B).bind λv1=>
 (F9 a0 v1.1 v1.2).bind λv2=>
 some (v2.1,v2.2)
def a2R(a0:Int)(a1:Int):Option (Int × Int):=
 some (a0,a1)
def W6(a0:Int)(a1:Int):Option Int:=
 if (decide (a0<1)) then
  some 0
 else
 (rem (s7 ((s7 (5*a1))+1)) a0).bind λv1=>
 if (decide (v1<0)) then
  some (s7 (v1+a0))
 else
 some v1
def J2(a0:List hash_Place)(a1:Int):Option Int:=
 jn (λ(_:Unit)=>
  some (-1)) (λκ8=>
  (a2R (a0.length:Int) a1).bind λv10=>
  (lp (S:=Int) (E:=Int ⊕ Unit) (λ(s12:Int)=>
   if (decide (s12<v10.1)) then
    (W6 v10.1 v10.2).bind λv14=>
    (rem (s7 (v14+s12)) v10.1).bind λv15=>
    (ix a0 v15).bind λv16=>
    if (v16.State==0) then
     some (.inr (.inr ()))
    else
    if ((v16.State==1)&&(v16.Key==a1)) then
     some (.inr (.inl v15))
    else
    some (.inl (s7 (s12+1)))
   else
   some (.inr (.inr ()))) 0).bind λe11=>
  match e11 with
  | .inl w=>some w
  | .inr w=>κ8 w)
def U5(a0:List hash_Place)(a1:Int):Option (Int × Int):=
 (J2 a0 a1).bind λv1=>
 if (decide (v1<0)) then
  some (0,9)
 else
 (ix a0 v1).bind λv2=>
 some (v2.Val,0)
def C1(a0:List hash_Place):Option (List hash_Place):=
 app 24 [] a0
def a0v(a0:List hash_Place)(a1:Int)(a2:hash_Place):Option (List hash_Place):=
 (C1 a0).bind λv1=>
 (ix v1 a1).bind λv2=>
 some (v1.set (a1).toNat a2)
def R6(a0:List hash_Place)(a1:Int):Option ((List hash_Place) × Int × Int):=
 (J2 a0 a1).bind λv1=>
 if (decide (v1<0)) then
  some (a0,0,9)
 else
 (a0v a0 v1 (⟨2,0,0⟩:hash_Place)).bind λv2=>
 (ix a0 v1).bind λv3=>
 some (v2,v3.Val,0)
def a6K(a0:List hash_Place)(a1:Int)(a2:Int):Option ((List hash_Place) × Int):=
 (J2 a0 a1).bind λv1=>
 if (decide (v1≥0)) then
  (a0v a0 v1 (⟨1,a1,a2⟩:hash_Place)).bind λv2=>
  some (v2,0)
 else
 jn (λ(_:Unit)=>
  some (a0,8)) (λκ11=>
  (a2R (a0.length:Int) a1).bind λv13=>
  (lp (S:=Int) (E:=((List hash_Place) × Int) ⊕ Unit) (λ(s15:Int)=>
   if (decide (s15<v13.1)) then
    (W6 v13.1 v13.2).bind λv17=>
    (rem (s7 (v17+s15)) v13.1).bind λv18=>
    (ix a0 v18).bind λv19=>
    if (v19.State != 1) then
     (a0v a0 v18 (⟨1,a1,a2⟩:hash_Place)).bind λv20=>
     some (.inr (.inl (v20,0)))
    else
    some (.inl (s7 (s15+1)))
   else
   some (.inr (.inr ()))) 0).bind λe14=>
  match e14 with
  | .inl w=>some w
  | .inr w=>κ11 w)
def b4A(a0:List hash_Place)(a1:Int)(a2:Int):Option ((List hash_Place) × Int × Int):=
 if (a1==0) then
  some (a0,0,2)
 else
 (U5 a0 a1).bind λv1=>
 if (a2==0) then
  (R6 a0 a1).bind λv2=>
  some (v2.1,v1.1,0)
 else
 (a6K a0 a1 a2).bind λv3=>
 if (v3.2 != 0) then
  some (a0,0,v3.2)
 else
 some (v3.1,v1.1,0)
def a0h(a0:F7)(a1:hold_Heap):Option hold_Heap:=
 some (⟨a1.S,a1.Roots,a1.Cells,a0.t,a1.Q⟩:hold_Heap)
def O3(a0:hold_Heap)(a1:Int)(a2:Int)(a3:F7):Option hold_Heap:=
 (U6 a0 a2).bind λv1=>
 (a0h a3 v1).bind λv2=>
 (H9 v2 a1).bind λv3=>
 some v3
def b4O(a0:hold_Heap)(a1:Int)(a2:Int):Option (hold_Heap × Int):=
 if (a1==0) then
  some (a0,2)
 else
 (F2 a0 a1).bind λv1=>
 (l4 ((!v1)==false) false (F2 a0 a2)).bind λv2=>
 if ((!v1)||(!v2)) then
  some (a0,3)
 else
 (b4A a0.T a1 a2).bind λv3=>
 if (v3.2.2 != 0) then
  some (a0,v3.2.2)
 else
 (O3 a0 v3.2.1 a2 (⟨v3.1⟩:F7)).bind λv4=>
 some (v4,0)
def a3N(a0:o9):Option (hold_Heap × Int):=
 (P3 a0.x a0.o.A).bind λv1=>
 if (v1.2 != 0) then
  some (a0.x,v1.2)
 else
 (M3 a0.x a0.o.B).bind λv2=>
 (b4O a0.x v1.1 v2).bind λv3=>
 some (v3.1,v3.2)
def b4z(a0:List hash_Place)(a1:Int):Option (Int × Int):=
 (U5 a0 a1).bind λv1=>
 some (v1.1,v1.2)
def a4z(a0:o9):Option (hold_Heap × Int):=
 (P3 a0.x a0.o.B).bind λv1=>
 if (v1.2 != 0) then
  some (a0.x,v1.2)
 else
 (b4z a0.x.T v1.1).bind λv2=>
 (F9 a0 v2.1 v2.2).bind λv3=>
 some (v3.1,v3.2)
def a0n(a0:o9):Option (hold_Heap × Int):=
 some (a0.x,0)
def a9s(f:Fv)(a0:o9):Option (hold_Heap × Int):=
 if f=some 242 then a2y a0 else
 if f=some 243 then Q9 a0 else
 if f=some 244 then a3L a0 else
 if f=some 245 then a3M a0 else
 if f=some 246 then a3i a0 else
 if f=some 247 then a2A a0 else
 if f=some 248 then a2n a0 else
 if f=some 249 then a3N a0 else
 if f=some 250 then a4z a0 else
 if f=some 251 then a0n a0 else
 none
def Y7(a0:Int):Option Bool:=
 some (a0 != a0)
def a2i(a0:Int)(a1:Int):Option Int:=
 (Y7 a0).bind λv1=>
 (Y7 a1).bind λv2=>
 if v1 then
  if v2 then
   some 0
  else
  some (-1)
 else
 if v2 then
  some 1
 else
 if (decide (a0<a1)) then
  some (-1)
 else
 if (decide (a0 > a1)) then
  some 1
 else
 some 0
def a2M(a0:Int)(a1:Int)(a2:List (Int × Int)):Option Int:=
 (a2i ((w9 a2 a0).getD (0:Int)) ((w9 a2 a1).getD (0:Int))).bind λv1=>
 some v1
def C8(a0:store_Store):Option (List Int):=
 jn (λ((j18,j19):(List (Int × Int)) × (List Int))=>
  (b1e (λp q=>a2M p q j18) j19).bind λv21=>
  some v21) (λκ17=>
  (lp (S:=Int × (List (Int × Int)) × (List Int)) (E:=((List (Int × Int)) × (List Int))) (λ((s23,Y4,s25):Int × (List (Int × Int)) × (List Int))=>
   if (decide (s23<(a0.S.Cells.length:Int))) then
    jn (λ((j32,j33):(List (Int × Int)) × (List Int))=>
     some (.inl (s7 (s23+1),j32,j33))) (λκ31=>
     (ix a0.S.Cells s23).bind λv35=>
     if (v35.State==1) then
      (U4 s23 v35.Gen).bind λv36=>
      (app 8 s25 [v36]).bind λv37=>
      κ31 ((m8 Y4 v36 v35.Val.Serial),v37)
     else
     κ31 (Y4,s25))
   else
   some (.inr (Y4,s25))) (0,[],[])).bind λe22=>
  κ17 e22)
def a0z(a0:hold_Heap):Option (List Int):=
 jn (λ(j16:List Int)=>
  some j16) (λκ15=>
  (C8 a0.S).bind λv17=>
  (lp (S:=Int × (List Int)) (E:=(List Int)) (λ((s19,s20):Int × (List Int))=>
   if (decide (s19<(v17.length:Int))) then
    jn (λ(j27:List Int)=>
     some (.inl (s7 (s19+1),j27))) (λκ26=>
     (ix v17 s19).bind λv28=>
     (r5 a0.S v28).bind λv29=>
     if (v29.1.Strong==0) then
      (app 8 s20 [v28]).bind λv30=>
      κ26 v30
     else
     κ26 s20)
   else
   some (.inr s20)) (0,[])).bind λe18=>
  κ15 e18)
def I7(a0:store_Obj):Option Bool:=
 some ((decide (a0.Prog≥0))&&(!a0.Started))
def O5(a0:queue_Queue_task_Task):Option Int:=
 some (a0.L.length:Int)
def M5(a0:List task_Task)(a1:Int)(a2:Int):Option (List task_Task):=
 (cut a0 a1 a2).bind λv1=>
 some v1
def M4(a0:queue_Queue_task_Task)(a1:task_Task):Option (queue_Queue_task_Task × Int):=
 (O5 a0).bind λv1=>
 if (decide (v1≥a0.Cap)) then
  some (a0,4)
 else
 (M5 a0.L 0 v1).bind λv2=>
 (app 24 v2 [a1]).bind λv3=>
 some ((⟨v3,a0.Cap⟩:queue_Queue_task_Task),0)
def a7t(a0:queue_Queue_task_Task)(a1:task_Task):Option (queue_Queue_task_Task × Int):=
 (M4 a0 a1).bind λv1=>
 some (v1.1,v1.2)
def O1(a0:hold_Heap)(a1:Int):Option hold_Heap:=
 (r5 a0.S a1).bind λv1=>
 (l4 ((v1.2 != 0)==false) false (I7 v1.1)).bind λv2=>
 if ((v1.2 != 0)||(!v2)) then
  some a0
 else
 (J3 a0.S a1 (⟨v1.1.Serial,v1.1.Strong,v1.1.Weak,v1.1.Prog,true,v1.1.Fields⟩:store_Obj)).bind λv3=>
 (a7t a0.Q (⟨1,a1,v1.1.Prog⟩:task_Task)).bind λv4=>
 (U6 (⟨v3.1,a0.Roots,a0.Cells,a0.T,v4.1⟩:hold_Heap) a1).bind λv5=>
 some v5
def P7(a0:hold_Heap)(a1:List Int):Option (List Int):=
 jn (λ(j18:List Int)=>
  some j18) (λκ17=>
  (lp (S:=Int × (List (Int × Bool)) × (List Int)) (E:=(List Int)) (λ((s20,s21,s22):Int × (List (Int × Bool)) × (List Int))=>
   if (decide (s20<(a1.length:Int))) then
    jn (λ((j29,j30):(List Int) × (List (Int × Bool)))=>
     some (.inl (s7 (s20+1),j30,j29))) (λκ28=>
     (ix a1 s20).bind λv32=>
     (r5 a0.S v32).bind λv33=>
     if ((v33.2==0)==true) then
      if (!((w9 s21 v32).getD (false:Bool))) then
       (app 8 s22 [v32]).bind λv34=>
       κ28 (v34,(m8 s21 v32 true))
      else
      κ28 (s22,s21)
     else
     κ28 (s22,s21))
   else
   some (.inr s22)) (0,[],[])).bind λe19=>
  κ17 e19)
def M9(a0:List Int)(a1:Int):Option Int:=
 jn (λ(_:Unit)=>
  some (-1)) (λκ5=>
  (lp (S:=Int) (E:=Int ⊕ Unit) (λ(s8:Int)=>
   if (decide (s8<(a0.length:Int))) then
    (ix a0 s8).bind λv10=>
    if (a1==v10) then
     some (.inr (.inl s8))
    else
    some (.inl (s7 (s8+1)))
   else
   some (.inr (.inr ()))) 0).bind λe7=>
  match e7 with
  | .inl w=>some w
  | .inr w=>κ5 w)
def D3(a0:List Int)(a1:Int):Option Bool:=
 (M9 a0 a1).bind λv1=>
 some (decide (v1≥0))
def X6(a0:weak_Cell)(a1:List Int):Option Bool:=
 (l4 ((a0.Intact&&(a0.Target != 0))==true) false (D3 a1 a0.Target)).bind λv1=>
 some ((a0.Intact&&(a0.Target != 0))&&v1)
def G8(a0:List weak_Cell)(a1:List Int):Option (List Int):=
 jn (λ(j15:List Int)=>
  some j15) (λκ14=>
  (lp (S:=Int × (List Int)) (E:=(List Int)) (λ((s17,s18):Int × (List Int))=>
   if (decide (s17<(a0.length:Int))) then
    jn (λ(j25:List Int)=>
     some (.inl (s7 (s17+1),j25))) (λκ24=>
     (ix a0 s17).bind λv26=>
     (X6 v26 a1).bind λv27=>
     if v27 then
      (app 8 s18 [s17]).bind λv28=>
      κ24 v28
     else
     κ24 s18)
   else
   some (.inr s18)) (0,[])).bind λe16=>
  κ14 e16)
def a3x(a0:List weak_Cell)(a1:List Int):Option ((List weak_Cell) × (List Int)):=
 (G8 a0 a1).bind λv1=>
 (a0B a0).bind λv2=>
 jn (λ((j22,j23):(List Int) × (List weak_Cell))=>
  some (j23,j22)) (λκ21=>
  (lp (S:=Int × (List weak_Cell) × (List Int)) (E:=((List Int) × (List weak_Cell))) (λ((s26,s27,s28):Int × (List weak_Cell) × (List Int))=>
   if (decide (s26<(v1.length:Int))) then
    jn (λ((j36,j37):(List Int) × (List weak_Cell))=>
     some (.inl (s7 (s26+1),j37,j36))) (λκ35=>
     (ix v1 s26).bind λv39=>
     (ix s27 v39).bind λv40=>
     (ix (s27.set (v39).toNat (⟨v40.Target,false,v40.Call⟩:weak_Cell)) v39).bind λv41=>
     if (decide (v41.Call≥0)) then
      (app 8 s28 [v39]).bind λv42=>
      κ35 (v42,(s27.set (v39).toNat (⟨v40.Target,false,v40.Call⟩:weak_Cell)))
     else
     κ35 (s28,(s27.set (v39).toNat (⟨v40.Target,false,v40.Call⟩:weak_Cell))))
   else
   some (.inr (s28,s27))) (0,v2,[])).bind λe25=>
  κ21 e25)
def a03(a0:hold_Heap)(a1:List Int):Option hold_Heap:=
 (a3x a0.Cells a1).bind λv1=>
 jn (λ(j11:queue_Queue_task_Task)=>
  some (⟨a0.S,a0.Roots,v1.1,a0.T,j11⟩:hold_Heap)) (λκ10=>
  (lp (S:=Int × queue_Queue_task_Task) (E:=queue_Queue_task_Task) (λ((s13,s14):Int × queue_Queue_task_Task)=>
   if (decide (s13<(v1.2.length:Int))) then
    (ix v1.2 s13).bind λv17=>
    (ix v1.1 v17).bind λv18=>
    (a7t s14 (⟨2,v17,v18.Call⟩:task_Task)).bind λv19=>
    some (.inl (s7 (s13+1),v19.1))
   else
   some (.inr s14)) (0,a0.Q)).bind λe12=>
  κ10 e12)
def a2Z(a0:List Int):Option (List Int):=
 some a0
def a2Y(a0:List Int):Option (List Int):=
 jn (λ(j10:List Int)=>
  some j10) (λκ9=>
  (a2Z a0).bind λv11=>
  (lp (S:=Int × (List Int)) (E:=(List Int)) (λ((s13,s14):Int × (List Int))=>
   if (decide (s13<(v11.length:Int))) then
    (ix v11 s13).bind λv17=>
    if ((v17 != 0)==true) then
     (app 8 s14 [v17]).bind λv18=>
     some (.inl (s7 (s13+1),v18))
    else
    some (.inl (s7 (s13+1),s14))
   else
   some (.inr s14)) (0,[])).bind λe12=>
  κ9 e12)
def K4(a0:List hash_Place)(a1:List Int):Option ((List hash_Place) × (List Int)):=
 jn (λ((j18,j19):(List hash_Place) × (List Int))=>
  some (j18,j19)) (λκ17=>
  (lp (S:=(List hash_Place) × Int × (List Int)) (E:=((List hash_Place) × (List Int))) (λ((s22,s23,Y4):(List hash_Place) × Int × (List Int))=>
   if (decide (s23<(a1.length:Int))) then
    jn (λ((j31,j32):(List hash_Place) × (List Int))=>
     some (.inl (j31,s7 (s23+1),j32))) (λκ30=>
     (ix a1 s23).bind λv34=>
     (R6 s22 v34).bind λv35=>
     if (v35.2.2==0) then
      (app 8 Y4 [v35.2.1]).bind λv36=>
      κ30 (v35.1,v36)
     else
     κ30 (s22,Y4))
   else
   some (.inr (s22,Y4))) (a0,0,[])).bind λe21=>
  κ17 e21)
def O6(a0:slab_Slab_store_Obj)(a1:Int):Option (slab_Slab_store_Obj × Int):=
 (C0 a0 a1).bind λv1=>
 if (v1.2 != 0) then
  some (a0,v1.2)
 else
 (a11 a1).bind λv2=>
 (a3a a1).bind λv3=>
 (B0 a0 v2 (⟨2,v3,v1.1⟩:slab_Cell_store_Obj)).bind λv4=>
 some (v4,0)
def R8(a0:hold_Heap)(a1:Int):Option hold_Heap:=
 (r5 a0.S a1).bind λv1=>
 (J3 a0.S a1 (⟨v1.1.Serial,0,v1.1.Weak,v1.1.Prog,v1.1.Started,[]⟩:store_Obj)).bind λv2=>
 (O6 v2.1.S a1).bind λv3=>
 if (v1.1.Weak==0) then
  (J8 v3.1 a1).bind λv4=>
  some (⟨⟨v4.1,v2.1.Serial⟩,a0.Roots,a0.Cells,a0.T,a0.Q⟩:hold_Heap)
 else
 some (⟨⟨v3.1,v2.1.Serial⟩,a0.Roots,a0.Cells,a0.T,a0.Q⟩:hold_Heap)
def V6(a0:hold_Heap)(a1:List Int):Option hold_Heap:=
 (P7 a0 a1).bind λv1=>
 (a03 a0 v1).bind λv2=>
 jn (λ(j13:List Int)=>
  (K4 v2.T v1).bind λv14=>
  (app 8 j13 v14.2).bind λv15=>
  jn (λ(j24:hold_Heap)=>
   jn (λ(j33:hold_Heap)=>
    some j33) (λκ32=>
    (lp (S:=Int × hold_Heap) (E:=hold_Heap) (λ((s35,s36):Int × hold_Heap)=>
     if (decide (s35<(v15.length:Int))) then
      (ix v15 s35).bind λv39=>
      (H9 s36 v39).bind λv40=>
      some (.inl (s7 (s35+1),v40))
     else
     some (.inr s36)) (0,j24)).bind λe34=>
    κ32 e34)) (λκ23=>
   (lp (S:=Int × hold_Heap) (E:=hold_Heap) (λ((s42,s43):Int × hold_Heap)=>
    if (decide (s42<(v1.length:Int))) then
     (ix v1 s42).bind λv46=>
     (R8 s43 v46).bind λv47=>
     some (.inl (s7 (s42+1),v47))
    else
    some (.inr s43)) (0,(⟨v2.S,v2.Roots,v2.Cells,v14.1,v2.Q⟩:hold_Heap))).bind λe41=>
   κ23 e41)) (λκ12=>
  (lp (S:=Int × (List Int)) (E:=(List Int)) (λ((s49,s50):Int × (List Int))=>
   if (decide (s49<(v1.length:Int))) then
    (ix v1 s49).bind λv53=>
    (r5 v2.S v53).bind λv54=>
    (a2Y v54.1.Fields).bind λv55=>
    (app 8 s50 v55).bind λv56=>
    some (.inl (s7 (s49+1),v56))
   else
   some (.inr s50)) (0,[])).bind λe48=>
  κ12 e48)
def Z4(a0:hold_Heap):Option hold_Heap:=
 (lp (S:=hold_Heap) (E:=hold_Heap) (λ(s2:hold_Heap)=>
  (a0z s2).bind λv4=>
  if ((v4.length:Int)==0) then
   some (.inr s2)
  else
  (ix v4 0).bind λv5=>
  (r5 s2.S v5).bind λv6=>
  (I7 v6.1).bind λv7=>
  if v7 then
   (O1 s2 v5).bind λv8=>
   some (.inl v8)
  else
  (cut v4 0 1).bind λv9=>
  (V6 s2 v9).bind λv10=>
  some (.inl v10)) a0).bind λe1=>
 some e1
def a6T(a0:hold_Heap)(a1:Int):Option Int:=
 (r5 a0.S a1).bind λv1=>
 some v1.1.Serial
def a3h(a0:hold_Heap)(a1:Int):Option Int:=
 (M3 a0 a1).bind λv1=>
 (a6T a0 v1).bind λv2=>
 some v2
def a0R(a0:hold_Heap)(a1:hold_Heap)(a2:o0):Option Int:=
 if (a2.Kind==5) then
  (a3h a0 a2.C).bind λv1=>
  some v1
 else
 jn (λ(j3:Bool)=>
  if j3 then
   (a3h a0 a2.B).bind λv4=>
   some v4
  else
  if (a2.Kind==10) then
   (M3 a0 a2.A).bind λv5=>
   (M3 a0 a2.B).bind λv6=>
   if (v5==v6) then
    some 1
   else
   some 0
  else
  (a3h a1 a2.A).bind λv7=>
  some v7) (λκ2=>
  if (a2.Kind==6) then
   κ2 (a2.Kind==6)
  else
  κ2 (a2.Kind==8))
def a1u(a0:hold_Heap)(a1:o0):Option (hold_Heap × Int × Int):=
 (a5e a1).bind λv1=>
 if (v1 != 0) then
  some (a0,0,v1)
 else
 (N6).bind λv2=>
 if (!((w9 v2 a1.Kind).isSome)) then
  some (a0,0,14)
 else
 (a9s ((w9 v2 a1.Kind).getD (none:Fv)) (⟨a0,a1⟩:o9)).bind λv3=>
 if (v3.2 != 0) then
  some (a0,0,v3.2)
 else
 (Z4 v3.1).bind λv5=>
 (a0R v3.1 v5 a1).bind λv6=>
 some (v5,v6,0)
def a3K(a0:hold_Heap)(a1:List o0):Option (hold_Heap × (List Int)):=
 jn (λ((j11,j12):hold_Heap × (List Int))=>
  some (j11,j12)) (λκ10=>
  (lp (S:=Int × hold_Heap × (List Int)) (E:=(hold_Heap × (List Int))) (λ((s15,s16,s17):Int × hold_Heap × (List Int))=>
   if (decide (s15<(a1.length:Int))) then
    (ix a1 s15).bind λv20=>
    (a1u s16 v20).bind λv21=>
    (app 8 s17 [v21.2.1]).bind λv22=>
    some (.inl (s7 (s15+1),v21.1,v22))
   else
   some (.inr (s16,s17))) (0,a0,[])).bind λe14=>
  κ10 e14)
def a7v(a0:Int):Option hold_Heap:=
 (b2Q 4 5 8).bind λv1=>
 (a3K v1 [(⟨1,0,1,a0⟩:o0),(⟨1,1,1,(-1)⟩:o0),(⟨5,0,0,1⟩:o0),(⟨5,1,0,0⟩:o0),(⟨6,0,0,1⟩:o0),(⟨3,0,0,0⟩:o0),(⟨3,1,0,0⟩:o0)]).bind λv2=>
 some v2.1
def a5L(a0:store_Store):Option store_Store:=
 some a0
def a4T(a0:store_Store)(a1:Int):Option (List Int):=
 (r5 a0 a1).bind λv1=>
 (a2Y v1.1.Fields).bind λv2=>
 some v2
def b2g(a0:store_Store)(a1:Int):Option Int:=
 jn (λ(j31:Int)=>
  some j31) (λκ30=>
  (a5L a0).bind λv32=>
  (C8 v32).bind λv33=>
  (lp (S:=Int × Int) (E:=Int) (λ((s35,s36):Int × Int)=>
   if (decide (s35<(v33.length:Int))) then
    jn (λ(j50:Int)=>
     some (.inl (s7 (s35+1),j50))) (λκ49=>
     (ix v33 s35).bind λv51=>
     (a4T v32 v51).bind λv52=>
     (lp (S:=Int × Int) (E:=Int) (λ((s54,s55):Int × Int)=>
      if (decide (s54<(v52.length:Int))) then
       (ix v52 s54).bind λv58=>
       jn (λ(j60:Int)=>
        some (.inl (s7 (s54+1),j60))) (λκ59=>
        if (v58==a1) then
         κ59 (s7 (s55+1))
        else
        κ59 s55)
      else
      some (.inr s55)) (0,s36)).bind λe53=>
     κ49 e53)
   else
   some (.inr s36)) (0,0)).bind λe34=>
  κ30 e34)
def a0t(a0:List hash_Place):Option (List hash_Place):=
 some a0
def a4s(a0:List hash_Place):Option (List Int):=
 jn (λ(j13:List Int)=>
  some j13) (λκ12=>
  (lp (S:=Int × (List Int)) (E:=(List Int)) (λ((s15,s16):Int × (List Int))=>
   if (decide (s15<(a0.length:Int))) then
    jn (λ(j22:List Int)=>
     some (.inl (s7 (s15+1),j22))) (λκ21=>
     (ix a0 s15).bind λv23=>
     if (v23.State==1) then
      (app 8 s16 [v23.Key]).bind λv24=>
      κ21 v24
     else
     κ21 s16)
   else
   some (.inr s16)) (0,[])).bind λe14=>
  κ12 e14)
def a1M(a0:j5)(a1:Int):Option Bool:=
 some ((a1 != 0)&&(a0.Val==a1))
def y7(a0:List hash_Place)(a1:Int):Option (List j5):=
 jn (λ(j16:List j5)=>
  some j16) (λκ15=>
  (a4s a0).bind λv17=>
  (lp (S:=Int × (List j5)) (E:=(List j5)) (λ((s19,s20):Int × (List j5))=>
   if (decide (s19<(v17.length:Int))) then
    (ix v17 s19).bind λv23=>
    (U5 a0 v23).bind λv24=>
    jn (λ(j28:List j5)=>
     some (.inl (s7 (s19+1),j28))) (λκ27=>
     (a1M (⟨v23,v24.1⟩:j5) a1).bind λv29=>
     if v29 then
      (app 16 s20 [(⟨v23,v24.1⟩:j5)]).bind λv30=>
      κ27 v30
     else
     κ27 s20)
   else
   some (.inr s20)) (0,[])).bind λe18=>
  κ15 e18)
def a3E(a0:List hash_Place)(a1:Int):Option Int:=
 (a0t a0).bind λv1=>
 (y7 v1 a1).bind λv2=>
 some (v2.length:Int)
def a3Z(a0:store_Store)(a1:List hash_Place)(a2:Int):Option Int:=
 (b2g a0 a2).bind λv1=>
 (a3E a1 a2).bind λv2=>
 some (s7 (v1+v2))
def a3w(a0:store_Store)(a1:List hash_Place)(a2:Int):Option Int:=
 (r5 a0 a2).bind λv1=>
 if (v1.2 != 0) then
  some 0
 else
 (a3Z a0 a1 a2).bind λv2=>
 some (s7 (v1.1.Strong-v2))
def a1X(a0:Int):Option Bool:=
 (C9 a0).bind λv1=>
 some v1
def a5W(a0:Int)(a1:store_Obj)(a2:store_Store)(a3:List hash_Place):Option Bool:=
 (a3w a2 a3 a0).bind λv1=>
 (l4 ((decide (v1 > 0))==false) false (a1X a1.Strong)).bind λv2=>
 some ((decide (v1 > 0))||v2)
def a5V(a0:store_Store)(a1:List hash_Place):Option (List Int):=
 jn (λ(j36:List Int)=>
  some j36) (λκ35=>
  jn (λ(j54:List Int)=>
   κ35 j54) (λκ53=>
   (C8 a0).bind λv55=>
   (lp (S:=Int × (List Int)) (E:=(List Int)) (λ((s57,s58):Int × (List Int))=>
    if (decide (s57<(v55.length:Int))) then
     jn (λ(j66:List Int)=>
      some (.inl (s7 (s57+1),j66))) (λκ65=>
      (ix v55 s57).bind λv67=>
      (r5 a0 v67).bind λv68=>
      (a5W v67 v68.1 a0 a1).bind λv69=>
      if v69 then
       (app 8 s58 [v67]).bind λv70=>
       κ65 v70
      else
      κ65 s58)
    else
    some (.inr s58)) (0,[])).bind λe56=>
   κ53 e56))
def a1T(a0:Int):Option g5:=
 some (⟨[],a0⟩:g5)
def X0(a0:store_Store)(a1:Int):Option Bool:=
 (r5 a0 a1).bind λv1=>
 some (v1.2==0)
def I1(a0:g5):Option Int:=
 some (a0.L.length:Int)
def L0(a0:List Int)(a1:Int)(a2:Int):Option (List Int):=
 (cut a0 a1 a2).bind λv1=>
 some v1
def K9(a0:g5)(a1:Int):Option (g5 × Int):=
 (I1 a0).bind λv1=>
 if (decide (v1≥a0.Cap)) then
  some (a0,4)
 else
 (L0 a0.L 0 v1).bind λv2=>
 (app 8 v2 [a1]).bind λv3=>
 some ((⟨v3,a0.Cap⟩:g5),0)
def a2q(a0:g5)(a1:Int):Option (g5 × (List Int)):=
 (I1 a0).bind λv1=>
 (L0 a0.L 0 (if (if v1<a1 then v1 else a1) > 0 then (if v1<a1 then v1 else a1) else 0)).bind λv2=>
 (L0 a0.L (if (if v1<a1 then v1 else a1) > 0 then (if v1<a1 then v1 else a1) else 0) v1).bind λv3=>
 some ((⟨v3,a0.Cap⟩:g5),v2)
def Z2(a0:g5):Option (g5 × Int × Int):=
 (a2q a0 1).bind λv1=>
 if ((v1.2.length:Int)==0) then
  some (a0,0,10)
 else
 (ix v1.2 0).bind λv2=>
 some (v1.1,v2,0)
def a00(a0:store_Store)(a1:List Int):Option (List (Int × Bool)):=
 (C8 a0).bind λv1=>
 (a1T (v1.length:Int)).bind λv2=>
 jn (λ((j20,j21):g5 × (List (Int × Bool)))=>
  jn (λ(j68:List (Int × Bool))=>
   some j68) (λκ67=>
   (lp (S:=g5 × (List (Int × Bool))) (E:=(List (Int × Bool))) (λ((s70,s71):g5 × (List (Int × Bool)))=>
    (I1 s70).bind λv74=>
    if (decide (v74 > 0)) then
     (Z2 s70).bind λv75=>
     (a4T a0 v75.2.1).bind λv76=>
     jn (λ((j94,j95):g5 × (List (Int × Bool)))=>
      some (.inl (j94,j95))) (λκ93=>
      (lp (S:=Int × g5 × (List (Int × Bool))) (E:=(g5 × (List (Int × Bool)))) (λ((s98,s99,s100):Int × g5 × (List (Int × Bool)))=>
       if (decide (s98<(v76.length:Int))) then
        jn (λ((j107,j108):g5 × (List (Int × Bool)))=>
         some (.inl (s7 (s98+1),j107,j108))) (λκ106=>
         (ix v76 s98).bind λv110=>
         (X0 a0 v110).bind λv111=>
         if (v111==true) then
          if (!((w9 s100 v110).getD (false:Bool))) then
           (K9 s99 v110).bind λv112=>
           κ106 (v112.1,(m8 s100 v110 true))
          else
          κ106 (s99,s100)
         else
         κ106 (s99,s100))
       else
       some (.inr (s99,s100))) (0,v75.1,s71)).bind λe97=>
      κ93 e97)
    else
    some (.inr s71)) (j20,j21)).bind λe69=>
   κ67 e69)) (λκ19=>
  (lp (S:=Int × g5 × (List (Int × Bool))) (E:=(g5 × (List (Int × Bool)))) (λ((a4X,s115,s116):Int × g5 × (List (Int × Bool)))=>
   if (decide (a4X<(a1.length:Int))) then
    jn (λ((j123,j124):g5 × (List (Int × Bool)))=>
     some (.inl (s7 (a4X+1),j123,j124))) (λκ122=>
     (ix a1 a4X).bind λv126=>
     (X0 a0 v126).bind λv127=>
     if (v127==true) then
      if (!((w9 s116 v126).getD (false:Bool))) then
       (K9 s115 v126).bind λv128=>
       κ122 (v128.1,(m8 s116 v126 true))
      else
      κ122 (s115,s116)
     else
     κ122 (s115,s116))
   else
   some (.inr (s115,s116))) (0,v2,[])).bind λe113=>
  κ19 e113)
def a2I(a0:Int)(a1:List (Int × Bool)):Option Bool:=
 some ((w9 a1 a0).getD (false:Bool))
def N9(a0:store_Store)(a1:List (Int × Bool)):Option (List Int):=
 jn (λ(j16:List Int)=>
  some j16) (λκ15=>
  (C8 a0).bind λv17=>
  (lp (S:=Int × (List Int)) (E:=(List Int)) (λ((s19,s20):Int × (List Int))=>
   if (decide (s19<(v17.length:Int))) then
    jn (λ(j27:List Int)=>
     some (.inl (s7 (s19+1),j27))) (λκ26=>
     (ix v17 s19).bind λv28=>
     (a2I v28 a1).bind λv29=>
     if v29 then
      (app 8 s20 [v28]).bind λv30=>
      κ26 v30
     else
     κ26 s20)
   else
   some (.inr s20)) (0,[])).bind λe18=>
  κ15 e18)
def a3q(a0:store_Store)(a1:List Int):Option (List Int):=
 (a00 a0 a1).bind λv1=>
 (N9 a0 v1).bind λv2=>
 some v2
def a1N(a0:j5):Option Bool:=
 some true
def y8(a0:List hash_Place):Option (List j5):=
 jn (λ(j16:List j5)=>
  some j16) (λκ15=>
  (a4s a0).bind λv17=>
  (lp (S:=Int × (List j5)) (E:=(List j5)) (λ((s19,s20):Int × (List j5))=>
   if (decide (s19<(v17.length:Int))) then
    (ix v17 s19).bind λv23=>
    (U5 a0 v23).bind λv24=>
    jn (λ(j28:List j5)=>
     some (.inl (s7 (s19+1),j28))) (λκ27=>
     (a1N (⟨v23,v24.1⟩:j5)).bind λv29=>
     if v29 then
      (app 16 s20 [(⟨v23,v24.1⟩:j5)]).bind λv30=>
      κ27 v30
     else
     κ27 s20)
   else
   some (.inr s20)) (0,[])).bind λe18=>
  κ15 e18)
def a1Z(a0:List hash_Place):Option (List j5):=
 (a0t a0).bind λv1=>
 (y8 v1).bind λv2=>
 some v2
def a21(a0:Int)(a1:store_Store):Option Bool:=
 (r5 a1 a0).bind λv1=>
 some (v1.2==0)
def a9p(a0:store_Store)(a1:List hash_Place)(a2:List Int):Option (List Int):=
 jn (λ(j20:List Int)=>
  some j20) (λκ19=>
  (a1Z a1).bind λv21=>
  (lp (S:=Int × (List Int)) (E:=(List Int)) (λ((s23,Y4):Int × (List Int))=>
   if (decide (s23<(v21.length:Int))) then
    jn (λ(j33:List Int)=>
     some (.inl (s7 (s23+1),j33))) (λκ32=>
     (ix v21 s23).bind λv34=>
     (D3 a2 v34.Key).bind λv35=>
     (l4 (v35==true) false (a21 v34.Key a0)).bind λv36=>
     (l4 ((v35&&v36)==true) false (a21 v34.Val a0)).bind λv37=>
     if ((v35&&v36)&&v37) then
      (app 8 Y4 [v34.Val]).bind λv38=>
      κ32 v38
     else
     κ32 Y4)
   else
   some (.inr Y4)) (0,[])).bind λe22=>
  κ19 e22)
def a7B(a0:store_Store)(a1:List hash_Place)(a2:List Int):Option ((List Int) × Int):=
 (a3q a0 a2).bind λv1=>
 (lp (S:=(List Int) × Int) (E:=((List Int) × Int)) (λ((s3,s4):(List Int) × Int)=>
  (a9p a0 a1 s3).bind λv7=>
  jn (λ(_:Unit)=>
   some (.inr (s3,s4))) (λκ15=>
   (lp (S:=Int) (E:=((List Int) × Int) ⊕ Unit) (λ(s18:Int)=>
    if (decide (s18<(v7.length:Int))) then
     (ix v7 s18).bind λv20=>
     (D3 s3 v20).bind λv21=>
     if (!v21) then
      (app 8 v7 s3).bind λv22=>
      (a3q a0 v22).bind λv23=>
      some (.inr (.inl (v23,s7 (s4+1))))
     else
     some (.inl (s7 (s18+1)))
    else
    some (.inr (.inr ()))) 0).bind λe17=>
   match e17 with
   | .inl w=>some (.inl w)
   | .inr w=>κ15 w)) (v1,0)).bind λe2=>
 some e2
def a9o(a0:store_Store)(a1:List hash_Place)(a2:List Int):Option (List Int):=
 (a7B a0 a1 a2).bind λv1=>
 some v1.1
def a2J(a0:Int)(a1:List (Int × Bool)):Option Bool:=
 some (!((w9 a1 a0).getD (false:Bool)))
def O0(a0:store_Store)(a1:List (Int × Bool)):Option (List Int):=
 jn (λ(j16:List Int)=>
  some j16) (λκ15=>
  (C8 a0).bind λv17=>
  (lp (S:=Int × (List Int)) (E:=(List Int)) (λ((s19,s20):Int × (List Int))=>
   if (decide (s19<(v17.length:Int))) then
    jn (λ(j27:List Int)=>
     some (.inl (s7 (s19+1),j27))) (λκ26=>
     (ix v17 s19).bind λv28=>
     (a2J v28 a1).bind λv29=>
     if v29 then
      (app 8 s20 [v28]).bind λv30=>
      κ26 v30
     else
     κ26 s20)
   else
   some (.inr s20)) (0,[])).bind λe18=>
  κ15 e18)
def a5J(a0:store_Store)(a1:List Int):Option (List Int):=
 (a00 a0 a1).bind λv1=>
 (O0 a0 v1).bind λv2=>
 some v2
def a6D(a0:store_Store)(a1:List hash_Place)(a2:List Int):Option (List Int):=
 (a9o a0 a1 a2).bind λv1=>
 (a5J a0 v1).bind λv2=>
 some v2
def Z6(a0:store_Store)(a1:List hash_Place):Option (List Int):=
 (a5V a0 a1).bind λv1=>
 (a6D a0 a1 v1).bind λv2=>
 some v2
def D5(a0:hold_Heap):Option (List Int):=
 (Z6 a0.S a0.T).bind λv1=>
 some v1
def a2j(a0:Int)(a1:hold_Heap):Option Bool:=
 (r5 a1.S a0).bind λv1=>
 some ((decide (v1.1.Prog≥0))&&(!v1.1.Started))
def E8(a0:List Int)(a1:hold_Heap):Option (List Int):=
 jn (λ(j15:List Int)=>
  some j15) (λκ14=>
  (lp (S:=Int × (List Int)) (E:=(List Int)) (λ((s17,s18):Int × (List Int))=>
   if (decide (s17<(a0.length:Int))) then
    jn (λ(j25:List Int)=>
     some (.inl (s7 (s17+1),j25))) (λκ24=>
     (ix a0 s17).bind λv26=>
     (a2j v26 a1).bind λv27=>
     if v27 then
      (app 8 s18 [v26]).bind λv28=>
      κ24 v28
     else
     κ24 s18)
   else
   some (.inr s18)) (0,[])).bind λe16=>
  κ14 e16)
def K3(a0:hold_Heap):Option (List Int):=
 (D5 a0).bind λv1=>
 (E8 v1 a0).bind λv2=>
 some v2
def A5(a0:hold_Heap):Option (hold_Heap × Int × Int):=
 (K3 a0).bind λv1=>
 jn (λ(j10:hold_Heap)=>
  if (decide ((v1.length:Int) > 0)) then
   some (j10,(v1.length:Int),0)
  else
  (D5 j10).bind λv11=>
  (V6 j10 v11).bind λv12=>
  (Z4 v12).bind λv13=>
  (C8 j10.S).bind λv14=>
  (C8 v13.S).bind λv15=>
  some (v13,0,s7 ((v14.length:Int)-(v15.length:Int)))) (λκ9=>
  (lp (S:=Int × hold_Heap) (E:=hold_Heap) (λ((s17,s18):Int × hold_Heap)=>
   if (decide (s17<(v1.length:Int))) then
    (ix v1 s17).bind λv21=>
    (O1 s18 v21).bind λv22=>
    some (.inl (s7 (s17+1),v22))
   else
   some (.inr s18)) (0,a0)).bind λe16=>
  κ9 e16)
def N5(a0:hold_Heap):Option Bool:=
 (D5 a0).bind λv1=>
 some ((v1.length:Int)==0)
def a3X:Option (List A7):=
 some [(⟨(some 338)⟩:A7),(⟨(some 339)⟩:A7),(⟨(some 340)⟩:A7),(⟨(some 341)⟩:A7)]
def R4(a0:store_Store)(a1:slab_Cell_store_Obj):Option Bool:=
 some ((decide (a1.State≥0))&&(decide (a1.State≤3)))
def J0(a0:store_Store)(a1:slab_Cell_store_Obj):Option Bool:=
 some ((decide (a1.Gen≥0))&&(decide (a1.Gen≤a0.S.Last)))
def G2(a0:slab_Cell_store_Obj):Option Bool:=
 some ((a0.State==1)||(a0.State==2))
def P8(a0:store_Store)(a1:slab_Cell_store_Obj):Option Bool:=
 (G2 a1).bind λv1=>
 (l4 (((!v1)==false)&&(((((decide (a1.Val.Serial≥1))&&(decide (a1.Val.Serial≤a0.Serial)))&&(decide (a1.Val.Strong≥0)))&&(decide (a1.Val.Weak≥0)))==true)) false (N2 a1.Val.Prog)).bind λv2=>
 some ((!v1)||((((((decide (a1.Val.Serial≥1))&&(decide (a1.Val.Serial≤a0.Serial)))&&(decide (a1.Val.Strong≥0)))&&(decide (a1.Val.Weak≥0)))&&v2)&&(decide ((a1.Val.Fields.length:Int)≤4))))
def J9(a0:store_Store)(a1:slab_Cell_store_Obj):Option Bool:=
 (G2 a1).bind λv1=>
 some (v1||((((a1.Val.Serial==0)&&((a1.Val.Strong==0)&&((a1.Val.Weak==0)&&((a1.Val.Prog==0)&&true))))&&(!a1.Val.Started))&&((a1.Val.Fields.length:Int)==0)))
def b18(f:Fv)(a0:store_Store)(a1:slab_Cell_store_Obj):Option Bool:=
 if f=some 338 then R4 a0 a1 else
 if f=some 339 then J0 a0 a1 else
 if f=some 340 then P8 a0 a1 else
 if f=some 341 then J9 a0 a1 else
 none
def O7(a0:store_Store):Option Bool:=
 jn (λ(_:Unit)=>
  some true) (λκ12=>
  (lp (S:=Int × (List (Int × Bool))) (E:=Bool ⊕ Unit) (λ((s15,s16):Int × (List (Int × Bool)))=>
   if (decide (s15<(a0.S.Cells.length:Int))) then
    jn (λ(j22:List (Int × Bool))=>
     some (.inl (s7 (s15+1),j22))) (λκ21=>
     (ix a0.S.Cells s15).bind λv23=>
     (G2 v23).bind λv24=>
     if (!v24) then
      κ21 s16
     else
     if ((w9 s16 v23.Val.Serial).getD (false:Bool)) then
      some (.inr (.inl false))
     else
     κ21 (m8 s16 v23.Val.Serial true))
   else
   some (.inr (.inr ()))) (0,[])).bind λe14=>
  match e14 with
  | .inl w=>some w
  | .inr w=>κ12 w)
def a2c(a0:store_Store):Option Bool:=
 if ((((decide ((a0.S.Cells.length:Int) > 24))||(decide (a0.S.Last<0)))||(decide (a0.S.Last > 9)))||(decide (a0.Serial<0))) then
  some false
 else
 jn (λ(_:Unit)=>
  (O7 a0).bind λv24=>
  some v24) (λκ22=>
  (lp (S:=Int) (E:=Bool ⊕ Unit) (λ(s26:Int)=>
   if (decide (s26<(a0.S.Cells.length:Int))) then
    jn (λ(_:Unit)=>
     some (.inl (s7 (s26+1)))) (λκ36=>
     (ix a0.S.Cells s26).bind λv38=>
     (a3X).bind λv39=>
     (lp (S:=Int) (E:=Bool ⊕ Unit) (λ(s41:Int)=>
      if (decide (s41<(v39.length:Int))) then
       (ix v39 s41).bind λv43=>
       (b18 v43.kept a0 v38).bind λv44=>
       if (!v44) then
        some (.inr (.inl false))
       else
       some (.inl (s7 (s41+1)))
      else
      some (.inr (.inr ()))) 0).bind λe40=>
     match e40 with
     | .inl w=>some (.inr (.inl w))
     | .inr w=>κ36 w)
   else
   some (.inr (.inr ()))) 0).bind λe25=>
  match e25 with
  | .inl w=>some w
  | .inr w=>κ22 w)
def a5l(a0:List hash_Place):Option Bool:=
 if ((decide ((a0.length:Int)<1))||(decide ((a0.length:Int) > 8))) then
  some false
 else
 jn (λ(_:Unit)=>
  some true) (λκ6=>
  (lp (S:=Int) (E:=Bool ⊕ Unit) (λ(s9:Int)=>
   if (decide (s9<(a0.length:Int))) then
    (ix a0 s9).bind λv11=>
    (l4 (((!(((v11.State==0)&&((v11.Key==0)&&((v11.Val==0)&&true)))||((v11.State==2)&&((v11.Key==0)&&((v11.Val==0)&&true)))))==true)&&((v11.State != 1)==false)) 0 (J2 a0 v11.Key)).bind λv12=>
    if ((!(((v11.State==0)&&((v11.Key==0)&&((v11.Val==0)&&true)))||((v11.State==2)&&((v11.Key==0)&&((v11.Val==0)&&true)))))&&((v11.State != 1)||(v12 != s9))) then
     some (.inr (.inl false))
    else
    some (.inl (s7 (s9+1)))
   else
   some (.inr (.inr ()))) 0).bind λe8=>
  match e8 with
  | .inl w=>some w
  | .inr w=>κ6 w)
def a0O(a0:hold_Heap):Option Bool:=
 (b0p).bind λv1=>
 (a2c a0.S).bind λv2=>
 (l4 (v2==true) false (a5l a0.T)).bind λv3=>
 some (((((v2&&v3)&&((a0.Roots.length:Int)==6))&&((a0.Cells.length:Int)==6))&&(a0.Q.Cap==v1.Cap))&&(decide ((a0.Q.L.length:Int)≤v1.Cap)))
def a1q(a0:Int)(a1:hold_Heap):Option Bool:=
 (F2 a1 a0).bind λv1=>
 some v1
def D9(a0:List Int)(a1:hold_Heap):Option Bool:=
 jn (λ(_:Unit)=>
  some true) (λκ6=>
  (lp (S:=Int) (E:=Bool ⊕ Unit) (λ(s9:Int)=>
   if (decide (s9<(a0.length:Int))) then
    (ix a0 s9).bind λv11=>
    (a1q v11 a1).bind λv12=>
    if (!v12) then
     some (.inr (.inl false))
    else
    some (.inl (s7 (s9+1)))
   else
   some (.inr (.inr ()))) 0).bind λe8=>
  match e8 with
  | .inl w=>some w
  | .inr w=>κ6 w)
def U9(a0:hold_Heap):Option Bool:=
 (I8 a0.Roots).bind λv1=>
 jn (λ(j12:List Int)=>
  (D9 j12 a0).bind λv13=>
  some v13) (λκ11=>
  (C8 a0.S).bind λv14=>
  (lp (S:=Int × (List Int)) (E:=(List Int)) (λ((s16,s17):Int × (List Int))=>
   if (decide (s16<(v14.length:Int))) then
    (ix v14 s16).bind λv20=>
    (r5 a0.S v20).bind λv21=>
    (app 8 s17 v21.1.Fields).bind λv22=>
    some (.inl (s7 (s16+1),v22))
   else
   some (.inr s17)) (0,v1)).bind λe15=>
  κ11 e15)
def a1r(a0:j5)(a1:hold_Heap):Option Bool:=
 (U8 a1 a0.Key).bind λv1=>
 (l4 (v1==true) false (U8 a1 a0.Val)).bind λv2=>
 some (v1&&v2)
def A8(a0:List j5)(a1:hold_Heap):Option Bool:=
 jn (λ(_:Unit)=>
  some true) (λκ6=>
  (lp (S:=Int) (E:=Bool ⊕ Unit) (λ(s9:Int)=>
   if (decide (s9<(a0.length:Int))) then
    (ix a0 s9).bind λv11=>
    (a1r v11 a1).bind λv12=>
    if (!v12) then
     some (.inr (.inl false))
    else
    some (.inl (s7 (s9+1)))
   else
   some (.inr (.inr ()))) 0).bind λe8=>
  match e8 with
  | .inl w=>some w
  | .inr w=>κ6 w)
def a0N(a0:hold_Heap):Option Bool:=
 (a1Z a0.T).bind λv1=>
 (A8 v1 a0).bind λv2=>
 some v2
def a0P(a0:hold_Heap)(a1:task_Task):Option Bool:=
 if (a1.Kind==1) then
  (r5 a0.S a1.At).bind λv1=>
  some ((v1.2==0)&&v1.1.Started)
 else
 if (a1.Kind==2) then
  (l4 (((decide (a1.At≥0))&&(decide (a1.At<(a0.Cells.length:Int))))==true) (⟨0,false,0⟩:weak_Cell) (ix a0.Cells a1.At)).bind λv2=>
  some (((decide (a1.At≥0))&&(decide (a1.At<(a0.Cells.length:Int))))&&(!v2.Intact))
 else
 some false
def a1Q(a0:hold_Heap):Option Bool:=
 jn (λ((j18,j19):Bool × (List (task_Task × Bool)))=>
  some j18) (λκ17=>
  jn (λ(j29:List (task_Task × Bool))=>
   κ17 (true,j29)) (λκ28=>
   (lp (S:=Int × (List (task_Task × Bool))) (E:=(Bool × (List (task_Task × Bool))) ⊕ (List (task_Task × Bool))) (λ((s31,s32):Int × (List (task_Task × Bool)))=>
    if (decide (s31<(a0.Q.L.length:Int))) then
     (ix a0.Q.L s31).bind λv35=>
     (l4 ((((!((w9 s32 (⟨v35.Kind,v35.At,0⟩:task_Task)).getD (false:Bool)))&&(decide (v35.Prog≥0)))&&(decide (v35.Prog<6)))==true) false (a0P a0 v35)).bind λv36=>
     if (!((((!((w9 s32 (⟨v35.Kind,v35.At,0⟩:task_Task)).getD (false:Bool)))&&(decide (v35.Prog≥0)))&&(decide (v35.Prog<6)))&&v36)) then
      some (.inr (.inl (false,(m8 s32 (⟨v35.Kind,v35.At,0⟩:task_Task) true))))
     else
     some (.inl (s7 (s31+1),(m8 s32 (⟨v35.Kind,v35.At,0⟩:task_Task) true)))
    else
    some (.inr (.inr s32))) (0,[])).bind λe30=>
   match e30 with
   | .inl w=>κ17 w
   | .inr w=>κ28 w))
def a2k(a0:weak_Cell)(a1:hold_Heap):Option Bool:=
 if ((decide (a0.Call<(-1)))||(decide (a0.Call≥6))) then
  some false
 else
 if a0.Intact then
  (U8 a1 a0.Target).bind λv1=>
  some v1
 else
 (p7 a1.S.S a0.Target).bind λv2=>
 some ((a0.Target==0)||(v2.2==0))
def B5(a0:List weak_Cell)(a1:hold_Heap):Option Bool:=
 jn (λ(_:Unit)=>
  some true) (λκ6=>
  (lp (S:=Int) (E:=Bool ⊕ Unit) (λ(s9:Int)=>
   if (decide (s9<(a0.length:Int))) then
    (ix a0 s9).bind λv11=>
    (a2k v11 a1).bind λv12=>
    if (!v12) then
     some (.inr (.inl false))
    else
    some (.inl (s7 (s9+1)))
   else
   some (.inr (.inr ()))) 0).bind λe8=>
  match e8 with
  | .inl w=>some w
  | .inr w=>κ6 w)
def a1O(a0:hold_Heap):Option Bool:=
 (B5 a0.Cells a0).bind λv1=>
 some v1
def a1W(a0:weak_Cell)(a1:Int):Option Bool:=
 some ((a1 != 0)&&(a0.Target==a1))
def L5(a0:List weak_Cell)(a1:Int):Option (List Int):=
 jn (λ(j15:List Int)=>
  some j15) (λκ14=>
  (lp (S:=Int × (List Int)) (E:=(List Int)) (λ((s17,s18):Int × (List Int))=>
   if (decide (s17<(a0.length:Int))) then
    jn (λ(j25:List Int)=>
     some (.inl (s7 (s17+1),j25))) (λκ24=>
     (ix a0 s17).bind λv26=>
     (a1W v26 a1).bind λv27=>
     if v27 then
      (app 8 s18 [s17]).bind λv28=>
      κ24 v28
     else
     κ24 s18)
   else
   some (.inr s18)) (0,[])).bind λe16=>
  κ14 e16)
def a2f(a0:List weak_Cell)(a1:Int):Option Int:=
 (L5 a0 a1).bind λv1=>
 some (v1.length:Int)
def a1P(a0:hold_Heap):Option Bool:=
 jn (λ(_:Unit)=>
  some true) (λκ12=>
  (lp (S:=Int) (E:=Bool ⊕ Unit) (λ(s15:Int)=>
   if (decide (s15<(a0.S.S.Cells.length:Int))) then
    jn (λ(_:Unit)=>
     some (.inl (s7 (s15+1)))) (λκ20=>
     (ix a0.S.S.Cells s15).bind λv22=>
     if ((v22.State != 1)&&(v22.State != 2)) then
      κ20 ()
     else
     (U4 s15 v22.Gen).bind λv23=>
     (a2f a0.Cells v23).bind λv24=>
     if (v22.Val.Weak != v24) then
      some (.inr (.inl false))
     else
     if ((v22.State==2)&&(((decide (v22.Val.Weak<1))||(decide ((v22.Val.Fields.length:Int) > 0)))||(v22.Val.Strong != 0))) then
      some (.inr (.inl false))
     else
     κ20 ())
   else
   some (.inr (.inr ()))) 0).bind λe14=>
  match e14 with
  | .inl w=>some w
  | .inr w=>κ12 w)
def W5(f:Fv)(a0:hold_Heap):Option Bool:=
 if f=some 122 then U9 a0 else
 if f=some 123 then a0N a0 else
 if f=some 124 then a1Q a0 else
 if f=some 125 then a1O a0 else
 if f=some 126 then a1P a0 else
 none
def a48(a0:queue_Queue_task_Task):Option (List Int):=
 jn (λ(j10:List Int)=>
  some j10) (λκ9=>
  (b0q a0 1).bind λv11=>
  (lp (S:=Int × (List Int)) (E:=(List Int)) (λ((s13,s14):Int × (List Int))=>
   if (decide (s13<(v11.1.L.length:Int))) then
    (ix v11.1.L s13).bind λv17=>
    if ((v17.Kind==v11.2)==true) then
     (app 8 s14 [v17.At]).bind λv18=>
     some (.inl (s7 (s13+1),v18))
    else
    some (.inl (s7 (s13+1),s14))
   else
   some (.inr s14)) (0,[])).bind λe12=>
  κ9 e12)
def a5p(a0:hold_Heap):Option (List Int):=
 jn (λ(j13:List Int)=>
  (a48 a0.Q).bind λv14=>
  (app 8 j13 v14).bind λv15=>
  some v15) (λκ12=>
  (lp (S:=Int × (List Int)) (E:=(List Int)) (λ((s17,s18):Int × (List Int))=>
   if (decide (s17<(a0.Roots.length:Int))) then
    jn (λ(j24:List Int)=>
     some (.inl (s7 (s17+1),j24))) (λκ23=>
     (ix a0.Roots s17).bind λv25=>
     if (v25 != 0) then
      (app 8 s18 [v25]).bind λv26=>
      κ23 v26
     else
     κ23 s18)
   else
   some (.inr s18)) (0,[])).bind λe16=>
  κ12 e16)
def a7W(a0:List Int)(a1:Int):Option Int:=
 jn (λ(j11:Int)=>
  some j11) (λκ10=>
  (a2Z a0).bind λv12=>
  (lp (S:=Int × Int) (E:=Int) (λ((s14,s15):Int × Int)=>
   if (decide (s14<(v12.length:Int))) then
    (ix v12 s14).bind λv18=>
    if ((v18 != 0)==true) then
     jn (λ(j20:Int)=>
      if ((v18 != 0)&&false) then
       some (.inr j20)
      else
      some (.inl (s7 (s14+1),j20))) (λκ19=>
      if (v18==a1) then
       κ19 (s7 (s15+1))
      else
      κ19 s15)
    else
    some (.inl (s7 (s14+1),s15))
   else
   some (.inr s15)) (0,0)).bind λe13=>
  κ10 e13)
def a5K(a0:List Int)(a1:Int):Option Int:=
 (a7W a0 a1).bind λv1=>
 some v1
def a2O(a0:Int)(a1:store_Obj)(a2:store_Store)(a3:List hash_Place)(a4:List Int):Option Bool:=
 (a1X a1.Strong).bind λv1=>
 (l4 ((!v1)==true) 0 (a3w a2 a3 a0)).bind λv2=>
 (l4 ((!v1)==true) 0 (a5K a4 a0)).bind λv3=>
 some ((!v1)&&(v2 != v3))
def a5U(a0:store_Store)(a1:List hash_Place)(a2:List Int):Option Bool:=
 jn (λ(j36:List Int)=>
  some ((j36.length:Int)==0)) (λκ35=>
  jn (λ(j54:List Int)=>
   κ35 j54) (λκ53=>
   (C8 a0).bind λv55=>
   (lp (S:=Int × (List Int)) (E:=(List Int)) (λ((s57,s58):Int × (List Int))=>
    if (decide (s57<(v55.length:Int))) then
     jn (λ(j66:List Int)=>
      some (.inl (s7 (s57+1),j66))) (λκ65=>
      (ix v55 s57).bind λv67=>
      (r5 a0 v67).bind λv68=>
      (a2O v67 v68.1 a0 a1 a2).bind λv69=>
      if v69 then
       (app 8 s58 [v67]).bind λv70=>
       κ65 v70
      else
      κ65 s58)
    else
    some (.inr s58)) (0,[])).bind λe56=>
   κ53 e56))
def a5q(a0:hold_Heap):Option Bool:=
 (a0O a0).bind λv1=>
 if (!v1) then
  some false
 else
 jn (λ(_:Unit)=>
  (a5p a0).bind λv10=>
  (a5U a0.S a0.T v10).bind λv11=>
  some v11) (λκ8=>
  (lp (S:=Int) (E:=Bool ⊕ Unit) (λ(s13:Int)=>
   if (decide (s13<([(some 122),(some 123),(some 124),(some 125),(some 126)].length:Int))) then
    (ix [(some 122),(some 123),(some 124),(some 125),(some 126)] s13).bind λv15=>
    (W5 v15 a0).bind λv16=>
    if (!v16) then
     some (.inr (.inl false))
    else
    some (.inl (s7 (s13+1)))
   else
   some (.inr (.inr ()))) 0).bind λe12=>
  match e12 with
  | .inl w=>some w
  | .inr w=>κ8 w)
def E3:Option Bool:=
 (a7v (-1)).bind λv1=>
 (A5 v1).bind λv2=>
 (a7v 2).bind λv3=>
 (A5 v3).bind λv4=>
 (A5 v4.1).bind λv5=>
 (D5 v1).bind λv6=>
 (l4 (((((v6.length:Int)==2)&&(v2.2.1==0))&&(v2.2.2==2))==true) false (N5 v2.1)).bind λv7=>
 (l4 (((((((v6.length:Int)==2)&&(v2.2.1==0))&&(v2.2.2==2))&&v7)&&((v2.1.Q.L.length:Int)==1))==true) [] (K3 v3)).bind λv8=>
 (l4 (((((((((((v6.length:Int)==2)&&(v2.2.1==0))&&(v2.2.2==2))&&v7)&&((v2.1.Q.L.length:Int)==1))&&((v8.length:Int)==1))&&(v4.2.1==1))&&(v4.2.2==0))&&((v4.1.Q.L.length:Int)==1))==true) false (N5 v4.1)).bind λv9=>
 (l4 ((((((((((((((v6.length:Int)==2)&&(v2.2.1==0))&&(v2.2.2==2))&&v7)&&((v2.1.Q.L.length:Int)==1))&&((v8.length:Int)==1))&&(v4.2.1==1))&&(v4.2.2==0))&&((v4.1.Q.L.length:Int)==1))&&v9)&&(v5.2.1==0))&&(v5.2.2==0))==true) false (a5q v5.1)).bind λv10=>
 some ((((((((((((((v6.length:Int)==2)&&(v2.2.1==0))&&(v2.2.2==2))&&v7)&&((v2.1.Q.L.length:Int)==1))&&((v8.length:Int)==1))&&(v4.2.1==1))&&(v4.2.2==0))&&((v4.1.Q.L.length:Int)==1))&&v9)&&(v5.2.1==0))&&(v5.2.2==0))&&v10)
def a98(a0:c9)(a1:List c7):Option (List Int):=
 (I5 a0).bind λv1=>
 jn (λ(j18:List Int)=>
  some j18) (λκ17=>
  (lp (S:=Int × (List Int)) (E:=(List Int)) (λ((s20,s21):Int × (List Int))=>
   if (decide (s20<(v1.length:Int))) then
    jn (λ(j29:List Int)=>
     some (.inl (s7 (s20+1),j29))) (λκ28=>
     (ix v1 s20).bind λv30=>
     (a68 a0 a1 v30).bind λv31=>
     (l4 ((decide (v31 > 0))==false) false (a4N a0 v30)).bind λv32=>
     if ((decide (v31 > 0))||v32) then
      (app 8 s21 [v30]).bind λv33=>
      κ28 v33
     else
     κ28 s21)
   else
   some (.inr s21)) (0,[])).bind λe19=>
  κ17 e19)
def a5D(a0:List Int)(a1:Int):Option Bool:=
 (H6 a0 a1).bind λv1=>
 some (decide (v1 > 0))
def a4K(a0:List Int)(a1:List Int)(a2:Bool):Option (List Int):=
 jn (λ(j15:List Int)=>
  some j15) (λκ14=>
  (lp (S:=Int × (List Int)) (E:=(List Int)) (λ((s17,s18):Int × (List Int))=>
   if (decide (s17<(a0.length:Int))) then
    jn (λ(j25:List Int)=>
     some (.inl (s7 (s17+1),j25))) (λκ24=>
     (ix a0 s17).bind λv26=>
     (a5D a1 v26).bind λv27=>
     if (v27==a2) then
      (app 8 s18 [v26]).bind λv28=>
      κ24 v28
     else
     κ24 s18)
   else
   some (.inr s18)) (0,[])).bind λe16=>
  κ14 e16)
def a4J(a0:c9)(a1:List Int):Option (List Int):=
 (I5 a0).bind λv1=>
 (a4K v1 a1 true).bind λv2=>
 jn (λ(j51:List Int)=>
  some j51) (λκ50=>
  (lp (S:=(List Int) × Int) (E:=(List Int)) (λ((s53,s54):(List Int) × Int)=>
   if (decide (s54<(v1.length:Int))) then
    jn (λ(j78:List Int)=>
     some (.inl (j78,s7 (s54+1)))) (λκ77=>
     (app 8 [] s53).bind λv79=>
     jn (λ(j89:List Int)=>
      (a4K v1 j89 true).bind λv90=>
      κ77 v90) (λκ88=>
      (lp (S:=Int × (List Int)) (E:=(List Int)) (λ((s92,s93):Int × (List Int))=>
       if (decide (s92<(s53.length:Int))) then
        (ix s53 s92).bind λv96=>
        (a90 a0 v96).bind λv97=>
        (app 8 s93 v97).bind λv98=>
        some (.inl (s7 (s92+1),v98))
       else
       some (.inr s93)) (0,v79)).bind λe91=>
      κ88 e91))
   else
   some (.inr s53)) (v2,0)).bind λe52=>
  κ50 e52)
def a4M(a0:c9)(a1:Int):Option Bool:=
 (E2 a0 a1).bind λv1=>
 some (v1.2==0)
def a67(a0:c9)(a1:List c7)(a2:List Int):Option (List Int):=
 (a2U a1).bind λv1=>
 jn (λ(j20:List Int)=>
  some j20) (λκ19=>
  (lp (S:=Int × (List Int)) (E:=(List Int)) (λ((s22,s23):Int × (List Int))=>
   if (decide (s22<(v1.length:Int))) then
    jn (λ(j32:List Int)=>
     some (.inl (s7 (s22+1),j32))) (λκ31=>
     (ix v1 s22).bind λv33=>
     (a4M a0 v33.Key).bind λv34=>
     (l4 (v34==true) false (a5D a2 v33.Key)).bind λv35=>
     (l4 ((v34&&v35)==true) false (a4M a0 v33.Val)).bind λv36=>
     if ((v34&&v35)&&v36) then
      (app 8 s23 [v33.Val]).bind λv37=>
      κ31 v37
     else
     κ31 s23)
   else
   some (.inr s23)) (0,[])).bind λe21=>
  κ19 e21)
def V1(a0:List Int)(a1:List Int):Option Bool:=
 if ((a0.length:Int) != (a1.length:Int)) then
  some false
 else
 jn (λ(_:Unit)=>
  some true) (λκ6=>
  (lp (S:=Int) (E:=Bool ⊕ Unit) (λ(s9:Int)=>
   if (decide (s9<(a0.length:Int))) then
    (ix a0 s9).bind λv11=>
    (ix a1 s9).bind λv12=>
    if (v11 != v12) then
     some (.inr (.inl false))
    else
    some (.inl (s7 (s9+1)))
   else
   some (.inr (.inr ()))) 0).bind λe8=>
  match e8 with
  | .inl w=>some w
  | .inr w=>κ6 w)
def a5H(a0:c9)(a1:List c7)(a2:List Int):Option ((List Int) × Int):=
 (a4J a0 a2).bind λv1=>
 jn (λ(j13:List Int)=>
  some (j13,30)) (λκ12=>
  (lp (S:=(List Int) × Int) (E:=((List Int) × Int) ⊕ (List Int)) (λ((s15,s16):(List Int) × Int)=>
   if (decide (s16<30)) then
    (app 8 [] s15).bind λv19=>
    (a67 a0 a1 s15).bind λv20=>
    (app 8 v19 v20).bind λv21=>
    (a4J a0 v21).bind λv22=>
    (V1 v22 s15).bind λv23=>
    if v23 then
     some (.inr (.inl (s15,s16)))
    else
    some (.inl (v22,s7 (s16+1)))
   else
   some (.inr (.inr s15))) (v1,0)).bind λe14=>
  match e14 with
  | .inl w=>some w
  | .inr w=>κ12 w)
def a4L(a0:c9)(a1:List c7)(a2:List Int):Option (List Int):=
 (a5H a0 a1 a2).bind λv1=>
 some v1.1
def a95(a0:c9)(a1:List c7)(a2:List Int):Option (List Int):=
 (a4L a0 a1 a2).bind λv1=>
 (I5 a0).bind λv2=>
 jn (λ(j17:List Int)=>
  some j17) (λκ16=>
  (lp (S:=Int × (List Int)) (E:=(List Int)) (λ((s19,s20):Int × (List Int))=>
   if (decide (s19<(v2.length:Int))) then
    jn (λ(j27:List Int)=>
     some (.inl (s7 (s19+1),j27))) (λκ26=>
     (ix v2 s19).bind λv28=>
     (a5D v1 v28).bind λv29=>
     if (!v29) then
      (app 8 s20 [v28]).bind λv30=>
      κ26 v30
     else
     κ26 s20)
   else
   some (.inr s20)) (0,[])).bind λe18=>
  κ16 e18)
def a18(a0:c9)(a1:List c7):Option (List Int):=
 (a98 a0 a1).bind λv1=>
 (a95 a0 a1 v1).bind λv2=>
 some v2
def M8(a0:c5):Option (List Int):=
 (a18 a0.S a0.T).bind λv1=>
 some v1
def a5I(a0:c5)(a1:Int):Option Bool:=
 (E2 a0.S a1).bind λv1=>
 (W8 a0 a1).bind λv2=>
 some ((v2&&(decide (v1.1.Prog≥0)))&&(!v1.1.Started))
def a2W(a0:c5):Option (List Int):=
 (M8 a0).bind λv1=>
 jn (λ(j16:List Int)=>
  some j16) (λκ15=>
  (lp (S:=Int × (List Int)) (E:=(List Int)) (λ((s18,s19):Int × (List Int))=>
   if (decide (s18<(v1.length:Int))) then
    jn (λ(j26:List Int)=>
     some (.inl (s7 (s18+1),j26))) (λκ25=>
     (ix v1 s18).bind λv27=>
     (a5I a0 v27).bind λv28=>
     if v28 then
      (app 8 s19 [v27]).bind λv29=>
      κ25 v29
     else
     κ25 s19)
   else
   some (.inr s19)) (0,[])).bind λe17=>
  κ15 e17)
def a3m(a0:c9)(a1:Int)(a2:z8):Option c9:=
 (app 80 [] a0.Cells).bind λv1=>
 (ix v1 a1).bind λv2=>
 some (⟨(v1.set (a1).toNat (⟨v2.State,v2.Gen,a2⟩:j6)),a0.Last,a0.Serial⟩:c9)
def a0c(a0:c9)(a1:Int)(a2:z8):Option (c9 × Int):=
 (L8 a0).bind λv1=>
 (L1 v1 a1).bind λv2=>
 if (v2.2 != 0) then
  some (a0,v2.2)
 else
 (a3m a0 v2.1 a2).bind λv3=>
 some (v3,0)
def a3T(a0:r7)(a1:m9):Option (r7 × Int):=
 if (decide ((a0.L.length:Int)≥a0.Cap)) then
  some (a0,4)
 else
 (app 24 [] a0.L).bind λv1=>
 (app 24 v1 [a1]).bind λv2=>
 some ((⟨v2,a0.Cap⟩:r7),0)
def a9U(a0:Int):Option Int:=
 (P6 a0).bind λv1=>
 if v1 then
  some 12
 else
 if (decide (a0<0)) then
  some 1
 else
 some (s7 (a0+1))
def a3o(a0:c5)(a1:Int)(a2:Int):Option c5:=
 (E2 a0.S a1).bind λv1=>
 if (v1.2 != 0) then
  some a0
 else
 (a0c a0.S a1 (⟨v1.1.Serial,a2,v1.1.Weak,v1.1.Prog,v1.1.Started,v1.1.Fields⟩:z8)).bind λv2=>
 some (⟨v2.1,a0.Roots,a0.Cells,a0.T,a0.Q⟩:c5)
def a3n(a0:c5)(a1:Int):Option c5:=
 (E2 a0.S a1).bind λv1=>
 (a9U v1.1.Strong).bind λv2=>
 (a3o a0 a1 v2).bind λv3=>
 some v3
def a1z(a0:c5)(a1:Int):Option c5:=
 (a5I a0 a1).bind λv1=>
 if (!v1) then
  some a0
 else
 (E2 a0.S a1).bind λv2=>
 (a0c a0.S a1 (⟨v2.1.Serial,v2.1.Strong,v2.1.Weak,v2.1.Prog,true,v2.1.Fields⟩:z8)).bind λv3=>
 (a3T a0.Q (⟨1,a1,v2.1.Prog⟩:m9)).bind λv4=>
 (a3n (⟨v3.1,a0.Roots,a0.Cells,a0.T,v4.1⟩:c5) a1).bind λv5=>
 some v5
def a7c(a0:c5)(a1:List Int):Option (List Int):=
 jn (λ(j17:List Int)=>
  some j17) (λκ16=>
  (lp (S:=Int × (List Int)) (E:=(List Int)) (λ((s19,s20):Int × (List Int))=>
   if (decide (s19<(a1.length:Int))) then
    jn (λ(j28:List Int)=>
     some (.inl (s7 (s19+1),j28))) (λκ27=>
     (ix a1 s19).bind λv29=>
     (W8 a0 v29).bind λv30=>
     (l4 (v30==true) false (a5D s20 v29)).bind λv31=>
     if (v30&&(!v31)) then
      (app 8 s20 [v29]).bind λv32=>
      κ27 v32
     else
     κ27 s20)
   else
   some (.inr s20)) (0,[])).bind λe18=>
  κ16 e18)
def a7J(a0:List k9)(a1:List Int):Option ((List k9) × (List Int)):=
 jn (λ((j18,j19):(List Int) × (List k9))=>
  some (j19,j18)) (λκ17=>
  (lp (S:=Int × (List k9) × (List Int)) (E:=((List Int) × (List k9))) (λ((s22,s23,Y4):Int × (List k9) × (List Int))=>
   if (decide (s22<(a0.length:Int))) then
    (ix a0 s22).bind λv27=>
    jn (λ((j31,j32):Bool × (List Int))=>
     (app 24 s23 [(⟨v27.Target,j31,v27.Call⟩:k9)]).bind λv34=>
     some (.inl (s7 (s22+1),v34,j32))) (λκ30=>
     (l4 (v27.Intact==true) 0 (H6 a1 v27.Target)).bind λv35=>
     if (v27.Intact&&(decide (v35 > 0))) then
      if (decide (v27.Call≥0)) then
       (app 8 Y4 [s22]).bind λv36=>
       κ30 (false,v36)
      else
      κ30 (false,Y4)
     else
     κ30 (v27.Intact,Y4))
   else
   some (.inr (Y4,s23))) (0,[],[])).bind λe21=>
  κ17 e21)
def a64(a0:List c7)(a1:Int)(a2:c7):Option (List c7):=
 (app 24 [] a0).bind λv1=>
 (ix v1 a1).bind λv2=>
 some (v1.set (a1).toNat a2)
def a60(a0:List c7)(a1:Int):Option ((List c7) × Int × Int):=
 (a0Z a0 a1).bind λv1=>
 if (decide (v1<0)) then
  some (a0,0,9)
 else
 (a64 a0 v1 (⟨2,0,0⟩:c7)).bind λv2=>
 (ix a0 v1).bind λv3=>
 some (v2,v3.Val,0)
def a17(a0:List c7)(a1:List Int):Option ((List c7) × (List Int)):=
 jn (λ((j18,j19):(List c7) × (List Int))=>
  some (j18,j19)) (λκ17=>
  (lp (S:=(List c7) × Int × (List Int)) (E:=((List c7) × (List Int))) (λ((s22,s23,Y4):(List c7) × Int × (List Int))=>
   if (decide (s23<(a1.length:Int))) then
    jn (λ((j31,j32):(List c7) × (List Int))=>
     some (.inl (j31,s7 (s23+1),j32))) (λκ30=>
     (ix a1 s23).bind λv34=>
     (a60 s22 v34).bind λv35=>
     if (v35.2.2==0) then
      (app 8 Y4 [v35.2.1]).bind λv36=>
      κ30 (v35.1,v36)
     else
     κ30 (s22,Y4))
   else
   some (.inr (s22,Y4))) (a0,0,[])).bind λe21=>
  κ17 e21)
def a0Y(a0:z7)(a1:Int)(a2:r8):Option z7:=
 (app 24 [] a0.Cells).bind λv1=>
 (ix v1 a1).bind λv2=>
 some (⟨(v1.set (a1).toNat a2),a0.Last⟩:z7)
def b3c(a0:z7)(a1:Int):Option (z7 × Int):=
 (a9T a0 a1).bind λv1=>
 if (v1.2 != 0) then
  some (a0,v1.2)
 else
 (L1 a0 a1).bind λv2=>
 (ix a0.Cells v2.1).bind λv3=>
 (a0Y a0 v2.1 (⟨2,v3.Gen,v3.Val⟩:r8)).bind λv4=>
 some (v4,0)
def a1x(a0:c9)(a1:z7):Option c9:=
 jn (λ(j10:List j6)=>
  some (⟨j10,a0.Last,a0.Serial⟩:c9)) (λκ9=>
  (lp (S:=Int × (List j6)) (E:=(List j6)) (λ((s12,s13):Int × (List j6))=>
   if (decide (s12<(a0.Cells.length:Int))) then
    (ix a1.Cells s12).bind λv16=>
    (ix a0.Cells s12).bind λv17=>
    (app 80 s13 [(⟨v16.State,v16.Gen,v17.Val⟩:j6)]).bind λv18=>
    some (.inl (s7 (s12+1),v18))
   else
   some (.inr s13)) (0,[])).bind λe11=>
  κ9 e11)
def a9X(a0:c9)(a1:Int):Option c9:=
 (L8 a0).bind λv1=>
 (b3c v1 a1).bind λv2=>
 (a1x a0 v2.1).bind λv3=>
 some v3
def b3b(a0:z7)(a1:Int):Option (z7 × Int):=
 (L1 a0 a1).bind λv1=>
 if (v1.2 != 0) then
  some (a0,v1.2)
 else
 (ix a0.Cells v1.1).bind λv2=>
 if (decide (v2.Gen≥a0.Last)) then
  (a0Y a0 v1.1 (⟨3,v2.Gen,0⟩:r8)).bind λv3=>
  some (v3,0)
 else
 (a0Y a0 v1.1 (⟨0,s7 (v2.Gen+1),0⟩:r8)).bind λv4=>
 some (v4,0)
def a9W(a0:c9)(a1:Int):Option c9:=
 (L8 a0).bind λv1=>
 (b3b v1 a1).bind λv2=>
 if (v2.2 != 0) then
  some a0
 else
 (a1x a0 v2.1).bind λv3=>
 (a6Y a1).bind λv4=>
 (a3m v3 v4 (⟨0,0,0,0,false,[]⟩:z8)).bind λv5=>
 some v5
def a4S(a0:c5)(a1:Int):Option c5:=
 (E2 a0.S a1).bind λv1=>
 (a0c a0.S a1 (⟨v1.1.Serial,0,v1.1.Weak,v1.1.Prog,v1.1.Started,[]⟩:z8)).bind λv2=>
 (a9X v2.1 a1).bind λv3=>
 if (v1.1.Weak==0) then
  (a9W v3 a1).bind λv4=>
  some (⟨v4,a0.Roots,a0.Cells,a0.T,a0.Q⟩:c5)
 else
 some (⟨v3,a0.Roots,a0.Cells,a0.T,a0.Q⟩:c5)
def b2e(a0:Int):Option (Int × Int):=
 (P6 a0).bind λv1=>
 if v1 then
  some (12,0)
 else
 if (decide (a0<1)) then
  some (0,11)
 else
 some (s7 (a0-1),0)
def V3(a0:c5)(a1:Int):Option c5:=
 (E2 a0.S a1).bind λv1=>
 (b2e v1.1.Strong).bind λv2=>
 if (v2.2 != 0) then
  some a0
 else
 (a3o a0 a1 v2.1).bind λv3=>
 some v3
def a4Q(a0:c5)(a1:List Int):Option c5:=
 (a7c a0 a1).bind λv1=>
 (a7J a0.Cells v1).bind λv2=>
 jn (λ(j12:r7)=>
  jn (λ(j23:List Int)=>
   (a17 a0.T v1).bind λv24=>
   (app 8 j23 v24.2).bind λv25=>
   jn (λ(j34:c5)=>
    jn (λ(j43:c5)=>
     some j43) (λκ42=>
     (lp (S:=Int × c5) (E:=c5) (λ((s45,s46):Int × c5)=>
      if (decide (s45<(v25.length:Int))) then
       (ix v25 s45).bind λv49=>
       (V3 s46 v49).bind λv50=>
       some (.inl (s7 (s45+1),v50))
      else
      some (.inr s46)) (0,j34)).bind λe44=>
     κ42 e44)) (λκ33=>
    (lp (S:=Int × c5) (E:=c5) (λ((s52,s53):Int × c5)=>
     if (decide (s52<(v1.length:Int))) then
      (ix v1 s52).bind λv56=>
      (a4S s53 v56).bind λv57=>
      some (.inl (s7 (s52+1),v57))
     else
     some (.inr s53)) (0,(⟨a0.S,a0.Roots,v2.1,v24.1,j12⟩:c5))).bind λe51=>
    κ33 e51)) (λκ22=>
   (lp (S:=Int × (List Int)) (E:=(List Int)) (λ((s59,s60):Int × (List Int))=>
    if (decide (s59<(v1.length:Int))) then
     (ix v1 s59).bind λv63=>
     (E2 a0.S v63).bind λv64=>
     (a1w v64.1.Fields).bind λv65=>
     (app 8 s60 v65).bind λv66=>
     some (.inl (s7 (s59+1),v66))
    else
    some (.inr s60)) (0,[])).bind λe58=>
   κ22 e58)) (λκ11=>
  (lp (S:=Int × r7) (E:=r7) (λ((s68,s69):Int × r7)=>
   if (decide (s68<(v2.2.length:Int))) then
    (ix v2.2 s68).bind λv72=>
    (ix v2.1 v72).bind λv73=>
    (a3T s69 (⟨2,v72,v73.Call⟩:m9)).bind λv74=>
    some (.inl (s7 (s68+1),v74.1))
   else
   some (.inr s69)) (0,a0.Q)).bind λe67=>
  κ11 e67)
def a3p(a0:c5):Option c5:=
 jn (λ(j21:c5)=>
  some j21) (λκ20=>
  (lp (S:=Int × c5) (E:=c5 ⊕ c5) (λ((s23,Y4):Int × c5)=>
   if (decide (s23<100)) then
    jn (λ(j34:c5)=>
     some (.inl (s7 (s23+1),j34))) (λκ33=>
     (a4R Y4).bind λv35=>
     if ((v35.length:Int)==0) then
      some (.inr (.inl Y4))
     else
     (ix v35 0).bind λv36=>
     (a5I Y4 v36).bind λv37=>
     if v37 then
      (a1z Y4 v36).bind λv38=>
      κ33 v38
     else
     (cut v35 0 1).bind λv39=>
     (a4Q Y4 v39).bind λv40=>
     κ33 v40)
   else
   some (.inr (.inr Y4))) (0,a0)).bind λe22=>
  match e22 with
  | .inl w=>some w
  | .inr w=>κ20 w)
def a0y(a0:c5):Option (c5 × Int × Int):=
 (a2W a0).bind λv1=>
 jn (λ(_:Unit)=>
  (M8 a0).bind λv20=>
  (a4Q a0 v20).bind λv21=>
  (a3p v21).bind λv22=>
  (I5 a0.S).bind λv23=>
  (I5 v22.S).bind λv24=>
  some (v22,0,s7 ((v23.length:Int)-(v24.length:Int)))) (λκ18=>
  if (decide ((v1.length:Int) > 0)) then
   jn (λ(j33:c5)=>
    some (j33,(v1.length:Int),0)) (λκ32=>
    (lp (S:=Int × c5) (E:=c5) (λ((s35,s36):Int × c5)=>
     if (decide (s35<(v1.length:Int))) then
      (ix v1 s35).bind λv39=>
      (a1z s36 v39).bind λv40=>
      some (.inl (s7 (s35+1),v40))
     else
     some (.inr s36)) (0,a0)).bind λe34=>
    κ32 e34)
  else
  κ18 ())
def a2X(a0:c5):Option Bool:=
 (M8 a0).bind λv1=>
 some ((v1.length:Int)==0)
def a4I(a0:z8)(a1:z8):Option Bool:=
 (l4 ((((((a0.Serial==a1.Serial)&&(a0.Strong==a1.Strong))&&(a0.Weak==a1.Weak))&&(a0.Prog==a1.Prog))&&(a0.Started==a1.Started))==true) false (V1 a0.Fields a1.Fields)).bind λv1=>
 some ((((((a0.Serial==a1.Serial)&&(a0.Strong==a1.Strong))&&(a0.Weak==a1.Weak))&&(a0.Prog==a1.Prog))&&(a0.Started==a1.Started))&&v1)
def a9Y(a0:c9)(a1:c9):Option Bool:=
 if (((a0.Last != a1.Last)||(a0.Serial != a1.Serial))||((a0.Cells.length:Int) != (a1.Cells.length:Int))) then
  some false
 else
 jn (λ(_:Unit)=>
  some true) (λκ7=>
  (lp (S:=Int) (E:=Bool ⊕ Unit) (λ(s10:Int)=>
   if (decide (s10<(a0.Cells.length:Int))) then
    (ix a0.Cells s10).bind λv12=>
    (ix a1.Cells s10).bind λv13=>
    (l4 (((v12.State != v13.State)||(v12.Gen != v13.Gen))==false) false (a4I v12.Val v13.Val)).bind λv14=>
    if (((v12.State != v13.State)||(v12.Gen != v13.Gen))||(!v14)) then
     some (.inr (.inl false))
    else
    some (.inl (s7 (s10+1)))
   else
   some (.inr (.inr ()))) 0).bind λe9=>
  match e9 with
  | .inl w=>some w
  | .inr w=>κ7 w)
def a92(a0:List k9)(a1:List k9):Option Bool:=
 if ((a0.length:Int) != (a1.length:Int)) then
  some false
 else
 jn (λ(_:Unit)=>
  some true) (λκ6=>
  (lp (S:=Int) (E:=Bool ⊕ Unit) (λ(s9:Int)=>
   if (decide (s9<(a0.length:Int))) then
    (ix a0 s9).bind λv11=>
    (ix a1 s9).bind λv12=>
    if (!((v11.Target==v12.Target)&&((v11.Intact==v12.Intact)&&((v11.Call==v12.Call)&&true)))) then
     some (.inr (.inl false))
    else
    some (.inl (s7 (s9+1)))
   else
   some (.inr (.inr ()))) 0).bind λe8=>
  match e8 with
  | .inl w=>some w
  | .inr w=>κ6 w)
def a94(a0:List c7)(a1:List c7):Option Bool:=
 if ((a0.length:Int) != (a1.length:Int)) then
  some false
 else
 jn (λ(_:Unit)=>
  some true) (λκ6=>
  (lp (S:=Int) (E:=Bool ⊕ Unit) (λ(s9:Int)=>
   if (decide (s9<(a0.length:Int))) then
    (ix a0 s9).bind λv11=>
    (ix a1 s9).bind λv12=>
    if (!((v11.State==v12.State)&&((v11.Key==v12.Key)&&((v11.Val==v12.Val)&&true)))) then
     some (.inr (.inl false))
    else
    some (.inl (s7 (s9+1)))
   else
   some (.inr (.inr ()))) 0).bind λe8=>
  match e8 with
  | .inl w=>some w
  | .inr w=>κ6 w)
def b0a(a0:r7)(a1:r7):Option Bool:=
 if ((a0.Cap != a1.Cap)||((a0.L.length:Int) != (a1.L.length:Int))) then
  some false
 else
 jn (λ(_:Unit)=>
  some true) (λκ6=>
  (lp (S:=Int) (E:=Bool ⊕ Unit) (λ(s9:Int)=>
   if (decide (s9<(a0.L.length:Int))) then
    (ix a0.L s9).bind λv11=>
    (ix a1.L s9).bind λv12=>
    if (!((v11.Kind==v12.Kind)&&((v11.At==v12.At)&&((v11.Prog==v12.Prog)&&true)))) then
     some (.inr (.inl false))
    else
    some (.inl (s7 (s9+1)))
   else
   some (.inr (.inr ()))) 0).bind λe8=>
  match e8 with
  | .inl w=>some w
  | .inr w=>κ6 w)
def a7a(a0:c5)(a1:c5):Option Bool:=
 (a9Y a0.S a1.S).bind λv1=>
 (l4 (v1==true) false (V1 a0.Roots a1.Roots)).bind λv2=>
 (l4 ((v1&&v2)==true) false (a92 a0.Cells a1.Cells)).bind λv3=>
 (l4 (((v1&&v2)&&v3)==true) false (a94 a0.T a1.T)).bind λv4=>
 (l4 ((((v1&&v2)&&v3)&&v4)==true) false (b0a a0.Q a1.Q)).bind λv5=>
 some ((((v1&&v2)&&v3)&&v4)&&v5)
def a2t(a0:hold_Heap):Option Bool:=
 (a08 a0).bind λv1=>
 (l4 ((!v1)==false) false E3).bind λv2=>
 if ((!v1)||(!v2)) then
  (E3).bind λv3=>
  some v3
 else
 (L3 a0).bind λv4=>
 (A5 a0).bind λv5=>
 (a0y v4).bind λv6=>
 (a09 v5.1).bind λv7=>
 (l4 (v7==true) [] (D5 a0)).bind λv8=>
 (l4 (v7==true) [] (M8 v4)).bind λv9=>
 (l4 (v7==true) false (V1 v8 v9)).bind λv10=>
 (l4 ((v7&&v10)==true) [] (K3 a0)).bind λv11=>
 (l4 ((v7&&v10)==true) [] (a2W v4)).bind λv12=>
 (l4 ((v7&&v10)==true) false (V1 v11 v12)).bind λv13=>
 (l4 (((v7&&v10)&&v13)==true) false (N5 a0)).bind λv14=>
 (l4 (((v7&&v10)&&v13)==true) false (a2X v4)).bind λv15=>
 (l4 ((((v7&&v10)&&v13)&&(v14==v15))==true) ⟨⟨[],0,0⟩,[],[],[],⟨[],0⟩⟩ (L3 v5.1)).bind λv16=>
 (l4 ((((v7&&v10)&&v13)&&(v14==v15))==true) false (a7a v16 v6.1)).bind λv17=>
 some ((((((v7&&v10)&&v13)&&(v14==v15))&&v17)&&(v5.2.1==v6.2.1))&&(v5.2.2==v6.2.2))
def a1H(a0:hold_Heap):Option Bool:=
 (a08 a0).bind λv1=>
 (l4 ((!v1)==false) false E3).bind λv2=>
 if ((!v1)||(!v2)) then
  (E3).bind λv3=>
  some v3
 else
 (A5 a0).bind λv4=>
 (a09 v4.1).bind λv5=>
 (l4 ((!v5)==false) ⟨⟨[],0,0⟩,[],[],[],⟨[],0⟩⟩ (L3 v4.1)).bind λv6=>
 (l4 ((!v5)==false) false (a1y v6)).bind λv7=>
 (l4 (((!v5)||(!v7))==false) ⟨⟨[],0,0⟩,[],[],[],⟨[],0⟩⟩ (L3 v4.1)).bind λv8=>
 (l4 (((!v5)||(!v7))==false) false (a19 v8)).bind λv9=>
 if (((!v5)||(!v7))||(!v9)) then
  some false
 else
 if (decide (v4.2.1 > 0)) then
  some (v4.2.1==(s7 ((v4.1.Q.L.length:Int)-(a0.Q.L.length:Int))))
 else
 (A5 v4.1).bind λv10=>
 (L3 v4.1).bind λv11=>
 (a2X v11).bind λv12=>
 (l4 (v12==true) false (a09 v10.1)).bind λv13=>
 (l4 ((((v12&&v13)&&(v10.2.1==0))&&(v10.2.2==0))==true) ⟨⟨[],0,0⟩,[],[],[],⟨[],0⟩⟩ (L3 v10.1)).bind λv14=>
 (l4 ((((v12&&v13)&&(v10.2.1==0))&&(v10.2.2==0))==true) false (a7a v11 v14)).bind λv15=>
 some ((((v12&&v13)&&(v10.2.1==0))&&(v10.2.2==0))&&v15)
def a31(a0:hold_Heap):Option (List Int):=
 (L3 a0).bind λv1=>
 (a4P v1).bind λv2=>
 (app 8 [] v2).bind λv3=>
 (a2P a0.S).bind λv4=>
 (I5 v4).bind λv5=>
 jn (λ(j22:List Int)=>
  some j22) (λκ21=>
  (lp (S:=Int × (List Int)) (E:=(List Int)) (λ((Y4,s25):Int × (List Int))=>
   if (decide (Y4<(v5.length:Int))) then
    jn (λ(j33:List Int)=>
     some (.inl (s7 (Y4+1),j33))) (λκ32=>
     (ix v5 Y4).bind λv34=>
     (E2 v4 v34).bind λv35=>
     (P6 v35.1.Strong).bind λv36=>
     if v36 then
      (app 8 s25 [v34]).bind λv37=>
      κ32 v37
     else
     κ32 s25)
   else
   some (.inr s25)) (0,v3)).bind λe23=>
  κ21 e23)
def a1F(a0:hold_Heap):Option Bool:=
 (a08 a0).bind λv1=>
 (l4 ((!v1)==false) false E3).bind λv2=>
 if ((!v1)||(!v2)) then
  (E3).bind λv3=>
  some v3
 else
 (A5 a0).bind λv4=>
 (a2P a0.S).bind λv5=>
 (a73 a0.T).bind λv6=>
 (a31 a0).bind λv7=>
 (a4L v5 v6 v7).bind λv8=>
 (a09 v4.1).bind λv9=>
 if (!v9) then
  some false
 else
 (a2P v4.1.S).bind λv10=>
 (I5 v10).bind λv11=>
 jn (λ(_:Unit)=>
  (I5 v5).bind λv22=>
  some ((((decide (v4.2.1 > 0))&&(v4.2.2==0))&&((v11.length:Int)==(v22.length:Int)))||(((v4.2.1==0)&&((v11.length:Int)==(v8.length:Int)))&&(v4.2.2==(s7 ((v22.length:Int)-(v8.length:Int))))))) (λκ20=>
  (lp (S:=Int) (E:=Bool ⊕ Unit) (λ(Y4:Int)=>
   if (decide (Y4<(v8.length:Int))) then
    (ix v8 Y4).bind λv26=>
    (E2 v5 v26).bind λv27=>
    (E2 v10 v26).bind λv28=>
    (l4 (((v28.2 != 0)||(v27.1.Serial != v28.1.Serial))==false) false (V1 v27.1.Fields v28.1.Fields)).bind λv29=>
    (l4 ((((v28.2 != 0)||(v27.1.Serial != v28.1.Serial))||(!v29))==false) 0 (H6 v11 v26)).bind λv30=>
    if ((((v28.2 != 0)||(v27.1.Serial != v28.1.Serial))||(!v29))||(v30 != 1)) then
     some (.inr (.inl false))
    else
    some (.inl (s7 (Y4+1)))
   else
   some (.inr (.inr ()))) 0).bind λe23=>
  match e23 with
  | .inl w=>some w
  | .inr w=>κ20 w)
def a2u(a0:hold_Heap):Option Bool:=
 (a08 a0).bind λv1=>
 (l4 ((!v1)==false) false E3).bind λv2=>
 if ((!v1)||(!v2)) then
  (E3).bind λv3=>
  some v3
 else
 (A5 a0).bind λv4=>
 (a09 v4.1).bind λv5=>
 if ((!v5)||((v4.1.Cells.length:Int) != (a0.Cells.length:Int))) then
  some false
 else
 (a2P v4.1.S).bind λv6=>
 (I5 v6).bind λv7=>
 jn (λ(_:Unit)=>
  some true) (λκ14=>
  (lp (S:=Int) (E:=Bool ⊕ Unit) (λ(s17:Int)=>
   if (decide (s17<(a0.Cells.length:Int))) then
    (ix a0.Cells s17).bind λv19=>
    (ix v4.1.Cells s17).bind λv20=>
    (l4 (((v20.Target != v19.Target)==false)&&(v19.Intact==true)) 0 (H6 v7 v19.Target)).bind λv21=>
    if ((v20.Target != v19.Target)||(v20.Intact != (v19.Intact&&(decide (v21 > 0))))) then
     some (.inr (.inl false))
    else
    some (.inl (s7 (s17+1)))
   else
   some (.inr (.inr ()))) 0).bind λe16=>
  match e16 with
  | .inl w=>some w
  | .inr w=>κ14 w)
def a1G(a0:hold_Heap):Option Bool:=
 (a08 a0).bind λv1=>
 (l4 ((!v1)==false) false E3).bind λv2=>
 if ((!v1)||(!v2)) then
  (E3).bind λv3=>
  some v3
 else
 (K3 a0).bind λv4=>
 (A5 a0).bind λv5=>
 (l4 (((decide ((v4.length:Int) > 24))||(v5.2.1 != (v4.length:Int)))==false) false (a09 v5.1)).bind λv6=>
 if (((decide ((v4.length:Int) > 24))||(v5.2.1 != (v4.length:Int)))||(!v6)) then
  some false
 else
 (L3 v5.1).bind λv7=>
 (M8 v7).bind λv8=>
 (a2P v5.1.S).bind λv9=>
 (a73 v5.1.T).bind λv10=>
 (a4L v9 v10 v4).bind λv11=>
 jn (λ(_:Unit)=>
  jn (λ(_:Unit)=>
   some true) (λκ25=>
   (lp (S:=Int) (E:=Bool ⊕ Unit) (λ(s28:Int)=>
    if (decide (s28<(v4.length:Int))) then
     (ix v4 s28).bind λv30=>
     (E2 v9 v30).bind λv31=>
     (l4 (((v31.2 != 0)||(!v31.1.Started))==false) 0 (H6 v11 v30)).bind λv32=>
     if (((v31.2 != 0)||(!v31.1.Started))||(v32 != 1)) then
      some (.inr (.inl false))
     else
     some (.inl (s7 (s28+1)))
    else
    some (.inr (.inr ()))) 0).bind λp8=>
   match p8 with
   | .inl w=>some w
   | .inr w=>κ25 w)) (λκ17=>
  (lp (S:=Int) (E:=Bool ⊕ Unit) (λ(I6:Int)=>
   if (decide (I6<(v11.length:Int))) then
    (ix v11 I6).bind λv36=>
    (H6 v8 v36).bind λv37=>
    if (decide (v37 > 0)) then
     some (.inr (.inl false))
    else
    some (.inl (s7 (I6+1)))
   else
   some (.inr (.inr ()))) 0).bind λe33=>
  match e33 with
  | .inl w=>some w
  | .inr w=>κ17 w)
end
end Go.Sh
